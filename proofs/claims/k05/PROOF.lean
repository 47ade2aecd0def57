import PyProof.Rows.All
import Wide.All
import OpenK.AllK
import Wide.FinOn
import PyProof.EqAt
import PyProof.EqKinds
import PyProof.TupleCall
import KE.KExcSuper
import HandS.Base
import HandS.Call
import HandS.Exc
import HandS.List
import HandS.Words
import HandS.ExcIs
import HandS.ExcField
import HandS.ExcValue
import HandS.ExcOwn
import HandS.Ends
import HandS.EndBits
import HandS.WordsExc
import KE.KExcIs
import HandS.ForMost
import HandS.Wide
import PySem.Challenge.RW_tugline_k05_refusals_made
set_option Elab.async false
set_option linter.all false
set_option maxRecDepth 100000
set_option maxHeartbeats 4000000
namespace PySem
namespace TugX
open PySem.W PySem.Calls PyProof.Rows PySem.HandSPX
def iA (f : Str) (p1 p2 : Pos) : Arguments := { posonlyargs := [], args := [{ arg := "self", annotation := none, pos := p1 }, { arg := f, annotation := none, pos := p2 }], vararg := none, kwonlyargs := [], kw_defaults := [], kwarg := none, defaults := [] }
def iB (f m : Str) (j : Nat) (q0 q1 q2 q3 q4 q5 q6 q7 q8 q9 : Pos) : List Stmt :=
  [.Expr (.Call (.Attribute (.Call (.Name "super" q0) [] [] q1) "__init__" q2) [.Constant (.str m) j q3] [] q4) q5,
   .Assign [.Attribute (.Name "self" q6) f q7] (.Name f q8) q9]
def iS (f : Str) : Scope := { kind := .function, names := [(PySem.Str.ofString "self", .local), (f, .local), (PySem.Str.ofString "__class__", .free), (PySem.Str.ofString "super", .globalImplicit)], isGenerator := false, isCoroutine := false, more := [] }
/-- what is known of an own exception class: x its name, f its field, m its text, T the base that is caught -/
structure XTxt (P : Program) (K : Frag) (mg : Str → Option Value) (x f m qual : Str) (C fI cc cda : Addr) : Prop where
  gC : mg x = some (.ref C)
  cls : ∃ nm q N bs bm sn sub ab col dd k0 k1 k2 k3 k5, K.lookup C = some (excClassObj nm q C N bs bm true sn sub ab col dd k0 k1 k2 k3 k5 "ValueError.__new__") ∧ refsVE bm = true
  sa : findIn K (.ref C) "__setattr__" = some (some (.builtin "object.__setattr__"))
  ga : findIn K (.ref C) "__getattribute__" = some (some (.builtin "BaseException.__getattribute__"))
  gg : findIn K (.ref C) "__getattr__" = some none
  noN : findIn K (.ref C) f = some none
  iC : findIn K (.ref C) "__init__" = some (some (.ref fI))
  tC : typeIn K (.ref fI) = some (.type "function")
  kC : keepIn K (.ref C) = true
  exC : subIn K (.ref C) (.type "BaseException") = some true
  veC : subIn K (.ref C) (.type "ValueError") = some true
  tyC : typeIn K (.ref C) = some (.type "type")
  hdC : hasDictIn K C = true
  fn : ∃ (oc : Value) (od : Option Addr) (doc pm ct : Value) (an : Option Addr) (osl : Array (Option Value)) (j : Nat) (p1 p2 q0 q1 q2 q3 q4 q5 q6 q7 q8 q9 : Pos),
    K.lookup fI = some ⟨oc, od, .func (ksFn "__init__" qual (iA f p1 p2) (iB f m j q0 q1 q2 q3 q4 q5 q6 q7 q8 q9) (iS f) .none .none doc pm an (.ref cda) ct cc), osl⟩ ∧ codeIn K (.ref cda) qual = true ∧ (q2.endLine == q4.line) = true
  code : ∃ (c : Value) (dd : Option Addr) (vs : Array Value) (sl : Array (Option Value)) (file : Str) (tf : Tok), K.lookup cda = some ⟨c, dd, .fields vs, sl⟩ ∧ vs[2]? = some (.str file tf) ∧ ((P.main.file : Str) == file) = true
  cell : ∃ (c : Value) (dd : Option Addr) (sl : Array (Option Value)), K.lookup cc = some ⟨c, dd, .cell (some (.ref C)), sl⟩
  gS : mg "super" = none
  opq : nsIn K cStatics "thirdparty.any" = some none
  sup : ks_superIn K C C "__init__" = some (some (.builtin "ValueError.__init__"))
  top : (P.main.scope.names.lookup ("super" : Str)).isSome = false
  lkf : (iS f).names.lookup f = some .local
  lks : (iS f).names.lookup ("super" : Str) = some .globalImplicit
  lkc : (iS f).names.lookup ("__class__" : Str) = some .free
  nself : (f == ("self" : Str)) = false
  ndbg : (f == ("__debug__" : Str)) = false
  bnd : ∀ (doc pm ct cdv : Value) (an : Option Addr) (p1 p2 : Pos) (body : List Stmt) (sc : Scope) (u v : Value), bindArgs (ksFn "__init__" qual (iA f p1 p2) body sc .none .none doc pm an cdv ct cc) ⟨[u, v], []⟩ = pure ([("self", u), (f, v)] : List (Str × Value))
  bndk : ∀ (doc pm ct cdv : Value) (an : Option Addr) (p1 p2 : Pos) (body : List Stmt) (sc : Scope) (u v : Value), bindArgs (ksFn "__init__" qual (iA f p1 p2) body sc .none .none doc pm an cdv ct cc) ⟨[u], [(f, v)]⟩ = pure ([("self", u), (f, v)] : List (Str × Value))
/-- what __init__ leaves of a fresh exception at x -/
structure InitEnd (f : Str) (h h' : Heap) (x C dx t1 : Addr) (v : Value) : Prop where
  keep : ∀ b o, b ≠ x → h.get? b = some o → h'.get? b = some o
  obj : h'.get? x = some { cls := .ref C, dict := some dx, data := .fields #[.ref t1, .none, .none, .none, .bool false, .none] }
  dbig : h.objs.size ≤ dx
  dne : dx ≠ x
  ns : h'.Ns1 dx (fun y => if y = f then some v else none)
section
variable {prog : Program} {w : World} {A : Around} {E : Value → Shared → Prop} {R : Result → Shared → Prop} {s : Shared} {K : Frag} {mg mb : Str → Option Value} {C fI cc cda : Addr} {n f m qual : Str}
theorem x_init (T : XTxt prog K mg n f m qual C fI cc cda) {x t0 : Addr} {v : Value} {args : Args} (X : K.In s.heap) (hg : s.heap.Ns mainGlobals mg) (hb : s.heap.Ns builtinsNs mb) (hbv : ∀ x : Str, x ≠ "__name__" → mb x = bootBuiltins x) (hlim : s.heap.NoLimit)
    (hx : s.heap.get? x = some (excO C t0)) (hnx : K.lookup x = none) (hroom : A.depth < recursionLimit)
    (hbind : ∀ (doc pm ct : Value) (an : Option Addr) (p1 p2 : Pos) (body : List Stmt) (sc : Scope), BindsTo s (ksFn "__init__" qual (iA f p1 p2) body sc .none .none doc pm an (.ref cda) ct cc) args [("self", .ref x), (f, v)])
    (hq : ∀ h' tk dx t1, InitEnd f s.heap h' x C dx t1 v → R (.ok (.ret .none)) { s with heap := h', toks := tk }) :
    codeAny (model prog w) A (.call (.ref fI) args) R s := by
  obtain ⟨oc, od, doc, pm, ct, an, osl, j, p1, p2, q0, q1, q2, q3, q4, q5, q6, q7, q8, q9, ho, hcd, hln⟩ := T.fn
  obtain ⟨nm, q, N, bs, bm, sn, sub, ab, col, dd, k0, k1, k2, k3, k5, hC, hbm⟩ := T.cls
  obtain ⟨c1, dd1, vs, sl1, file, tf, hcode, hvs, hfile⟩ := T.code
  obtain ⟨c2, dd2, sl2, hcell⟩ := T.cell
  have hcl : clsIn K C = some { name := nm, bases := bs, mro := .ref C :: bm, ns := N, qualname := q, hasDict := true, slotNames := sn, subclasses := sub, abstract := ab, collection := col, hasDel := false } := by unfold clsIn; rw [hC] <;> rfl
  refine ks_codeAny_call_defAt (fd := ksFn "__init__" qual (iA f p1 p2) (iB f m j q0 q1 q2 q3 q4 q5 q6 q7 q8 q9) (iS f) .none .none doc pm an (.ref cda) ct cc) (body := iB f m j q0 q1 q2 q3 q4 q5 q6 q7 q8 q9) (binds := [("self", .ref x), (f, v)]) hroom (X _ _ ho) rfl hlim (codeRec_of X hcd) rfl (hbind _ _ _ _ _ _ _ _) ?_ ?_ (fun h₁ hns hk₁ => ?_) rfl rfl rfl
  · intro y hy
    have hy' : y ∈ [(PySem.Str.ofString "self", NameKind.local), (f, .local), (PySem.Str.ofString "__class__", .free), (PySem.Str.ofString "super", .globalImplicit)] := hy
    rcases List.mem_cons.mp hy' with rfl | hy'
    · exact (fun z => nomatch z)
    rcases List.mem_cons.mp hy' with rfl | hy'
    · exact (fun z => nomatch z)
    rcases List.mem_cons.mp hy' with rfl | hy'
    · exact (fun z => nomatch z)
    rcases List.mem_cons.mp hy' with rfl | hy'
    · exact (fun z => nomatch z)
    · cases hy'
  · intro y hy
    rcases List.mem_cons.mp hy with rfl | hy
    · rfl
    rcases List.mem_cons.mp hy with rfl | hy
    · exact T.lkf
    · cases hy
  have X₁ : K.In h₁ := X.keeps hk₁
  have hg₁ := hg.keeps hk₁
  have hb₁ := hb.keeps hk₁
  have hx₁ := hk₁ _ _ hx
  have hC₁ := X₁ _ _ hC
  have nxC : x ≠ C := fun z => by
    rw [z, hC₁] at hx₁
    cases hx₁
  have I₁ : InstAt h₁ x (excO C t0) C none := ⟨hx₁, rfl, rfl, trivial⟩
  show _root_.PySem.wpAt (model prog w) (A.deeper (ksEnv qual (iS f) s.heap.objs.size fI (.ref cda) cc)) (.func (iB f m j q0 q1 q2 q3 q4 q5 q6 q7 q8 q9) (ksEnv qual (iS f) s.heap.objs.size fI (.ref cda) cc)) (execs (iB f m j q0 q1 q2 q3 q4 q5 q6 q7 q8 q9) (ksEnv qual (iS f) s.heap.objs.size fI (.ref cda) cc)) _ _ _
  obtain ⟨env, henv⟩ : ∃ env, env = ksEnv qual (iS f) s.heap.objs.size fI (.ref cda) cc := ⟨_, rfl⟩
  have he : eval (.Call (.Attribute (.Call (.Name "super" q0) [] [] q1) "__init__" q2) [.Constant (.str m) j q3] [] q4) env = (do
      let ov ← attributeBase (.Call (.Name "super" q0) [] [] q1) "__init__" env (eval (.Call (.Name "super" q0) [] [] q1) env)
      standAt q2.atName
      let (f, first) ← holding [ov] (getMethod ov "__init__" (do return (← importBound (.Call (.Name "super" q0) [] [] q1) env).getD true))
      callWith q4 f first (backTo q4 (starEach [.Constant (.str m) j q3] env)) []) := by
    rw [arm_eval_Call]
    have hform : methodCallForm (([.Constant (.str m) j q3] : List Expr).length + ([] : List Keyword).length) (backTo q4 (starEach [.Constant (.str m) j q3] env)) (backToKw q4 (keywordEach [] env)) = true := by rfl
    have hpos : methodCallPos true (.Call (.Name "super" q0) [] [] q1) env q2 q4 = pure q4 := by unfold methodCallPos; simp [hln]
    unfold methodCall
    rw [hform, hpos]
    simp only [pure_bind]
    rfl
  rw [← henv]
  refine ks_wpAt_execs_cons (ks_wpAt_Expr_any (ks_wpAt_MethodCall ?_ he) (by rw [henv]; rfl) (by rw [henv]; rfl))
  rw [henv]
  refine ks_wpAt_super_base (env := ksEnv qual (iS f) s.heap.objs.size fI (.ref cda) cc) T.lks T.lkc (by decide) rfl (X₁ _ _ ho) rfl (ar := { arg := "self", annotation := none, pos := p1 }) rfl rfl (X₁ _ _ hcode) rfl hvs hfile T.top ?_
  have hself : (iS f).names.lookup ("self" : Str) = some .local := rfl
  refine ks_loadName_global (env := ksEnv qual (iS f) s.heap.objs.size fI (.ref cda) cc) rfl T.lks (loadGlobal_builtin (env := ksEnv qual (iS f) s.heap.objs.size fI (.ref cda) cc) hg₁ T.gS hb₁ ((hbv "super" (by decide)).trans (by first | rfl | kernel_rfl)) ⟨rfl, ?_⟩)
  refine wpAny_loadName_free (env := ksEnv qual (iS f) s.heap.objs.size fI (.ref cda) cc) rfl T.lkc rfl ⟨_, X₁ _ _ hcell, rfl⟩ ?_
  have vself : ([(("self" : Str), Value.ref x), (f, v)] : List (Str × Value)).reverse.lookup ("self" : Str) = some (.ref x) := by
    show List.lookup ("self" : Str) [(f, v), (("self" : Str), Value.ref x)] = _
    have e : (("self" : Str) == f) = false := by
      rw [Bool.beq_comm]; exact T.nself
    simp [List.lookup, e]
  have vf : ([(("self" : Str), Value.ref x), (f, v)] : List (Str × Value)).reverse.lookup f = some v := by
    show List.lookup f [(f, v), (("self" : Str), Value.ref x)] = _
    simp [List.lookup]
  refine wpAny_loadName_local (env := ksEnv qual (iS f) s.heap.objs.size fI (.ref cda) cc) rfl hself hns vself ?_
  refine ks_wpAny_isType_cls hC₁ rfl ⟨rfl, ?_⟩
  have hsubC : mroIn K C (.ref C) = some true := by
    unfold mroIn
    rw [hcl, Option.bind_some, if_neg (by simp)]
    simp
  refine ks_wpAny_call_super hC₁ rfl hx₁ rfl (fun c e => nomatch e) (looks_mroIn X₁ hsubC) (fun h₂ hso k₂ => ?_)
  have X₂ : K.In h₂ := X₁.keeps k₂
  have hx₂ := k₂ _ _ hx₁
  have hC₂ := X₂ _ _ hC
  have I₂ : InstAt h₂ x (excO C t0) C none := ⟨hx₂, rfl, rfl, trivial⟩
  have hsup : alongIn K "__init__" (((Value.ref C :: bm).dropWhile (· != .ref C)).drop 1) = some (some (.builtin "ValueError.__init__")) := by
    have z := T.sup
    unfold ks_superIn at z
    rw [hcl] at z
    exact z
  refine kxs_getMethod kxs_ValueError hso (looks_opaque X₂ T.opq) (l₀ := .ref C :: bm) ?_ rfl X₂ hsup (I₂.type.andThen (looks_subIn X₂ T.veC)) nxC (by decide) ?_
  · exact (looks_clsIn X₂ hcl).andThen .now
  have hu : (h₂.push (kxs_mw "ValueError.__init__" x)).get? h₂.objs.size = some (kxs_mw "ValueError.__init__" x) := Heap.get?_push_at rfl rfl
  have k₃ : ∀ b o, h₂.get? b = some o → (h₂.push (kxs_mw "ValueError.__init__" x)).get? b = some o := fun b o e => Heap.get?_push_of_some _ e
  have hx₃ := k₃ _ _ hx₂
  have hC₃ := k₃ _ _ hC₂
  have hes : starEach [.Constant (.str m) j q3] (ksEnv qual (iS f) s.heap.objs.size fI (.ref cda) cc) = (false, eval (.Constant (.str m) j q3) (ksEnv qual (iS f) s.heap.objs.size fI (.ref cda) cc)) :: starEach [] (ksEnv qual (iS f) s.heap.objs.size fI (.ref cda) cc) := by rfl
  rw [hes]
  show wpAny (model prog w) _ (callWith q4 (.ref h₂.objs.size) [] (backTo q4 ((false, eval (.Constant (.str m) j q3) (ksEnv qual (iS f) s.heap.objs.size fI (.ref cda) cc)) :: starEach [] (ksEnv qual (iS f) s.heap.objs.size fI (.ref cda) cc))) []) _ _ _
  refine kxs_callWith (i := "ValueError.__init__") (x := x) (by rfl) ?_
  refine evalArgs_plain ?_
  show wpAny (model prog w) _ (spliced ((false, eval (.Constant (.str m) j q3) (ksEnv qual (iS f) s.heap.objs.size fI (.ref cda) cc)) :: backTo q4 (starEach [] (ksEnv qual (iS f) s.heap.objs.size fI (.ref cda) cc)))) _ _ _
  refine Calls.spliced_cons (Calls.Constant_str ?_)
  refine Calls.spliced_nil ⟨hu, ?_⟩
  show wpAny (model prog w) _ (call (.ref h₂.objs.size) [.str m _]) _ _ _
  refine wpAny_call (codeAny_of_tree ?_)
  show wpAny _ _ (callAny (.ref h₂.objs.size) ⟨[.str m _], []⟩) _ _ _
  simp only [callAny]
  refine wpAny_bind (wpAny_load hu ?_)
  simp only [kxs_mw, show (Value.type "method-wrapper" == Value.type "method" || Value.type "method-wrapper" == Value.type "builtin_function_or_method" || Value.type "method-wrapper" == Value.type "method-wrapper") = true by decide, if_true]
  refine KFB.if_so (by decide) ?_
  refine wpAny_bind (check_bound_init F.excBase_ValueError.toExcCallFacts hC₃ hx₃ rfl ?_)
  refine wpAny_bind (wpAny_pure (wpAny_pure ?_))
  refine ⟨plainId_quiet F.excBase_ValueError.init.plain _, codeAny_builtin F.excBase_ValueError.initEntry ?_⟩
  refine exc_init_tree (cls := .ref C) (t0 := t0) (dv := none) (c2 := .none) (c3 := .none) (b4 := .bool false) hx₃ (by show 1 ≤ sizeLine; rw [sizeLine_eq]; omega) (fun h₄ k₄ hx₄ _ => ?_)
  -- self.f = f
  have kk : ∀ b o, b ≠ x → h₁.get? b = some o → h₄.get? b = some o := fun b o hb e => k₄ b o hb (k₃ _ _ (k₂ _ _ e))
  have gone : ∀ b o, s.heap.get? b = some o → h₁.get? b = some o := hk₁
  have hns₄ : h₄.Ns s.heap.objs.size (fun y => ([(("self" : Str), Value.ref x), (f, v)] : List (Str × Value)).reverse.lookup y) := by
    obtain ⟨oL, es, ep, hL, r⟩ := hns
    refine ⟨oL, es, ep, kk _ _ ?_ hL, r⟩
    exact Nat.ne_of_gt (Heap.lt_size hx)
  have hx4 : h₄.get? x = some (excO C (h₂.push (kxs_mw "ValueError.__init__" x)).objs.size) := hx₄
  have X₄ : K.In h₄ := fun a o e => kk a o (fun z => by
    rw [z, hnx] at e
    cases e) (X₁ a o e)
  refine wpAt_of_wpAny (wpAny_execs_cons (plainObj_wpAny_Assign_Attribute ?_))
  have hf' : (ksEnv qual (iS f) s.heap.objs.size fI (.ref cda) cc).kindOf f = some .local := T.lkf
  refine wpAny_Name (wpAny_loadName_local (env := ksEnv qual (iS f) s.heap.objs.size fI (.ref cda) cc) rfl hf' hns₄ vf ?_) T.ndbg
  refine wpAny_Name (wpAny_loadName_local (env := ksEnv qual (iS f) s.heap.objs.size fI (.ref cda) cc) rfl hself hns₄ vself ?_) (by decide)
  refine set_plain X₄ (ox := excO C (h₂.push (kxs_mw "ValueError.__init__" x)).objs.size) (od := none) ⟨hx4, rfl, rfl, trivial⟩ T.sa ?_
  refine exc_osa X₄ hx4 hcl (show refsVE (.ref C :: bm) = true from hbm) rfl T.noN (fun h₅ tk₅ dx k₅ dn dne hx₅ hn₅ => ?_)
  show wpAny _ _ (execs _ _) _ _ _
  have z4 : s.heap.objs.size ≤ h₄.objs.size := by
    have q := Heap.lt_size hx4
    obtain ⟨oL, es, ep, hL, r⟩ := hns₄
    exact Nat.le_of_lt (Heap.lt_size hL)
  exact wpAny_execs_nil (hq h₅ tk₅ dx _ ⟨fun b o hb e => k₅ b o hb (kk b o hb (hk₁ b o e)), hx₅, Nat.le_trans z4 dn, dne, hn₅⟩)
/-- a made one: its object at e, its own dict at d -/
structure Made (f : Str) (h h' : Heap) (e C d : Addr) (v : Value) : Prop where
  keep : ∀ b o, h.get? b = some o → h'.get? b = some o
  new : h.objs.size ≤ e
  obj : ∃ oe vs, h'.get? e = some oe ∧ oe.cls = .ref C ∧ oe.dict = some d ∧ oe.data = .fields vs ∧ vs[1]? = some .none
  dbig : h.objs.size ≤ d
  dne : d ≠ e
  ns : h'.Ns1 d (fun y => if y = f then some v else none)
theorem one_size (v : Value) : [v].length ≤ sizeLine := by
  rw [sizeLine_eq]
  exact (by decide : 1 ≤ 16777216)
theorem fresh_K {h : Heap} (X : K.In h) {a : Addr} (ha : h.objs.size ≤ a) : K.lookup a = none := by
  cases e : K.lookup a with
  | none => rfl
  | some o => exact absurd (Nat.lt_of_lt_of_le (Heap.lt_size (X _ _ e)) ha) (Nat.lt_irrefl _)
section
variable {h : Heap} {g : Array GenState} {d : Drawn} {t : Nat} {os : OsState} {M : Model}
variable {nm q : Str} {N : Addr} {bs bm bmB : List Value} {hdct : Bool} {sn : List Str} {sub : List Value} {ab : Bool} {col : Option Bool} {dd : Option Addr} {k0 k1 k2 k3 k5 : Option Value} {B newId initId : String}
theorem check_new_kw (F : ExcBaseFacts B newId initId bmB) (hT : ∀ X : String, bm.contains (.type X) = bmB.contains (.type X)) {rest : List Value} {kw : List (Str × Value)} {Q : Unit → Shared → Prop}
    (hC : h.get? C = some (excClassObj nm q C N bs bm hdct sn sub ab col dd k0 k1 k2 k3 k5 newId)) (hq : Q () ⟨h, g, d, t, os⟩) : wpAny M A (checkBuiltinCall newId ⟨.ref C :: rest, kw⟩) Q E ⟨h, g, d, t, os⟩ := by
  have hcont : (Value.ref C :: bm).contains (.type B) = true := by rw [List.contains_cons, hT, F.hasB, Bool.or_true]
  have hstar := F.noStar
  simp only [checkBuiltinCall, F.newKind, F.newSplit, F.newRow]
  repeat (first | refine wpAny_loadPart_at hC ?_ | (refine wpAny_isSubtype_exc hC ?_; rw [hcont]) | refine wpAny_staticBase_exc hC ?_ | refine wpAny_madeBy_exc hC ?_ | simp only [bne_self_eq_false, Bool.false_eq_true, if_false] | wp_step)
  exact hq
theorem new_kw (F : ExcBaseFacts B newId initId bmB) (hT : ∀ X : String, bm.contains (.type X) = bmB.contains (.type X)) {rest : List Value} {kw : List (Str × Value)}
    (hC : h.get? C = some (excClassObj nm q C N bs bm hdct sn sub ab col dd k0 k1 k2 k3 k5 newId))
    (hq : R (.ok (.ret (.ref (h.objs.size + 1)))) ⟨(h.push { cls := .type "tuple", data := .seq rest.toArray }).push
      { cls := .ref C, data := .fields #[.ref h.objs.size, .none, .none, .none, .bool false, .none] }, g, d, t, os⟩) (hrest : rest.length ≤ sizeLine) :
    codeAny (model prog w) A (.builtin newId ⟨.ref C :: rest, kw⟩) R ⟨h, g, d, t, os⟩ := by
  have hends := F.ends
  have hcB : (Value.ref C :: bm).contains (.type B) = true := by rw [List.contains_cons, hT, F.hasB, Bool.or_true]
  have hcA : (Value.ref C :: bm).contains (.type "AttributeError") = false := by rw [List.contains_cons, hT, F.noAttr]; rfl
  have hcN : (Value.ref C :: bm).contains (.type "NameError") = false := by rw [List.contains_cons, hT, F.noName]; rfl
  refine codeAny_builtinAt F.entry ?_
  unfold Builtin.«BaseException.__new__»
  refine wpAt_bind ?_
  show wpAt _ _ _ (stack >>= _) _ _ _
  refine wpAt_bind (wpAt_stack fun p below => wpAt_of_wpAny ?_)
  wp_walk
  refine wpAt_of_wpAny ?_
  rw [F.owner]
  repeat (first | with_reducible refine wpAny_madeHere_exc F.canon hC ?_ | with_reducible refine wpAny_loadPart_at hC ?_ | (with_reducible refine wpAny_isSubtype_exc hC ?_; first | rw [hcB] | rw [hcA] | rw [hcN]) | wp_step)
  show R _ _
  rw [Heap.size_push]
  exact hq
theorem type_call_kw (F : ExcBaseFacts B newId initId bmB) (hT : ∀ X : String, bm.contains (.type X) = bmB.contains (.type X)) {rest : List Value} {kw : List (Str × Value)} {Q : PySem.Fin → Shared → Prop}
    (hC : h.get? C = some (excClassObj nm q C N bs bm hdct sn sub ab col dd k0 k1 k2 k3 k5 newId))
    (hi : W.Looks (model prog w) h (typeLookup (.ref C) "__init__") (some (.ref fI))) (hb : ∀ self, W.Looks (model prog w) h (bindSpecial (.ref fI) self) (.ref fI, [self])) (hrest : rest.length ≤ sizeLine)
    (hq : codeAny (model prog w) A (.call (.ref fI) ⟨.ref (h.objs.size + 1) :: rest, kw⟩)
      (fun r s' => match r with | .ok (.ret v) => v = .none ∧ Q (.done (.ret (.ref (h.objs.size + 1)))) s' | .ok _ => False | .error e => E e s')
      ⟨(h.push (W.kdv_tup rest)).push (excO C h.objs.size), g, d, t, os⟩) :
    wpAny (model prog w) A (Builtin.«type.__call__» ⟨.ref C :: rest, kw⟩) Q E ⟨h, g, d, t, os⟩ := by
  repeat (first | with_reducible refine wpAny_loadPart_at hC ?_ | with_reducible refine wpAny_madeBy_exc hC ?_ | wp_step)
  refine codeAny_call_builtin_code (Code.quiet_builtin _ F.quiet) (check_new_kw F hT hC ?_)
  refine new_kw F hT hC ?_ hrest
  show wpAny _ _ _ _ _ _
  have k : ∀ b o, h.get? b = some o → ((h.push (W.kdv_tup rest)).push (excO C h.objs.size)).get? b = some o := fun b o e => Heap.get?_push_of_some _ (Heap.get?_push_of_some _ e)
  have hC₁ := k _ _ hC
  have hget : ((h.push (W.kdv_tup rest)).push (excO C h.objs.size)).get? (h.objs.size + 1) = some (excO C h.objs.size) := by heap_get
  have hcC : (Value.ref C :: bm).contains (.ref C) = true := by simp
  have i1 := hi.keeps k
  have b1 := (hb (.ref (h.objs.size + 1))).keeps k
  unfold isInstance
  repeat (first | with_reducible refine wpAny_loadPart_at hget ?_ | (with_reducible refine wpAny_isSubtype_exc hC₁ ?_; rw [hcC]) | wp_step)
  show wpAny _ _ (typeLookup (.ref C) _) _ _ _
  refine i1.at ?_
  refine wpAny_holding (wpAny_bind (b1.at ?_))
  refine wpAny_bind (wpAny_call (codeAny_mono hq fun r s' z => ?_))
  rcases r with e | (v | _ | _ | _) <;> first | exact z | exact z.elim | skip
  obtain ⟨rfl, z⟩ := z
  first
    | exact wpAny_pure (wpAny_pure z)
    | (wp_walk; exact z)
theorem check_tc_kw {rest : List Value} {kw : List (Str × Value)} {Q : Unit → Shared → Prop} (hC : h.get? C = some (excClassObj nm q C N bs bm hdct sn sub ab col dd k0 k1 k2 k3 k5 newId))
    (hq : Q () ⟨h, g, d, t, os⟩) : wpAny M A (checkBuiltinCall "type.__call__" ⟨.ref C :: rest, kw⟩) Q E ⟨h, g, d, t, os⟩ := by
  have f3 := tc_sub
  have hT : (⟨h, g, d, t, os⟩ : Shared).TypeIs (.ref C) "type" := ⟨_, hC, rfl⟩
  simp only [checkBuiltinCall, tc_kind, tc_split]
  repeat (any_goals (first | assumption | with_reducible refine wpAny_loadPart_at hC ?_ | with_reducible refine wpAny_onRaise ?_ | with_reducible refine wpAny_map ?_ | wp_step))
theorem call_kw (F : ExcBaseFacts B newId initId bmB) (hT : ∀ X : String, bm.contains (.type X) = bmB.contains (.type X)) {rest : List Value} {kw : List (Str × Value)}
    (hC : h.get? C = some (excClassObj nm q C N bs bm hdct sn sub ab col dd k0 k1 k2 k3 k5 newId))
    (hi : W.Looks (model prog w) h (typeLookup (.ref C) "__init__") (some (.ref fI))) (hb : ∀ self, W.Looks (model prog w) h (bindSpecial (.ref fI) self) (.ref fI, [self])) (hrest : rest.length ≤ sizeLine)
    (hq : codeAny (model prog w) (A.under (.builtin "type.__call__" ⟨.ref C :: rest, kw⟩)) (.call (.ref fI) ⟨.ref (h.objs.size + 1) :: rest, kw⟩) (W.InitBack (h.objs.size + 1) R)
      ⟨(h.push (W.kdv_tup rest)).push (excO C h.objs.size), g, d, t, os⟩) :
    codeAny (model prog w) A (.call (.ref C) ⟨rest, kw⟩) R ⟨h, g, d, t, os⟩ := by
  have f1 := tc_lookup
  have f2 := tc_bind (.ref C)
  have hTy : (⟨h, g, d, t, os⟩ : Shared).TypeIs (.ref C) "type" := ⟨_, hC, rfl⟩
  refine codeAny_of_tree ?_
  show wpAny _ _ (callAny (.ref C) _) _ _ _
  repeat (any_goals (first | assumption | with_reducible refine wpAny_loadPart_at hC ?_ | wp_step))
  refine ⟨rfl, ?_⟩
  refine codeAny_call_builtin_at (Code.quiet_builtin _ (by decide +kernel)) entry_typeCall (check_tc_kw hC (type_call_kw F hT hC hi hb hrest ?_))
  refine codeAny_mono hq fun r s' z => ?_
  rcases r with e | (v | _ | _ | _) <;> exact z
end
theorem x_made_kw (T : XTxt prog K mg n f m qual C fI cc cda) {v : Value} (X : K.In s.heap) (hg : s.heap.Ns mainGlobals mg) (hb : s.heap.Ns builtinsNs mb) (hbv : ∀ x : Str, x ≠ "__name__" → mb x = bootBuiltins x) (hlim : s.heap.NoLimit) (hroom : A.depth + 1 < recursionLimit)
    (hq : ∀ h' tk e d, Made f s.heap h' e C d v → R (.ok (.ret (.ref e))) { s with heap := h', toks := tk }) :
    codeAny (model prog w) A (.call (.ref C) ⟨[], [(f, v)]⟩) R s := by
  obtain ⟨nm, q, N, bs, bm, sn, sub, ab, col, dd, k0, k1, k2, k3, k5, hC, hbm⟩ := T.cls
  obtain ⟨hp, g, dr, tk, os⟩ := s
  have k : ∀ b o, hp.get? b = some o → ((hp.push (kdv_tup [])).push (excO C hp.objs.size)).get? b = some o := fun b o e => Heap.get?_push_of_some _ (Heap.get?_push_of_some _ e)
  have hget : ((hp.push (kdv_tup [])).push (excO C hp.objs.size)).get? (hp.objs.size + 1) = some (excO C hp.objs.size) := by heap_get
  refine call_kw F.excBase_ValueError (fun X => refsVE_contains X bm hbm) (X _ _ hC) (looks_findIn X T.iC) (fun self => bind_fn X self T.tC) (Nat.zero_le _) ?_
  refine x_init (v := v) (s := ⟨(hp.push (kdv_tup [])).push (excO C hp.objs.size), g, dr, tk, os⟩) T (X.keeps k) (hg.keeps k) (hb.keeps k) hbv (hlim.keeps k) hget (fresh_K X (Nat.le_succ _)) ?_ (fun _ _ _ _ _ _ _ _ => BindsTo.of_eq (T.bndk _ _ _ _ _ _ _ _ _ _ _)) fun h' tk' dx t1 ⟨k', hx, dn, dne, hns⟩ => ?_
  · show A.depth + 1 < recursionLimit
    exact hroom
  · have old : ∀ b o, hp.get? b = some o → h'.get? b = some o := fun b o e => k' b o (Nat.ne_of_lt (Nat.lt_succ_of_lt (Heap.lt_size e))) (k b o e)
    have z : hp.objs.size + 1 + 1 ≤ dx := by
      first
        | (simpa only [Heap.size_push] using dn)
        | exact dn
        | (have q := dn; rw [Heap.size_push, Heap.size_push] at q; exact q)
    exact ⟨rfl, hq h' tk' (hp.objs.size + 1) dx ⟨old, Nat.le_succ _, ⟨_, _, hx, rfl, rfl, rfl, rfl⟩, Nat.le_trans (Nat.le_trans (Nat.le_succ _) (Nat.le_succ _)) z, dne, hns⟩⟩
theorem x_made (T : XTxt prog K mg n f m qual C fI cc cda) {v : Value} (X : K.In s.heap) (hg : s.heap.Ns mainGlobals mg) (hb : s.heap.Ns builtinsNs mb) (hbv : ∀ x : Str, x ≠ "__name__" → mb x = bootBuiltins x) (hlim : s.heap.NoLimit) (hroom : A.depth + 1 < recursionLimit)
    (hq : ∀ h' tk e d, Made f s.heap h' e C d v → R (.ok (.ret (.ref e))) { s with heap := h', toks := tk }) :
    codeAny (model prog w) A (.call (.ref C) ⟨[v], []⟩) R s := by
  obtain ⟨nm, q, N, bs, bm, sn, sub, ab, col, dd, k0, k1, k2, k3, k5, hC, hbm⟩ := T.cls
  obtain ⟨hp, g, dr, tk, os⟩ := s
  have k : ∀ b o, hp.get? b = some o → ((hp.push (kdv_tup [v])).push (excO C hp.objs.size)).get? b = some o := fun b o e => Heap.get?_push_of_some _ (Heap.get?_push_of_some _ e)
  have hget : ((hp.push (kdv_tup [v])).push (excO C hp.objs.size)).get? (hp.objs.size + 1) = some (excO C hp.objs.size) := by heap_get
  refine call_own F.excBase_ValueError (fun X => refsVE_contains X bm hbm) (X _ _ hC) (looks_findIn X T.iC) (fun self => bind_fn X self T.tC) (one_size v) ?_
  refine x_init (v := v) (s := ⟨(hp.push (kdv_tup [v])).push (excO C hp.objs.size), g, dr, tk, os⟩) T (X.keeps k) (hg.keeps k) (hb.keeps k) hbv (hlim.keeps k) hget (fresh_K X (Nat.le_succ _)) ?_ (fun _ _ _ _ _ _ _ _ => BindsTo.of_eq (T.bnd _ _ _ _ _ _ _ _ _ _ _)) fun h' tk' dx t1 ⟨k', hx, dn, dne, hns⟩ => ?_
  · show A.depth + 1 < recursionLimit
    exact hroom
  · have old : ∀ b o, hp.get? b = some o → h'.get? b = some o := fun b o e => k' b o (Nat.ne_of_lt (Nat.lt_succ_of_lt (Heap.lt_size e))) (k b o e)
    have z : hp.objs.size + 1 + 1 ≤ dx := by
      first
        | (simpa only [Heap.size_push] using dn)
        | exact dn
        | (have q := dn; rw [Heap.size_push, Heap.size_push] at q; exact q)
    exact ⟨rfl, hq h' tk' (hp.objs.size + 1) dx ⟨old, Nat.le_succ _, ⟨_, _, hx, rfl, rfl, rfl, rfl⟩, Nat.le_trans (Nat.le_trans (Nat.le_succ _) (Nat.le_succ _)) z, dne, hns⟩⟩
end
end TugX
end PySem
namespace L2
open PySem PySem.Spec PyProof.Rows
theorem relO_one {v : V} {v' : Value} {f : Str} (r : RelV v v') (g : Str) : RelO (List.lookup g [(f, v)]) (if g = f then some v' else none) := by
  by_cases hw : g = f
  · subst hw
    rw [if_pos rfl]
    have q : List.lookup g [(g, v)] = some v := by simp [List.lookup]
    rw [q]
    exact r
  · rw [if_neg hw]
    have qw : (g == f) = false := by simpa using hw
    have q2 : List.lookup g [(f, v)] = none := by simp [List.lookup, qw]
    rw [q2]
    trivial
/-- C(e) or C(f = e) -/
def tMkX (C : Addr) (f : Str) (ta : TA) : St → Hp → XK → Prop := fun σ H Q => ta σ H fun vs H1 => ∃ v, vs = [v] ∧ ∀ d, H1 d = none → Q (.ref C) (some d) (upd H1 d (.xd [(f, v)]))
section
variable {X : Cx} {n f m qual : Str} {C fI cc cda : Addr}
theorem mk_made {pins : List (Addr × Obj)} {σ : St} {H1 : Hp} {s1 : Shared} {h' : Heap} {tk' : Nat} {e d : Addr} {v : V} {v' : Value} {Q : XK} (T : PySem.TugX.XTxt X.prog X.K X.mg n f m qual C fI cc cda) (I1 : Inv X pins σ H1 s1) (rv : RelV v v')
    (M : PySem.TugX.Made f s1.heap h' e C d v') (q1 : ∀ d, H1 d = none → Q (.ref C) (some d) (upd H1 d (.xd [(f, v)]))) : MkP X pins σ Q (.ref e) { s1 with heap := h', toks := tk' } := by
  obtain ⟨hp, g, dr, tk, os⟩ := s1
  obtain ⟨oe, fv, hoe, hc, hd, hdat, h1⟩ := M.obj
  have hns := M.ns
  obtain ⟨G', g1, g2⟩ := restrict h' fun b => decide (b ≠ e)
  have gk : ∀ b, b ≠ e → G'.get? b = h'.get? b := fun b hb => g1 b (decide_eq_true hb)
  have ge : G'.get? e = none := g2 e (by simp)
  have old : ∀ b o, hp.get? b = some o → G'.get? b = some o := fun b o q => (gk b (Nat.ne_of_lt (Nat.lt_of_lt_of_le (Heap.lt_size q) M.new))).trans (M.keep b o q)
  have ob : ObjOk X.prog X.w (upd H1 d (.xd [(f, v)])) G' d (.xd [(f, v)]) :=
    ⟨_, hns.at (fun o q => (gk d M.dne).trans q), fun g => relO_one rv g⟩
  have J : Inv X pins σ (upd H1 d (.xd [(f, v)])) ⟨G', g, dr, tk', os⟩ := I1.laid (t' := tk') old M.dbig ob
  refine ⟨e, oe, fv, ⟨G', g, dr, tk', os⟩, _, .ref C, some d, rfl, J, fun b o q => ?_, ge, hoe, ⟨hc, hd⟩, hdat, h1, ?_, rfl, I1.bare, raises_own T.exC T.tyC, q1 d (I1.hok.fresh M.dbig)⟩
  · by_cases hb : b = e
    · have q' : G'.get? b = some o := q
      rw [hb, ge] at q'; cases q'
    · exact (gk b hb).symm.trans q
  · rw [upd_ne (Ne.symm M.dne)]
    exact I1.hok.fresh M.new
theorem pmk_x {a : Expr} {ta : TA} {p pos : Pos} {k : Nat} (T : PySem.TugX.XTxt X.prog X.K X.mg n f m qual C fI cc cda) (hr : Room k X.A) (ha : PA X [a] ta) (hg : Gl X n)
    (he : starEach (a :: []) X.env = (false, eval a X.env) :: starEach [] X.env := by rfl) (hpl : (backTo pos (starEach [] X.env)).any (·.1) = false := by rfl) (hdb : (n == ("__debug__" : Str)) = false := by decide) :
    PMk X (.Call (.Name n p) [a] [] pos) (tMkX C f ta) := by
  intro pins s σ H Q I h
  refine wpAny_Call_Name_kw (ld_glob I hg T.gC ?_ hdb)
  refine PySem.W.callWith_K (h₀ := X.base) I.ok.mod.kin T.kC (thn (ha.run pos pins s σ H _ I h) fun us s1 hh => ?_) he hpl
  obtain ⟨vs, H1, I1, r1, v, ev, q1⟩ := hh
  subst ev
  refine ⟨I1.kIn, ?_⟩
  cases r1 with
  | cons rv rn =>
    rename_i v' us'
    cases rn
    show wpAny _ _ (call (.ref C) [v']) _ _ _
    obtain ⟨mb, hb1, hb2⟩ := I1.mod.blt
    exact wpAny_call (PySem.TugX.x_made T I1.kIn (I1.mod.glob.keeps I1.bk) (hb1.keeps I1.bk) hb2 I1.nolimit (by have := hr.dp; omega) fun h' tk' e d M => mk_made T I1 rv M q1)
theorem pmk_xk {a : Expr} {te : TE} {p pos kpos : Pos} {k : Nat} (T : PySem.TugX.XTxt X.prog X.K X.mg n f m qual C fI cc cda) (hr : Room k X.A) (ha : PE X a te) (hg : Gl X n)
    (hall : (backToKw pos (keywordEach [⟨some f, a, kpos⟩] X.env)).all (·.1.isSome) = true := by rfl) (hks : (backToKw pos (keywordEach [⟨some f, a, kpos⟩] X.env)).filterMap (·.1) = [f] := by rfl) (hdb : (n == ("__debug__" : Str)) = false := by decide)
    (hpl : ((backTo pos (starEach [] X.env)).any (·.1) || (backToKw pos (keywordEach [⟨some f, a, kpos⟩] X.env)).any (·.1.isNone)) = false := by rfl) :
    PMk X (.Call (.Name n p) [] [⟨some f, a, kpos⟩] pos) (tMkX C f (tCons te tNil)) := by
  intro pins s σ H Q I h
  refine wpAny_Call_Name_kw (ld_glob I hg T.gC ?_ hdb)
  refine PySem.W.callWith_KW0 (h₀ := X.base) I.ok.mod.kin T.kC hall ?_ hpl
  refine thn ((pk_cons ha pk_nil).run pos pins s σ H _ I h) fun ws s1 ⟨zs, H1, I1, rz, v, ev, q1⟩ => ⟨I1.kIn, ?_⟩
  subst ev
  rw [hks]
  cases rz with
  | cons rv rn =>
    cases rn
    rename_i v' hAP
    show wpAny _ _ (call (.ref C) [] [(f, v')]) _ _ _
    obtain ⟨mb, hb1, hb2⟩ := I1.mod.blt
    exact wpAny_call (PySem.TugX.x_made_kw T I1.kIn (I1.mod.glob.keeps I1.bk) (hb1.keeps I1.bk) hb2 I1.nolimit (by have := hr.dp; omega) fun h' tk' e d M => mk_made T I1 rv M q1)
end

/-! ### a caught exception that is kept -/
/-- at a: an exception of the class cls, its own dict d, caught and kept -/
def ExV (cls : Value) (d : Option Addr) (a : Addr) : HO := .ext fun h => ∃ (oe : Obj) (vs : Array Value), h.get? a = some oe ∧ Zc cls d oe ∧ oe.data = .fields vs
theorem exV_ok {P : Program} {w : World} {H : Hp} {h : Heap} {a : Addr} {cls : Value} {d : Option Addr} {oe : Obj} {vs : Array Value} (e : h.get? a = some oe) (z : Zc cls d oe) (hd : oe.data = .fields vs) : ObjOk P w H h a (ExV cls d a) :=
  ⟨⟨oe, vs, e, z, hd⟩, ⟨oe, e⟩, fun _ _ ⟨o, v, q, r⟩ k => ⟨o, v, k o q, r⟩⟩
theorem exV_at {P : Program} {w : World} {H : Hp} {h : Heap} {a : Addr} {cls : Value} {d : Option Addr} (hok : HOk P w H h) (he : H a = some (ExV cls d a)) : ∃ (oe : Obj) (vs : Array Value), h.get? a = some oe ∧ Zc cls d oe ∧ oe.data = .fields vs := by
  have x : ObjOk P w H h a (.ext fun h => ∃ (oe : Obj) (vs : Array Value), h.get? a = some oe ∧ Zc cls d oe ∧ oe.data = .fields vs) := hok a _ he
  exact x.1
section
variable {X : Cx} {pins : List (Addr × Obj)} {σ : St} {H : Hp} {s : Shared} {a : Addr} {cls : Value} {d : Option Addr} {oe : Obj} {vs : Array Value}
theorem Inv.trackX (I : Inv X pins σ H s) (he : s.heap.get? a = some oe) (hd : oe.data = .fields vs) (z : Zc cls d oe) (na : H a = none) (n0 : X.s_0.heap.get? a = none) (nL : a ≠ X.env.locals) (npin : ∀ p ∈ X.pn ++ pins, p.1 ≠ a) :
    Inv X pins σ (upd H a (ExV cls d a)) s := by
  have ne0 : ∀ b o, X.s_0.heap.get? b = some o → b ≠ a := fun b o e z => by
    rw [z, n0] at e
    cases e
  refine ⟨I.ok, I.os, I.bare, ⟨I.base.keep, I.base.slot, fun b o e n hb => ?_, I.base.there, fun b xs e => ?_, fun b o u e => ?_, fun b ps e => ?_⟩, I.loc, I.cell, ?_, fun x c e => ?_, fun p hp => ?_, fun b u e => ?_, I.len⟩
  · rw [upd_ne (ne0 b o e)]
    exact I.base.free b o e n hb
  · have q := I.base.tups b xs e
    rw [upd_ne (ne_of_none q na)]
    exact q
  · have q := I.base.frzs b o u e
    rw [upd_ne (ne_of_none q na)]
    exact q
  · obtain ⟨m, q⟩ := I.base.tbls b ps e
    exact ⟨m, by rw [upd_ne (ne_of_none q na)]; exact q⟩
  · rw [upd_ne (Ne.symm nL)]
    exact I.free
  · have nc : c ≠ a := fun q => by
      obtain ⟨v, o, ho, hdc⟩ := I.cell x c e
      rw [q, he] at ho
      cases ho
      rw [hd] at hdc
      cases hdc
    rw [upd_ne nc]
    exact I.freeC x c e
  · obtain ⟨e, n, ne, nf, dd⟩ := I.pin p hp
    exact ⟨e, by rw [upd_ne (npin p hp)]; exact n, ne, nf, dd⟩
  · by_cases hb : b = a
    · subst hb
      rw [upd_same] at e
      cases e
      exact exV_ok he z hd
    · rw [upd_ne hb] at e
      exact (I.hok b u e).stay (fun c v _ q => q) (fun c q => by rw [upd_ne (ne_of_none q na)]; exact q) fun c xs q => by rw [upd_ne (ne_of_none q na)]; exact q
end
/-- what is sought behind a suite that kept its exception -/
abbrev Ends.keep (D : Ends) (i : Nat) (cls : Value) (d : Option Addr) (a : Addr) : Ends :=
  { nx := fun σ' H' => D.nx (σ'.set i none) (upd H' a (ExV cls d a)), rt := fun v H' => D.rt v (upd H' a (ExV cls d a)), bk := fun σ' H' => D.bk (σ'.set i none) (upd H' a (ExV cls d a)), ct := fun σ' H' => D.ct (σ'.set i none) (upd H' a (ExV cls d a)) }
section
variable {X : Cx} {pins : List (Addr × Obj)} {D : Ends} {f : Flow} {s sI : Shared} {σ : St} {H : Hp} {a : Addr} {cls : Value} {d : Option Addr} {i : Nat} {n : Str}
theorem SP.ofTry {xe : Value → Shared → Prop} (ok : X.Ok) (h : SP (X.tr (X.pn ++ pins) xe) [] D f s) : SP X pins D f s := by
  cases f with
  | ret u => obtain ⟨v, σ', H', J, r, q⟩ := h; exact ⟨v, σ', H', J.ofTry ok, r, q⟩
  | next => obtain ⟨σ', H', J, q⟩ := h; exact ⟨σ', H', J.ofTry ok, q⟩
  | brk => obtain ⟨σ', H', J, q⟩ := h; exact ⟨σ', H', J.ofTry ok, q⟩
  | cont => obtain ⟨σ', H', J, q⟩ := h; exact ⟨σ', H', J.ofTry ok, q⟩
/-- the suite's end: the exception is tracked from here on, its name goes -/
theorem SP.kept {M : Model} {A : Around} {E : Value → Shared → Prop} {oe : Obj} {vs : Array Value} {pos : Pos} (ok : X.Ok) (hN : X.N.Nodup) (hi : X.N[i]? = some n) (hln : X.env.kindOf n = some .local) (hd : oe.data = .fields vs) (hz : Zc cls d oe)
    (n0 : X.s_0.heap.get? a = none) (nL : a ≠ X.env.locals) (np : ∀ p ∈ X.pn ++ pins, p.1 ≠ a) (h : SP (X.suite a ((a, oe) :: (X.pn ++ pins))) [] (D.keep i cls d a) f s) :
    wpAny M A (do bindName X.env n .none; unbindBehindTheSuite X.env n pos) (fun _ s' => SP X pins D f s') E s := by
  have go : ∀ {σ' : St} {H' : Hp} {Q : Unit → Shared → Prop}, Inv (X.suite a ((a, oe) :: (X.pn ++ pins))) [] σ' H' s → (∀ s', Inv X pins (σ'.set i none) (upd H' a (ExV cls d a)) s' → Q () s') →
      wpAny M A (do bindName X.env n .none; unbindBehindTheSuite X.env n pos) Q E s := fun {σ' H' Q} J k => by
    have P := J.pin (a, oe) (List.mem_append_left _ List.mem_cons_self)
    exact gone_ok ((J.unsuite ok).trackX P.1 hd hz P.2.1 n0 nL np) hN hi hln k
  cases f with
  | ret u => obtain ⟨v, σ', H', J, r, q⟩ := h; exact go J fun s' J' => ⟨v, _, _, J', r, q⟩
  | next => obtain ⟨σ', H', J, q⟩ := h; exact go J fun s' J' => ⟨_, _, J', q⟩
  | brk => obtain ⟨σ', H', J, q⟩ := h; exact go J fun s' J' => ⟨_, _, J', q⟩
  | cont => obtain ⟨σ', H', J, q⟩ := h; exact go J fun s' J' => ⟨_, _, J', q⟩
/-- an exception in the air of a def is newer than the def's entry, and no pin's -/
theorem sky_new {B h : Heap} {o : Obj} {vs : Array Value} {Z : Obj → Prop} {L : Addr} (I : Inv X pins σ H sI) (hex : X.ex = []) (nb : ∀ b o, sI.heap.get? b = some o → b ∉ frs X.stack → B.get? b = some o) (sky : Sky B X.stack a Z L s.heap)
    (ff : h.FunFrames B X.stack) (he : h.get? a = some o) (hd : o.data = .fields vs) : a ∉ frs X.stack ∧ X.s_0.heap.get? a = none ∧ ∀ p ∈ X.pn ++ pins, p.1 ≠ a := by
  have nB : B.get? a = none := by
    rcases sky with ⟨_, q, _⟩ | ⟨_, q, _⟩ | ⟨_, q, _⟩ <;> exact q
  have nf : a ∉ frs X.stack := fun hm => by
    obtain ⟨_, o', e', hn⟩ := ff.mem hm
    rw [he] at e'
    cases e'
    exact hn _ hd
  have nI : sI.heap.get? a = none := Option.eq_none_iff_forall_ne_some.mpr fun u q => by
    have z := nb a u q nf
    rw [nB] at z
    cases z
  refine ⟨nf, Option.eq_none_iff_forall_ne_some.mpr fun u q => ?_, fun p hp z => ?_⟩
  · obtain ⟨u', q'⟩ := I.base.there a u q (by rw [hex]; exact fun z => nomatch z)
    rw [nI] at q'
    cases q'
  · have q := (I.pin p hp).1
    rw [z, nI] at q
    cases q
end
/-- what the clause 'except x as n' wishes, the exception kept behind it -/
def wKeep (K : PySem.W.Frag) (c : Value) (i : Nat) (ts : Addr → Value → Option Addr → TS) (Wout : WX) (D : Ends) : WX := fun cls d σ H =>
  ∃ b, PySem.W.exmOne K cls c = some b ∧ (b = true → ∀ a, H a = none → ts a cls d (D.keep i cls d a) (σ.set i (some (.ref a))) H) ∧ (b = false → Wout cls d σ H)
section
variable {X : Cx} {x n : Str} {c : Value} {i : Nat} {body suite : List Stmt} {b₀ : Stmt} {np pos pos' : Pos} {tb : WX → TS} {ts : Addr → Value → Option Addr → TS} {Wout : WX}
theorem ps_try_keep (hs : X.stack = X.env :: X.outer) (hf : X.env.frame = some X.env.locals) (hex : X.ex = []) (hN : X.N.Nodup) (hi : X.N[i]? = some n) (hln : X.env.kindOf n = some .local) (hc : Names X x c) (tk : Takes X Wout)
    (hb : ∀ (W : WX) (pn : List (Addr × Obj)) (xe : Value → Shared → Prop), Takes (X.tr pn xe) W → PassesOwn (model X.prog X.w) X.A X.env xe → PSs (X.tr pn xe) body (tb W))
    (hsu : ∀ (a : Addr) (oe : Obj) (cls : Value) (d : Option Addr) (pn : List (Addr × Obj)), Zc cls d oe → (∃ vs, oe.data = .fields vs) → PSs (X.suite a ((a, oe) :: pn)) (b₀ :: suite) (ts a cls d)) :
    PS X (.Try body [.ExceptHandler (some (.Name x np)) (some n) (b₀ :: suite) pos'] [] [] pos) (fun D σ H => tb (wKeep X.K c i ts Wout D) D σ H) := by
  refine ⟨fun pins s σ H D I h => wpAny_Try_except ?_⟩
  have ok := I.ok
  have hfr : X.A.frames = some (X.env :: X.outer) := by rw [ok.frames, hs]
  have caught : Takes (X.tr (X.pn ++ pins) fun e s₁ => wpAny (model X.prog X.w) X.A (noteFrame e X.env) (fun _ s₂ => wpAny (model X.prog X.w) X.A (setFlight e none) (fun _ s₃ =>
      wpAny (model X.prog X.w) X.A (handleBy e X.env [.ExceptHandler (some (.Name x np)) (some n) (b₀ :: suite) pos']) (SP X pins D) X.xe s₃) X.xe s₂) X.xe s₁) (wKeep X.K c i ts Wout D) := by
    rintro u s' ⟨a, B, sI, pins', σ', H', cls, d, rfl, J', nb, up, sky, na, os, ag, b, hb1, hyes, hno⟩
    have J : Inv X pins σ' H' sI := J'.ofTry ok
    refine Sky.land (outer := X.outer) (L := X.env.locals) Zc.steady hfr hf (by rw [← hs]; exact sky) fun h3 fl3 up3 => ?_
    obtain ⟨oe3, vs3, he3, hz3, hd3⟩ := fl3.there
    obtain ⟨nfr, n0, npin⟩ := sky_new J hex nb sky (by rw [hs]; exact fl3.2.2.1) he3 hd3
    rw [hs] at nfr
    have nL : a ≠ X.env.locals := fun z => nfr (List.mem_filterMap.mpr ⟨X.env, List.mem_cons_self, hf.trans (congrArg some z.symm)⟩)
    have nF : a ∉ X.fs := fun hm => nfr ((List.mem_filterMap.mp hm).elim fun e he => List.mem_filterMap.mpr ⟨e, List.mem_cons_of_mem _ he.1, he.2⟩)
    -- the state of the suite, whatever heap the flight has left
    have J3 : Inv X pins σ' H' { s' with heap := h3 } := J.landed nb fl3.1 (up.trans up3) os ag
    have S3 := J3.suite he3 hd3 na nL nF
    have LT : PySem.W.Looks (model X.prog X.w) h3 (typeOf (.ref a)) cls := fun A Q E s k q => wpAny_typeOf_ref (k _ _ he3) (by rw [hz3.1]; exact q)
    have named : ∀ {Q : Value → Shared → Prop} {E : Value → Shared → Prop}, Q c { s' with heap := h3 } → wpAny (model X.prog X.w) (X.A.mark (some (.ref a))) (eval (.Name x np) X.env) Q E { s' with heap := h3 } := fun q =>
      hc.2.2.elim (fun hm => ld_glob (X := X.suite a ((a, oe3) :: (X.pn ++ pins))) S3 hc.1 hm q hc.2.1) fun hm => ld_blt (X := X.suite a ((a, oe3) :: (X.pn ++ pins))) S3 hc.1 hm.1 hm.2.1 q hm.2.2 hc.2.1
    refine wpAny_handleBy_cons (codeAny_handlers_test (named ((PySem.W.exm_one J3.kIn LT hb1).here ?_))) (fun q => nomatch q)
    cases b with
    | true =>
      refine codeAny_handlers_suite_as (HandSPX.lands_againZ fl3 fun h4 fl4 up4 => ?_)
      obtain ⟨oe4, vs4, he4, hz4, hd4⟩ := fl4.there
      have S4 := (J.landed (s' := { s' with heap := h4 }) nb fl4.1 ((up.trans up3).trans up4) os ag).suite he4 hd4 na nL nF
      refine store_ok (X := X.suite a ((a, oe4) :: (X.pn ++ pins))) (v := .ref a) S4 hN hi (.inl hln) rfl (fun s5 S5 => ?_) (.inr hln)
      exact wpAny_mono ((hsu a oe4 cls d (X.pn ++ pins) hz4 ⟨_, hd4⟩).run [] s5 _ H' _ S5 (hyes rfl a na)) (fun f s6 e => SP.kept ok hN hi hln hd4 hz4 n0 nL npin e) fun _ _ z => z.elim
    | false =>
      refine wpAny_handleBy_nil ?_
      obtain ⟨_, _, _, oe, vs, T, _, _, he, _, hd, h1, _⟩ := id fl3
      have fly : wpAny (model X.prog X.w) X.A (setFlight (.ref a) X.env.frame) (fun _ s4 => wpAny (model X.prog X.w) X.A (throw (.ref a) : Sem Flow) (SP X pins D) X.xe s4) X.xe { s' with heap := h3 } := by
        rw [hf]
        exact HandSPX.setFlight_upZ fl3 fun h4 hh4 up4 => wpAny_throw (tk _ _ ⟨a, B, sI, pins, σ', H', cls, d, rfl, J, nb, (up.trans up3).trans up4, .inr (.inr (by rw [hs]; exact hh4)), na, os, ag, hno rfl⟩)
      unfold PySem.passOn
      refine wpAny_bind (wpAny_field he hd h1 ?_)
      rw [if_neg (show ¬ ((Value.ref T == Value.none) = true) from by simp)]
      first
        | exact wpAny_bind (wpAny_pure (wpAny_bind fly))
        | exact wpAny_bind fly
  refine wpAny_mono ((hb _ (X.pn ++ pins) _ caught PassesOwn.looking).run [] s σ H D (I.toTry _) h) (fun f s1 e => ?_) fun _ _ e => e
  have e' := SP.ofTry ok e
  cases f with
  | next => exact wpAny_execs_nil e'
  | ret _ => exact e'
  | brk => exact e'
  | cont => exact e'
end
/-! ### its field, read -/
def tXv (K : PySem.W.Frag) (f : Str) (te : TE) : TE := fun σ H Q => te σ H fun x H1 => ∃ (a C dd : Addr) (fs : List (Str × V)) (v : V), x = .ref a ∧ H1 a = some (ExV (.ref C) (some dd) a) ∧ XfC K C ∧ PySem.W.findIn K (.ref C) f = some none ∧ H1 dd = some (.xd fs) ∧ fs.lookup f = some v ∧ Q v H1
theorem pe_xv {X : Cx} {e : Expr} {te : TE} {pos : Pos} {n : Str} (he : PE X e te) (hb : attributeBase e n X.env (eval e X.env) = eval e X.env := by rfl) : PE X (.Attribute e n pos) (tXv X.K n te) := by
  refine ⟨fun pins s σ H Q I h => ?_⟩
  refine attr_of hb (thn (he.run pins s σ H _ I h) fun u s1 hh => ?_)
  obtain ⟨x, H1, I1, rx, a, C, dd, fs, v, ex, e1, T, hno, ea, l, q⟩ := hh
  subst ex
  obtain rfl : u = Value.ref a := rx
  obtain ⟨oe, vs, ha, hz, hd⟩ := exV_at I1.hok e1
  have hx : ObjOk X.prog X.w H1 s1.heap dd (.xd fs) := I1.hok dd _ ea
  obtain ⟨mA, hns, hr⟩ := hx
  obtain ⟨od, ho, hl⟩ := lookIn_ns hns
  obtain ⟨u, hu, ru⟩ := RelO.some_of (v := v) (o := mA n) (by rw [← l]; exact hr n)
  have J : PySem.W.InstAt s1.heap a oe C (some od) := ⟨ha, hz.1, by unfold PySem.W.notCls; rw [hd] <;> rfl, by rw [hz.2]; exact ho⟩
  exact HandSPX.exc_get I1.kIn J T.ga T.gg T.exC (PySem.W.findObj_own T.hdC hno rfl (by rw [hl, hu])) (handed_of ru) ⟨v, H1, I1.tok _, ru, q⟩
end L2
namespace L2
open PySem PySem.Spec PyProof.Rows
/-! ### isinstance of a kept exception -/
theorem call_isX {X : Cx} : CallR X (.builtin "isinstance") (fun xs H Q => ∃ (a D dd : Addr) (fs : List (Str × V)) (c : V) (cv : Value) (b : Bool), xs = [.ref a, c] ∧ H a = some (ExV (.ref D) (some dd) a) ∧ H dd = some (.xd fs) ∧ ExcC X.K D ∧ (∀ u, RelV c u → u = cv) ∧ PySem.W.kitOne X.K (.ref D) cv = some b ∧ Q (.bl b) H) := by
  intro pins s σ H xs us Q I r h
  obtain ⟨a, D, dd, fs, c, cv, b, rfl, hx, hdd, C, hcv, e, q⟩ := h
  cases r with
  | cons rx rr =>
    cases rr with
    | cons rt rr =>
      cases rr
      cases rx
      have ec := hcv _ rt
      subst ec
      obtain ⟨oe, vs, ha, hz, hd⟩ := exV_at I.hok hx
      have hxd : ObjOk X.prog X.w H s.heap dd (.xd fs) := I.hok dd _ hdd
      obtain ⟨mA, hns, _⟩ := hxd
      obtain ⟨od, ho, _⟩ := lookIn_ns hns
      have J : PySem.W.InstAt s.heap a oe D (some od) := ⟨ha, hz.1, by unfold PySem.W.notCls; rw [hd] <;> rfl, by rw [hz.2]; exact ho⟩
      have hcl : (PySem.W.clsIn X.K D).isSome = true := by
        obtain ⟨cd, hc, _⟩ := PySem.W.any_some C.hd
        rw [hc]; rfl
      exact PySem.W.kia_one (PySem.W.kitx_exc hcl C.hg C.hk C.hs C.ha C.hn C.ht C.hm) I.kIn J e (fun z => nomatch z) fun tk => ⟨.bl b, H, I.kept (t' := tk) fun _ _ z => z, rfl, q⟩
/-! ### repr of data, where no guard is on the stack -/
theorem call_reprD {X : Cx} (hg : X.A.guards = some []) (hu : X.A.units + 64 < cLine) : CallR X (.builtin "repr") (fun xs H Q => ∃ (v : V) (d : PyData), xs = [v] ∧ Dp X.K H v d ∧ d.showable = true ∧ d.hasDict = false ∧ d.depth < 60 ∧ d.shown.length ≤ sizeLine ∧ Q (.str d.shown) H) := by
  intro pins s σ H xs us Q I r h
  obtain ⟨v, d, rfl, hD, hs, hnd, hdp, hsz, q⟩ := h
  cases r with
  | cons rv rr =>
    cases rr
    rename_i u
    have dn : Q (.str d.shown) H → EP X pins σ Q (.str d.shown s.toks) { s with toks := s.toks + 1 } := fun q => ⟨.str d.shown, H, I.tok _, ⟨_, rfl⟩, q⟩
    have rd : ∀ a : Addr, u = Value.ref a → wpAny (model X.prog X.w) X.A (call (.builtin "repr") [u]) (EP X pins σ Q) X.xe s := fun a e => by
      subst e
      obtain ⟨as, hr⟩ := Dp.reads I d v (.ref a) hD rv
      exact repr_of_reads' (h₀ := s.heap) hr hs (PyData.noDict_hsm hnd) hg (by omega) (fun _ _ e => e) (fun h' u tk hk => ⟨.str d.shown, H, I.kept (h' := h') (t' := tk) hk, ⟨_, rfl⟩, q⟩) hsz
    cases hD with
    | non => cases rv; exact PySem.P.repr_of_none (dn q)
    | bl b =>
      cases rv
      have e : (PyData.bool b).shown = (if b then ("True" : Str) else "False") := by cases b <;> rfl
      refine PySem.P.repr_of_bool ?_
      have z := dn q
      rw [e] at z
      cases b <;> exact z
    | int i =>
      obtain ⟨t, rfl⟩ := rv
      exact PySem.P.repr_of_int (of_decide_eq_true hs) (dn q)
    | str x =>
      obtain ⟨t, rfl⟩ := rv
      exact PySem.P.repr_of_str (dn q) hsz
    | lst h1 h2 => exact rd _ rv
    | tup h1 h2 => exact rd _ rv

/-! ### defs that are run where no guard is on the stack: a def's promise at such a call -/
structure FnG (P : Program) (w : World) (K : PySem.W.Frag) (mg : Str → Option Value) (base : Heap) (CX : CXT) (k : Nat) (f : Addr) (fd : FuncData) (ps : List Str) (sp : Sp) : Prop where
  len : ∀ vs H Q E, sp vs H Q E → vs.length = ps.length
  go : ∀ (A : Around) (outer : List Env) (s : Shared) (H : Hp) (args : Args) (us : List Value) (vs : List V) (Q : VK) (E : XK), A.guards = some [] → Room k A → Env0 P w K mg base A outer s H → BindsTo s fd args (ps.zip us) → Vals vs us → sp vs H Q E →
    codeAny (model P w) A (.call (.ref f) args) (CR CX outer P w H s Q E) s
section
variable {CX : CXT} {P : Program} {w : World} {K : PySem.W.Frag} {mg : Str → Option Value} {base : Heap} {N ps : List Str} {qual : Str} {scope : Scope} {f : Addr} {cd : Value} {A : Around} {outer : List Env} {s s' : Shared} {H : Hp} {E : XK} {Q : VK}
/-- what a body hands back -/
def flV : Flow → Value
  | .ret v => v
  | _ => .none
/-- how a body's end is a call's end -/
theorem back_of {fl : Flow} (h : SP (cxOf CX P w K mg base N qual scope f cd A outer s H E) [] { nx := fun _ H' => Q .non H', rt := Q } fl s') : CR CX outer P w H s Q E (.ok (.ret (flV fl))) s' := by
  cases fl with
  | ret u => obtain ⟨v, _, H', J, rv, q⟩ := h; exact ⟨v, H', J.os, J.bare, J.base, J.hok, rv, q⟩
  | next => obtain ⟨_, H', J, q⟩ := h; exact ⟨V.non, H', J.os, J.bare, J.base, J.hok, rfl, q⟩
  | brk => obtain ⟨_, _, _, q⟩ := h; exact False.elim q
  | cont => obtain ⟨_, _, _, q⟩ := h; exact False.elim q
theorem guards_in {env : Env} (h : A.guards = some []) : (A.deeper env).guards = some [] := by
  first
    | exact h
    | (unfold Around.deeper; exact h)
    | simp [Around.deeper, h]
/-- a def of the text, by its body, at such a call -/
theorem Fun.okG {x : Str} {st : Stmt} {fd : FuncData} {k : Nat} {sp : Sp} (F : Fun K x qual st f fd) (S : FnScope N ps (defScope st)) (len : ∀ vs H Q E, sp vs H Q E → vs.length = ps.length)
    (body : ∀ (cdv : Value) (A : Around) (outer : List Env) (s : Shared) (H : Hp) (vs : List V) (Q : VK) (E : XK), (A.deeper (envOfC qual (defScope st) s.heap.objs.size f cdv)).guards = some [] → Room k (A.deeper (envOfC qual (defScope st) s.heap.objs.size f cdv)) → sp vs H Q E →
      ∃ t, PSs (cxOf CX0 P w K mg base N qual (defScope st) f cdv A outer s H E).nox (defBody st) t ∧ t { nx := fun _ H' => Q .non H', rt := Q } (start N vs) H) : FnG P w K mg base CX0 (k + 1) f fd ps sp := by
  obtain ⟨oc, od, kV, doc, pm, an, cdv, ct, osl, rfl, lk, hcd⟩ := F.ex
  refine ⟨len, fun A outer s H args us vs Q E hgd hr e0 hb r hsp => ?_⟩
  have old : ∀ b o, base.get? b = some o → s.heap.get? b = some o := fun b o e => (e0.bs b o e).1
  have KX : K.In s.heap := e0.mod.kin.keeps old
  refine codeAny_call_function hr.depth (KX _ _ lk) rfl S.co S.gen rfl (PySem.W.codeRec_of KX hcd) (hb _ _ _ _ (wpAny_newFunctionEnv_cells S.kind (fun y hy => ?_) fun env he s1 x => ?_))
  · cases y with
    | mk n v =>
      have hn := S.par n (List.of_mem_zip hy).1
      exact hn.imp id fun q => ⟨q, PySem.W.cellsFrom_some _ _ _ (.inl q)⟩
  · subst he
    obtain ⟨t, ht, hq⟩ := body cdv A outer s H vs Q E (guards_in hgd) (hr.deeper _) hsp
    have I := inv_start (CX := CX0) (N := N) (qual := qual) (f := f) (cd := cdv) (E := E) S hr.hd e0 (len _ _ _ _ hsp) r x
    exact ⟨(e0.mod.nolimit.keeps old).keeps x.toInCall.keep, codeAny_func (wpAny_mono (ht.nox.run [] s1 (start N vs) H _ I hq) (fun fl s' hs => by have z := back_of hs; cases fl <;> exact z) fun _ _ z => z)⟩
end
/-! ### the end of a law's row, no guard on the stack, the script's bits told -/
section
variable {K : PySem.W.Frag} {P : Program} {w : World}
/-- the script alone is tracked: locked, where it is no object of the written part -/
theorem script_hp {h : Heap} {a : Addr} {vs : List Value} {ns : List Int} (X : K.In h) (ha : h.get? a = some { cls := .type "list", data := .seq vs.toArray }) (hi : IntsAre vs ns) (hl : ns.length ≤ sizeLine) :
    ∃ H : Hp, (∀ b u, H b = some u → b = a ∧ u = .frz { cls := .type "list", data := .seq vs.toArray } (.lst (ns.map V.int))) ∧ (∀ b o, K.lookup b = some o → H b = none) ∧ SqL K H a (ns.map V.int) ∧ HOk P w H h := by
  have rv := vals_ints hi
  by_cases hk : K.lookup a = none
  · refine ⟨upd (fun _ => none) a (.frz { cls := .type "list", data := .seq vs.toArray } (.lst (ns.map V.int))), fun b u e => ?_, fun b o e => ?_, .inl (.inr ⟨_, upd_same⟩), fun b u e => ?_⟩
    · by_cases hb : b = a
      · subst hb; rw [upd_same] at e; exact ⟨rfl, (Option.some.inj e).symm⟩
      · rw [upd_ne hb] at e; cases e
    · exact upd_ne fun hb => by rw [hb, hk] at e; cases e
    · by_cases hb : b = a
      · subst hb; rw [upd_same] at e; cases e
        exact ⟨ha, by rw [List.length_map]; exact hl, vs, _, rv, ha⟩
      · rw [upd_ne hb] at e; cases e
  · obtain ⟨o, ho⟩ := Option.ne_none_iff_exists'.mp hk
    have e := X a o ho
    rw [ha] at e
    cases e
    refine ⟨fun _ => none, fun b u e => (nomatch e), fun _ _ _ => rfl, .inr ⟨_, vs.toArray, _, ho, rfl, rfl, rfl, ?_, by simpa using rv⟩, fun b u e => (nomatch e)⟩
    have := hi.length
    rw [List.size_toArray]; omega
theorem walk_G {l : PySem.W.OpenLaw} {n k : Nat} {q : Program} {loose : List Str} {XP : (Str → Option Value) → Heap → Prop} {YP : World → Heap → Prop} {d : DefRec} {K : Params → PySem.W.Frag} {sp : World → Sp} {x : Str}
    (hn : l.most = some n) (hn2 : n ≤ sizeLine) (hdf : d.params.defaults = []) (hr : Room k callerA) (hY : ∀ (w : World) (h : Heap), YP w h → (K w.params).In h)
    (F : ∀ (w : World) (mg : Str → Option Value) (fa : Addr) (h : Heap), (K w.params).In h → h.Ns mainGlobals mg → mg d.name = some (.ref fa) →
      ∃ fd : FuncData, (∀ (s : Shared) (u : Value), BindsTo s fd ⟨[u], []⟩ [(x, u)]) ∧ ∀ base : Heap, (K w.params).In base → base.Ns mainGlobals mg → FnG l.prog w (K w.params) mg base CX0 k fa fd [x] (sp w))
    (hsp : ∀ (w : World) (H : Hp) (a : Addr) (ns : List Int), ns.length ≤ n → (∀ z ∈ ns, Builtin.Int.intBits z ≤ 1048576) → SqL (K w.params) H a (ns.map V.int) → sp w [.ref a] H (fun v _ => v = .bl true) fun _ _ _ => False) :
    PySem.W.WalkO q loose XP YP l.row.toRowW d [] (fun f vs => PySem.call f vs) := by
  refine Att.attach_callB hn hdf fun w s₀ s₁ mg mb fa o pm cd doc a vs ns G Y ho hd hcd hmg hobj hints hlen hbits hg => ?_
  have KX := hY w _ Y
  obtain ⟨fd, hb, hF⟩ := F w mg fa _ KX G.T.g hmg
  obtain ⟨H, hO, hK, hS, hok⟩ := script_hp (P := l.prog) (w := w) KX hobj hints (Nat.le_trans hlen hn2)
  have free : ∀ {b : Addr} {u : Obj}, s₁.heap.get? b = some u → (∀ its m, u.data ≠ .seq its m) → H b = none := fun {b u} e nd => by
    cases z : H b with
    | none => rfl
    | some v =>
      obtain ⟨eb, _⟩ := hO b v z
      rw [eb, hobj] at e
      cases e
      exact absurd rfl (nd _ _)
  have ns' : ∀ {b : Addr} {m : Str → Option Value}, s₁.heap.Ns b m → (hidT s₁.heap H).Ns b m := fun {b m} ⟨u, es, ep, e, dd, r⟩ => ⟨u, es, ep, hidT_get e (free e fun its m z => by rw [dd] at z; cases z), dd, r⟩
  have KB : (K w.params).In (hidT s₁.heap H) := fun b u e => hidT_get (KX b u e) (hK b u e)
  have M : Mod (K w.params) mg (hidT s₁.heap H) := ⟨KB, ns' G.T.g, ⟨mb, ns' G.T.b, G.T.builtins⟩, G.T.nolimit.imp fun _ z => ⟨ns' z.1, z.2⟩⟩
  have e0 : Env0 l.prog w (K w.params) mg (hidT s₁.heap H) callerA [] s₁ H := ⟨rfl, M, fun b u e => of_hidT e, Nat.le_of_eq (hidT_size _ _), trivial, fun b hb => (nomatch hb), hok, .of_eq hg⟩
  refine codeAny_mono ((hF _ KB (ns' G.T.g)).go callerA [] s₁ H ⟨[.ref a], []⟩ [.ref a] [.ref a] _ _ rfl hr e0 (hb s₁ (.ref a)) (.cons rfl .nil) (hsp w H a ns hlen hbits hS)) fun r s' h => ?_
  rcases r with e | (u | _ | _ | _)
  · exact False.elim h
  · exact False.elim h
  · exact False.elim h
  · exact False.elim h
  · obtain ⟨v, H', os, bare, un, hok', r', q⟩ := h
    have q' : v = .bl true := q
    subst q'
    cases r'
    refine ⟨rfl, OldK.of_keep fun b u e => ?_, os, bare⟩
    cases z : H b with
    | none => exact un.keep b u e z (fun z => nomatch z) (fun z => nomatch z)
    | some t =>
      obtain ⟨eb, et⟩ := hO b t z
      subst et
      obtain ⟨e1, _⟩ := hok b _ z
      obtain ⟨e2, _⟩ := hok' b _ (un.frzs b _ _ z)
      exact e2.trans (e1.symm.trans e)
end
end L2
namespace Tug
open PySem L2
/-! ### the steps of a reading -/
section
variable {K : PySem.W.Frag} {σ : St} {H H1 : Hp} {Q : VK} {i : Nat} {v x y : V} {ta tb te : TE} {r : R2} {D : Ends} {t u : TS} {p q : Addr} {xs ys : List V} {c : TT} {tt : TA} {E : XK} {sp : Sp}
theorem rd_var (h : σ[i]? = some (some v)) (k : Q v H) : tVar i σ H Q := ⟨v, h, k⟩
theorem rd_c (k : Q v H) : tC v σ H Q := k
theorem rd_op (k : ta σ H fun x H1 => tb σ H1 fun y H2 => r x y H2 Q) : tOp r ta tb σ H Q := k
theorem rd_un {r : V → Hp → VK → Prop} (k : ta σ H fun x H1 => r x H1 Q) : tUn r ta σ H Q := k
theorem rd_neg {a : Int} (k : Q (.int (-a)) H) : rU (fun i => .int (-i)) (.int a) H Q := ⟨a, rfl, k⟩
theorem rd_I0 {g : Int → Int → V} {a b : Int} (k : Q (g a b) H) : rI0 g (.int a) (.int b) H Q := ⟨a, b, rfl, rfl, k⟩
theorem rd_I {C : Int → Int → Prop} {g : Int → Int → V} {a b : Int} (h : C a b) (k : Q (g a b) H) : rI C g (.int a) (.int b) H Q := ⟨a, b, rfl, rfl, h, k⟩
theorem rd_eq (h : scal x y = true) (k : Q (.bl (decide (x = y))) H) : rEq x y H Q := ⟨h, k⟩
theorem rd_ne (h : scal x y = true) (k : Q (.bl (!decide (x = y))) H) : rNe x y H Q := ⟨h, k⟩
theorem rd_nil {Q : List V → Hp → Prop} (k : Q [] H) : tNil σ H Q := k
theorem rd_cons {Q : List V → Hp → Prop} (k : ta σ H fun x H1 => tt σ H1 fun xs H2 => Q (x :: xs) H2) : tCons ta tt σ H Q := k
theorem rd_ixL {a : Int} (h : SqL K H p xs) (e : atI xs a = some v) (k : Q v H) : rIxL K (.ref p) (.int a) H Q := ⟨p, xs, a, v, rfl, rfl, h, e, k⟩
theorem rd_ixT {a : Int} (h : SqT K H p xs) (e : atI xs a = some v) (k : Q v H) : rIxT K (.ref p) (.int a) H Q := ⟨p, xs, a, v, rfl, rfl, h, e, k⟩
theorem rd_tup (k : tt σ H fun xs H1 => xs.length ≤ sizeLine ∧ ∀ p, H1 p = none → Q (.ref p) (upd H1 p (.tup xs))) : tTup tt σ H Q := k
theorem rd_lst (k : tt σ H fun xs H1 => xs.length ≤ sizeLine ∧ ∀ p, H1 p = none → Q (.ref p) (upd H1 p (.lst xs))) : tLst tt σ H Q := k
theorem rd_asg {g : TG} (k : te σ H fun x H1 => g x σ H1 D.nx) : tAsg te g D σ H := k
theorem rd_gname {R : St → Hp → Prop} (k : R (σ.set i (some v)) H) : gName i v σ H R := k
theorem rd_gsub {ti to : TE} {s : TSet} {R : St → Hp → Prop} (k : to σ H fun o H1 => ti σ H1 fun i H2 => s o i v H2 fun H3 => R σ H3) : gSub to ti s v σ H R := k
theorem rd_setL {a : Int} {j : Nat} {R : Hp → Prop} (h : H p = some (.lst xs)) (e : ixN xs.length a = some j) (k : R (upd H p (.lst (xs.set j v)))) : rSetL (.ref p) (.int a) v H R := ⟨p, xs, a, j, rfl, rfl, h, e, k⟩
theorem rd_seq (k : t { D with nx := u D } σ H) : tSeq t u D σ H := k
theorem rd_ret (k : te σ H D.rt) : tRet te D σ H := k
theorem rd_drop (k : te σ H fun _ H1 => D.nx σ H1) : tDrop te D σ H := k
theorem rd_next (k : D.nx σ H) : tNext D σ H := k
theorem rd_if (k : c σ H fun b H1 => if b = true then t D σ H1 else u D σ H1) : tIfS c t u D σ H := k
theorem rd_test {R : Bool → Hp → Prop} (k : te σ H fun x H' => ∃ k, x = .bl k ∧ R k H') : tTest te σ H R := k
theorem rd_B {R : Bool → Hp → Prop} (k : te σ H fun x H' => ∃ k, x = .bl k ∧ R k H') : tB te σ H R := k
theorem rd_bl {b : Bool} {R : Bool → Hp → Prop} (k : R b H) : ∃ c, V.bl b = .bl c ∧ R c H := ⟨b, rfl, k⟩
theorem rd_and {c d : TT} {R : Bool → Hp → Prop} (k : c σ H fun b H1 => if b = true then d σ H1 R else R false H1) : tAnd c d σ H R := k
theorem rd_or {c d : TT} {R : Bool → Hp → Prop} (k : c σ H fun b H1 => if b = true then R true H1 else d σ H1 R) : tOr c d σ H R := k
theorem rd_not {R : Bool → Hp → Prop} (k : c σ H fun b H1 => R (!b) H1) : tNot c σ H R := k
theorem rd_ifE (k : c σ H fun b H1 => if b = true then ta σ H1 Q else tb σ H1 Q) : tIf c ta tb σ H Q := k
theorem rd_call {dvs : List V} (k : tt σ H fun vs H1 => sp (vs ++ dvs) H1 Q E) : tCall sp dvs E tt σ H Q := k
theorem rd_cb {r : List V → Hp → VK → Prop} (k : tt σ H fun vs H1 => r vs H1 Q) : tCB r tt σ H Q := k
theorem rd_forL {g : TG} {tb : TS} (hv : σ[i]? = some (some (.ref p))) (hS : SqL K H p xs) (Pv : Nat → St → Hp → Prop) (h0 : Pv 0 σ H) (hl : ∀ i σ H, i ≤ xs.length → Pv i σ H → SqL K H p xs)
    (hs : ∀ i x σ H, xs[i]? = some x → Pv i σ H → g x σ H fun σ2 H2 => tb { D with nx := Pv (i + 1), ct := Pv (i + 1), bk := D.nx } σ2 H2) (hd : ∀ σ H, Pv xs.length σ H → D.nx σ H) : tFor (iList K (tVar i)) g tb D σ H :=
  ⟨_, hv, p, rfl, ⟨_, hS⟩, for_list Pv h0 hl hs hd⟩
theorem rd_nx {X b c : St → Hp → Prop} {r : VK} (k : X σ H) : (Ends.mk X r b c).nx σ H := k
theorem rd_decY {c A B : Prop} [Decidable c] (h : c) (k : A) : if decide c = true then A else B := by
  rw [decide_eq_true h, if_pos rfl]; exact k
theorem rd_decF {c A B : Prop} [Decidable c] (h : ¬ c) (k : B) : if decide c = true then A else B := by
  rw [decide_eq_false h, if_neg Bool.false_ne_true]; exact k
theorem rd_yes {R : Bool → Hp → Prop} (k : R true H) : tYes σ H R := k
theorem rd_dec {c A B : Prop} [Decidable c] (h1 : c → A) (h2 : ¬ c → B) : if decide c = true then A else B := by
  by_cases h : c
  · rw [decide_eq_true h, if_pos rfl]; exact h1 h
  · rw [decide_eq_false h, if_neg Bool.false_ne_true]; exact h2 h
theorem rd_decN {c A B : Prop} [Decidable c] (h1 : ¬ c → A) (h2 : c → B) : if (!decide c) = true then A else B := by
  by_cases h : c
  · rw [decide_eq_true h]; exact iteF (h2 h)
  · rw [decide_eq_false h]; exact iteT (h1 h)
theorem rd_sz {A : Prop} {n : Nat} (h : n ≤ 1000) (k : A) : n ≤ sizeLine ∧ A := ⟨Nat.le_trans h (by decide), k⟩
end
/-! ### calls of built-ins, their readings by name -/
def rLen (K : PySem.W.Frag) : List V → Hp → VK → Prop := fun xs H Q => ∃ p ys, xs = [.ref p] ∧ (SqL K H p ys ∨ SqT K H p ys) ∧ Q (.int ys.length) H
theorem call_len {X : Cx} : CallR X (.builtin "len") (rLen X.K) := call_len_seq
def rTupOf (K : PySem.W.Frag) : List V → Hp → VK → Prop := fun xs H Q => ∃ p ys, xs = [.ref p] ∧ ((SqL K H p ys ∧ ∀ l, H l = none → Q (.ref l) (upd H l (.tup ys))) ∨ (SqT K H p ys ∧ Q (.ref p) H))
theorem call_tupOf {X : Cx} : CallR X (.type "tuple") (rTupOf X.K) := call_tuple_of
def rMax2 : List V → Hp → VK → Prop := fun xs H Q => ∃ i j, xs = [.int i, .int j] ∧ Q (.int (if j > i then j else i)) H
theorem call_max {X : Cx} (hc : X.calm = true) : CallR X (.builtin "max") rMax2 := call_max2 hc
def rMin2 : List V → Hp → VK → Prop := fun xs H Q => ∃ i j, xs = [.int i, .int j] ∧ Q (.int (if j < i then j else i)) H
theorem call_min {X : Cx} (hc : X.calm = true) : CallR X (.builtin "min") rMin2 := call_min2 hc
def rRepr (K : PySem.W.Frag) : List V → Hp → VK → Prop := fun xs H Q => ∃ (v : V) (d : PyData), xs = [v] ∧ Dp K H v d ∧ d.showable = true ∧ d.hasDict = false ∧ d.depth < 60 ∧ d.shown.length ≤ sizeLine ∧ Q (.str d.shown) H
theorem call_repr {X : Cx} (hg : X.A.guards = some []) (hu : X.A.units + 64 < cLine) : CallR X (.builtin "repr") (rRepr X.K) := call_reprD hg hu
def rIsX (K : PySem.W.Frag) : List V → Hp → VK → Prop := fun xs H Q => ∃ (a D dd : Addr) (fs : List (Str × V)) (c : V) (cv : Value) (b : Bool), xs = [.ref a, c] ∧ H a = some (ExV (.ref D) (some dd) a) ∧ H dd = some (.xd fs) ∧ ExcC K D ∧ (∀ u, RelV c u → u = cv) ∧ PySem.W.kitOne K (.ref D) cv = some b ∧ Q (.bl b) H
theorem call_isx {X : Cx} : CallR X (.builtin "isinstance") (rIsX X.K) := call_isX
section
variable {K : PySem.W.Frag} {H : Hp} {Q : VK} {p : Addr} {xs : List V} {v : V} {d : PyData}
theorem rd_lenL (h : SqL K H p xs) (k : Q (.int xs.length) H) : rLen K [.ref p] H Q := ⟨p, xs, rfl, .inl h, k⟩
theorem rd_lenT (h : SqT K H p xs) (k : Q (.int xs.length) H) : rLen K [.ref p] H Q := ⟨p, xs, rfl, .inr h, k⟩
theorem rd_tupOf (h : SqL K H p xs) (k : ∀ l, H l = none → Q (.ref l) (upd H l (.tup xs))) : rTupOf K [.ref p] H Q := ⟨p, xs, rfl, .inl ⟨h, k⟩⟩
theorem rd_max {a b : Int} (k : Q (.int (if b > a then b else a)) H) : rMax2 [.int a, .int b] H Q := ⟨a, b, rfl, k⟩
theorem rd_min {a b : Int} (k : Q (.int (if b < a then b else a)) H) : rMin2 [.int a, .int b] H Q := ⟨a, b, rfl, k⟩
theorem rd_repr (h : Dp K H v d) (h1 : d.showable = true) (h2 : d.hasDict = false) (h3 : d.depth < 60) (h4 : d.shown.length ≤ sizeLine) (k : Q (.str d.shown) H) : rRepr K [v] H Q := ⟨v, d, rfl, h, h1, h2, h3, h4, k⟩
end
/-! ### great powers -/
/-- ** by a small exponent, of at most forty million bits -/
def CPowW (i j : Int) : Prop := 0 ≤ j ∧ j ≤ 5 ∧ i.natAbs.log2 < 20000000
theorem CPowW.ok {i j : Int} (h : CPowW i j) : (Builtin.Int.intBits i : Int) * j ≤ 2 ^ 27 := by
  have b : Builtin.Int.intBits i ≤ i.natAbs.log2 + 1 := by
    unfold Builtin.Int.intBits
    split <;> omega
  obtain ⟨h0, h1, h2⟩ := h
  have h3 : (Builtin.Int.intBits i : Int) ≤ 20000000 := by omega
  have h4 : (Builtin.Int.intBits i : Int) * j ≤ 20000000 * 5 := Int.mul_le_mul h3 h1 h0 (by decide)
  have e : (2 : Int) ^ 27 = 134217728 := by decide
  omega
theorem op_powW {X : Cx} : OpR X (binaryOp .Pow) (rI CPowW fun i j => .int (i ^ j.toNat)) := opI fun _ _ _ _ _ _ _ hc q => PyProof.Rows.pow_int hc.1 hc.ok q
theorem CPowW.of {i j : Int} (h0 : 0 ≤ j) (h1 : j ≤ 5) (h2 : -(2 ^ 64) < i) (h3 : i < 2 ^ 64) : CPowW i j := by
  refine ⟨h0, h1, ?_⟩
  have e : i.natAbs < 2 ^ 64 := by omega
  have := PySem.Flt.log2_lt_of (k := 64) (by decide) e
  omega
theorem bits_lt {z : Int} : z.natAbs < 2 ^ (Builtin.Int.intBits z) := by
  unfold Builtin.Int.intBits
  split
  · rename_i h
    have e : z = 0 := by first | exact h | (simpa using h)
    subst e
    decide
  · exact Nat.lt_log2_self
theorem CPowW.add {x z j : Int} (h0 : 0 ≤ j) (h1 : j ≤ 5) (h2 : -(2 ^ 64) < x) (h3 : x < 2 ^ 64) (hz : Builtin.Int.intBits z ≤ 1048576) : CPowW (x + z) j := by
  refine ⟨h0, h1, ?_⟩
  have a1 : z.natAbs < 2 ^ 1048577 := Nat.lt_of_lt_of_le bits_lt (Nat.pow_le_pow_right (by decide) (by omega))
  have a2 : x.natAbs < 2 ^ 64 := by omega
  have a3 : (2 : Nat) ^ 64 ≤ 2 ^ 1048577 := Nat.pow_le_pow_right (by decide) (by decide)
  have a4 : (x + z).natAbs < 2 ^ 1048578 := by
    rw [Nat.pow_succ]
    generalize (2 : Nat) ^ 1048577 = B at *
    omega
  have := PySem.Flt.log2_lt_of (k := 1048578) (by decide) a4
  omega
/-! ### the well: a list of two numbers -/
def Well (H : Hp) (p : Addr) : Prop := ∃ a b : Int, H p = some (.lst [.int a, .int b]) ∧ 0 ≤ a ∧ 0 ≤ b ∧ b < 2147483648
/-- H' is H but at p -/
def But (p : Addr) (H H' : Hp) : Prop := ∀ c, c ≠ p → H' c = H c
theorem But.refl (p : Addr) (H : Hp) : But p H H := fun _ _ => rfl
theorem But.trans {p : Addr} {H H1 H2 : Hp} (a : But p H H1) (b : But p H1 H2) : But p H H2 := fun c h => (b c h).trans (a c h)
theorem But.upd {p : Addr} {H : Hp} {o : HO} : But p H (upd H p o) := fun _ h => upd_ne h
/-- a list or a tuple that is read -/
def Sq (K : PySem.W.Frag) (H : Hp) (q : Addr) (xs : List V) : Prop := SqL K H q xs ∨ SqT K H q xs
theorem Rd.but {p q : Addr} {H H' : Hp} {u : HO} (h : Rd H q u) (n : q ≠ p) (b : But p H H') : Rd H' q u := by
  rcases h with h | ⟨o, h⟩
  · exact .inl ((b q n).trans h)
  · exact .inr ⟨o, (b q n).trans h⟩
theorem SqL.but {K : PySem.W.Frag} {p q : Addr} {H H' : Hp} {xs : List V} (h : SqL K H q xs) (n : q ≠ p) (b : But p H H') : SqL K H' q xs := h.elim (fun h => .inl (Rd.but h n b)) .inr
theorem SqT.but {K : PySem.W.Frag} {p q : Addr} {H H' : Hp} {xs : List V} (h : SqT K H q xs) (n : q ≠ p) (b : But p H H') : SqT K H' q xs := h.elim (fun h => .inl (Rd.but h n b)) .inr
theorem Sq.but {K : PySem.W.Frag} {p q : Addr} {H H' : Hp} {xs : List V} (h : Sq K H q xs) (n : q ≠ p) (b : But p H H') : Sq K H' q xs := h.elim (fun h => .inl (SqL.but h n b)) fun h => .inr (SqT.but h n b)
theorem rd_ixQ {K : PySem.W.Frag} {p : Addr} {H : Hp} {xs : List V} {i : Int} {v : V} {Q : VK} (h : Sq K H p xs) (e : atI xs i = some v) (k : Q v H) : rIx K (.ref p) (.int i) H Q :=
  h.elim (fun h => .inl ⟨p, xs, i, v, rfl, rfl, h, e, k⟩) fun h => .inr (.inl ⟨p, xs, i, v, rfl, rfl, h, e, k⟩)
theorem rd_lenQ {K : PySem.W.Frag} {p : Addr} {H : Hp} {xs : List V} {Q : VK} (h : Sq K H p xs) (k : Q (.int xs.length) H) : rLen K [.ref p] H Q := ⟨p, xs, rfl, h, k⟩
/-- a divisor of at most some hundred figures -/
abbrev Dv (m : Int) : Prop := 0 < m ∧ m < 10 ^ 70
theorem Dv.w {i m : Int} (h : Dv m) : CDivW i m := by
  refine wide_div (b := 240) h.1 ?_ (by decide) (by decide)
  have h1 := h.1
  have h2 : m < (10 : Int) ^ 70 := h.2
  omega
theorem getInt {ns : List Int} {i : Nat} {y : V} (h : (ns.map V.int)[i]? = some y) : ∃ z, ns[i]? = some z ∧ y = V.int z := by
  rw [List.getElem?_map] at h
  cases e : ns[i]? with
  | none =>
    rw [e] at h
    cases h
  | some z =>
    rw [e] at h
    exact ⟨z, rfl, (Option.some.inj h).symm⟩
theorem atI_of {α : Type} {xs : List α} {i : Int} {v : α} (h0 : 0 ≤ i) (h : xs[i.toNat]? = some v) : atI xs i = some v := by
  have hl : i.toNat < xs.length := (List.getElem?_eq_some_iff.mp h).1
  unfold atI ixN
  rw [if_pos h0, if_pos (by omega), Option.bind_some]
  exact h
theorem atI_in {α : Type} {xs : List α} {i : Int} (h0 : 0 ≤ i) (h1 : i < xs.length) : ∃ v ∈ xs, atI xs i = some v := by
  have hl : i.toNat < xs.length := by omega
  exact ⟨xs[i.toNat], List.getElem_mem hl, atI_of h0 (List.getElem?_eq_getElem hl)⟩
/-! ### data in the heap -/
/-- all that was tracked is as it was, but at p -/
def Keep (p : Addr) (H H' : Hp) : Prop := ∀ c o, c ≠ p → H c = some o → H' c = some o
theorem Keep.refl (p : Addr) (H : Hp) : Keep p H H := fun _ _ _ e => e
theorem Keep.trans {p : Addr} {H H1 H2 : Hp} (a : Keep p H H1) (b : Keep p H1 H2) : Keep p H H2 := fun c o n e => b c o n (a c o n e)
theorem But.keep {p : Addr} {H H' : Hp} (b : But p H H') : Keep p H H' := fun c o n e => (b c n).trans e
theorem Same.keep {p : Addr} {H H' : Hp} (b : Same H H') : Keep p H H' := fun c o _ e => b c o e
theorem Keep.new {p a : Addr} {H : Hp} {o : HO} (h : H a = none) : Keep p H (upd H a o) := fun c u _ e => by rw [upd_ne (ne_of_none e h)]; exact e
/-- the heap without p -/
def hid (p : Addr) (H : Hp) : Hp := fun b => if b = p then none else H b
theorem hid_at {p : Addr} {H : Hp} {b : Addr} {o : HO} (h : hid p H b = some o) : b ≠ p ∧ H b = some o := by
  unfold hid at h
  split at h
  · cases h
  · rename_i n
    exact ⟨n, h⟩
theorem hid_of {p : Addr} {H : Hp} {b : Addr} {o : HO} (n : b ≠ p) (h : H b = some o) : hid p H b = some o := by
  unfold hid
  rw [if_neg n]
  exact h
theorem Keep.hid {p : Addr} {H H' : Hp} (k : Keep p H H') : Same (hid p H) (hid p H') := fun b o e => by
  obtain ⟨n, h⟩ := hid_at e
  exact hid_of n (k b o n h)
theorem hid_sub {p : Addr} {H : Hp} : Same (hid p H) H := fun b o e => (hid_at e).2
/-- what is new in B, seen from A -/
def nw (A B : Hp) : Hp := fun b => match A b with
  | some _ => none
  | none => B b
theorem nw_at {A B : Hp} {b : Addr} {o : HO} (h : nw A B b = some o) : A b = none ∧ B b = some o := by
  unfold nw at h
  cases e : A b with
  | some _ => rw [e] at h; cases h
  | none => rw [e] at h; exact ⟨rfl, h⟩
theorem nw_of {A B : Hp} {b : Addr} {o : HO} (h : A b = none) (h2 : B b = some o) : nw A B b = some o := by
  unfold nw
  rw [h]
  exact h2
theorem nw_same {A B A' B' : Hp} (h : ∀ b o, A b = none → B b = some o → A' b = none ∧ B' b = some o) : Same (nw A B) (nw A' B') := fun b o e => by
  obtain ⟨h1, h2⟩ := nw_at e
  obtain ⟨h3, h4⟩ := h b o h1 h2
  exact nw_of h3 h4
theorem nw_sub {A B : Hp} : Same (nw A B) B := fun b o e => (nw_at e).2
/-- what is tracked stays tracked -/
def Dom (A B : Hp) : Prop := ∀ b, B b = none → A b = none
theorem Keep.dom {p : Addr} {A B : Hp} (k : Keep p A B) (hp : B p ≠ none) : Dom A B := fun b h => by
  by_cases e : b = p
  · exact absurd (e ▸ h) hp
  · cases q : A b with
    | none => rfl
    | some o =>
      rw [k b o e q] at h
      cases h
theorem Well.some {H : Hp} {p : Addr} (w : Well H p) : H p ≠ none := by
  obtain ⟨a, b, e, _⟩ := w
  rw [e]
  exact fun z => nomatch z
theorem Well.upd {H : Hp} {p q : Addr} {o : HO} (w : Well H p) (h : H q = none) : Well (upd H q o) p := by
  obtain ⟨a, b, e, r⟩ := w
  exact ⟨a, b, by rw [upd_ne (ne_of_none e h)]; exact e, r⟩
theorem SqL.same {K : PySem.W.Frag} {q : Addr} {H H' : Hp} {xs : List V} (h : SqL K H q xs) (s : Same H H') : SqL K H' q xs := s.seq h
theorem SqT.same {K : PySem.W.Frag} {q : Addr} {H H' : Hp} {xs : List V} (h : SqT K H q xs) (s : Same H H') : SqT K H' q xs := by
  rcases h with (h | ⟨o, h⟩) | h
  · exact .inl (.inl (s _ _ h))
  · exact .inl (.inr ⟨o, s _ _ h⟩)
  · exact .inr h
mutual
theorem Dp.same {K : PySem.W.Frag} {H H' : Hp} (s : Same H H') : ∀ {v : V} {d : PyData}, Dp K H v d → Dp K H' v d
  | _, _, .non => .non
  | _, _, .bl b => .bl b
  | _, _, .int i => .int i
  | _, _, .str x => .str x
  | _, _, .lst h a => .lst (SqL.same h s) (DpAll.same s a)
  | _, _, .tup h a => .tup (SqT.same h s) (DpAll.same s a)
theorem DpAll.same {K : PySem.W.Frag} {H H' : Hp} (s : Same H H') : ∀ {vs : List V} {ds : List PyData}, DpAll K H vs ds → DpAll K H' vs ds
  | _, _, .nil => .nil
  | _, _, .cons a r => .cons (Dp.same s a) (DpAll.same s r)
end
theorem DpAll.app {K : PySem.W.Frag} {H : Hp} {v : V} {d : PyData} : ∀ {vs : List V} {ds : List PyData}, DpAll K H vs ds → Dp K H v d → DpAll K H (vs ++ [v]) (ds ++ [d])
  | _, _, .nil, h => .cons h .nil
  | _, _, .cons a r, h => .cons a (DpAll.app r h)
/-- data that may be shown, at most n deep -/
structure Good (n : Nat) (d : PyData) : Prop where
  sh : d.showable = true
  nd : d.hasDict = false
  dp : d.depth ≤ n
  ln : d.shown.length + 20 ≤ 120 * 2 ^ n
theorem Good.up {n : Nat} {d : PyData} (g : Good n d) : Good (n + 1) d := ⟨g.sh, g.nd, by have := g.dp; omega, by have := g.ln; rw [Nat.pow_succ]; omega⟩
theorem textFrom_le : ∀ (ts : List Str) (k : Nat) (acc : Str), (textFrom k acc ts).length ≤ acc.length + piled ts
  | [], k, acc => by show acc.length ≤ _; omega
  | t :: r, k, acc => by
    have h := textFrom_le r (k + 1) (acc ++ (if k > 0 then ", " else "" : String) ++ t)
    have e : (((if k > 0 then ", " else "" : String) : Str)).length ≤ 2 := by split <;> decide
    rw [strLen_append, strLen_append] at h
    rw [piled_cons]
    show (textFrom (k + 1) _ r).length ≤ _
    omega
theorem listText_le (ts : List Str) : (listText ts).length ≤ piled ts + 2 := by
  have h := textFrom_le ts 0 "["
  unfold listText
  rw [strLen_append]
  have e1 : ((("[" : String) : Str)).length = 1 := rfl
  have e2 : ((("]" : String) : Str)).length = 1 := rfl
  omega
theorem tupleText_le (ts : List Str) : (tupleText ts).length ≤ piled ts + 3 := by
  unfold tupleText
  rw [strLen_append, strLen_append]
  have e1 : ((("(" : String) : Str)).length = 1 := rfl
  have e3 : (((if ts.length == 1 then ",)" else ")" : String) : Str)).length ≤ 2 := by split <;> decide
  have e2 : (Str.join ", " ts).length ≤ piled ts := by
    by_cases h : ts = []
    · subst h; decide
    · have := join_length_add ts h
      omega
  omega
theorem int_shown {i : Int} {k : Nat} (hk : 0 < k) (h : i.natAbs < 10 ^ k) : (PyData.int i).shown.length ≤ k + 1 := by
  show (Str.ofString (toString i)).length ≤ _
  rw [ofString_length]
  exact int_text_length_le10 hk h
theorem int_showable {i : Int} (h : i.natAbs < 10 ^ 500) : (PyData.int i).showable = true := by
  have e : i.natAbs < 2 ^ 1900 := Nat.lt_trans h (by decide +kernel)
  have := PySem.Flt.log2_lt_of (k := 1900) (by decide) e
  exact decide_eq_true (by omega)
/-! ### kept refusals -/
/-- at a: a kept refusal of the class at C, its one field f is v -/
def ExAt (C : Addr) (f : Str) (H : Hp) (a : Addr) (v : V) : Prop := ∃ dd, H a = some (ExV (.ref C) (some dd) a) ∧ H dd = some (.xd [(f, v)])
theorem ExAt.same {C a : Addr} {f : Str} {H H' : Hp} {v : V} (h : ExAt C f H a v) (s : Same H H') : ExAt C f H' a v := by
  obtain ⟨dd, h1, h2⟩ := h
  exact ⟨dd, s _ _ h1, s _ _ h2⟩
theorem rd_forR {ta : TA} {g : TG} {tb : TS} {D : Ends} {σ : St} {H : Hp} (k : ta σ H fun vs H1 => ∃ j : Int, vs = [.int j] ∧ -(2 ^ 62) ≤ j ∧ j < 2 ^ 62 ∧ ∃ W : Nat → Nat → St → Hp → Prop, (∃ m, W 0 m σ H1) ∧ ∀ i m σ H, W i m σ H →
    ((Itr 0 j.toNat).stop i H ∧ D.nx σ H) ∨ ((Itr 0 j.toNat).go i H ∧ ∃ N : St → Hp → Prop, (∀ σ' H', N σ' H' → ∃ m', m' < m ∧ W (i + 1) m' σ' H') ∧ ∀ x H', (Itr 0 j.toNat).yld i H x H' → g x σ H' fun σ2 H2 => tb { D with nx := N, ct := N, bk := D.nx } σ2 H2)) : tFor (iRng1 ta) g tb D σ H := k
theorem rd_forI {K : PySem.W.Frag} {te : TE} {g : TG} {tb : TS} {D : Ends} {σ : St} {H : Hp} (k : te σ H fun x H1 => ∃ a, x = .ref a ∧ (∃ xs, SqL K H1 a xs) ∧ ∃ W : Nat → Nat → St → Hp → Prop, (∃ m, W 0 m σ H1) ∧ ∀ i m σ H, W i m σ H →
    ((Itl K a).stop i H ∧ D.nx σ H) ∨ ((Itl K a).go i H ∧ ∃ N : St → Hp → Prop, (∀ σ' H', N σ' H' → ∃ m', m' < m ∧ W (i + 1) m' σ' H') ∧ ∀ x H', (Itl K a).yld i H x H' → g x σ H' fun σ2 H2 => tb { D with nx := N, ct := N, bk := D.nx } σ2 H2)) : tFor (iList K te) g tb D σ H := k
theorem rd_par {i j : Nat} {ta : TA} {D : Ends} {σ : St} {H : Hp} (k : ta σ H fun vs H1 => ∃ v w, vs = [v, w] ∧ D.nx ((σ.set i (some v)).set j (some w)) H1) : tPar i j ta D σ H := k
theorem rd_gtup {K : PySem.W.Frag} {n : Nat} {t : TGs} {a : Addr} {xs : List V} {σ : St} {H : Hp} {R : St → Hp → Prop} (h : SqT K H a xs) (hl : xs.length = n) (k : t xs σ H R) : gTup K n t (.ref a) σ H R := ⟨a, xs, rfl, h, hl, k⟩
theorem rd_gcons {t : TG} {u : TGs} {v : V} {r : List V} {σ : St} {H : Hp} {R : St → Hp → Prop} (k : t v σ H fun σ' H' => u r σ' H' R) : gCons t u (v :: r) σ H R := ⟨v, r, rfl, k⟩
theorem rd_gnil {σ : St} {H : Hp} {R : St → Hp → Prop} (k : R σ H) : gNil [] σ H R := ⟨rfl, k⟩
theorem rd_neD {K : PySem.W.Frag} {x y : V} {d e : PyData} {H : Hp} {Q : VK} (h1 : Dp K H x d) (h2 : Dp K H y e) (s1 : SeqAt.shaped d = true) (s2 : SeqAt.shaped e = true) (k : Q (.bl (!PyData.eqv d e)) H) : rNeD K x y H Q := ⟨d, e, h1, h2, s1, s2, k⟩
theorem rd_cat {p q : Addr} {xs ys : List V} {H : Hp} {Q : VK} (h1 : H p = some (.lst xs)) (h2 : H q = some (.lst ys)) (hl : xs.length + ys.length ≤ 1000) (k : ∀ l, H l = none → Q (.ref l) (upd H l (.lst (xs ++ ys)))) : rCat (.ref p) (.ref q) H Q := ⟨p, q, xs, ys, rfl, rfl, h1, h2, Nat.le_trans hl (by decide), k⟩
theorem Same.new {a : Addr} {H : Hp} {o : HO} (h : H a = none) : Same H (upd H a o) := fun c u e => by rw [upd_ne (ne_of_none e h)]; exact e
theorem kept_end {C a d : Addr} {f : Str} {H : Hp} {v : V} (hd : H d = none) (ha : upd H d (.xd [(f, v)]) a = none) :
    ExAt C f (upd (upd H d (.xd [(f, v)])) a (ExV (.ref C) (some d) a)) a v ∧ Same H (upd (upd H d (.xd [(f, v)])) a (ExV (.ref C) (some d) a)) := by
  have nd : d ≠ a := ne_of_none upd_same ha
  refine ⟨⟨d, upd_same, by rw [upd_ne nd, upd_same]⟩, fun b o e => ?_⟩
  have n1 : b ≠ d := ne_of_none e hd
  have n2 : b ≠ a := ne_of_none ((upd_ne n1).trans e) ha
  rw [upd_ne n2, upd_ne n1]
  exact e
theorem rd_xv0 {K : PySem.W.Frag} {C a : Addr} {f : Str} {H : Hp} {v : V} {i : Nat} {σ : St} {Q : VK} (hv : σ[i]? = some (some (.ref a))) (h : ExAt C f H a v) (T : XfC K C) (hno : PySem.W.findIn K (.ref C) f = some none) (k : Q v H) : tXv K f (tVar i) σ H Q := by
  obtain ⟨dd, h1, h2⟩ := h
  exact ⟨_, hv, a, C, dd, _, v, rfl, h1, T, hno, h2, by simp [List.lookup], k⟩
theorem rd_isx {K : PySem.W.Frag} {C D a : Addr} {f : Str} {H : Hp} {v : V} {b : Bool} {Q : VK} (h : ExAt C f H a v) (T : ExcC K C) (e : PySem.W.kitOne K (.ref C) (.ref D) = some b) (k : Q (.bl b) H) : rIsX K [.ref a, .ref D] H Q := by
  obtain ⟨dd, h1, h2⟩ := h
  exact ⟨a, C, dd, _, .ref D, .ref D, b, rfl, h1, h2, T, fun u r => r, e, k⟩
theorem rd_isxT {K : PySem.W.Frag} {C a : Addr} {T : String} {f : Str} {H : Hp} {v : V} {b : Bool} {Q : VK} (h : ExAt C f H a v) (X : ExcC K C) (e : PySem.W.kitOne K (.ref C) (.type T) = some b) (k : Q (.bl b) H) : rIsX K [.ref a, .ty T] H Q := by
  obtain ⟨dd, h1, h2⟩ := h
  exact ⟨a, C, dd, _, .ty T, .type T, b, rfl, h1, h2, X, fun u r => r, e, k⟩
theorem rd_lcR {g : TG} {tt : TT} {te : TE} {ta : TA} {vs : List Nat} {σ : St} {H : Hp} {Q : VK} (k : ta σ H fun zs H1 => ∃ j : Int, zs = [.int j] ∧ -(2 ^ 62) ≤ j ∧ j < 2 ^ 62 ∧ ∀ D, H1 D = none → ∃ W : Nat → Nat → Hp → Prop, (∃ m, W 0 m (upd H1 D (.lst []))) ∧ ∀ i m H, W i m H →
    ((Itr 0 j.toNat).stop i H ∧ Q (.ref D) H) ∨ ((Itr 0 j.toNat).go i H ∧ ∃ Nx : Hp → Prop, (∀ H', Nx H' → ∃ m', m' < m ∧ W (i + 1) m' H') ∧ ∀ x H', (Itr 0 j.toNat).yld i H x H' → g x (wipe σ vs) H' fun σ2 H2 => wipe σ2 vs = wipe σ vs ∧ tt σ2 H2 fun b H3 =>
      if b = true then te σ2 H3 fun y H4 => ∃ acc, H4 D = some (.lst acc) ∧ acc.length < sizeLine ∧ Nx (upd H4 D (.lst (acc ++ [y]))) else Nx H3)) : tLc (iRng1 ta) g tt te vs σ H Q := k
theorem pow_n (n : Nat) : 1 ≤ 2 ^ n := Nat.pos_of_ne_zero (by intro h; have := Nat.pow_eq_zero.mp h; omega)
theorem good_int {n : Nat} {i : Int} (h : i.natAbs < 10 ^ 70) : Good n (.int i) := by
  refine ⟨int_showable (Nat.lt_trans h (by decide +kernel)), rfl, Nat.zero_le _, ?_⟩
  have h1 := int_shown (k := 70) (by decide) h
  have := pow_n n
  omega
theorem good_non {n : Nat} : Good n .none := ⟨rfl, rfl, Nat.zero_le _, by have e : (PyData.none).shown.length = 4 := rfl; have := pow_n n; omega⟩
theorem good_bl {n : Nat} {b : Bool} : Good n (.bool b) := ⟨rfl, rfl, Nat.zero_le _, by have e : (PyData.bool b).shown.length ≤ 5 := by cases b <;> decide
                                                                                        have := pow_n n; omega⟩
theorem good_str {n : Nat} {x : Str} (h : (PyData.str x).shown.length ≤ 100) : Good n (.str x) := ⟨rfl, rfl, Nat.zero_le _, by have := pow_n n; omega⟩
theorem good_all {n : Nat} : ∀ {ds : List PyData}, (∀ d ∈ ds, Good n d) → PyData.showableAll ds = true ∧ PyData.hasDictAll ds = false ∧ PyData.depthAll ds ≤ n ∧ piled (PyData.shownAll ds) + ds.length * 18 ≤ ds.length * (120 * 2 ^ n)
  | [], _ => ⟨rfl, rfl, Nat.zero_le _, Nat.le_of_eq (by simp [PyData.shownAll, piled])⟩
  | d :: ds, h => by
    obtain ⟨a1, a2, a3, a4⟩ := good_all fun e he => h e (List.mem_cons_of_mem _ he)
    have g := h d List.mem_cons_self
    refine ⟨?_, ?_, ?_, ?_⟩
    · show (d.showable && PyData.showableAll ds) = true
      rw [g.sh, a1]; rfl
    · show (d.hasDict || PyData.hasDictAll ds) = false
      rw [g.nd, a2]; rfl
    · exact Nat.max_le.mpr ⟨g.dp, a3⟩
    · show piled (d.shown :: PyData.shownAll ds) + (ds.length + 1) * 18 ≤ (ds.length + 1) * (120 * 2 ^ n)
      rw [piled_cons]
      have := g.ln
      rw [Nat.succ_mul, Nat.succ_mul]
      omega
theorem good_list {n : Nat} {ds : List PyData} (h : ∀ d ∈ ds, Good n d) (hl : ds.length ≤ 2) : Good (n + 1) (.list ds) := by
  obtain ⟨a1, a2, a3, a4⟩ := good_all h
  refine ⟨a1, a2, Nat.succ_le_succ a3, ?_⟩
  have e : (PyData.list ds).shown.length ≤ piled (PyData.shownAll ds) + 2 := listText_le _
  have := pow_n n
  rw [Nat.pow_succ]
  have q : ds.length = 0 ∨ ds.length = 1 ∨ ds.length = 2 := by omega
  rcases q with q | q | q <;> rw [q] at a4 <;> omega
theorem good_tup {n : Nat} {ds : List PyData} (h : ∀ d ∈ ds, Good n d) (hl : ds.length ≤ 2) : Good (n + 1) (.tuple ds) := by
  obtain ⟨a1, a2, a3, a4⟩ := good_all h
  refine ⟨a1, a2, Nat.succ_le_succ a3, ?_⟩
  have e : (PyData.tuple ds).shown.length ≤ piled (PyData.shownAll ds) + 3 := tupleText_le _
  have := pow_n n
  rw [Nat.pow_succ]
  have q : ds.length = 0 ∨ ds.length = 1 ∨ ds.length = 2 := by omega
  rcases q with q | q | q <;> rw [q] at a4 <;> omega
end Tug
namespace Tug
open PySem L2
local macro_rules | `(tactic| walk_at "rd") => `(tactic| (first
  | with_reducible refine rd_seq ?_
  | with_reducible refine rd_if ?_
  | with_reducible refine rd_asg ?_
  | with_reducible refine rd_ret ?_
  | with_reducible refine rd_drop ?_
  | with_reducible refine rd_next ?_
  | ((with_reducible refine' rd_var ?rde ?_); (case rde => rfl))
  | with_reducible refine rd_c ?_
  | with_reducible refine rd_op ?_
  | with_reducible refine rd_un ?_
  | with_reducible refine rd_neg ?_
  | with_reducible refine rd_I0 ?_
  | with_reducible refine rd_nil ?_
  | with_reducible refine rd_cons ?_
  | with_reducible refine rd_tup ?_
  | with_reducible refine rd_lst ?_
  | with_reducible refine rd_gname ?_
  | with_reducible refine rd_gsub ?_
  | with_reducible refine rd_test ?_
  | with_reducible refine rd_B ?_
  | ((with_reducible show ∃ k, V.bl _ = V.bl k ∧ _); refine ⟨_, rfl, ?_⟩)
  | with_reducible refine rd_and ?_
  | with_reducible refine rd_or ?_
  | with_reducible refine rd_not ?_
  | with_reducible refine rd_ifE ?_
  | with_reducible refine rd_call ?_
  | with_reducible refine rd_cb ?_
  | ((with_reducible refine' rd_eq ?rdc ?_); (case rdc => rfl))
  | ((with_reducible refine' rd_ne ?rdc ?_); (case rdc => rfl))
  | ((with_reducible refine' rd_ixL ?rda ?rdb ?_); (case rda => first | exact SqL.of (by assumption) | assumption); (case rdb => rfl))
  | ((with_reducible refine' rd_ixT ?rda ?rdb ?_); (case rda => first | exact SqT.of (by assumption) | assumption); (case rdb => rfl))
  | ((with_reducible refine' rd_setL ?rda ?rdb ?_); (case rda => assumption); (case rdb => rfl))
  | ((with_reducible refine' rd_lenL ?rda ?_); (case rda => first | exact SqL.of (by assumption) | assumption))
  | with_reducible refine rd_yes ?_
  | with_reducible refine rd_par ?_
  | with_reducible refine rd_gcons ?_
  | with_reducible refine rd_gnil ?_
  | ((with_reducible refine' rd_decY ?rdc ?_); (case rdc => decide))
  | ((with_reducible refine' rd_decF ?rdc ?_); (case rdc => decide))
  | with_reducible refine iteF ?_
  | with_reducible refine iteT ?_
  | with_reducible refine rd_max ?_
  | with_reducible refine rd_min ?_
  | ((with_reducible refine' rd_I ?rdc ?_); (case rdc => first | (show (0 : Int) < _; omega) | exact ⟨by decide, by decide⟩ | exact ⟨by decide, by decide, by decide⟩ | exact .inr ⟨by omega, by omega⟩ | exact .inl ⟨by omega, by omega⟩ | exact CPowW.of (by decide) (by decide) (by omega) (by omega) | fail "rdc"))
  | with_reducible refine rd_nx ?_
  | fail "rd"))
def top (i : Nat) : Stmt := PySem.Challenge.pw_tugline_k05_refusals_made.main.body.getD i (.Pass ⟨0, 0, 0, 0⟩)
abbrev sWell : Stmt := top 10
abbrev sDraw : Stmt := top 11
abbrev sPick : Stmt := top 12
def spDraw : Sp := fun vs H Q _ => ∃ (p : Addr) (m : Int), vs = [.ref p, .int m] ∧ Well H p ∧ Dv m ∧ ∀ (r : Int) (H' : Hp), 0 ≤ r → r < m → Well H' p → But p H H' → Q (.int r) H'
section
variable {P : Program} {w : World} {K : PySem.W.Frag} {mg : Str → Option Value} {base : Heap}
theorem scD : FnScope ["well", "many", "found"] ["well", "many"] (defScope sDraw) := ⟨rfl, rfl, rfl, by decide +kernel, rfl, by decide +kernel, by decide +kernel⟩
theorem ok_draw {f : Addr} {fd : FuncData} (F : Fun K "_law_draw" "_law_draw" sDraw f fd) : FnOk P w K mg base CX0 1 f fd ["well", "many"] spDraw := by
  refine F.ok scD (fun vs H Q E h => ?_) (fun cdv A outer s H vs Q E hr h => ?_)
  · obtain ⟨p, m, rfl, _⟩ := h
    rfl
  · obtain ⟨p, m, rfl, ⟨a, b, hp, ha, hb, hb2⟩, hm, k⟩ := h
    refine ⟨_, pss_cons (ps_if (pt_cmpR op_ge (pe_ix ix_list (pv 0) pe_int (fun _ _ => rfl)) (pv 1) (nomark _))
        (pss_cons (ps_set (i := 2) scD.nd rfl (Or.inl rfl) (pe_op op_mod (pe_ix ix_list (pv 0) pe_int (fun _ _ => rfl)) (pv 1)))
        (pss_cons (ps_asg (pe_op op_fdivW (pe_ix ix_list (pv 0) pe_int (fun _ _ => rfl)) (pv 1)) (pg_sub (pv 0) pe_int set_list))
        (pss_one (ps_ret (pv 2))))) pss_nil)
      (pss_cons (ps_asg (pe_op op_mod (pe_op op_add (pe_op op_mul (pe_ix ix_list (pv 0) pe_int (fun _ _ => rfl)) pe_int) pe_int) pe_int) (pg_sub (pv 0) pe_int set_list))
      (pss_one (ps_ret (pe_op op_mod (pe_op op_fdiv (pe_op op_mod (pe_op op_powW (pe_op op_mod (pe_op op_powW (pe_ix ix_list (pv 0) pe_int (fun _ _ => rfl)) pe_int) pe_int) pe_int) pe_int) pe_int) (pv 1))))), ?_⟩
    repeat walk_at "rd"
    refine rd_dec (fun hc => ?_) (fun hc => ?_)
    · have h0 := hm.1
      repeat walk_at "rd"
      refine rd_I hm.w ?_
      repeat walk_at "rd"
      refine k _ _ (Int.emod_nonneg _ (by omega)) (Int.emod_lt_of_pos _ h0) ⟨a / m, b, upd_same, Int.ediv_nonneg ha (by omega), hb, hb2⟩ But.upd
    · have h0 := hm.1
      repeat walk_at "rd"
      have e1 : H p = H p := rfl
      refine rd_ixL (SqL.of upd_same) rfl ?_
      repeat walk_at "rd"
      refine k _ _ (Int.emod_nonneg _ (by omega)) (Int.emod_lt_of_pos _ h0) ⟨a, _, upd_same, ha, Int.emod_nonneg _ (by decide), by omega⟩ But.upd
/-- the well of a script: a new list -/
def spWell (K : PySem.W.Frag) : Sp := fun vs H Q _ => ∃ (a : Addr) (ns : List Int) (k : Int), vs = [.ref a, .int k] ∧ SqL K H a (ns.map V.int) ∧ (∀ z ∈ ns, Builtin.Int.intBits z ≤ 1048576) ∧ 0 ≤ k ∧ k < 100 ∧ ∀ (p : Addr) (H' : Hp), H p = none → Well H' p → But p H H' → Q (.ref p) H'
theorem scW : FnScope ["script", "k", "seed", "cell", "own"] ["script", "k"] (defScope sWell) := ⟨rfl, rfl, rfl, by decide +kernel, rfl, by decide +kernel, by decide +kernel⟩
theorem ok_well {f : Addr} {fd : FuncData} (F : Fun K "_law_well" "_law_well" sWell f fd) (len : mg "len" = none) : FnOk P w K mg base CX0 1 f fd ["script", "k"] (spWell K) := by
  refine F.ok scW (fun vs H Q E h => ?_) (fun cdv A outer s H vs Q E hr h => ?_)
  · obtain ⟨a, ns, k, rfl, _⟩ := h
    rfl
  · obtain ⟨a, ns, k, rfl, hS, hbits, hk, hk2, kq⟩ := h
    refine ⟨_, pss_cons (ps_set (i := 2) scW.nd rfl (Or.inl rfl) (pe_op op_add pe_int (pv 1)))
      (pss_cons (ps_for PassesOwn.never rfl (pi_list (pv 0)) (pg_name (i := 3) scW.nd rfl (Or.inl rfl))
        (pss_one (ps_set (i := 2) scW.nd rfl (Or.inl rfl) (pe_op op_add (pe_op op_mod (pe_op op_powW (pe_op op_add (pe_op op_mul (pv 2) pe_int) (pv 3)) pe_int) pe_int) pe_int))))
      (pss_cons (ps_set (i := 4) scW.nd rfl (Or.inl rfl) pe_int)
      (pss_cons (ps_if (pw_and (pt_cmpR op_lt (pv 1) (pe_callB call_len (by rfl) len PySem.boot_len (pa_cons (pv 0) pa_nil)) (nomark _)) (pw_and1 (pt_cmpR op_ge (pe_ix ix_list (pv 0) (pv 1) (fun _ _ => rfl)) (pe_op op_pow pe_int pe_int) (nomark _)))).pt
          (pss_one (ps_set (i := 4) scW.nd rfl (Or.inl rfl) (pe_op op_sub (pe_ix ix_list (pv 0) (pv 1) (fun _ _ => rfl)) (pe_op op_pow pe_int pe_int)))) pss_nil)
      (pss_one (ps_ret (pe_lst (pa_cons (pv 4) (pa_cons (pv 2) pa_nil)))))))), ?_⟩
    repeat walk_at "rd"
    refine rd_forL (i := 0) (p := a) (xs := ns.map V.int) rfl hS (fun i σ H' => ∃ (sd : Int) (v : Option V), σ = [some (.ref a), some (.int k), some (.int sd), v, none] ∧ H' = H ∧ 0 ≤ sd ∧ sd < 2147483648)
      ⟨7 + k, none, rfl, rfl, by omega, by omega⟩ (fun i σ H' _ ⟨_, _, _, e, _⟩ => by rw [e]; exact hS) ?_ ?_
    · rintro i x σ H' hi ⟨sd, v, rfl, rfl, h0, h1⟩
      obtain ⟨z, hz, rfl⟩ := getInt hi
      have hb := hbits z (List.mem_of_getElem? hz)
      repeat walk_at "rd"
      refine rd_I (CPowW.add (by decide) (by decide) (by omega) (by omega) hb) ?_
      repeat walk_at "rd"
      exact ⟨_, _, rfl, rfl, by have := Int.emod_nonneg ((sd * 50021 + z) ^ (3 : Int).toNat) (show (2147483629 : Int) ≠ 0 by decide); omega, by have := Int.emod_lt_of_pos ((sd * 50021 + z) ^ (3 : Int).toNat) (show (0 : Int) < 2147483629 by decide); omega⟩
    · rintro σ H' ⟨sd, v, rfl, rfl, h0, h1⟩
      have hS' := hS
      have fin : ∀ own : Int, 0 ≤ own → ([V.int own, V.int sd].length ≤ sizeLine ∧ ∀ p, H' p = none → Q (.ref p) (upd H' p (.lst [V.int own, V.int sd]))) := fun own ho =>
        ⟨by show 2 ≤ sizeLine; decide, fun p hp => kq p _ hp ⟨own, sd, upd_same, ho, h0, h1⟩ But.upd⟩
      repeat walk_at "rd"
      refine rd_dec (fun hc => ?_) (fun _ => ?_)
      · rw [List.length_map] at hc
        obtain ⟨z, hz, hz2⟩ := atI_in (xs := ns) hk hc
        have hat : atI (ns.map V.int) k = some (V.int z) := by
          unfold atI ixN at hz2 ⊢
          rw [List.length_map, if_pos hk, if_pos hc, Option.bind_some] at *
          rw [List.getElem?_map, hz2]
          rfl
        repeat walk_at "rd"
        refine rd_ixL hS' hat ?_
        repeat walk_at "rd"
        refine rd_dec (fun hc2 => ?_) (fun _ => ?_)
        · repeat walk_at "rd"
          refine rd_ixL hS' hat ?_
          repeat walk_at "rd"
          have e : ((10 : Int) ^ (18 : Int).toNat) = 1000000000000000000 := by decide
          rw [e] at hc2 ⊢
          exact fin _ (by omega)
        · repeat walk_at "rd"
          exact fin 0 (Int.le_refl _)
      · repeat walk_at "rd"
        exact fin 0 (Int.le_refl _)
/-- one of some, by the well -/
def spPick (K : PySem.W.Frag) : Sp := fun vs H Q _ => ∃ (p q : Addr) (xs : List V), vs = [.ref p, .ref q] ∧ Well H p ∧ Sq K H q xs ∧ q ≠ p ∧ 0 < xs.length ∧ xs.length ≤ 1000 ∧ ∀ (v : V) (H' : Hp), v ∈ xs → Well H' p → But p H H' → Q v H'
theorem scP : FnScope ["well", "some"] ["well", "some"] (defScope sPick) := ⟨rfl, rfl, rfl, by decide +kernel, rfl, by decide +kernel, by decide +kernel⟩
theorem ok_pick {f fD : Addr} {fd fdD : FuncData} (F : Fun K "_law_pick" "_law_pick" sPick f fd) (FD : Fun K "_law_draw" "_law_draw" sDraw fD fdD) (bD : Binds K fdD ["well", "many"] []) (mD : mg "_law_draw" = some (.ref fD)) (len : mg "len" = none) : FnOk P w K mg base CX0 2 f fd ["well", "some"] (spPick K) := by
  have GD : FnOk P w K mg base CX0 1 fD fdD ["well", "many"] spDraw := ok_draw FD
  refine F.ok scP (fun vs H Q E h => ?_) (fun cdv A outer s H vs Q E hr h => ?_)
  · obtain ⟨p, q, xs, rfl, _⟩ := h
    rfl
  · obtain ⟨p, q, xs, rfl, hw, hq, hkeep, hl, hl2, k⟩ := h
    refine ⟨_, pss_one (ps_ret (pe_ix ix_seq (pv 1) (pe_call GD hr rfl mD FD.kp bD .nil pass0 (pa_cons (pv 0) (pa_cons (pe_callB call_len (by rfl) len PySem.boot_len (pa_cons (pv 1) pa_nil)) pa_nil))) (fun _ _ => rfl))), ?_⟩
    repeat walk_at "rd"
    refine rd_lenQ hq ?_
    repeat walk_at "rd"
    refine ⟨p, _, rfl, hw, ⟨by omega, by omega⟩, fun r H' h0 h1 hw' hb => ?_⟩
    obtain ⟨v, hv, ha⟩ := atI_in h0 h1
    exact rd_ixQ (hq.but hkeep hb) ha (k v H' hv hw' hb)
end
end Tug
namespace Tug
open PySem L2
local macro_rules | `(tactic| walk_at "rd") => `(tactic| (first
  | with_reducible refine rd_seq ?_
  | with_reducible refine rd_if ?_
  | with_reducible refine rd_asg ?_
  | with_reducible refine rd_ret ?_
  | with_reducible refine rd_drop ?_
  | with_reducible refine rd_next ?_
  | ((with_reducible refine' rd_var ?rde ?_); (case rde => rfl))
  | with_reducible refine rd_c ?_
  | with_reducible refine rd_op ?_
  | with_reducible refine rd_un ?_
  | with_reducible refine rd_neg ?_
  | with_reducible refine rd_I0 ?_
  | with_reducible refine rd_nil ?_
  | with_reducible refine rd_cons ?_
  | with_reducible refine rd_tup ?_
  | with_reducible refine rd_lst ?_
  | with_reducible refine rd_gname ?_
  | with_reducible refine rd_gsub ?_
  | with_reducible refine rd_test ?_
  | with_reducible refine rd_B ?_
  | ((with_reducible show ∃ k, V.bl _ = V.bl k ∧ _); refine ⟨_, rfl, ?_⟩)
  | with_reducible refine rd_and ?_
  | with_reducible refine rd_or ?_
  | with_reducible refine rd_not ?_
  | with_reducible refine rd_ifE ?_
  | with_reducible refine rd_call ?_
  | with_reducible refine rd_cb ?_
  | ((with_reducible refine' rd_eq ?rdc ?_); (case rdc => rfl))
  | ((with_reducible refine' rd_ne ?rdc ?_); (case rdc => rfl))
  | ((with_reducible refine' rd_ixL ?rda ?rdb ?_); (case rda => first | exact SqL.of (by assumption) | assumption); (case rdb => rfl))
  | ((with_reducible refine' rd_ixT ?rda ?rdb ?_); (case rda => first | exact SqT.of (by assumption) | assumption); (case rdb => rfl))
  | ((with_reducible refine' rd_setL ?rda ?rdb ?_); (case rda => assumption); (case rdb => rfl))
  | ((with_reducible refine' rd_lenL ?rda ?_); (case rda => first | exact SqL.of (by assumption) | assumption))
  | with_reducible refine rd_yes ?_
  | with_reducible refine rd_par ?_
  | with_reducible refine rd_gcons ?_
  | with_reducible refine rd_gnil ?_
  | ((with_reducible refine' rd_decY ?rdc ?_); (case rdc => decide))
  | ((with_reducible refine' rd_decF ?rdc ?_); (case rdc => decide))
  | with_reducible refine iteF ?_
  | with_reducible refine iteT ?_
  | with_reducible refine rd_max ?_
  | with_reducible refine rd_min ?_
  | ((with_reducible refine' rd_I ?rdc ?_); (case rdc => first | (show (0 : Int) < _; omega) | exact ⟨by decide, by decide⟩ | exact ⟨by decide, by decide, by decide⟩ | exact .inr ⟨by omega, by omega⟩ | exact .inl ⟨by omega, by omega⟩ | exact CPowW.of (by decide) (by decide) (by omega) (by omega) | fail "rdc"))
  | with_reducible refine rd_nx ?_
  | fail "rd"))
abbrev sThing : Stmt := top 13
/-- a thing: data that stands apart from the well -/
def spThing (K : PySem.W.Frag) (n : Nat) : Sp := fun vs H Q _ => ∃ (p : Addr) (k : Int), vs = [.ref p, .int k] ∧ Well H p ∧ 0 ≤ k ∧ k < (n : Int) ∧
  ∀ (v : V) (d : PyData) (H' : Hp), Dp K (nw H H') v d → Good n d → Well H' p → Keep p H H' → Q v H'
section
variable {P : Program} {w : World} {K : PySem.W.Frag} {mg : Str → Option Value} {base : Heap}
theorem scT : FnScope ["well", "deep", "some", "inner", "turn"] ["well", "deep"] (defScope sThing) := ⟨rfl, rfl, rfl, by decide +kernel, rfl, by decide +kernel, by decide +kernel⟩
theorem ok_thing1 {n k : Nat} {f fD fP : Addr} {fd fdD fdP : FuncData} (F : Fun K "_law_thing" "_law_thing" sThing f fd) (bT : Binds K fd ["well", "deep"] []) (mT : mg "_law_thing" = some (.ref f))
    (GD : FnOk P w K mg base CX0 1 fD fdD ["well", "many"] spDraw) (bD : Binds K fdD ["well", "many"] []) (mD : mg "_law_draw" = some (.ref fD)) (kD : PySem.W.keepIn K (.ref fD) = true)
    (GP : FnOk P w K mg base CX0 2 fP fdP ["well", "some"] (spPick K)) (bP : Binds K fdP ["well", "some"] []) (mP : mg "_law_pick" = some (.ref fP)) (kP : PySem.W.keepIn K (.ref fP) = true)
    (len : mg "len" = none) (rng : mg "range" = none) (tup : mg "tuple" = none)
    (G : FnOk P w K mg base CX0 (k + 2) f fd ["well", "deep"] (spThing K n)) : FnOk P w K mg base CX0 (k + 3) f fd ["well", "deep"] (spThing K (n + 1)) := by
  refine F.ok scT (fun vs H Q E h => ?_) (fun cdv A outer s H vs Q E hr h => ?_)
  · obtain ⟨p, m, rfl, _⟩ := h
    rfl
  · obtain ⟨p, m, rfl, hw, h0, h1, kq⟩ := h
    have hr1 : Room 1 _ := hr.mono (by omega)
    have hr2 : Room 2 _ := hr.mono (by omega)
    refine ⟨_, pss_cons (ps_set (i := 2) scT.nd rfl (Or.inl rfl) (pe_lst (pa_cons pe_non (pa_cons pe_bl (pa_cons pe_int (pa_cons (pe_op op_sub pe_int pe_int) (pa_cons (pe_op op_pow pe_int pe_int) (pa_cons pe_str (pa_cons pe_str (pa_cons pe_str (pa_cons (pe_call GD hr1 (by rfl) mD kD bD .nil pass0 (pa_cons (pv 0) (pa_cons (pe_op op_pow pe_int pe_int) pa_nil))) pa_nil)))))))))))
      (pss_cons (ps_if (pw_or (pt_cmpR op_eq (pv 1) pe_int (nomark _)) (pw_or1 (pt_cmpR op_gt (pe_call GD hr1 (by rfl) mD kD bD .nil pass0 (pa_cons (pv 0) (pa_cons pe_int pa_nil))) pe_int (nomark _)))).pt
          (pss_one (ps_ret (pe_call GP hr2 (by rfl) mP kP bP .nil pass0 (pa_cons (pv 0) (pa_cons (pv 2) pa_nil))))) pss_nil)
      (pss_cons (ps_setLc (i := 3) (own := [("turn", 4)]) (g := gName 4) (tt := tYes) rfl scT.nd rfl rfl (sw_true rfl rfl rfl (by decide +kernel)) (pi_range1 (by rfl) rng (pa_cons (pe_call GD hr1 (by rfl) mD kD bD .nil pass0 (pa_cons (pv 0) (pa_cons pe_int pa_nil))) pa_nil)) (blkOk_by (N := ["well", "deep", "some", "inner", "turn"]) (sc := defScope sThing) (by decide +kernel))
          (fun _ _ _ _ _ => pg_name (i := 4) scT.nd rfl (Or.inl rfl)) (fun _ _ _ _ _ => pts_nil) (fun _ _ _ _ _ => pe_call G hr (by rfl) mT F.kp bT .nil pass0 (pa_cons (pv 0) (pa_cons (pe_op op_sub (pv 1) pe_int) pa_nil))))
      (pss_one (ps_ret (pe_call GP hr2 (by rfl) mP kP bP .nil pass0 (pa_cons (pv 0) (pa_cons (pe_lst (pa_cons (pv 3) (pa_cons (pe_callTy call_tupOf (by rfl) tup (by decide +kernel) (pa_cons (pv 3) pa_nil)) pa_nil))) pa_nil))))))), ?_⟩
    repeat walk_at "rd"
    -- the draw among some
    refine ⟨p, _, rfl, hw, ⟨by decide, by decide⟩, fun r H1 r0 r1 hw1 b1 => ?_⟩
    repeat walk_at "rd"
    refine ⟨by show 9 ≤ sizeLine; decide, fun q hq => ?_⟩
    have nq : q ≠ p := fun z => by
      obtain ⟨_, _, z1, _⟩ := hw1
      rw [z, z1] at hq
      cases hq
    have hw2 : Well (upd H1 q (.lst [.non, .bl true, .int 0, .int (0 - 1), .int (10 ^ Int.toNat 59), .str "", .str "x", .str "a b", .int r])) p := by
      obtain ⟨a, b, z1, z2⟩ := hw1
      exact ⟨a, b, by rw [upd_ne (Ne.symm nq)]; exact z1, z2⟩
    have k1 : Keep p H (upd H1 q (.lst [.non, .bl true, .int 0, .int (0 - 1), .int (10 ^ Int.toNat 59), .str "", .str "x", .str "a b", .int r])) := b1.keep.trans (Keep.new hq)
    -- picked among some
    have pick : ∀ H2, But p (upd H1 q (.lst [.non, .bl true, .int 0, .int (0 - 1), .int (10 ^ Int.toNat 59), .str "", .str "x", .str "a b", .int r])) H2 → Well H2 p → spPick K [.ref p, .ref q] H2 Q E0 := fun H2 b2 w2 => by
      have hs : H2 q = some (.lst [.non, .bl true, .int 0, .int (0 - 1), .int (10 ^ Int.toNat 59), .str "", .str "x", .str "a b", .int r]) := (b2 q nq).trans upd_same
      refine ⟨p, q, _, rfl, w2, .inl (SqL.of hs), nq, by show 0 < 9; decide, by show 9 ≤ 1000; decide, fun v H3 hv w3 b3 => ?_⟩
      have kk : Keep p H H3 := (k1.trans b2.keep).trans b3.keep
      have hd : ∃ d, Dp K (nw H H3) v d ∧ Good (n + 1) d := by
        simp only [List.mem_cons, List.not_mem_nil, or_false] at hv
        rcases hv with rfl | rfl | rfl | rfl | rfl | rfl | rfl | rfl | rfl
        · exact ⟨_, .non, good_non⟩
        · exact ⟨_, .bl _, good_bl⟩
        · exact ⟨_, .int _, good_int (by decide)⟩
        · exact ⟨_, .int _, good_int (by decide)⟩
        · exact ⟨_, .int _, good_int (by decide +kernel)⟩
        · exact ⟨_, .str _, good_str (by decide +kernel)⟩
        · exact ⟨_, .str _, good_str (by decide +kernel)⟩
        · exact ⟨_, .str _, good_str (by decide +kernel)⟩
        · exact ⟨_, .int _, good_int (by rw [show (10 : Int) ^ (6 : Int).toNat = 1000000 by decide] at r1; omega)⟩
      obtain ⟨d, hd1, hd2⟩ := hd
      exact kq v d H3 hd1 hd2 w3 kk
    repeat walk_at "rd"
    refine rd_dec (fun hc => ?_) (fun hc => ?_)
    · repeat walk_at "rd"
      exact pick _ (But.refl _ _) hw2
    repeat walk_at "rd"
    refine ⟨p, _, rfl, hw2, ⟨by decide, by decide⟩, fun r2 H2 _ _ hw3 b2 => ?_⟩
    repeat walk_at "rd"
    refine rd_dec (fun hc2 => ?_) (fun hc2 => ?_)
    · repeat walk_at "rd"
      exact pick _ b2 hw3
    repeat walk_at "rd"
    refine rd_lcR ?_
    repeat walk_at "rd"
    refine ⟨p, _, rfl, hw3, ⟨by decide, by decide⟩, fun r3 H3 r30 r31 hw4 b3 => ?_⟩
    repeat walk_at "rd"
    have k3 : Keep p H H3 := (k1.trans b2.keep).trans b3.keep
    refine ⟨_, rfl, by omega, by omega, fun D hD => lc_range (fun i H' => ∃ (vs : List V) (ds : List PyData), H' D = some (.lst vs) ∧ vs.length = i ∧ ds.length = i ∧ DpAll K (nw (upd H3 D (.lst [])) H') vs ds ∧ (∀ d ∈ ds, Good n d) ∧ Well H' p ∧ (∀ c o, c ≠ p → c ≠ D → (upd H3 D (.lst [])) c = some o → H' c = some o))
      ⟨[], [], upd_same, rfl, rfl, .nil, fun _ h => (nomatch h), hw4.upd hD, fun _ _ _ _ e => e⟩ ?_ ?_⟩
    · rintro i H4 hi ⟨vs, ds, e1, e2, e3, e4, e5, e6, e7⟩
      repeat walk_at "rd"
      refine ⟨rfl, ?_⟩
      repeat walk_at "rd"
      have hm : m ≠ 0 := fun z => hc (by rw [z])
      refine ⟨p, m - 1, rfl, e6, by omega, by omega, fun v d H5 f1 f2 f3 f4 => ?_⟩
      have nDp : D ≠ p := fun z => by
        rw [z] at hD
        exact hw4.some hD
      have hD5 : H5 D = some (.lst vs) := f4 D _ nDp e1
      have dom4 : ∀ b, H4 b = none → (upd H3 D (.lst [])) b = none := fun b hb => by
        by_cases e : b = D
        · rw [e, e1] at hb; cases hb
        · by_cases e' : b = p
          · rw [e'] at hb; exact absurd hb e6.some
          · cases z : (upd H3 D (.lst [])) b with
            | none => rfl
            | some o => rw [e7 b o e' e z] at hb; cases hb
      have inD : (upd H3 D (.lst [])) D ≠ none := by rw [upd_same]; exact fun z => nomatch z
      have inp : (upd H3 D (.lst [])) p ≠ none := (hw4.upd hD).some
      refine ⟨vs, hD5, by rw [e2]; exact Nat.lt_of_lt_of_le (show i < 1000 by omega) (by decide), vs ++ [v], ds ++ [d], upd_same, by simp [e2], by simp [e3], ?_, ?_, ?_, ?_⟩
      · refine DpAll.app (DpAll.same (nw_same fun b o h1 h2 => ⟨h1, ?_⟩) e4) (Dp.same (nw_same fun b o h1 h2 => ⟨dom4 b h1, ?_⟩) f1)
        · have n1 : b ≠ D := fun z => inD (z ▸ h1)
          have n2 : b ≠ p := fun z => inp (z ▸ h1)
          rw [upd_ne n1]
          exact f4 b o n2 h2
        · have n1 : b ≠ D := fun z => by rw [z, e1] at h1; cases h1
          rw [upd_ne n1]
          exact h2
      · intro x hx
        rcases List.mem_append.mp hx with hx | hx
        · exact e5 x hx
        · rw [List.mem_singleton.mp hx]; exact f2
      · obtain ⟨a, b, z1, z2⟩ := f3
        exact ⟨a, b, by rw [upd_ne (Ne.symm nDp)]; exact z1, z2⟩
      · intro c o n1 n2 hco
        rw [upd_ne n2]
        exact f4 c o n1 (e7 c o n1 n2 hco)
    · rintro H4 ⟨vs, ds, e1, e2, e3, e4, e5, e6, e7⟩
      have hl3 : vs.length ≤ 2 := by omega
      have hl4 : ds.length ≤ 2 := by omega
      have nDp : D ≠ p := fun z => by
        rw [z] at hD
        exact hw4.some hD
      have inp : (upd H3 D (.lst [])) p ≠ none := (hw4.upd hD).some
      repeat walk_at "rd"
      refine rd_tupOf (SqL.of e1) (fun l hl => ?_)
      repeat walk_at "rd"
      refine ⟨by show 2 ≤ sizeLine; decide, fun q2 hq2 => ?_⟩
      repeat walk_at "rd"
      have w5 : Well (upd (upd H4 l (.tup vs)) q2 (.lst [.ref D, .ref l])) p := (e6.upd hl).upd hq2
      have nq2p : q2 ≠ p := fun z => by
        rw [z] at hq2
        exact (e6.upd hl).some hq2
      refine ⟨p, q2, _, rfl, w5, .inl (SqL.of upd_same), nq2p, by show 0 < 2; decide, by show 2 ≤ 1000; decide, fun v H6 hv w6 b6 => ?_⟩
      have nDl : D ≠ l := ne_of_none e1 hl
      have nDq : D ≠ q2 := ne_of_none ((upd_ne nDl).trans e1) hq2
      have nlq : l ≠ q2 := ne_of_none upd_same hq2
      have nlp : l ≠ p := fun z => by
        rw [z] at hl
        exact e6.some hl
      have at6 : ∀ b o, b ≠ p → H4 b = some o → H6 b = some o := fun b o n e => by
        have n1 := ne_of_none e hl
        have n2 : b ≠ q2 := ne_of_none ((upd_ne n1).trans e) hq2
        rw [b6 b n, upd_ne n2, upd_ne n1]
        exact e
      have old : ∀ b, (upd H3 D (.lst [])) b = none → H b = none := fun b hb => by
        by_cases e : b = p
        · rw [e] at hb; exact absurd hb inp
        · cases z : H b with
          | none => rfl
          | some o =>
            have z3 := k3 b o e z
            rw [upd_ne (ne_of_none z3 hD), z3] at hb
            cases hb
      have kD : H D = none := by
        cases z : H D with
        | none => rfl
        | some o => rw [k3 D o nDp z] at hD; cases hD
      have kL : H l = none := by
        cases z : H l with
        | none => rfl
        | some o =>
          have z3 := k3 l o nlp z
          have z4 := e7 l o nlp (Ne.symm nDl) ((upd_ne (Ne.symm nDl)).trans z3)
          rw [z4] at hl; cases hl
      have el : DpAll K (nw H H6) vs ds := DpAll.same (nw_same fun b o h1 h2 => ⟨old b h1, at6 b o (fun z => inp (z ▸ h1)) h2⟩) e4
      have hl6 : H6 l = some (.tup vs) := by rw [b6 l nlp, upd_ne nlq, upd_same]
      have kp : Keep p H H6 := fun c o n e => by
        have z3 := k3 c o n e
        have n1 : c ≠ D := ne_of_none z3 hD
        exact at6 c o n (e7 c o n n1 ((upd_ne n1).trans z3))
      simp only [List.mem_cons, List.not_mem_nil, or_false] at hv
      rcases hv with rfl | rfl
      · exact kq _ _ H6 (.lst (SqL.of (nw_of kD (at6 D _ nDp e1))) el) (good_list e5 hl4) w6 kp
      · exact kq _ _ H6 (.tup (SqT.of (nw_of kL hl6)) el) (good_tup e5 hl4) w6 kp
/-- at every depth -/
theorem ok_thing {f fD fP : Addr} {fd fdD fdP : FuncData} (F : Fun K "_law_thing" "_law_thing" sThing f fd) (bT : Binds K fd ["well", "deep"] []) (mT : mg "_law_thing" = some (.ref f))
    (GD : FnOk P w K mg base CX0 1 fD fdD ["well", "many"] spDraw) (bD : Binds K fdD ["well", "many"] []) (mD : mg "_law_draw" = some (.ref fD)) (kD : PySem.W.keepIn K (.ref fD) = true)
    (GP : FnOk P w K mg base CX0 2 fP fdP ["well", "some"] (spPick K)) (bP : Binds K fdP ["well", "some"] []) (mP : mg "_law_pick" = some (.ref fP)) (kP : PySem.W.keepIn K (.ref fP) = true)
    (len : mg "len" = none) (rng : mg "range" = none) (tup : mg "tuple" = none) : ∀ n : Nat, FnOk P w K mg base CX0 (n + 2) f fd ["well", "deep"] (spThing K n)
  | 0 => by
    refine ⟨fun vs H Q E h => ?_, fun A outer s H args us vs Q E hr e0 hb r h => ?_⟩
    · obtain ⟨p, m, rfl, _⟩ := h
      rfl
    · obtain ⟨p, m, rfl, _, h0, h1, _⟩ := h
      omega
  | n + 1 => ok_thing1 F bT mT GD bD mD kD GP bP mP kP len rng tup (ok_thing F bT mT GD bD mD kD GP bP mP kP len rng tup n)
end
end Tug
namespace Tug
open PySem L2
local macro_rules | `(tactic| walk_at "rd") => `(tactic| (first
  | with_reducible refine rd_seq ?_
  | with_reducible refine rd_if ?_
  | with_reducible refine rd_asg ?_
  | with_reducible refine rd_ret ?_
  | with_reducible refine rd_drop ?_
  | with_reducible refine rd_next ?_
  | ((with_reducible refine' rd_var ?rde ?_); (case rde => rfl))
  | with_reducible refine rd_c ?_
  | with_reducible refine rd_op ?_
  | with_reducible refine rd_un ?_
  | with_reducible refine rd_neg ?_
  | with_reducible refine rd_I0 ?_
  | with_reducible refine rd_nil ?_
  | with_reducible refine rd_cons ?_
  | with_reducible refine rd_tup ?_
  | with_reducible refine rd_lst ?_
  | with_reducible refine rd_gname ?_
  | with_reducible refine rd_gsub ?_
  | with_reducible refine rd_test ?_
  | with_reducible refine rd_B ?_
  | ((with_reducible show ∃ k, V.bl _ = V.bl k ∧ _); refine ⟨_, rfl, ?_⟩)
  | with_reducible refine rd_and ?_
  | with_reducible refine rd_or ?_
  | with_reducible refine rd_not ?_
  | with_reducible refine rd_ifE ?_
  | with_reducible refine rd_call ?_
  | with_reducible refine rd_cb ?_
  | ((with_reducible refine' rd_eq ?rdc ?_); (case rdc => rfl))
  | ((with_reducible refine' rd_ne ?rdc ?_); (case rdc => rfl))
  | ((with_reducible refine' rd_ixL ?rda ?rdb ?_); (case rda => first | exact SqL.of (by assumption) | assumption); (case rdb => rfl))
  | ((with_reducible refine' rd_ixT ?rda ?rdb ?_); (case rda => first | exact SqT.of (by assumption) | assumption); (case rdb => rfl))
  | ((with_reducible refine' rd_setL ?rda ?rdb ?_); (case rda => assumption); (case rdb => rfl))
  | ((with_reducible refine' rd_lenL ?rda ?_); (case rda => first | exact SqL.of (by assumption) | assumption))
  | with_reducible refine rd_yes ?_
  | with_reducible refine rd_par ?_
  | with_reducible refine rd_gcons ?_
  | with_reducible refine rd_gnil ?_
  | ((with_reducible refine' rd_decY ?rdc ?_); (case rdc => decide))
  | ((with_reducible refine' rd_decF ?rdc ?_); (case rdc => decide))
  | with_reducible refine iteF ?_
  | with_reducible refine iteT ?_
  | with_reducible refine rd_max ?_
  | with_reducible refine rd_min ?_
  | ((with_reducible refine' rd_I ?rdc ?_); (case rdc => first | (show (0 : Int) < _; omega) | exact ⟨by decide, by decide⟩ | exact ⟨by decide, by decide, by decide⟩ | exact .inr ⟨by omega, by omega⟩ | exact .inl ⟨by omega, by omega⟩ | exact CPowW.of (by decide) (by decide) (by omega) (by omega) | fail "rdc"))
  | with_reducible refine rd_nx ?_
  | fail "rd"))
abbrev sField : Stmt := top 14
abbrev sNamed : Stmt := top 15
abbrev sMade : Stmt := top 16
abbrev sSorts : Stmt := top 17
/-- a refusal class as the top has made it -/
structure Rf (P : Program) (K : PySem.W.Frag) (mg : Str → Option Value) (T : Addr) (x f m qual : Str) (C fI cc cda : Addr) : Prop where
  tx : PySem.TugX.XTxt P K mg x f m qual C fI cc cda
  te : PySem.W.exmOne K (.ref C) (.ref T) = some true
  xf : XfC K C
  xc : ExcC K C
  ve : PySem.W.kitOne K (.ref C) (.type "ValueError") = some true
/-- the seven, by their classes' places -/
structure Rfs (P : Program) (K : PySem.W.Frag) (mg : Str → Option Value) (T : Addr) (C : Nat → Addr) : Prop where
  gT : mg "TugError" = some (.ref T)
  h0 : ∃ m fI cc cda, Rf P K mg T "NoText" "line" m "NoText.__init__" (C 0) fI cc cda
  h1 : ∃ m fI cc cda, Rf P K mg T "NoKnob" "number" m "NoKnob.__init__" (C 1) fI cc cda
  h2 : ∃ m fI cc cda, Rf P K mg T "TooMany" "most" m "TooMany.__init__" (C 2) fI cc cda
  h3 : ∃ m fI cc cda, Rf P K mg T "NoPull" "worth" m "NoPull.__init__" (C 3) fI cc cda
  h4 : ∃ m fI cc cda, Rf P K mg T "Nothing" "word" m "Nothing.__init__" (C 4) fI cc cda
  h5 : ∃ m fI cc cda, Rf P K mg T "NoPlace" "place" m "NoPlace.__init__" (C 5) fI cc cda
  h6 : ∃ m fI cc cda, Rf P K mg T "NoRow" "row" m "NoRow.__init__" (C 6) fI cc cda
  is : ∀ i j : Nat, i < 7 → j < 7 → PySem.W.kitOne K (.ref (C i)) (.ref (C j)) = some (decide (i = j))
def fld : Nat → Str
  | 0 => "line"
  | 1 => "number"
  | 2 => "most"
  | 3 => "worth"
  | 4 => "word"
  | 5 => "place"
  | _ => "row"
/-- the refusal of the i-th class, made of v -/
def spMade (C : Nat → Addr) : Sp := fun vs H Q _ => ∃ (i : Nat) (v : V), vs = [.int i, v] ∧ i < 7 ∧ ∀ (a : Addr) (H' : Hp), ExAt (C i) (fld i) H' a v → Same H H' → Q (.ref a) H'
def spField (C : Nat → Addr) : Sp := fun vs H Q _ => ∃ (a : Addr) (i : Nat) (v : V), vs = [.ref a, .int i] ∧ i < 7 ∧ ExAt (C i) (fld i) H a v ∧ Q v H
section
variable {P : Program} {w : World} {K : PySem.W.Frag} {mg : Str → Option Value} {base : Heap} {TT : Addr} {C : Nat → Addr}
theorem lt7 {i : Nat} (h : i < 7) : i = 0 ∨ i = 1 ∨ i = 2 ∨ i = 3 ∨ i = 4 ∨ i = 5 ∨ i = 6 := by omega
theorem scF : FnScope ["caught", "at"] ["caught", "at"] (defScope sField) := ⟨rfl, rfl, rfl, by decide +kernel, rfl, by decide +kernel, by decide +kernel⟩
theorem ok_field {f : Addr} {fd : FuncData} (F : Fun K "_law_field" "_law_field" sField f fd) (T : Rfs P K mg TT C) : FnOk P w K mg base CX0 1 f fd ["caught", "at"] (spField C) := by
  refine F.ok scF (fun vs H Q E h => ?_) (fun cdv A outer s H vs Q E hr h => ?_)
  · obtain ⟨a, i, v, rfl, _⟩ := h
    rfl
  · obtain ⟨a, i, v, rfl, hi, hx, k⟩ := h
    refine ⟨_, (pss_cons (ps_if (pt_cmpR op_eq (pv 1) pe_int (nomark _)) (pss_one (ps_ret (pe_xv (pv 0)))) pss_nil) (pss_cons (ps_if (pt_cmpR op_eq (pv 1) pe_int (nomark _)) (pss_one (ps_ret (pe_xv (pv 0)))) pss_nil) (pss_cons (ps_if (pt_cmpR op_eq (pv 1) pe_int (nomark _)) (pss_one (ps_ret (pe_xv (pv 0)))) pss_nil) (pss_cons (ps_if (pt_cmpR op_eq (pv 1) pe_int (nomark _)) (pss_one (ps_ret (pe_xv (pv 0)))) pss_nil) (pss_cons (ps_if (pt_cmpR op_eq (pv 1) pe_int (nomark _)) (pss_one (ps_ret (pe_xv (pv 0)))) pss_nil) (pss_one (ps_ret (pe_ifExp (pt_cmpR op_eq (pv 1) pe_int (nomark _)) (pe_xv (pv 0)) (pe_xv (pv 0)))))))))), ?_⟩
    rcases lt7 hi with rfl | rfl | rfl | rfl | rfl | rfl | rfl
    · obtain ⟨m, fI, cc, cda, R⟩ := T.h0
      repeat walk_at "rd"
      exact rd_xv0 rfl hx R.xf R.tx.noN k
    · obtain ⟨m, fI, cc, cda, R⟩ := T.h1
      repeat walk_at "rd"
      exact rd_xv0 rfl hx R.xf R.tx.noN k
    · obtain ⟨m, fI, cc, cda, R⟩ := T.h2
      repeat walk_at "rd"
      exact rd_xv0 rfl hx R.xf R.tx.noN k
    · obtain ⟨m, fI, cc, cda, R⟩ := T.h3
      repeat walk_at "rd"
      exact rd_xv0 rfl hx R.xf R.tx.noN k
    · obtain ⟨m, fI, cc, cda, R⟩ := T.h4
      repeat walk_at "rd"
      exact rd_xv0 rfl hx R.xf R.tx.noN k
    · obtain ⟨m, fI, cc, cda, R⟩ := T.h5
      repeat walk_at "rd"
      exact rd_xv0 rfl hx R.xf R.tx.noN k
    · obtain ⟨m, fI, cc, cda, R⟩ := T.h6
      repeat walk_at "rd"
      exact rd_xv0 rfl hx R.xf R.tx.noN k
theorem scM : FnScope ["at", "thing", "caught", "e"] ["at", "thing"] (defScope sMade) := ⟨rfl, rfl, rfl, by decide +kernel, rfl, by decide +kernel, by decide +kernel⟩
theorem scN : FnScope ["at", "thing", "caught", "e"] ["at", "thing"] (defScope sNamed) := ⟨rfl, rfl, rfl, by decide +kernel, rfl, by decide +kernel, by decide +kernel⟩
theorem ok_made {f : Addr} {fd : FuncData} (F : Fun K "_law_made" "_law_made" sMade f fd) (T : Rfs P K mg TT C) : FnOk P w K mg base CX0 3 f fd ["at", "thing"] (spMade C) := by
  obtain ⟨m0, fI0, cc0, cda0, R0⟩ := T.h0
  obtain ⟨m1, fI1, cc1, cda1, R1⟩ := T.h1
  obtain ⟨m2, fI2, cc2, cda2, R2⟩ := T.h2
  obtain ⟨m3, fI3, cc3, cda3, R3⟩ := T.h3
  obtain ⟨m4, fI4, cc4, cda4, R4⟩ := T.h4
  obtain ⟨m5, fI5, cc5, cda5, R5⟩ := T.h5
  obtain ⟨m6, fI6, cc6, cda6, R6⟩ := T.h6
  refine F.ok scM (fun vs H Q E h => ?_) (fun cdv A outer s H vs Q E hr h => ?_)
  · obtain ⟨i, v, rfl, _⟩ := h
    rfl
  · obtain ⟨i, v, rfl, hi, k⟩ := h
    refine ⟨_, pss_cons (ps_set (i := 2) scM.nd rfl (Or.inl rfl) pe_non) (pss_cons (ps_try_keep (i := 3) rfl rfl rfl scM.nd rfl rfl ⟨rfl, by decide, .inl T.gT⟩ takes0
      (fun W pn xe tk _ => (pss_cons (ps_if (pt_cmpR op_eq (pv 0) pe_int (nomark _)) (pss_one (ps_raise rfl tk (pmk_x R0.tx hr (pa_cons (pv 1) pa_nil) (by rfl)))) pss_nil) (pss_cons (ps_if (pt_cmpR op_eq (pv 0) pe_int (nomark _)) (pss_one (ps_raise rfl tk (pmk_x R1.tx hr (pa_cons (pv 1) pa_nil) (by rfl)))) pss_nil) (pss_cons (ps_if (pt_cmpR op_eq (pv 0) pe_int (nomark _)) (pss_one (ps_raise rfl tk (pmk_x R2.tx hr (pa_cons (pv 1) pa_nil) (by rfl)))) pss_nil) (pss_cons (ps_if (pt_cmpR op_eq (pv 0) pe_int (nomark _)) (pss_one (ps_raise rfl tk (pmk_x R3.tx hr (pa_cons (pv 1) pa_nil) (by rfl)))) pss_nil) (pss_cons (ps_if (pt_cmpR op_eq (pv 0) pe_int (nomark _)) (pss_one (ps_raise rfl tk (pmk_x R4.tx hr (pa_cons (pv 1) pa_nil) (by rfl)))) pss_nil) (pss_cons (ps_if (pt_cmpR op_eq (pv 0) pe_int (nomark _)) (pss_one (ps_raise rfl tk (pmk_x R5.tx hr (pa_cons (pv 1) pa_nil) (by rfl)))) pss_nil) (pss_one (ps_raise rfl tk (pmk_x R6.tx hr (pa_cons (pv 1) pa_nil) (by rfl)))))))))))
      (fun a oe cls d pn hz hf => pss_one (ps_set (i := 2) scM.nd rfl (Or.inl rfl) (pv 3))))
      (pss_one (ps_ret (pv 2)))), ?_⟩
    rcases lt7 hi with rfl | rfl | rfl | rfl | rfl | rfl | rfl
    · repeat walk_at "rd"
      refine ⟨_, rfl, v, rfl, fun d hd => ⟨true, R0.te, fun _ a ha => ?_, fun z => nomatch z⟩⟩
      obtain ⟨z1, z2⟩ := kept_end (C := C 0) hd ha
      exact ⟨_, rfl, _, rfl, k a _ z1 z2⟩
    · repeat walk_at "rd"
      refine ⟨_, rfl, v, rfl, fun d hd => ⟨true, R1.te, fun _ a ha => ?_, fun z => nomatch z⟩⟩
      obtain ⟨z1, z2⟩ := kept_end (C := C 1) hd ha
      exact ⟨_, rfl, _, rfl, k a _ z1 z2⟩
    · repeat walk_at "rd"
      refine ⟨_, rfl, v, rfl, fun d hd => ⟨true, R2.te, fun _ a ha => ?_, fun z => nomatch z⟩⟩
      obtain ⟨z1, z2⟩ := kept_end (C := C 2) hd ha
      exact ⟨_, rfl, _, rfl, k a _ z1 z2⟩
    · repeat walk_at "rd"
      refine ⟨_, rfl, v, rfl, fun d hd => ⟨true, R3.te, fun _ a ha => ?_, fun z => nomatch z⟩⟩
      obtain ⟨z1, z2⟩ := kept_end (C := C 3) hd ha
      exact ⟨_, rfl, _, rfl, k a _ z1 z2⟩
    · repeat walk_at "rd"
      refine ⟨_, rfl, v, rfl, fun d hd => ⟨true, R4.te, fun _ a ha => ?_, fun z => nomatch z⟩⟩
      obtain ⟨z1, z2⟩ := kept_end (C := C 4) hd ha
      exact ⟨_, rfl, _, rfl, k a _ z1 z2⟩
    · repeat walk_at "rd"
      refine ⟨_, rfl, v, rfl, fun d hd => ⟨true, R5.te, fun _ a ha => ?_, fun z => nomatch z⟩⟩
      obtain ⟨z1, z2⟩ := kept_end (C := C 5) hd ha
      exact ⟨_, rfl, _, rfl, k a _ z1 z2⟩
    · repeat walk_at "rd"
      refine ⟨_, rfl, v, rfl, fun d hd => ⟨true, R6.te, fun _ a ha => ?_, fun z => nomatch z⟩⟩
      obtain ⟨z1, z2⟩ := kept_end (C := C 6) hd ha
      exact ⟨_, rfl, _, rfl, k a _ z1 z2⟩
theorem ok_named {f : Addr} {fd : FuncData} (F : Fun K "_law_named" "_law_named" sNamed f fd) (T : Rfs P K mg TT C) : FnOk P w K mg base CX0 3 f fd ["at", "thing"] (spMade C) := by
  obtain ⟨m0, fI0, cc0, cda0, R0⟩ := T.h0
  obtain ⟨m1, fI1, cc1, cda1, R1⟩ := T.h1
  obtain ⟨m2, fI2, cc2, cda2, R2⟩ := T.h2
  obtain ⟨m3, fI3, cc3, cda3, R3⟩ := T.h3
  obtain ⟨m4, fI4, cc4, cda4, R4⟩ := T.h4
  obtain ⟨m5, fI5, cc5, cda5, R5⟩ := T.h5
  obtain ⟨m6, fI6, cc6, cda6, R6⟩ := T.h6
  refine F.ok scN (fun vs H Q E h => ?_) (fun cdv A outer s H vs Q E hr h => ?_)
  · obtain ⟨i, v, rfl, _⟩ := h
    rfl
  · obtain ⟨i, v, rfl, hi, k⟩ := h
    refine ⟨_, pss_cons (ps_set (i := 2) scN.nd rfl (Or.inl rfl) pe_non) (pss_cons (ps_try_keep (i := 3) rfl rfl rfl scN.nd rfl rfl ⟨rfl, by decide, .inl T.gT⟩ takes0
      (fun W pn xe tk _ => (pss_cons (ps_if (pt_cmpR op_eq (pv 0) pe_int (nomark _)) (pss_one (ps_raise rfl tk (pmk_xk R0.tx hr (pv 1) (by rfl)))) pss_nil) (pss_cons (ps_if (pt_cmpR op_eq (pv 0) pe_int (nomark _)) (pss_one (ps_raise rfl tk (pmk_xk R1.tx hr (pv 1) (by rfl)))) pss_nil) (pss_cons (ps_if (pt_cmpR op_eq (pv 0) pe_int (nomark _)) (pss_one (ps_raise rfl tk (pmk_xk R2.tx hr (pv 1) (by rfl)))) pss_nil) (pss_cons (ps_if (pt_cmpR op_eq (pv 0) pe_int (nomark _)) (pss_one (ps_raise rfl tk (pmk_xk R3.tx hr (pv 1) (by rfl)))) pss_nil) (pss_cons (ps_if (pt_cmpR op_eq (pv 0) pe_int (nomark _)) (pss_one (ps_raise rfl tk (pmk_xk R4.tx hr (pv 1) (by rfl)))) pss_nil) (pss_cons (ps_if (pt_cmpR op_eq (pv 0) pe_int (nomark _)) (pss_one (ps_raise rfl tk (pmk_xk R5.tx hr (pv 1) (by rfl)))) pss_nil) (pss_one (ps_raise rfl tk (pmk_xk R6.tx hr (pv 1) (by rfl)))))))))))
      (fun a oe cls d pn hz hf => pss_one (ps_set (i := 2) scN.nd rfl (Or.inl rfl) (pv 3))))
      (pss_one (ps_ret (pv 2)))), ?_⟩
    rcases lt7 hi with rfl | rfl | rfl | rfl | rfl | rfl | rfl
    · repeat walk_at "rd"
      refine ⟨_, rfl, v, rfl, fun d hd => ⟨true, R0.te, fun _ a ha => ?_, fun z => nomatch z⟩⟩
      obtain ⟨z1, z2⟩ := kept_end (C := C 0) hd ha
      exact ⟨_, rfl, _, rfl, k a _ z1 z2⟩
    · repeat walk_at "rd"
      refine ⟨_, rfl, v, rfl, fun d hd => ⟨true, R1.te, fun _ a ha => ?_, fun z => nomatch z⟩⟩
      obtain ⟨z1, z2⟩ := kept_end (C := C 1) hd ha
      exact ⟨_, rfl, _, rfl, k a _ z1 z2⟩
    · repeat walk_at "rd"
      refine ⟨_, rfl, v, rfl, fun d hd => ⟨true, R2.te, fun _ a ha => ?_, fun z => nomatch z⟩⟩
      obtain ⟨z1, z2⟩ := kept_end (C := C 2) hd ha
      exact ⟨_, rfl, _, rfl, k a _ z1 z2⟩
    · repeat walk_at "rd"
      refine ⟨_, rfl, v, rfl, fun d hd => ⟨true, R3.te, fun _ a ha => ?_, fun z => nomatch z⟩⟩
      obtain ⟨z1, z2⟩ := kept_end (C := C 3) hd ha
      exact ⟨_, rfl, _, rfl, k a _ z1 z2⟩
    · repeat walk_at "rd"
      refine ⟨_, rfl, v, rfl, fun d hd => ⟨true, R4.te, fun _ a ha => ?_, fun z => nomatch z⟩⟩
      obtain ⟨z1, z2⟩ := kept_end (C := C 4) hd ha
      exact ⟨_, rfl, _, rfl, k a _ z1 z2⟩
    · repeat walk_at "rd"
      refine ⟨_, rfl, v, rfl, fun d hd => ⟨true, R5.te, fun _ a ha => ?_, fun z => nomatch z⟩⟩
      obtain ⟨z1, z2⟩ := kept_end (C := C 5) hd ha
      exact ⟨_, rfl, _, rfl, k a _ z1 z2⟩
    · repeat walk_at "rd"
      refine ⟨_, rfl, v, rfl, fun d hd => ⟨true, R6.te, fun _ a ha => ?_, fun z => nomatch z⟩⟩
      obtain ⟨z1, z2⟩ := kept_end (C := C 6) hd ha
      exact ⟨_, rfl, _, rfl, k a _ z1 z2⟩
/-- which of the seven -/
def bools (i : Nat) : List V := (List.range 7).map fun j => V.bl (decide (i = j))
def spSorts (C : Nat → Addr) : Sp := fun vs H Q _ => ∃ (a : Addr) (i : Nat) (v : V), vs = [.ref a] ∧ i < 7 ∧ ExAt (C i) (fld i) H a v ∧ ∀ (p : Addr) (H' : Hp), H' p = some (.lst (bools i)) → Same H H' → Q (.ref p) H'
theorem scS : FnScope ["caught", "some"] ["caught"] (defScope sSorts) := ⟨rfl, rfl, rfl, by decide +kernel, rfl, by decide +kernel, by decide +kernel⟩
theorem bools_eq (i : Nat) : bools i = [.bl (decide (i = 0)), .bl (decide (i = 1)), .bl (decide (i = 2)), .bl (decide (i = 3)), .bl (decide (i = 4)), .bl (decide (i = 5)), .bl (decide (i = 6))] := rfl
theorem Rfs.xc {P : Program} {K : PySem.W.Frag} {mg : Str → Option Value} {TT : Addr} {C : Nat → Addr} (T : Rfs P K mg TT C) {i : Nat} (h : i < 7) : ExcC K (C i) := by
  rcases lt7 h with rfl | rfl | rfl | rfl | rfl | rfl | rfl
  · obtain ⟨_, _, _, _, R⟩ := T.h0; exact R.xc
  · obtain ⟨_, _, _, _, R⟩ := T.h1; exact R.xc
  · obtain ⟨_, _, _, _, R⟩ := T.h2; exact R.xc
  · obtain ⟨_, _, _, _, R⟩ := T.h3; exact R.xc
  · obtain ⟨_, _, _, _, R⟩ := T.h4; exact R.xc
  · obtain ⟨_, _, _, _, R⟩ := T.h5; exact R.xc
  · obtain ⟨_, _, _, _, R⟩ := T.h6; exact R.xc
theorem Rfs.ve {P : Program} {K : PySem.W.Frag} {mg : Str → Option Value} {TT : Addr} {C : Nat → Addr} (T : Rfs P K mg TT C) {i : Nat} (h : i < 7) : PySem.W.kitOne K (.ref (C i)) (.type "ValueError") = some true := by
  rcases lt7 h with rfl | rfl | rfl | rfl | rfl | rfl | rfl
  · obtain ⟨_, _, _, _, R⟩ := T.h0; exact R.ve
  · obtain ⟨_, _, _, _, R⟩ := T.h1; exact R.ve
  · obtain ⟨_, _, _, _, R⟩ := T.h2; exact R.ve
  · obtain ⟨_, _, _, _, R⟩ := T.h3; exact R.ve
  · obtain ⟨_, _, _, _, R⟩ := T.h4; exact R.ve
  · obtain ⟨_, _, _, _, R⟩ := T.h5; exact R.ve
  · obtain ⟨_, _, _, _, R⟩ := T.h6; exact R.ve
theorem ok_sorts {f : Addr} {fd : FuncData} (F : Fun K "_law_sorts" "_law_sorts" sSorts f fd) (T : Rfs P K mg TT C) (isi : mg "isinstance" = none) : FnOk P w K mg base CX0 1 f fd ["caught"] (spSorts C) := by
  obtain ⟨m0, fI0, cc0, cda0, R0⟩ := T.h0
  obtain ⟨m1, fI1, cc1, cda1, R1⟩ := T.h1
  obtain ⟨m2, fI2, cc2, cda2, R2⟩ := T.h2
  obtain ⟨m3, fI3, cc3, cda3, R3⟩ := T.h3
  obtain ⟨m4, fI4, cc4, cda4, R4⟩ := T.h4
  obtain ⟨m5, fI5, cc5, cda5, R5⟩ := T.h5
  obtain ⟨m6, fI6, cc6, cda6, R6⟩ := T.h6
  refine F.ok scS (fun vs H Q E h => ?_) (fun cdv A outer s H vs Q E hr h => ?_)
  · obtain ⟨a, i, v, rfl, _⟩ := h
    rfl
  · obtain ⟨a, i, v, rfl, hi, hx, k⟩ := h
    refine ⟨_, pss_cons (ps_set (i := 1) scS.nd rfl (Or.inl rfl) (pe_lst (pa_cons (pe_callB call_isx (by rfl) isi (by decide +kernel) (pa_cons (pv 0) (pa_cons (pe_glob (v := .ref (C 0)) (by rfl) R0.tx.gC rfl) pa_nil))) (pa_cons (pe_callB call_isx (by rfl) isi (by decide +kernel) (pa_cons (pv 0) (pa_cons (pe_glob (v := .ref (C 1)) (by rfl) R1.tx.gC rfl) pa_nil))) (pa_cons (pe_callB call_isx (by rfl) isi (by decide +kernel) (pa_cons (pv 0) (pa_cons (pe_glob (v := .ref (C 2)) (by rfl) R2.tx.gC rfl) pa_nil))) pa_nil)))))
      (pss_cons (ps_set (i := 1) scS.nd rfl (Or.inl rfl) (pe_op op_cat (pv 1) (pe_lst (pa_cons (pe_callB call_isx (by rfl) isi (by decide +kernel) (pa_cons (pv 0) (pa_cons (pe_glob (v := .ref (C 3)) (by rfl) R3.tx.gC rfl) pa_nil))) (pa_cons (pe_callB call_isx (by rfl) isi (by decide +kernel) (pa_cons (pv 0) (pa_cons (pe_glob (v := .ref (C 4)) (by rfl) R4.tx.gC rfl) pa_nil))) (pa_cons (pe_callB call_isx (by rfl) isi (by decide +kernel) (pa_cons (pv 0) (pa_cons (pe_glob (v := .ref (C 5)) (by rfl) R5.tx.gC rfl) pa_nil))) pa_nil))))))
      (pss_one (ps_ret (pe_op op_cat (pv 1) (pe_lst (pa_cons (pe_callB call_isx (by rfl) isi (by decide +kernel) (pa_cons (pv 0) (pa_cons (pe_glob (v := .ref (C 6)) (by rfl) R6.tx.gC rfl) pa_nil))) pa_nil)))))), ?_⟩
    have xc := T.xc hi
    repeat walk_at "rd"
    refine rd_isx hx xc (T.is i 0 hi (by decide)) ?_
    repeat walk_at "rd"
    refine rd_isx hx xc (T.is i 1 hi (by decide)) ?_
    repeat walk_at "rd"
    refine rd_isx hx xc (T.is i 2 hi (by decide)) ?_
    repeat walk_at "rd"
    refine ⟨by show 3 ≤ sizeLine; decide, fun q1 n1 => ?_⟩
    have s1 := Same.new (o := .lst [.bl (decide (i = 0)), .bl (decide (i = 1)), .bl (decide (i = 2))]) n1
    have hx1 := hx.same s1
    repeat walk_at "rd"
    refine rd_isx hx1 xc (T.is i 3 hi (by decide)) ?_
    repeat walk_at "rd"
    refine rd_isx hx1 xc (T.is i 4 hi (by decide)) ?_
    repeat walk_at "rd"
    refine rd_isx hx1 xc (T.is i 5 hi (by decide)) ?_
    repeat walk_at "rd"
    refine ⟨by show 3 ≤ sizeLine; decide, fun q2 n2 => ?_⟩
    have s2 := Same.new (o := .lst [.bl (decide (i = 3)), .bl (decide (i = 4)), .bl (decide (i = 5))]) n2
    refine rd_cat (s2 _ _ upd_same) upd_same (by show 3 + 3 ≤ 1000; decide) fun q3 n3 => ?_
    have s3 := Same.new (o := .lst ([.bl (decide (i = 0)), .bl (decide (i = 1)), .bl (decide (i = 2))] ++ [.bl (decide (i = 3)), .bl (decide (i = 4)), .bl (decide (i = 5))])) n3
    have hx3 := (hx1.same s2).same s3
    repeat walk_at "rd"
    refine rd_isx hx3 xc (T.is i 6 hi (by decide)) ?_
    repeat walk_at "rd"
    refine ⟨by show 1 ≤ sizeLine; decide, fun q4 n4 => ?_⟩
    have s4 := Same.new (o := .lst [.bl (decide (i = 6))]) n4
    refine rd_cat (s4 _ _ upd_same) upd_same (by show 6 + 1 ≤ 1000; decide) fun q5 n5 => ?_
    exact k _ _ upd_same ((((s1.trans s2).trans s3).trans s4).trans (Same.new n5))
end
end Tug
namespace Tug
open PySem L2
local macro_rules | `(tactic| walk_at "rd") => `(tactic| (first
  | with_reducible refine rd_seq ?_
  | with_reducible refine rd_if ?_
  | with_reducible refine rd_asg ?_
  | with_reducible refine rd_ret ?_
  | with_reducible refine rd_drop ?_
  | with_reducible refine rd_next ?_
  | ((with_reducible refine' rd_var ?rde ?_); (case rde => rfl))
  | with_reducible refine rd_c ?_
  | with_reducible refine rd_op ?_
  | with_reducible refine rd_un ?_
  | with_reducible refine rd_neg ?_
  | with_reducible refine rd_I0 ?_
  | with_reducible refine rd_nil ?_
  | with_reducible refine rd_cons ?_
  | with_reducible refine rd_tup ?_
  | with_reducible refine rd_lst ?_
  | with_reducible refine rd_gname ?_
  | with_reducible refine rd_gsub ?_
  | with_reducible refine rd_test ?_
  | with_reducible refine rd_B ?_
  | ((with_reducible show ∃ k, V.bl _ = V.bl k ∧ _); refine ⟨_, rfl, ?_⟩)
  | with_reducible refine rd_and ?_
  | with_reducible refine rd_or ?_
  | with_reducible refine rd_not ?_
  | with_reducible refine rd_ifE ?_
  | with_reducible refine rd_call ?_
  | with_reducible refine rd_cb ?_
  | ((with_reducible refine' rd_eq ?rdc ?_); (case rdc => rfl))
  | ((with_reducible refine' rd_ne ?rdc ?_); (case rdc => rfl))
  | ((with_reducible refine' rd_ixL ?rda ?rdb ?_); (case rda => first | exact SqL.of (by assumption) | assumption); (case rdb => rfl))
  | ((with_reducible refine' rd_ixT ?rda ?rdb ?_); (case rda => first | exact SqT.of (by assumption) | assumption); (case rdb => rfl))
  | ((with_reducible refine' rd_setL ?rda ?rdb ?_); (case rda => assumption); (case rdb => rfl))
  | ((with_reducible refine' rd_lenL ?rda ?_); (case rda => first | exact SqL.of (by assumption) | assumption))
  | with_reducible refine rd_yes ?_
  | with_reducible refine rd_par ?_
  | with_reducible refine rd_gcons ?_
  | with_reducible refine rd_gnil ?_
  | ((with_reducible refine' rd_decY ?rdc ?_); (case rdc => decide))
  | ((with_reducible refine' rd_decF ?rdc ?_); (case rdc => decide))
  | with_reducible refine iteF ?_
  | with_reducible refine iteT ?_
  | with_reducible refine rd_max ?_
  | with_reducible refine rd_min ?_
  | ((with_reducible refine' rd_I ?rdc ?_); (case rdc => first | (show (0 : Int) < _; omega) | exact ⟨by decide, by decide⟩ | exact ⟨by decide, by decide, by decide⟩ | exact .inr ⟨by omega, by omega⟩ | exact .inl ⟨by omega, by omega⟩ | exact CPowW.of (by decide) (by decide) (by omega) (by omega) | fail "rdc"))
  | with_reducible refine rd_nx ?_
  | fail "rd"))
abbrev sLaw : Stmt := top 18
def spLaw (K : PySem.W.Frag) : Sp := fun vs H Q _ => ∃ (a : Addr) (ns : List Int), vs = [.ref a] ∧ SqL K H a (ns.map V.int) ∧ (∀ z ∈ ns, Builtin.Int.intBits z ≤ 1048576) ∧ ∀ H', Q (.bl true) H'
/-- what law calls -/
structure Gs (P : Program) (w : World) (K : PySem.W.Frag) (mg : Str → Option Value) (base : Heap) (TT : Addr) (C : Nat → Addr) (fW fT fF fN fM fS : Addr) (dW dT dF dN dM dS : FuncData) : Prop where
  T : Rfs P K mg TT C
  W : FnOk P w K mg base CX0 1 fW dW ["script", "k"] (spWell K)
  Th : FnOk P w K mg base CX0 6 fT dT ["well", "deep"] (spThing K 4)
  Fi : FnOk P w K mg base CX0 1 fF dF ["caught", "at"] (spField C)
  Na : FnOk P w K mg base CX0 3 fN dN ["at", "thing"] (spMade C)
  Ma : FnOk P w K mg base CX0 3 fM dM ["at", "thing"] (spMade C)
  So : FnOk P w K mg base CX0 1 fS dS ["caught"] (spSorts C)
  bW : Binds K dW ["script", "k"] []
  bT : Binds K dT ["well", "deep"] []
  bF : Binds K dF ["caught", "at"] []
  bN : Binds K dN ["at", "thing"] []
  bM : Binds K dM ["at", "thing"] []
  bS : Binds K dS ["caught"] []
  mW : mg "_law_well" = some (.ref fW)
  mT : mg "_law_thing" = some (.ref fT)
  mF : mg "_law_field" = some (.ref fF)
  mN : mg "_law_named" = some (.ref fN)
  mM : mg "_law_made" = some (.ref fM)
  mS : mg "_law_sorts" = some (.ref fS)
  kW : PySem.W.keepIn K (.ref fW) = true
  kT : PySem.W.keepIn K (.ref fT) = true
  kF : PySem.W.keepIn K (.ref fF) = true
  kN : PySem.W.keepIn K (.ref fN) = true
  kM : PySem.W.keepIn K (.ref fM) = true
  kS : PySem.W.keepIn K (.ref fS) = true
  len : mg "len" = none
  rng : mg "range" = none
  mx : mg "max" = none
  mn : mg "min" = none
  rep : mg "repr" = none
  isi : mg "isinstance" = none
  vE : mg "ValueError" = none
section
variable {P : Program} {w : World} {K : PySem.W.Frag} {mg : Str → Option Value} {base : Heap} {TT : Addr} {C : Nat → Addr} {fW fT fF fN fM fS : Addr} {dW dT dF dN dM dS : FuncData}
/-- the seven answers as data -/
def bd (i : Nat) : PyData := .list ((List.range 7).map fun m => .bool (decide (i = m)))
theorem dp_bls {H : Hp} {g : Nat → Bool} : ∀ l : List Nat, DpAll K H (l.map fun m => V.bl (g m)) (l.map fun m => .bool (g m))
  | [] => .nil
  | _ :: l => .cons (.bl _) (dp_bls l)
theorem dp_bools {H : Hp} {p : Addr} {i : Nat} (h : H p = some (.lst (bools i))) : Dp K H (.ref p) (bd i) := .lst (SqL.of h) (dp_bls _)
theorem bd_self {i : Nat} (h : i < 7) : SeqAt.shaped (bd i) = true ∧ PyData.eqv (bd i) (bd i) = true := by
  rcases lt7 h with rfl | rfl | rfl | rfl | rfl | rfl | rfl <;> exact ⟨by decide +kernel, by decide +kernel⟩
theorem bl_next (j m : Nat) : decide (V.int (0 + (m : Int)) = V.int (j : Int)) = decide (j = m) := by
  rw [Int.zero_add]
  by_cases h : j = m
  · subst h; rw [decide_eq_true rfl, decide_eq_true rfl]
  · rw [decide_eq_false h, decide_eq_false]
    intro z
    injection z with z
    omega
theorem scL : FnScope ["script", "k", "well", "at", "one", "other", "first", "second", "caught", "thing", "spot"] ["script"] (defScope sLaw) := ⟨rfl, rfl, rfl, by decide +kernel, rfl, by decide +kernel, by decide +kernel⟩
theorem ok_law {f : Addr} {fd : FuncData} (F : Fun K "law" "law" sLaw f fd) (G : Gs P w K mg base TT C fW fT fF fN fM fS dW dT dF dN dM dS) : FnG P w K mg base CX0 7 f fd ["script"] (spLaw K) := by
  refine F.okG scL (fun vs H Q E h => ?_) (fun cdv A outer s H vs Q E hgd hr h => ?_)
  · obtain ⟨a, ns, rfl, _⟩ := h
    rfl
  · obtain ⟨a, ns, rfl, hS, hbits, k⟩ := h
    have hr1 : Room 1 _ := hr.mono (by decide)
    have hr3 : Room 3 _ := hr.mono (by decide)
    have hu := hr.units
    refine ⟨_, pss_cons (ps_for PassesOwn.never rfl (pi_range1 (by rfl) G.rng (pa_cons (pe_callB (call_max rfl) (by rfl) G.mx (by decide +kernel) (pa_cons pe_int (pa_cons (pe_callB (call_min rfl) (by rfl) G.mn (by decide +kernel) (pa_cons pe_int (pa_cons (pe_callB call_len (by rfl) G.len PySem.boot_len (pa_cons (pv 0) pa_nil)) pa_nil))) pa_nil))) pa_nil)) (pg_name (i := 1) scL.nd rfl (Or.inl rfl))
        (pss_cons (ps_set (i := 2) scL.nd rfl (Or.inl rfl) (pe_call G.W hr1 (by rfl) G.mW G.kW G.bW .nil pass0 (pa_cons (pv 0) (pa_cons (pv 1) pa_nil))))
        (pss_one (ps_for PassesOwn.never rfl (pi_range1 (by rfl) G.rng (pa_cons pe_int pa_nil)) (pg_name (i := 3) scL.nd rfl (Or.inr rfl))
          (pss_cons (ps_par (i := 4) (j := 5) rfl scL.nd rfl rfl (by decide) rfl rfl (pa_cons (pe_call G.Th hr (by rfl) G.mT G.kT G.bT .nil pass0 (pa_cons (pv 2) (pa_cons pe_int pa_nil))) (pa_cons (pe_call G.Th hr (by rfl) G.mT G.kT G.bT .nil pass0 (pa_cons (pv 2) (pa_cons pe_int pa_nil))) pa_nil)) rfl)
          (pss_cons (ps_par (i := 6) (j := 7) rfl scL.nd rfl rfl (by decide) rfl rfl (pa_cons (pe_call G.Ma hr3 (by rfl) G.mM G.kM G.bM .nil pass0 (pa_cons (pv 3) (pa_cons (pv 4) pa_nil))) (pa_cons (pe_call G.Na hr3 (by rfl) G.mN G.kN G.bN .nil pass0 (pa_cons (pv 3) (pa_cons (pv 5) pa_nil))) pa_nil)) rfl)
          (pss_one (ps_for PassesOwn.never rfl (pi_list (pe_lst (pa_cons (pe_tup (pa_cons (pv 6) (pa_cons (pv 4) pa_nil))) (pa_cons (pe_tup (pa_cons (pv 7) (pa_cons (pv 5) pa_nil))) pa_nil)))) (pg_tup rfl (pgs_cons (pg_name (i := 8) scL.nd rfl (Or.inl rfl)) (pgs_cons (pg_name (i := 9) scL.nd rfl (Or.inl rfl)) pgs_nil)))
            (pss_cons (ps_if (pt_cmpR op_ne (pe_callB (call_repr hgd hu) (by rfl) G.rep (by decide +kernel) (pa_cons (pe_call G.Fi hr1 (by rfl) G.mF G.kF G.bF .nil pass0 (pa_cons (pv 8) (pa_cons (pv 3) pa_nil))) pa_nil)) (pe_callB (call_repr hgd hu) (by rfl) G.rep (by decide +kernel) (pa_cons (pv 9) pa_nil)) (nomark _)) (pss_one (ps_ret pe_bl)) pss_nil)
            (pss_one (ps_if (PW.pt (pw_or (pt_not (pt_val (pe_callB call_isx (by rfl) G.isi (by decide +kernel) (pa_cons (pv 8) (pa_cons (pe_bltn (v := .ty "ValueError") (by rfl) G.vE (by decide +kernel) rfl) pa_nil)))))
                (pw_or1 (pt_cmpR (op_neD hu) (pe_call G.So hr1 (by rfl) G.mS G.kS G.bS .nil pass0 (pa_cons (pv 8) pa_nil))
                  (pe_lc (own := [("spot", 10)]) (g := gName 10) (tt := tYes) rfl scL.nd (pi_range1 (by rfl) G.rng (pa_cons pe_int pa_nil)) (blkOk_by (N := ["script", "k", "well", "at", "one", "other", "first", "second", "caught", "thing", "spot"]) (sc := defScope sLaw) (by decide +kernel))
                    (fun _ _ _ _ _ => pg_name (i := 10) scL.nd rfl (Or.inl rfl)) (fun _ _ _ _ _ => pts_nil) (fun _ _ _ _ _ => pe_cmpR op_eq (pv 10) (pv 3) (nomark _))) (nomark _)))))
              (pss_one (ps_ret pe_bl)) pss_nil)))))))))))
      (pss_one (ps_ret pe_bl)), ?_⟩
    repeat walk_at "rd"
    refine rd_forR ?_
    repeat walk_at "rd"
    have hj : ∀ j : Int, (if (if ((ns.map V.int).length : Int) < 5 then ((ns.map V.int).length : Int) else 5) > 2 then (if ((ns.map V.int).length : Int) < 5 then ((ns.map V.int).length : Int) else 5) else 2) = j → 0 ≤ j ∧ j ≤ 5 := by
      intro j e
      rw [← e]
      constructor <;> (repeat' split) <;> omega
    refine ⟨_, rfl, by have := (hj _ rfl).1; omega, by have := (hj _ rfl).2; omega, for_range (fun i σ H' => ∃ o1 o2 o3 o4 o5 o6 o7 o8 o9 o10 : Option V, σ = [some (.ref a), o1, o2, o3, o4, o5, o6, o7, o8, o9, o10] ∧ Same H H')
      ⟨_, _, _, _, _, _, _, _, _, _, rfl, Same.refl H⟩ ?_ ?_⟩
    · rintro i σ H1 hi ⟨o1, o2, o3, o4, o5, o6, o7, o8, o9, o10, rfl, s1⟩
      have hi5 : i < 6 := by have := (hj _ rfl).2; omega
      have hS1 := SqL.same hS s1
      repeat walk_at "rd"
      refine ⟨a, ns, _, rfl, hS1, hbits, by omega, by omega, fun p H2 hp w2 b2 => ?_⟩
      have s2 : Same H H2 := s1.trans fun c o e => (b2 c (ne_of_none e hp)).trans e
      have np : ∀ b o, H b = some o → b ≠ p := fun b o e => ne_of_none (s1 b o e) hp
      repeat walk_at "rd"
      refine rd_forR ?_
      repeat walk_at "rd"
      refine ⟨_, rfl, by decide, by decide, for_range (fun j σ H' => ∃ o1 o3 o4 o5 o6 o7 o8 o9 o10 : Option V, σ = [some (.ref a), o1, some (.ref p), o3, o4, o5, o6, o7, o8, o9, o10] ∧ Same H H' ∧ Well H' p)
        ⟨_, _, _, _, _, _, _, _, _, rfl, s2, w2⟩ ?_ ?_⟩
      · rintro j σ H3 hj7 ⟨o1, o3, o4, o5, o6, o7, o8, o9, o10, rfl, s3, w3⟩
        have hj7' : j < 7 := hj7
        rw [Int.zero_add]
        repeat walk_at "rd"
        refine ⟨p, 3, rfl, w3, by decide, by decide, fun v1 d1 H4 f1 g1 w4 k4 => ?_⟩
        repeat walk_at "rd"
        refine ⟨p, 3, rfl, w4, by decide, by decide, fun v2 d2 H5 f2 g2 w5 k5 => ?_⟩
        repeat walk_at "rd"
        refine ⟨_, _, rfl, ?_⟩
        repeat walk_at "rd"
        refine ⟨j, v1, rfl, hj7', fun a1 H6 x1 s6 => ?_⟩
        repeat walk_at "rd"
        refine ⟨j, v2, rfl, hj7', fun a2 H7 x2 s7 => ?_⟩
        repeat walk_at "rd"
        refine ⟨_, _, rfl, ?_⟩
        repeat walk_at "rd"
        refine rd_forI ?_
        repeat walk_at "rd"
        refine ⟨by show 2 ≤ sizeLine; decide, fun t1 n1 => ?_⟩
        have s8 := Same.new (o := .tup [.ref a1, v1]) n1
        repeat walk_at "rd"
        refine ⟨by show 2 ≤ sizeLine; decide, fun t2 n2 => ?_⟩
        have s9 := Same.new (o := .tup [.ref a2, v2]) n2
        repeat walk_at "rd"
        refine ⟨by show 2 ≤ sizeLine; decide, fun q n3 => ?_⟩
        have s10 := Same.new (o := .lst [.ref t1, .ref t2]) n3
        generalize hX : upd (upd (upd H7 t1 (.tup [.ref a1, v1])) t2 (.tup [.ref a2, v2])) q (.lst [.ref t1, .ref t2]) = HX at *
        have sX : Same H7 HX := (s8.trans s9).trans s10
        have eq_q : HX q = some (.lst [.ref t1, .ref t2]) := by rw [← hX]; exact upd_same
        have eq1 : HX t1 = some (.tup [.ref a1, v1]) := s10 _ _ (s9 _ _ upd_same)
        have eq2 : HX t2 = some (.tup [.ref a2, v2]) := s10 _ _ upd_same
        have y1 : ExAt (C j) (fld j) HX a1 v1 := (x1.same s7).same sX
        have y2 : ExAt (C j) (fld j) HX a2 v2 := x2.same sX
        have s5X : Same H5 HX := (s6.trans s7).trans sX
        have e1 : Dp K HX v1 d1 := Dp.same s5X (Dp.same (fun b o e => by
          obtain ⟨z1, z2⟩ := nw_at e
          exact k5 b o (fun z => w3.some (z ▸ z1)) z2) f1)
        have e2 : Dp K HX v2 d2 := Dp.same s5X (Dp.same nw_sub f2)
        have wX : Well HX p := by
          obtain ⟨z1, z2, z3, z4⟩ := w5
          exact ⟨z1, z2, s5X _ _ z3, z4⟩
        have sHX : Same H HX := fun b o e => s5X b o (k5 b o (np b o e) (k4 b o (np b o e) (s3 b o e)))
        refine ⟨q, rfl, ⟨_, SqL.of eq_q⟩, for_list (xs := [.ref t1, .ref t2]) (fun m σ H' => ∃ o1 o8 o9 o10 : Option V, σ = [some (.ref a), o1, some (.ref p), some (.int j), some v1, some v2, some (.ref a1), some (.ref a2), o8, o9, o10] ∧ Same HX H')
          ⟨_, _, _, _, rfl, Same.refl HX⟩ (fun m σ H' _ ⟨_, _, _, _, _, s⟩ => SqL.same (SqL.of eq_q) s) ?_ ?_⟩
        · rintro m x σ H8 hm ⟨o1, o8, o9, o10, rfl, s11⟩
          obtain ⟨t, at_, vt, dt, rfl, ht, hx, hd, hg⟩ : ∃ (t at_ : Addr) (vt : V) (dt : PyData), x = .ref t ∧ H8 t = some (.tup [.ref at_, vt]) ∧ ExAt (C j) (fld j) H8 at_ vt ∧ Dp K H8 vt dt ∧ Good 4 dt := by
            match m, hm with
            | 0, hm => exact ⟨t1, a1, v1, d1, (Option.some.inj hm).symm, s11 _ _ eq1, y1.same s11, Dp.same s11 e1, g1⟩
            | 1, hm => exact ⟨t2, a2, v2, d2, (Option.some.inj hm).symm, s11 _ _ eq2, y2.same s11, Dp.same s11 e2, g2⟩
            | m + 2, hm => cases hm
          have hxc := G.T.xc hj7'
          have hve := G.T.ve hj7'
          have hln : dt.shown.length ≤ sizeLine := Nat.le_trans (show dt.shown.length ≤ 1920 by have := hg.ln; omega) (by decide)
          refine rd_gtup (SqT.of ht) rfl ?_
          repeat walk_at "rd"
          refine ⟨at_, j, vt, rfl, hj7', hx, ?_⟩
          repeat walk_at "rd"
          refine rd_repr hd hg.sh hg.nd (by have := hg.dp; omega) hln ?_
          repeat walk_at "rd"
          refine rd_repr hd hg.sh hg.nd (by have := hg.dp; omega) hln ?_
          repeat walk_at "rd"
          refine iteNS rfl ?_
          repeat walk_at "rd"
          refine rd_isxT hx hxc hve ?_
          repeat walk_at "rd"
          refine iteF ?_
          repeat walk_at "rd"
          refine ⟨at_, j, vt, rfl, hj7', hx, fun ps Hs es ss => ?_⟩
          repeat walk_at "rd"
          refine rd_lcR ?_
          repeat walk_at "rd"
          refine ⟨_, rfl, by decide, by decide, fun D hD => lc_range (fun m H' => H' D = some (.lst ((List.range m).map fun i => V.bl (decide (j = i)))) ∧ Same Hs H') ⟨upd_same, Same.new hD⟩ ?_ ?_⟩
          · rintro m H9 hm ⟨z1, z2⟩
            repeat walk_at "rd"
            refine ⟨rfl, ?_⟩
            repeat walk_at "rd"
            have hm7 : m < 7 := hm
            refine ⟨_, z1, by rw [List.length_map, List.length_range]; exact Nat.lt_of_lt_of_le hm7 (by decide), ?_, fun b o e => ?_⟩
            · rw [upd_same, bl_next, List.range_succ, List.map_append]
              rfl
            · rw [upd_ne (ne_of_none e hD)]
              exact z2 b o e
          · rintro H9 ⟨z1, z2⟩
            repeat walk_at "rd"
            obtain ⟨b1, b2⟩ := bd_self hj7'
            refine rd_neD (dp_bools (z2 _ _ es)) (dp_bools z1) b1 b1 ?_
            rw [b2]
            repeat walk_at "rd"
            refine iteF ?_
            repeat walk_at "rd"
            exact ⟨_, _, _, _, rfl, fun b o e => z2 b o (ss b o (s11 b o e))⟩
        · rintro σ H8 ⟨o1, o8, o9, o10, rfl, s11⟩
          repeat walk_at "rd"
          refine ⟨_, _, _, _, _, _, _, _, _, rfl, sHX.trans s11, ?_⟩
          obtain ⟨z1, z2, z3, z4⟩ := wX
          exact ⟨z1, z2, s11 _ _ z3, z4⟩
      · rintro σ H3 ⟨o1, o3, o4, o5, o6, o7, o8, o9, o10, rfl, s3, w3⟩
        repeat walk_at "rd"
        exact ⟨_, _, _, _, _, _, _, _, _, _, rfl, s3⟩
    · rintro σ H1 ⟨o1, o2, o3, o4, o5, o6, o7, o8, o9, o10, rfl, s1⟩
      repeat walk_at "rd"
      exact k _
end
end Tug
namespace Tug
open PySem L2
open PySem.W (Frag nsIn findIn typeIn keepIn subIn hasDictIn codeIn kitOne mroIn)
/-- a refusal class, from what the top has written -/
theorem rf_mk {P : Program} {K : Frag} {h : Heap} {mg : Str → Option Value} {x f m qual : Str} {T C fI cc cda N : Addr} (X : K.In h) (G : h.Ns mainGlobals mg) {nm q file : Str} {bs bm : List Value} {sn : List Str} {sub : List Value} {ab : Bool} {col : Option Bool} {dd od an cdd cld : Option Addr} {k0 k1 k2 k3 k5 : Option Value}
    {oc doc pm ct ccl cl : Value} {osl ccs csl : Array (Option Value)} {vs : Array Value} {tf : Tok} {j : Nat} {p1 p2 q0 q1 q2 q3 q4 q5 q6 q7 q8 q9 : Pos}
    (aC : nsIn K mainGlobals x = some (some (.ref C)))
    (lC : K.lookup C = some (excClassObj nm q C N bs bm true sn sub ab col dd k0 k1 k2 k3 k5 "ValueError.__new__")) (hbm : PySem.HandSPX.refsVE bm = true)
    (sa : findIn K (.ref C) "__setattr__" = some (some (.builtin "object.__setattr__"))) (ga : findIn K (.ref C) "__getattribute__" = some (some (.builtin "BaseException.__getattribute__"))) (gg : findIn K (.ref C) "__getattr__" = some none) (noN : findIn K (.ref C) f = some none)
    (iC : findIn K (.ref C) "__init__" = some (some (.ref fI))) (tC : typeIn K (.ref fI) = some (.type "function")) (kC : keepIn K (.ref C) = true) (exC : subIn K (.ref C) (.type "BaseException") = some true) (veC : subIn K (.ref C) (.type "ValueError") = some true)
    (tyC : typeIn K (.ref C) = some (.type "type")) (hdC : hasDictIn K C = true)
    (lF : K.lookup fI = some ⟨oc, od, .func (PySem.W.ksFn "__init__" qual (PySem.TugX.iA f p1 p2) (PySem.TugX.iB f m j q0 q1 q2 q3 q4 q5 q6 q7 q8 q9) (PySem.TugX.iS f) .none .none doc pm an (.ref cda) ct cc), osl⟩) (cF : codeIn K (.ref cda) qual = true) (ln : (q2.endLine == q4.line) = true)
    (lD : K.lookup cda = some ⟨ccl, cdd, .fields vs, ccs⟩) (hv : vs[2]? = some (.str file tf)) (hfile : ((P.main.file : Str) == file) = true)
    (lX : K.lookup cc = some ⟨cl, cld, .cell (some (.ref C)), csl⟩) (gS : nsIn K mainGlobals "super" = some none) (opq : nsIn K cStatics "thirdparty.any" = some none) (sup : PySem.W.ks_superIn K C C "__init__" = some (some (.builtin "ValueError.__init__")))
    (tp : (P.main.scope.names.lookup ("super" : Str)).isSome = false) (lkf : (PySem.TugX.iS f).names.lookup f = some .local) (lks : (PySem.TugX.iS f).names.lookup ("super" : Str) = some .globalImplicit) (lkc : (PySem.TugX.iS f).names.lookup ("__class__" : Str) = some .free)
    (nself : (f == ("self" : Str)) = false) (ndbg : (f == ("__debug__" : Str)) = false)
    (bnd : ∀ (doc pm ct cdv : Value) (an : Option Addr) (p1 p2 : Pos) (body : List Stmt) (sc : Scope) (u v : Value), bindArgs (PySem.W.ksFn "__init__" qual (PySem.TugX.iA f p1 p2) body sc .none .none doc pm an cdv ct cc) ⟨[u, v], []⟩ = pure ([("self", u), (f, v)] : List (Str × Value)))
    (bndk : ∀ (doc pm ct cdv : Value) (an : Option Addr) (p1 p2 : Pos) (body : List Stmt) (sc : Scope) (u v : Value), bindArgs (PySem.W.ksFn "__init__" qual (PySem.TugX.iA f p1 p2) body sc .none .none doc pm an cdv ct cc) ⟨[u], [(f, v)]⟩ = pure ([("self", u), (f, v)] : List (Str × Value)))
    (tE : subIn K (.ref T) (.type "BaseException") = some true) (tD : hasDictIn K T = true) (tT : typeIn K (.ref T) = some (.type "type")) (sT : subIn K (.ref C) (.ref T) = some true)
    (hcl : findIn K (.ref C) "__class__" = some (some (.builtin "object.__class__"))) (hsp : PySem.W.specialIn K (.builtin "object.__class__") "__get__" = some (some (.builtin "getset_descriptor.__get__"))) (htk : PySem.W.takesIn K (.builtin "object.__class__") = some true) (hmr : mroIn K C (.type "object") = some true)
    (ve : kitOne K (.ref C) (.type "ValueError") = some true) : Rf P K mg T x f m qual C fI cc cda where
  tx := ⟨PySem.W.mg_of X G aC, ⟨_, _, _, _, _, _, _, _, _, _, _, _, _, _, _, lC, hbm⟩, sa, ga, gg, noN, iC, tC, kC, exC, veC, tyC, hdC, ⟨_, _, _, _, _, _, _, _, _, _, _, _, _, _, _, _, _, _, _, _, lF, cF, ln⟩, ⟨_, _, _, _, _, _, lD, hv, hfile⟩, ⟨_, _, _, lX⟩, PySem.W.mg_none_of X G gS, opq, sup, tp, lkf, lks, lkc, nself, ndbg, bnd, bndk⟩
  te := PySem.W.exm_ref tE tD tT sT
  xf := ⟨ga, gg, exC, hdC⟩
  xc := ⟨ga, gg, exC, hdC, hcl, hsp, htk, hmr⟩
  ve := ve
def sel7 (c0 c1 c2 c3 c4 c5 c6 : Addr) : Nat → Addr
  | 0 => c0 | 1 => c1 | 2 => c2 | 3 => c3 | 4 => c4 | 5 => c5 | _ => c6
theorem kit_self {K : Frag} {c : Value} : kitOne K c c = some true := if_pos (beq_self_eq_true _)
theorem all_mk {l : PySem.W.OpenLaw} {w : World} {K : Frag} {h : Heap} {mg : Str → Option Value} {fa T C0 C1 C2 C3 C4 C5 C6 f0 f1 f2 f3 f4 f5 f6 f7 f8 : Addr} (X : K.In h) (G : h.Ns mainGlobals mg) (hfa : mg "law" = some (.ref fa))
    {od0 an0 od1 an1 od2 an2 od3 an3 od4 an4 od5 an5 od6 an6 od7 an7 od8 an8 : Option Addr} {sl0 sl1 sl2 sl3 sl4 sl5 sl6 sl7 sl8 : Array (Option Value)} {oc0 kV0 dc0 pm0 cd0 ct0 oc1 kV1 dc1 pm1 cd1 ct1 oc2 kV2 dc2 pm2 cd2 ct2 oc3 kV3 dc3 pm3 cd3 ct3 oc4 kV4 dc4 pm4 cd4 ct4 oc5 kV5 dc5 pm5 cd5 ct5 oc6 kV6 dc6 pm6 cd6 ct6 oc7 kV7 dc7 pm7 cd7 ct7 oc8 kV8 dc8 pm8 cd8 ct8 : Value}
    {m0 m1 m2 m3 m4 m5 m6 : Str} {I0 cc0 cda0 I1 cc1 cda1 I2 cc2 cda2 I3 cc3 cda3 I4 cc4 cda4 I5 cc5 cda5 I6 cc6 cda6 : Addr}
    (aT : nsIn K mainGlobals "TugError" = some (some (.ref T)))
    (a0 : nsIn K mainGlobals "_law_well" = some (some (.ref f0))) (l0 : K.lookup f0 = some ⟨oc0, od0, .func (PySem.W.fnOf "_law_well" "_law_well" (defArgs sWell) (defBody sWell) (defScope sWell) .none kV0 dc0 pm0 an0 cd0 ct0), sl0⟩) (c0 : codeIn K cd0 "_law_well" = true) (k0 : keepIn K (.ref f0) = true)
    (a1 : nsIn K mainGlobals "_law_draw" = some (some (.ref f1))) (l1 : K.lookup f1 = some ⟨oc1, od1, .func (PySem.W.fnOf "_law_draw" "_law_draw" (defArgs sDraw) (defBody sDraw) (defScope sDraw) .none kV1 dc1 pm1 an1 cd1 ct1), sl1⟩) (c1 : codeIn K cd1 "_law_draw" = true) (k1 : keepIn K (.ref f1) = true)
    (a2 : nsIn K mainGlobals "_law_pick" = some (some (.ref f2))) (l2 : K.lookup f2 = some ⟨oc2, od2, .func (PySem.W.fnOf "_law_pick" "_law_pick" (defArgs sPick) (defBody sPick) (defScope sPick) .none kV2 dc2 pm2 an2 cd2 ct2), sl2⟩) (c2 : codeIn K cd2 "_law_pick" = true) (k2 : keepIn K (.ref f2) = true)
    (a3 : nsIn K mainGlobals "_law_thing" = some (some (.ref f3))) (l3 : K.lookup f3 = some ⟨oc3, od3, .func (PySem.W.fnOf "_law_thing" "_law_thing" (defArgs sThing) (defBody sThing) (defScope sThing) .none kV3 dc3 pm3 an3 cd3 ct3), sl3⟩) (c3 : codeIn K cd3 "_law_thing" = true) (k3 : keepIn K (.ref f3) = true)
    (a4 : nsIn K mainGlobals "_law_field" = some (some (.ref f4))) (l4 : K.lookup f4 = some ⟨oc4, od4, .func (PySem.W.fnOf "_law_field" "_law_field" (defArgs sField) (defBody sField) (defScope sField) .none kV4 dc4 pm4 an4 cd4 ct4), sl4⟩) (c4 : codeIn K cd4 "_law_field" = true) (k4 : keepIn K (.ref f4) = true)
    (a5 : nsIn K mainGlobals "_law_named" = some (some (.ref f5))) (l5 : K.lookup f5 = some ⟨oc5, od5, .func (PySem.W.fnOf "_law_named" "_law_named" (defArgs sNamed) (defBody sNamed) (defScope sNamed) .none kV5 dc5 pm5 an5 cd5 ct5), sl5⟩) (c5 : codeIn K cd5 "_law_named" = true) (k5 : keepIn K (.ref f5) = true)
    (a6 : nsIn K mainGlobals "_law_made" = some (some (.ref f6))) (l6 : K.lookup f6 = some ⟨oc6, od6, .func (PySem.W.fnOf "_law_made" "_law_made" (defArgs sMade) (defBody sMade) (defScope sMade) .none kV6 dc6 pm6 an6 cd6 ct6), sl6⟩) (c6 : codeIn K cd6 "_law_made" = true) (k6 : keepIn K (.ref f6) = true)
    (a7 : nsIn K mainGlobals "_law_sorts" = some (some (.ref f7))) (l7 : K.lookup f7 = some ⟨oc7, od7, .func (PySem.W.fnOf "_law_sorts" "_law_sorts" (defArgs sSorts) (defBody sSorts) (defScope sSorts) .none kV7 dc7 pm7 an7 cd7 ct7), sl7⟩) (c7 : codeIn K cd7 "_law_sorts" = true) (k7 : keepIn K (.ref f7) = true)
    (a8 : nsIn K mainGlobals "law" = some (some (.ref f8))) (l8 : K.lookup f8 = some ⟨oc8, od8, .func (PySem.W.fnOf "law" "law" (defArgs sLaw) (defBody sLaw) (defScope sLaw) .none kV8 dc8 pm8 an8 cd8 ct8), sl8⟩) (c8 : codeIn K cd8 "law" = true) (k8 : keepIn K (.ref f8) = true)
    (z_len : nsIn K mainGlobals "len" = some none)
    (z_range : nsIn K mainGlobals "range" = some none)
    (z_max : nsIn K mainGlobals "max" = some none)
    (z_min : nsIn K mainGlobals "min" = some none)
    (z_repr : nsIn K mainGlobals "repr" = some none)
    (z_isinstance : nsIn K mainGlobals "isinstance" = some none)
    (z_ValueError : nsIn K mainGlobals "ValueError" = some none)
    (z_tuple : nsIn K mainGlobals "tuple" = some none)
    (r0 : Rf l.prog K mg T "NoText" "line" m0 "NoText.__init__" C0 I0 cc0 cda0)
    (r1 : Rf l.prog K mg T "NoKnob" "number" m1 "NoKnob.__init__" C1 I1 cc1 cda1)
    (r2 : Rf l.prog K mg T "TooMany" "most" m2 "TooMany.__init__" C2 I2 cc2 cda2)
    (r3 : Rf l.prog K mg T "NoPull" "worth" m3 "NoPull.__init__" C3 I3 cc3 cda3)
    (r4 : Rf l.prog K mg T "Nothing" "word" m4 "Nothing.__init__" C4 I4 cc4 cda4)
    (r5 : Rf l.prog K mg T "NoPlace" "place" m5 "NoPlace.__init__" C5 I5 cc5 cda5)
    (r6 : Rf l.prog K mg T "NoRow" "row" m6 "NoRow.__init__" C6 I6 cc6 cda6)
    (s01 : kitOne K (.ref C0) (.ref C1) = some false) (s02 : kitOne K (.ref C0) (.ref C2) = some false) (s03 : kitOne K (.ref C0) (.ref C3) = some false) (s04 : kitOne K (.ref C0) (.ref C4) = some false) (s05 : kitOne K (.ref C0) (.ref C5) = some false) (s06 : kitOne K (.ref C0) (.ref C6) = some false)
    (s10 : kitOne K (.ref C1) (.ref C0) = some false) (s12 : kitOne K (.ref C1) (.ref C2) = some false) (s13 : kitOne K (.ref C1) (.ref C3) = some false) (s14 : kitOne K (.ref C1) (.ref C4) = some false) (s15 : kitOne K (.ref C1) (.ref C5) = some false) (s16 : kitOne K (.ref C1) (.ref C6) = some false)
    (s20 : kitOne K (.ref C2) (.ref C0) = some false) (s21 : kitOne K (.ref C2) (.ref C1) = some false) (s23 : kitOne K (.ref C2) (.ref C3) = some false) (s24 : kitOne K (.ref C2) (.ref C4) = some false) (s25 : kitOne K (.ref C2) (.ref C5) = some false) (s26 : kitOne K (.ref C2) (.ref C6) = some false)
    (s30 : kitOne K (.ref C3) (.ref C0) = some false) (s31 : kitOne K (.ref C3) (.ref C1) = some false) (s32 : kitOne K (.ref C3) (.ref C2) = some false) (s34 : kitOne K (.ref C3) (.ref C4) = some false) (s35 : kitOne K (.ref C3) (.ref C5) = some false) (s36 : kitOne K (.ref C3) (.ref C6) = some false)
    (s40 : kitOne K (.ref C4) (.ref C0) = some false) (s41 : kitOne K (.ref C4) (.ref C1) = some false) (s42 : kitOne K (.ref C4) (.ref C2) = some false) (s43 : kitOne K (.ref C4) (.ref C3) = some false) (s45 : kitOne K (.ref C4) (.ref C5) = some false) (s46 : kitOne K (.ref C4) (.ref C6) = some false)
    (s50 : kitOne K (.ref C5) (.ref C0) = some false) (s51 : kitOne K (.ref C5) (.ref C1) = some false) (s52 : kitOne K (.ref C5) (.ref C2) = some false) (s53 : kitOne K (.ref C5) (.ref C3) = some false) (s54 : kitOne K (.ref C5) (.ref C4) = some false) (s56 : kitOne K (.ref C5) (.ref C6) = some false)
    (s60 : kitOne K (.ref C6) (.ref C0) = some false) (s61 : kitOne K (.ref C6) (.ref C1) = some false) (s62 : kitOne K (.ref C6) (.ref C2) = some false) (s63 : kitOne K (.ref C6) (.ref C3) = some false) (s64 : kitOne K (.ref C6) (.ref C4) = some false) (s65 : kitOne K (.ref C6) (.ref C5) = some false)
    : ∃ fd : FuncData, (∀ (s : Shared) (v : Value), BindsTo s fd ⟨[v], []⟩ [("script", v)]) ∧ ∀ base : Heap, K.In base → base.Ns mainGlobals mg → FnG l.prog w K mg base CX0 7 fa fd ["script"] (spLaw K) := by
  have e := hfa.symm.trans (PySem.W.mg_of X G a8)
  cases e
  have T7 : Rfs l.prog K mg T (sel7 C0 C1 C2 C3 C4 C5 C6) := ⟨PySem.W.mg_of X G aT, ⟨_, _, _, _, r0⟩, ⟨_, _, _, _, r1⟩, ⟨_, _, _, _, r2⟩, ⟨_, _, _, _, r3⟩, ⟨_, _, _, _, r4⟩, ⟨_, _, _, _, r5⟩, ⟨_, _, _, _, r6⟩, fun i j hi hj => by
    rcases lt7 hi with rfl | rfl | rfl | rfl | rfl | rfl | rfl <;> rcases lt7 hj with rfl | rfl | rfl | rfl | rfl | rfl | rfl <;> first | exact kit_self | assumption⟩
  have F0 := fun_mk (st := sWell) l0 c0 k0
  have F1 := fun_mk (st := sDraw) l1 c1 k1
  have F2 := fun_mk (st := sPick) l2 c2 k2
  have F3 := fun_mk (st := sThing) l3 c3 k3
  have F4 := fun_mk (st := sField) l4 c4 k4
  have F5 := fun_mk (st := sNamed) l5 c5 k5
  have F6 := fun_mk (st := sMade) l6 c6 k6
  have F7 := fun_mk (st := sSorts) l7 c7 k7
  have F8 := fun_mk (st := sLaw) l8 c8 k8
  have b0 := F0.binds (ps := ["script", "k"]) fun _ _ _ _ _ _ us hl => match us, hl with | [_, _], _ => rfl
  have b1 := F1.binds (ps := ["well", "many"]) fun _ _ _ _ _ _ us hl => match us, hl with | [_, _], _ => rfl
  have b2 := F2.binds (ps := ["well", "some"]) fun _ _ _ _ _ _ us hl => match us, hl with | [_, _], _ => rfl
  have b3 := F3.binds (ps := ["well", "deep"]) fun _ _ _ _ _ _ us hl => match us, hl with | [_, _], _ => rfl
  have b4 := F4.binds (ps := ["caught", "at"]) fun _ _ _ _ _ _ us hl => match us, hl with | [_, _], _ => rfl
  have b5 := F5.binds (ps := ["at", "thing"]) fun _ _ _ _ _ _ us hl => match us, hl with | [_, _], _ => rfl
  have b6 := F6.binds (ps := ["at", "thing"]) fun _ _ _ _ _ _ us hl => match us, hl with | [_, _], _ => rfl
  have b7 := F7.binds (ps := ["caught"]) fun _ _ _ _ _ _ us hl => match us, hl with | [_], _ => rfl
  refine ⟨PySem.W.fnOf "law" "law" (defArgs sLaw) (defBody sLaw) (defScope sLaw) .none kV8 dc8 pm8 an8 cd8 ct8, fun s v => .of_eq rfl, fun base _ _ => ?_⟩
  have zl := PySem.W.mg_none_of X G z_len
  have zr := PySem.W.mg_none_of X G z_range
  have zt := PySem.W.mg_none_of X G z_tuple
  have GD : FnOk l.prog w K mg base CX0 1 f1 _ ["well", "many"] spDraw := ok_draw F1
  have GP : FnOk l.prog w K mg base CX0 2 f2 _ ["well", "some"] (spPick K) := ok_pick F2 F1 b1 (PySem.W.mg_of X G a1) zl
  exact ok_law F8 ⟨T7, ok_well F0 zl, ok_thing F3 b3 (PySem.W.mg_of X G a3) GD b1 (PySem.W.mg_of X G a1) k1 GP b2 (PySem.W.mg_of X G a2) k2 zl zr zt 4, ok_field F4 T7, ok_named F5 T7, ok_made F6 T7, ok_sorts F7 T7 (PySem.W.mg_none_of X G z_isinstance),
    b0, b3, b4, b5, b6, b7, PySem.W.mg_of X G a0, PySem.W.mg_of X G a3, PySem.W.mg_of X G a4, PySem.W.mg_of X G a5, PySem.W.mg_of X G a6, PySem.W.mg_of X G a7, k0, k3, k4, k5, k6, k7, zl, zr,
    PySem.W.mg_none_of X G z_max, PySem.W.mg_none_of X G z_min, PySem.W.mg_none_of X G z_repr, PySem.W.mg_none_of X G z_isinstance, PySem.W.mg_none_of X G z_ValueError⟩
theorem walk {l : PySem.W.OpenLaw} {q : Program} {loose : List Str} {XP : (Str → Option Value) → Heap → Prop} {YP : World → Heap → Prop} {d : DefRec} {K : Params → Frag} (hn : l.most = some 63) (hdf : d.params.defaults = [])
    (hY : ∀ (w : World) (h : Heap), YP w h → (K w.params).In h)
    (F : ∀ (w : World) (mg : Str → Option Value) (fa : Addr) (h : Heap), (K w.params).In h → h.Ns mainGlobals mg → mg d.name = some (.ref fa) →
      ∃ fd : FuncData, (∀ (s : Shared) (u : Value), BindsTo s fd ⟨[u], []⟩ [("script", u)]) ∧ ∀ base : Heap, (K w.params).In base → base.Ns mainGlobals mg → FnG l.prog w (K w.params) mg base CX0 7 fa fd ["script"] (spLaw (K w.params))) :
    PySem.W.WalkO q loose XP YP l.row.toRowW d [] (fun f vs => PySem.call f vs) :=
  walk_G (n := 63) (k := 7) (x := "script") (sp := fun w => spLaw (K w.params)) hn (by decide) hdf ⟨rfl, by decide, by decide⟩ hY F fun _ _ a ns _ hb hS => ⟨a, ns, rfl, hS, hb, fun _ => rfl⟩
end Tug
open PySem PySem.W PyProof.Rows
set_option maxRecDepth 100000 in
set_option maxHeartbeats 0 in
theorem PySem.Challenge.cw_tugline_k05_refusals_made_holds : PySem.Challenge.rw_tugline_k05_refusals_made.Holds := by
  w_on; o_law; k_head; (case hw => w_witness2)
  k_fill
  refine Tug.walk (l := PySem.Challenge.rw_tugline_k05_refusals_made) rfl rfl (fun w h Y => PySem.W.kIn_of Y) ?F
  case F =>
    intro w mg fa h KX G hmg
    refine' Tug.all_mk KX G hmg ?aT ?a0 ?l0 ?c0 ?k0 ?a1 ?l1 ?c1 ?k1 ?a2 ?l2 ?c2 ?k2 ?a3 ?l3 ?c3 ?k3 ?a4 ?l4 ?c4 ?k4 ?a5 ?l5 ?c5 ?k5 ?a6 ?l6 ?c6 ?k6 ?a7 ?l7 ?c7 ?k7 ?a8 ?l8 ?c8 ?k8 ?z_len ?z_range ?z_max ?z_min ?z_repr ?z_isinstance ?z_ValueError ?z_tuple ?r0 ?r1 ?r2 ?r3 ?r4 ?r5 ?r6 ?s01 ?s02 ?s03 ?s04 ?s05 ?s06 ?s10 ?s12 ?s13 ?s14 ?s15 ?s16 ?s20 ?s21 ?s23 ?s24 ?s25 ?s26 ?s30 ?s31 ?s32 ?s34 ?s35 ?s36 ?s40 ?s41 ?s42 ?s43 ?s45 ?s46 ?s50 ?s51 ?s52 ?s53 ?s54 ?s56 ?s60 ?s61 ?s62 ?s63 ?s64 ?s65
    (case aT => k_is)
    (case a0 => k_is)
    (case l0 => k_is)
    (case c0 => k_is)
    (case k0 => k_is)
    (case a1 => k_is)
    (case l1 => k_is)
    (case c1 => k_is)
    (case k1 => k_is)
    (case a2 => k_is)
    (case l2 => k_is)
    (case c2 => k_is)
    (case k2 => k_is)
    (case a3 => k_is)
    (case l3 => k_is)
    (case c3 => k_is)
    (case k3 => k_is)
    (case a4 => k_is)
    (case l4 => k_is)
    (case c4 => k_is)
    (case k4 => k_is)
    (case a5 => k_is)
    (case l5 => k_is)
    (case c5 => k_is)
    (case k5 => k_is)
    (case a6 => k_is)
    (case l6 => k_is)
    (case c6 => k_is)
    (case k6 => k_is)
    (case a7 => k_is)
    (case l7 => k_is)
    (case c7 => k_is)
    (case k7 => k_is)
    (case a8 => k_is)
    (case l8 => k_is)
    (case c8 => k_is)
    (case k8 => k_is)
    (case z_len => k_is)
    (case z_range => k_is)
    (case z_max => k_is)
    (case z_min => k_is)
    (case z_repr => k_is)
    (case z_isinstance => k_is)
    (case z_ValueError => k_is)
    (case z_tuple => k_is)
    (case r0 => (refine' Tug.rf_mk KX G ?aC ?lC ?hbm ?sa ?ga ?gg ?noN ?iC ?tC ?kC ?exC ?veC ?tyC ?hdC ?lF ?cF ?ln ?lD ?hv ?hfile ?lX ?gS ?opq ?sup ?tp ?lkf ?lks ?lkc ?nself ?ndbg ?bnd ?bndk ?tE ?tD ?tT ?sT ?hcl ?hsp ?htk ?hmr ?ve; (case aC => k_is); (case lC => k_is); (case hbm => (first | rfl | decide +kernel)); (case sa => k_is); (case ga => k_is); (case gg => k_is); (case noN => k_is); (case iC => k_is); (case tC => k_is); (case kC => k_is); (case exC => k_is); (case veC => k_is); (case tyC => k_is); (case hdC => k_is); (case lF => k_is); (case cF => k_is); (case ln => rfl); (case lD => k_is); (case hv => rfl); (case hfile => (first | rfl | decide +kernel)); (case lX => k_is); (case gS => k_is); (case opq => k_is); (case sup => ks_is); (case tp => decide +kernel); (case lkf => (first | rfl | decide +kernel)); (case lks => (first | rfl | decide +kernel)); (case lkc => (first | rfl | decide +kernel)); (case nself => decide +kernel); (case ndbg => decide +kernel); (case bnd => (intros; rfl)); (case bndk => (intros; rfl)); (case tE => k_is); (case tD => k_is); (case tT => k_is); (case sT => k_is); (case hcl => k_is); (case hsp => k_is); (case htk => k_is); (case hmr => k_is); (case ve => kit_is)))
    (case r1 => (refine' Tug.rf_mk KX G ?aC ?lC ?hbm ?sa ?ga ?gg ?noN ?iC ?tC ?kC ?exC ?veC ?tyC ?hdC ?lF ?cF ?ln ?lD ?hv ?hfile ?lX ?gS ?opq ?sup ?tp ?lkf ?lks ?lkc ?nself ?ndbg ?bnd ?bndk ?tE ?tD ?tT ?sT ?hcl ?hsp ?htk ?hmr ?ve; (case aC => k_is); (case lC => k_is); (case hbm => (first | rfl | decide +kernel)); (case sa => k_is); (case ga => k_is); (case gg => k_is); (case noN => k_is); (case iC => k_is); (case tC => k_is); (case kC => k_is); (case exC => k_is); (case veC => k_is); (case tyC => k_is); (case hdC => k_is); (case lF => k_is); (case cF => k_is); (case ln => rfl); (case lD => k_is); (case hv => rfl); (case hfile => (first | rfl | decide +kernel)); (case lX => k_is); (case gS => k_is); (case opq => k_is); (case sup => ks_is); (case tp => decide +kernel); (case lkf => (first | rfl | decide +kernel)); (case lks => (first | rfl | decide +kernel)); (case lkc => (first | rfl | decide +kernel)); (case nself => decide +kernel); (case ndbg => decide +kernel); (case bnd => (intros; rfl)); (case bndk => (intros; rfl)); (case tE => k_is); (case tD => k_is); (case tT => k_is); (case sT => k_is); (case hcl => k_is); (case hsp => k_is); (case htk => k_is); (case hmr => k_is); (case ve => kit_is)))
    (case r2 => (refine' Tug.rf_mk KX G ?aC ?lC ?hbm ?sa ?ga ?gg ?noN ?iC ?tC ?kC ?exC ?veC ?tyC ?hdC ?lF ?cF ?ln ?lD ?hv ?hfile ?lX ?gS ?opq ?sup ?tp ?lkf ?lks ?lkc ?nself ?ndbg ?bnd ?bndk ?tE ?tD ?tT ?sT ?hcl ?hsp ?htk ?hmr ?ve; (case aC => k_is); (case lC => k_is); (case hbm => (first | rfl | decide +kernel)); (case sa => k_is); (case ga => k_is); (case gg => k_is); (case noN => k_is); (case iC => k_is); (case tC => k_is); (case kC => k_is); (case exC => k_is); (case veC => k_is); (case tyC => k_is); (case hdC => k_is); (case lF => k_is); (case cF => k_is); (case ln => rfl); (case lD => k_is); (case hv => rfl); (case hfile => (first | rfl | decide +kernel)); (case lX => k_is); (case gS => k_is); (case opq => k_is); (case sup => ks_is); (case tp => decide +kernel); (case lkf => (first | rfl | decide +kernel)); (case lks => (first | rfl | decide +kernel)); (case lkc => (first | rfl | decide +kernel)); (case nself => decide +kernel); (case ndbg => decide +kernel); (case bnd => (intros; rfl)); (case bndk => (intros; rfl)); (case tE => k_is); (case tD => k_is); (case tT => k_is); (case sT => k_is); (case hcl => k_is); (case hsp => k_is); (case htk => k_is); (case hmr => k_is); (case ve => kit_is)))
    (case r3 => (refine' Tug.rf_mk KX G ?aC ?lC ?hbm ?sa ?ga ?gg ?noN ?iC ?tC ?kC ?exC ?veC ?tyC ?hdC ?lF ?cF ?ln ?lD ?hv ?hfile ?lX ?gS ?opq ?sup ?tp ?lkf ?lks ?lkc ?nself ?ndbg ?bnd ?bndk ?tE ?tD ?tT ?sT ?hcl ?hsp ?htk ?hmr ?ve; (case aC => k_is); (case lC => k_is); (case hbm => (first | rfl | decide +kernel)); (case sa => k_is); (case ga => k_is); (case gg => k_is); (case noN => k_is); (case iC => k_is); (case tC => k_is); (case kC => k_is); (case exC => k_is); (case veC => k_is); (case tyC => k_is); (case hdC => k_is); (case lF => k_is); (case cF => k_is); (case ln => rfl); (case lD => k_is); (case hv => rfl); (case hfile => (first | rfl | decide +kernel)); (case lX => k_is); (case gS => k_is); (case opq => k_is); (case sup => ks_is); (case tp => decide +kernel); (case lkf => (first | rfl | decide +kernel)); (case lks => (first | rfl | decide +kernel)); (case lkc => (first | rfl | decide +kernel)); (case nself => decide +kernel); (case ndbg => decide +kernel); (case bnd => (intros; rfl)); (case bndk => (intros; rfl)); (case tE => k_is); (case tD => k_is); (case tT => k_is); (case sT => k_is); (case hcl => k_is); (case hsp => k_is); (case htk => k_is); (case hmr => k_is); (case ve => kit_is)))
    (case r4 => (refine' Tug.rf_mk KX G ?aC ?lC ?hbm ?sa ?ga ?gg ?noN ?iC ?tC ?kC ?exC ?veC ?tyC ?hdC ?lF ?cF ?ln ?lD ?hv ?hfile ?lX ?gS ?opq ?sup ?tp ?lkf ?lks ?lkc ?nself ?ndbg ?bnd ?bndk ?tE ?tD ?tT ?sT ?hcl ?hsp ?htk ?hmr ?ve; (case aC => k_is); (case lC => k_is); (case hbm => (first | rfl | decide +kernel)); (case sa => k_is); (case ga => k_is); (case gg => k_is); (case noN => k_is); (case iC => k_is); (case tC => k_is); (case kC => k_is); (case exC => k_is); (case veC => k_is); (case tyC => k_is); (case hdC => k_is); (case lF => k_is); (case cF => k_is); (case ln => rfl); (case lD => k_is); (case hv => rfl); (case hfile => (first | rfl | decide +kernel)); (case lX => k_is); (case gS => k_is); (case opq => k_is); (case sup => ks_is); (case tp => decide +kernel); (case lkf => (first | rfl | decide +kernel)); (case lks => (first | rfl | decide +kernel)); (case lkc => (first | rfl | decide +kernel)); (case nself => decide +kernel); (case ndbg => decide +kernel); (case bnd => (intros; rfl)); (case bndk => (intros; rfl)); (case tE => k_is); (case tD => k_is); (case tT => k_is); (case sT => k_is); (case hcl => k_is); (case hsp => k_is); (case htk => k_is); (case hmr => k_is); (case ve => kit_is)))
    (case r5 => (refine' Tug.rf_mk KX G ?aC ?lC ?hbm ?sa ?ga ?gg ?noN ?iC ?tC ?kC ?exC ?veC ?tyC ?hdC ?lF ?cF ?ln ?lD ?hv ?hfile ?lX ?gS ?opq ?sup ?tp ?lkf ?lks ?lkc ?nself ?ndbg ?bnd ?bndk ?tE ?tD ?tT ?sT ?hcl ?hsp ?htk ?hmr ?ve; (case aC => k_is); (case lC => k_is); (case hbm => (first | rfl | decide +kernel)); (case sa => k_is); (case ga => k_is); (case gg => k_is); (case noN => k_is); (case iC => k_is); (case tC => k_is); (case kC => k_is); (case exC => k_is); (case veC => k_is); (case tyC => k_is); (case hdC => k_is); (case lF => k_is); (case cF => k_is); (case ln => rfl); (case lD => k_is); (case hv => rfl); (case hfile => (first | rfl | decide +kernel)); (case lX => k_is); (case gS => k_is); (case opq => k_is); (case sup => ks_is); (case tp => decide +kernel); (case lkf => (first | rfl | decide +kernel)); (case lks => (first | rfl | decide +kernel)); (case lkc => (first | rfl | decide +kernel)); (case nself => decide +kernel); (case ndbg => decide +kernel); (case bnd => (intros; rfl)); (case bndk => (intros; rfl)); (case tE => k_is); (case tD => k_is); (case tT => k_is); (case sT => k_is); (case hcl => k_is); (case hsp => k_is); (case htk => k_is); (case hmr => k_is); (case ve => kit_is)))
    (case r6 => (refine' Tug.rf_mk KX G ?aC ?lC ?hbm ?sa ?ga ?gg ?noN ?iC ?tC ?kC ?exC ?veC ?tyC ?hdC ?lF ?cF ?ln ?lD ?hv ?hfile ?lX ?gS ?opq ?sup ?tp ?lkf ?lks ?lkc ?nself ?ndbg ?bnd ?bndk ?tE ?tD ?tT ?sT ?hcl ?hsp ?htk ?hmr ?ve; (case aC => k_is); (case lC => k_is); (case hbm => (first | rfl | decide +kernel)); (case sa => k_is); (case ga => k_is); (case gg => k_is); (case noN => k_is); (case iC => k_is); (case tC => k_is); (case kC => k_is); (case exC => k_is); (case veC => k_is); (case tyC => k_is); (case hdC => k_is); (case lF => k_is); (case cF => k_is); (case ln => rfl); (case lD => k_is); (case hv => rfl); (case hfile => (first | rfl | decide +kernel)); (case lX => k_is); (case gS => k_is); (case opq => k_is); (case sup => ks_is); (case tp => decide +kernel); (case lkf => (first | rfl | decide +kernel)); (case lks => (first | rfl | decide +kernel)); (case lkc => (first | rfl | decide +kernel)); (case nself => decide +kernel); (case ndbg => decide +kernel); (case bnd => (intros; rfl)); (case bndk => (intros; rfl)); (case tE => k_is); (case tD => k_is); (case tT => k_is); (case sT => k_is); (case hcl => k_is); (case hsp => k_is); (case htk => k_is); (case hmr => k_is); (case ve => kit_is)))
    (case s01 => kit_is)
    (case s02 => kit_is)
    (case s03 => kit_is)
    (case s04 => kit_is)
    (case s05 => kit_is)
    (case s06 => kit_is)
    (case s10 => kit_is)
    (case s12 => kit_is)
    (case s13 => kit_is)
    (case s14 => kit_is)
    (case s15 => kit_is)
    (case s16 => kit_is)
    (case s20 => kit_is)
    (case s21 => kit_is)
    (case s23 => kit_is)
    (case s24 => kit_is)
    (case s25 => kit_is)
    (case s26 => kit_is)
    (case s30 => kit_is)
    (case s31 => kit_is)
    (case s32 => kit_is)
    (case s34 => kit_is)
    (case s35 => kit_is)
    (case s36 => kit_is)
    (case s40 => kit_is)
    (case s41 => kit_is)
    (case s42 => kit_is)
    (case s43 => kit_is)
    (case s45 => kit_is)
    (case s46 => kit_is)
    (case s50 => kit_is)
    (case s51 => kit_is)
    (case s52 => kit_is)
    (case s53 => kit_is)
    (case s54 => kit_is)
    (case s56 => kit_is)
    (case s60 => kit_is)
    (case s61 => kit_is)
    (case s62 => kit_is)
    (case s63 => kit_is)
    (case s64 => kit_is)
    (case s65 => kit_is)
