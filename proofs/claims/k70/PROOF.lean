import PyProof.Rows.All
import Wide.All
import OpenK.AllK
import Wide.FinOn
import HandS.ForMost
import HandS.Exc
import HandS.ExcInit
import HandS.ExcValue
import HandS.IsInst
import KE.KExcSuper
import KE.KExcInit
import KE.KExcIs
import HandS.RaiseMore
import HandS.Defaults
import HandS.Walk
import PySem.Challenge.RW_onlyjoins_k70_errors
set_option Elab.async false
set_option linter.all false
set_option maxRecDepth 100000
set_option maxHeartbeats 4000000
/-! An own exception class whose maker says super() and keeps one field: made by position and by the field's name. -/
namespace XH
open PySem PySem.W PySem.Calls PyProof.Rows Builtin.ObjectAttr

def iArgs (f : Str) (p1 p2 : Pos) : Arguments :=
  { posonlyargs := [], args := [{ arg := "self", annotation := none, pos := p1 }, { arg := f, annotation := none, pos := p2 }],
    vararg := none, kwonlyargs := [], kw_defaults := [], kwarg := none, defaults := [] }
def iSup (txt : Str) (a0 a1 a2 a3 a4 a5 : Pos) : Stmt :=
  .Expr (.Call (.Attribute (.Call (.Name "super" a0) [] [] a1) "__init__" a2) [.Constant (.str txt) 0 a3] [] a4) a5
def iSet (f : Str) (b0 b1 b2 b3 : Pos) : Stmt := .Assign [.Attribute (.Name "self" b0) f b1] (.Name f b2) b3
def iScope (f : Str) : Scope :=
  { kind := .function, names := [("self", .local), (f, .local), ("__class__", .free), ("super", .globalImplicit)], isGenerator := false, isCoroutine := false, more := [] }
/-- an exception of the class at C: its args at t, its dict -/
abbrev exr (C t : Addr) (dv : Option Addr) : Obj := excRec (.ref C) t dv .none .none (.bool false)

/-- what the text's written part says of such a class -/
structure ExT (prog : Program) (K : Frag) (mg : Str → Option Value) (C fI : Addr) (fd : FuncData) (f qn : Str) (B newId initId : String) (bmB : List Value) : Prop where
  FB : ExcBaseFacts B newId initId bmB
  KF : KxsFacts B initId
  SF : StoreFacts B bmB "object.__setattr__" "object"
  q : excInitIn K C bmB newId = true
  ov : excOver K C bmB = true
  hd : hasDictIn K C = true
  iC : findIn K (.ref C) "__init__" = some (some (.ref fI))
  fn : ∃ (oc doc pm ct : Value) (od an : Option Addr) (cda cc : Addr) (osl : Array (Option Value)) (txt : Str) (p1 p2 a0 a1 a2 a3 a4 a5 b0 b1 b2 b3 : Pos), (a2.endLine == a4.line) = true ∧
    fd = ksFn "__init__" qn (iArgs f p1 p2) [iSup txt a0 a1 a2 a3 a4 a5, iSet f b0 b1 b2 b3] (iScope f) .none .none doc pm an (.ref cda) ct cc ∧
    K.lookup fI = some ⟨oc, od, .func fd, osl⟩ ∧ codeIn K (.ref cda) qn = true ∧
    (∃ (ccl : Value) (cdd : Option Addr) (vs : Array Value) (ccs : Array (Option Value)) (file : Str) (tf : Tok),
      K.lookup cda = some ⟨ccl, cdd, .fields vs, ccs⟩ ∧ vs[2]? = some (.str file tf) ∧ ((prog.main.file : Str) == file) = true) ∧
    ∃ (cl : Value) (cld : Option Addr) (csl : Array (Option Value)), K.lookup cc = some ⟨cl, cld, .cell (some (.ref C)), csl⟩
  isf : isFn K (.ref fI) = true
  sup : ks_superIn K C C "__init__" = some (some (.builtin initId))
  sB : subIn K (.ref C) (.type B) = some true
  sC : mroIn K C (.ref C) = some true
  op : nsIn K cStatics "thirdparty.any" = some none
  sa : findIn K (.ref C) "__setattr__" = some (some (.builtin "object.__setattr__"))
  nf : findIn K (.ref C) f = some none
  mgS : mg "super" = none
  tp : (prog.main.scope.names.lookup ("super" : Str)).isSome = false
  l0 : (iScope f).names.lookup ("self" : Str) = some .local
  l1 : (iScope f).names.lookup f = some .local
  l2 : (iScope f).names.lookup ("__class__" : Str) = some .free
  l3 : (iScope f).names.lookup ("super" : Str) = some .globalImplicit
  lc : ∀ x ∈ (iScope f).names, x.2 ≠ .cell
  ld : (f == ("__debug__" : Str)) = false
  lf : ¬ ("self" : Str) = f
  bp : ∀ (s : Shared) (x v : Value), BindsTo s fd ⟨[x, v], []⟩ [("self", x), (f, v)]
  bk : ∀ (s : Shared) (x v : Value), BindsTo s fd ⟨[x], [(f, v)]⟩ [("self", x), (f, v)]

/-- a method's call whose name and bracket stand in one row -/
theorem mc_eq (env : Env) {o c : Expr} {x : Str} {p2 p4 : Pos} (e : (p2.endLine == p4.line) = true) :
    eval (.Call (.Attribute o x p2) [c] [] p4) env = (do
      let ov ← attributeBase o x env (eval o env)
      standAt p2.atName
      let r ← holding [ov] (calleeOf (methodCallForm 1 (backTo p4 (starEach [c] env)) []) o env ov x)
      callWith p4 r.1 r.2 (backTo p4 (starEach [c] env)) []) := by
  rw [arm_eval_Call]
  have z : methodCallPos (methodCallForm 1 (backTo p4 (starEach [c] env)) []) o env p2 p4 = pure p4 := by
    unfold methodCallPos
    rw [if_pos (by rw [e, Bool.or_true])]
  show (attributeBase o x env (eval o env) >>= fun ov => standAt p2.atName >>= fun _ => methodCall o x p2 p4 env ov 1 (backTo p4 (starEach [c] env)) []) = _
  unfold methodCall
  rw [z]
  rfl
section
variable {prog : Program} {w : World} {A : Around} {E : Value → Shared → Prop} {h : Heap} {g : Array GenState} {d : Drawn} {t : Nat} {os : OsState}
variable {nm q : Str} {C N : Addr} {bs bm bmB : List Value} {hdct : Bool} {sn : List Str} {sub : List Value} {ab : Bool} {col : Option Bool} {dd : Option Addr} {k0 k1 k2 k3 k5 : Option Value} {B newId initId : String}
/-- the bound maker of the base, called -/
theorem mw_call (FB : ExcBaseFacts B newId initId bmB) {u e t0 : Addr} {ws : List Value} {Q : Value → Shared → Prop}
    (cC : h.get? C = some (excClassObj nm q C N bs bm hdct sn sub ab col dd k0 k1 k2 k3 k5 newId)) (ce : h.get? e = some (exr C t0 none)) (cu : h.get? u = some (kxs_mw initId e)) (hz : ws.length ≤ sizeLine)
    (k : ∀ h', (∀ b o, b ≠ e → h.get? b = some o → h'.get? b = some o) → h'.get? e = some (exr C h.objs.size none) → Q .none ⟨h', g, d, t, os⟩) :
    wpAny (model prog w) A (call (.ref u) ws) Q E ⟨h, g, d, t, os⟩ := by
  refine wpAny_call (codeAny_of_tree ?_)
  show wpAny _ A.in1 (callAny (.ref u) ⟨ws, []⟩) _ _ _
  unfold callAny
  refine wpAny_bind (wpAny_load cu ?_)
  simp only [kxs_mw, show (Value.type "method-wrapper" == Value.type "method" || Value.type "method-wrapper" == Value.type "builtin_function_or_method" ||
    Value.type "method-wrapper" == Value.type "method-wrapper") = true by decide, if_true]
  refine KFB.if_so (by decide) ?_
  refine wpAny_bind (check_bound_init FB.toExcCallFacts cC ce rfl (wpAny_bind (wpAny_pure (wpAny_pure ?_))))
  refine ⟨plainId_quiet FB.init.plain _, codeAny_builtin FB.initEntry ?_⟩
  exact exc_init_tree (cls := .ref C) (t0 := t0) (dv := none) (c2 := .none) (c3 := .none) (b4 := .bool false) ce hz fun h' a b _ => k h' a b
end

section
variable {prog : Program} {w : World} {K : Frag} {mg : Str → Option Value} {C fI : Addr} {fd : FuncData} {f qn : Str} {B newId initId : String} {bmB : List Value}
variable {A : Around} {R : Result → Shared → Prop}
/-- the maker runs on a fresh exception -/
theorem init_run (T : ExT prog K mg C fI fd f qn B newId initId bmB) {s : Shared} {v : Value} {ar : Args} {x t0 : Addr} (X : K.In s.heap) (hg : s.heap.Ns mainGlobals mg)
    (hb : ∃ mb, s.heap.Ns builtinsNs mb ∧ ∀ y : Str, y ≠ "__name__" → mb y = bootBuiltins y) (hlim : s.heap.NoLimit)
    (hx : s.heap.get? x = some (exr C t0 none)) (hnx : K.lookup x = none) (hroom : A.depth < recursionLimit) (hbind : BindsTo s fd ar [("self", .ref x), (f, v)])
    (k : ∀ h' tk dx t1, (∀ b o, b ≠ x → s.heap.get? b = some o → h'.get? b = some o) → s.heap.objs.size ≤ dx → dx ≠ x → h'.get? x = some (exr C t1 (some dx)) →
      h'.Ns1 dx (fun y => if y = f then some v else none) → R (.ok (.ret .none)) { s with heap := h', toks := tk }) :
    codeAny (model prog w) A (.call (.ref fI) ar) R s := by
  obtain ⟨oc, doc, pm, ct, od, an, cda, cc, osl, txt, p1, p2, a0, a1, a2, a3, a4, a5, b0, b1, b2, b3, hpos, rfl, lk, hcd, ⟨ccl, cdd, vs, ccs, file, tf, lcode, hvs, hfile⟩, cl, cld, csl, lcell⟩ := T.fn
  refine ks_codeAny_call_defAt hroom (X _ _ lk) rfl hlim (codeRec_of X hcd) rfl hbind T.lc (fun y hy => ?_) (fun h₀ hns hk₀ => ?_) rfl rfl rfl
  · rcases List.mem_cons.mp hy with rfl | hy
    · exact T.l0
    · rcases List.mem_cons.mp hy with rfl | hy
      · exact T.l1
      · cases hy
  have kL : ∀ b o, s.heap.get? b = some o → h₀.get? b = some o := hk₀
  have X0 : K.In h₀ := X.keeps kL
  have hC : ∃ nm N' qn' bs bm hdct sn sub ab col dd k0 k1 k2 k3 k5, s.heap.get? C = some (excClassObj nm qn' C N' bs bm hdct sn sub ab col dd k0 k1 k2 k3 k5 newId) ∧ ∀ Y : String, bm.contains (.type Y) = bmB.contains (.type Y) := excInit_of X T.q
  obtain ⟨nm, N', qn', bs, bm, hdct, sn, sub, ab, col, dd, k0, k1, k2, k3, k5, hC, hT⟩ := hC
  obtain ⟨cd, hcd', hhd⟩ : ∃ cd, clsIn K C = some cd ∧ cd.hasDict = true := any_some T.hd
  obtain ⟨oD, hD1, hD2⟩ : ∃ oD, s.heap.get? C = some oD ∧ oD.data = .cls cd := by
    have z := hcd'
    unfold clsIn at z
    split at z
    · rename_i c' d' cd' sl' ho
      cases z
      exact ⟨_, X _ _ ho, rfl⟩
    · cases z
  have hmf : ([(("self" : Str), Value.ref x), (f, v)].reverse).lookup f = some v := by
    show List.lookup f [(f, v), (("self" : Str), Value.ref x)] = _
    simp [List.lookup]
  have hms : List.lookup ("self" : Str) ([(("self" : Str), Value.ref x), (f, v)].reverse) = some (Value.ref x) := by
    show List.lookup ("self" : Str) [(f, v), (("self" : Str), Value.ref x)] = _
    have e1 : (("self" : Str) == f) = false := by simpa using T.lf
    simp [List.lookup, e1]
  have hx0 := kL _ _ hx
  have hxL : x < s.heap.objs.size := Heap.lt_size hx
  obtain ⟨mb, hb1, hb2⟩ := hb
  have sup : bootBuiltins "super" = some (.type "super") := by first | boot_by_name | rfl | kernel_rfl
  -- super().__init__(txt)
  refine ks_wpAt_execs_cons (ks_wpAt_Expr_any (ks_wpAt_MethodCall ?_ (mc_eq _ hpos)))
  refine ks_wpAt_super_base (env := ksEnv qn (iScope f) s.heap.objs.size fI (.ref cda) cc) T.l3 T.l2 (by decide) rfl (X0 _ _ lk) rfl rfl rfl (X0 _ _ lcode) rfl hvs hfile T.tp ?_
  refine ks_loadName_global rfl T.l3 (loadGlobal_builtin (env := ksEnv qn (iScope f) s.heap.objs.size fI (.ref cda) cc) (hg.keeps kL) T.mgS (hb1.keeps kL) ((hb2 _ (by decide)).trans sup) ⟨rfl, ?_⟩)
  refine wpAny_loadName_free rfl T.l2 rfl ⟨_, X0 _ _ lcell, rfl⟩ ?_
  refine wpAny_loadName_local rfl T.l0 hns hms ?_
  refine ks_wpAny_isType_cls (kL _ _ hD1) hD2 ⟨rfl, ?_⟩
  refine ks_wpAny_call_super (kL _ _ hD1) hD2 hx0 rfl (fun c e => by cases e) (looks_mroIn X0 T.sC) (fun h1 e1 k1 => ?_)
  have X1 : K.In h1 := X0.keeps k1
  have hx1 := k1 _ _ hx0
  have I1 : InstAt h1 x (exr C t0 none) C none := ⟨hx1, rfl, rfl, trivial⟩
  have hsup : alongIn K "__init__" ((cd.mro.dropWhile (· != .ref C)).drop 1) = some (some (.builtin initId)) := by
    have z := T.sup
    unfold ks_superIn at z
    rw [hcd'] at z
    exact z
  refine kxs_getMethod T.KF e1 (looks_opaque X1 T.op) (l₀ := cd.mro) (fun A Q E s k q => wpAny_bind ((looks_clsIn X1 hcd') A _ E s k (wpAny_pure q))) rfl X1 hsup (I1.type.andThen (looks_subIn X1 T.sB)) (ks_ne X1 I1 hcd') (by decide) ?_
  have k2 : ∀ b o, h1.get? b = some o → (h1.push (kxs_mw initId x)).get? b = some o := fun b o e => Heap.get?_push_of_some _ e
  have hmw : (h1.push (kxs_mw initId x)).get? h1.objs.size = some (kxs_mw initId x) := Heap.get?_push_at rfl rfl
  refine kxs_callWith (i := initId) (x := x) (by rfl) (evalArgs_plain ?_)
  show wpAny _ _ (spliced ((false, eval (.Constant (.str txt) 0 a3) _) :: backTo a4 (starEach [] _))) _ _ _
  refine spliced_cons (Calls.Constant_str (spliced_nil ⟨hmw, ?_⟩))
  have up : ∀ b o, s.heap.get? b = some o → (h1.push (kxs_mw initId x)).get? b = some o := fun b o e => k2 _ _ (k1 _ _ (kL _ _ e))
  refine mw_call T.FB (up _ _ hC) (up _ _ hx) hmw (by show 1 ≤ sizeLine; rw [sizeLine_eq]; omega) fun h3 k3 e3 => ?_
  -- self.f = f
  have up3 : ∀ b o, b ≠ x → s.heap.get? b = some o → h3.get? b = some o := fun b o hb e => k3 _ _ hb (up _ _ e)
  have X3 : K.In h3 := fun b o e => up3 b o (fun z => ?_) (X _ _ e)
  have hns3 : h3.Ns s.heap.objs.size (fun y => List.lookup y ([(("self" : Str), Value.ref x), (f, v)].reverse)) := by
    obtain ⟨o, es, ep, e, r⟩ := hns
    exact ⟨o, es, ep, k3 _ _ (Nat.ne_of_gt hxL) (k2 _ _ (k1 _ _ e)), r⟩
  refine wpAt_of_wpAny (wpAny_execs_cons (plainObj_wpAny_Assign_Attribute ?_))
  refine wpAny_Name (wpAny_loadName_local rfl T.l1 hns3 hmf ?_) T.ld
  refine wpAny_Name (wpAny_loadName_local rfl T.l0 hns3 hms ?_) (by decide)
  have I3 : InstAt h3 x (exr C (h1.push (kxs_mw initId x)).objs.size none) C none := ⟨e3, rfl, rfl, trivial⟩
  refine set_plain X3 I3 T.sa ?_
  refine osa_openX (r := none) T.SF X3 I3 T.ov (by unfold takerIn; rw [T.nf]; rfl) fun bb => ?_
  have hcls : Looks (model prog w) h3 (classData C) cd := looks_clsIn X3 hcd'
  have hxs : x ≠ h3.objs.size := Nat.ne_of_lt (Heap.lt_size e3)
  have big : s.heap.objs.size < h3.objs.size := by
    obtain ⟨o, es, ep, e, r⟩ := hns3
    exact Heap.lt_size e
  obtain ⟨cn, cbs, cmro, cns, cqn, chd, csn, csb, cab, ccol, cdel⟩ := cd
  dsimp only at hhd
  subst hhd
  show wpAny _ _ (storeInOwnDict (.ref x) (.ref C) (.str f _) f v bb) _ _ _
  unfold storeInOwnDict ownDictForStores
  repeat (first
    | with_reducible refine PX.store_in_new ?_ ?_
    | with_reducible refine wpAny_loadPart_at e3 ?_
    | with_reducible refine hcls.at ?_
    | wp_step)
  · have z := Heap.get?_push_at (h := h3) (o := ({ cls := .type "dict", data := .dict #[] } : Obj)) rfl rfl
    exact ⟨_, #[], _, (Heap.get?_update_ne _ _ _ _ hxs.symm).trans z, rfl, fun e he => absurd he (by simp), fun _ => rfl⟩
  · intro h4 tk4 hn4 hs4
    have hx4 : (h3.push { cls := .type "dict", data := .dict #[] }).get? x = some (exr C (h1.push (kxs_mw initId x)).objs.size none) := Heap.get?_push_of_some _ e3
    refine wpAny_execs_nil (k h4 tk4 h3.objs.size (h1.push (kxs_mw initId x)).objs.size (fun b o hb ho => ?_) (Nat.le_of_lt big) hxs.symm ?_ hn4)
    · refine (hs4.2 b (Nat.ne_of_lt (Heap.lt_size (up3 b o hb ho)))).trans ?_
      exact (Heap.get?_update_ne _ _ _ _ hb).trans (Heap.get?_push_of_some _ (up3 b o hb ho))
    · exact (hs4.2 x hxs).trans (Heap.get?_update_self _ hx4 rfl)
  rw [z, hnx] at e
  cases e
end
end XH

set_option Elab.async false
set_option linter.all false
set_option maxRecDepth 100000
set_option maxHeartbeats 4000000
namespace XH
open PySem PySem.W PySem.Calls PyProof.Rows Builtin.ObjectAttr
section
variable {prog : Program} {w : World} {M : Model} {A : Around} {E : Value → Shared → Prop} {R : Result → Shared → Prop} {h : Heap} {g : Array GenState} {d : Drawn} {t : Nat} {os : OsState}
variable {nm q : Str} {C N : Addr} {bs bm bmB : List Value} {hdct : Bool} {sn : List Str} {sub : List Value} {ab : Bool} {col : Option Bool} {dd : Option Addr} {k0 k1 k2 k3 k5 : Option Value} {B newId initId : String}

theorem kw_check (FB : ExcBaseFacts B newId initId bmB) (same : ∀ Y : String, bm.contains (.type Y) = bmB.contains (.type Y)) {f : Str} {v : Value} {Q : Unit → Shared → Prop}
    (cC : h.get? C = some (excClassObj nm q C N bs bm hdct sn sub ab col dd k0 k1 k2 k3 k5 newId)) (k : Q () ⟨h, g, d, t, os⟩) :
    wpAny M A (checkBuiltinCall newId ⟨[.ref C], [(f, v)]⟩) Q E ⟨h, g, d, t, os⟩ := by
  have has : (Value.ref C :: bm).contains (.type B) = true := by
    rw [List.contains_cons, same, FB.hasB, Bool.or_true]
  have star := FB.noStar
  simp only [checkBuiltinCall, FB.newKind, FB.newSplit, FB.newRow]
  repeat (first
    | refine wpAny_loadPart_at cC ?_
    | (refine wpAny_isSubtype_exc cC ?_; rw [has])
    | refine wpAny_staticBase_exc cC ?_
    | refine wpAny_madeBy_exc cC ?_
    | simp only [bne_self_eq_false, Bool.false_eq_true, if_false]
    | wp_step)
  exact k

theorem kw_new (FB : ExcBaseFacts B newId initId bmB) (same : ∀ Y : String, bm.contains (.type Y) = bmB.contains (.type Y)) {f : Str} {v : Value}
    (cC : h.get? C = some (excClassObj nm q C N bs bm hdct sn sub ab col dd k0 k1 k2 k3 k5 newId))
    (k : R (.ok (.ret (.ref (h.objs.size + 1)))) ⟨(h.push (excTup [])).push (exr C h.objs.size none), g, d, t, os⟩) :
    codeAny (model prog w) A (.builtin newId ⟨[.ref C], [(f, v)]⟩) R ⟨h, g, d, t, os⟩ := by
  have ends := FB.ends
  have hB : (Value.ref C :: bm).contains (.type B) = true := by
    rw [List.contains_cons, same, FB.hasB, Bool.or_true]
  have hA : (Value.ref C :: bm).contains (.type "AttributeError") = false := by
    rw [List.contains_cons, same, FB.noAttr]; rfl
  have hN : (Value.ref C :: bm).contains (.type "NameError") = false := by
    rw [List.contains_cons, same, FB.noName]; rfl
  have hz : ([] : List Value).length ≤ sizeLine := by show 0 ≤ sizeLine; omega
  refine codeAny_builtinAt FB.entry ?_
  unfold Builtin.«BaseException.__new__»
  refine _root_.PySem.wpAt_bind ?_
  show _root_.PySem.wpAt _ _ _ (stack >>= _) _ _ _
  refine _root_.PySem.wpAt_bind (_root_.PySem.wpAt_stack fun p below => _root_.PySem.wpAt_of_wpAny ?_)
  wp_walk
  refine _root_.PySem.wpAt_of_wpAny ?_
  rw [FB.owner]
  repeat (first
    | with_reducible refine wpAny_madeHere_exc FB.canon cC ?_
    | with_reducible refine wpAny_loadPart_at cC ?_
    | (with_reducible refine wpAny_isSubtype_exc cC ?_; first | rw [hB] | rw [hA] | rw [hN])
    | wp_step)
  show R _ _
  rw [Heap.size_push]
  exact k

theorem kw_type (FB : ExcBaseFacts B newId initId bmB) (same : ∀ Y : String, bm.contains (.type Y) = bmB.contains (.type Y)) {f : Str} {v : Value} {fI : Addr} {Q : Fin → Shared → Prop}
    (cC : h.get? C = some (excClassObj nm q C N bs bm hdct sn sub ab col dd k0 k1 k2 k3 k5 newId))
    (li : Looks (model prog w) h (typeLookup (.ref C) "__init__") (some (.ref fI))) (lb : ∀ self, Looks (model prog w) h (bindSpecial (.ref fI) self) (.ref fI, [self]))
    (k : codeAny (model prog w) A (.call (.ref fI) ⟨[.ref (h.objs.size + 1)], [(f, v)]⟩)
      (fun r s' => match r with | .ok (.ret u) => u = .none ∧ Q (.done (.ret (.ref (h.objs.size + 1)))) s' | .ok _ => False | .error e => E e s')
      ⟨(h.push (excTup [])).push (exr C h.objs.size none), g, d, t, os⟩) :
    wpAny (model prog w) A (Builtin.«type.__call__» ⟨[.ref C], [(f, v)]⟩) Q E ⟨h, g, d, t, os⟩ := by
  repeat (first | with_reducible refine wpAny_loadPart_at cC ?_ | with_reducible refine wpAny_madeBy_exc cC ?_ | wp_step)
  refine codeAny_call_builtin_code (Code.quiet_builtin _ FB.quiet) (kw_check FB same cC ?_)
  refine kw_new FB same cC ?_
  show wpAny _ _ _ _ _ _
  have up : ∀ b o, h.get? b = some o → ((h.push (excTup [])).push (exr C h.objs.size none)).get? b = some o :=
    fun b o e => Heap.get?_push_of_some _ (Heap.get?_push_of_some _ e)
  have cC1 := up _ _ cC
  have ge : ((h.push (excTup [])).push (exr C h.objs.size none)).get? (h.objs.size + 1) = some (exr C h.objs.size none) := by heap_get
  have cc : (Value.ref C :: bm).contains (.ref C) = true := by simp
  have li1 := li.keeps up
  have lb1 := (lb (.ref (h.objs.size + 1))).keeps up
  unfold isInstance
  repeat (first
    | with_reducible refine wpAny_loadPart_at ge ?_
    | (with_reducible refine wpAny_isSubtype_exc cC1 ?_; rw [cc])
    | wp_step)
  show wpAny _ _ (typeLookup (.ref C) _) _ _ _
  refine li1.at (wpAny_holding (wpAny_bind (lb1.at (wpAny_bind (wpAny_call (codeAny_mono k fun r s' z => ?_))))))
  rcases r with e | (v | _ | _ | _) <;> first | exact z | exact z.elim | skip
  obtain ⟨rfl, z⟩ := z
  first
    | exact wpAny_pure (wpAny_pure z)
    | (wp_walk; exact z)

theorem kw_call (FB : ExcBaseFacts B newId initId bmB) (same : ∀ Y : String, bm.contains (.type Y) = bmB.contains (.type Y)) {f : Str} {v : Value} {fI : Addr}
    (cC : h.get? C = some (excClassObj nm q C N bs bm hdct sn sub ab col dd k0 k1 k2 k3 k5 newId))
    (li : Looks (model prog w) h (typeLookup (.ref C) "__init__") (some (.ref fI))) (lb : ∀ self, Looks (model prog w) h (bindSpecial (.ref fI) self) (.ref fI, [self]))
    (k : codeAny (model prog w) (A.under (.builtin "type.__call__" ⟨[.ref C], [(f, v)]⟩)) (.call (.ref fI) ⟨[.ref (h.objs.size + 1)], [(f, v)]⟩) (InitBack (h.objs.size + 1) R)
      ⟨(h.push (excTup [])).push (exr C h.objs.size none), g, d, t, os⟩) :
    codeAny (model prog w) A (.call (.ref C) ⟨[], [(f, v)]⟩) R ⟨h, g, d, t, os⟩ := by
  have f1 := tc_lookup
  have f2 := tc_bind (.ref C)
  have ty : (⟨h, g, d, t, os⟩ : Shared).TypeIs (.ref C) "type" := ⟨_, cC, rfl⟩
  refine codeAny_of_tree ?_
  show wpAny _ _ (callAny (.ref C) _) _ _ _
  repeat (any_goals (first
    | assumption
    | with_reducible refine wpAny_loadPart_at cC ?_
    | wp_step))
  refine ⟨rfl, ?_⟩
  refine codeAny_call_builtin_at (Code.quiet_builtin _ (by decide +kernel)) entry_typeCall ?_
  have f3 := tc_sub
  have last : wpAny (model prog w) (A.under (.builtin "type.__call__" ⟨[.ref C], [(f, v)]⟩)) (Builtin.«type.__call__» ⟨[.ref C], [(f, v)]⟩)
      (fun fin s' => match fin with | .done fl => R (.ok fl) s' | .again c' => c'.quiet = true ∧ codeAny (model prog w) A c' R s') (fun e s' => R (.error e) s') ⟨h, g, d, t, os⟩ := by
    refine kw_type FB same cC li lb (codeAny_mono k fun r s' z => ?_)
    rcases r with e | (v | _ | _ | _) <;> exact z
  simp only [checkBuiltinCall, tc_kind, tc_split]
  repeat (any_goals (first
    | assumption
    | with_reducible refine wpAny_loadPart_at cC ?_
    | with_reducible refine wpAny_onRaise ?_
    | with_reducible refine wpAny_map ?_
    | wp_step))
end

section
variable {prog : Program} {w : World} {K : Frag} {mg : Str → Option Value} {C fI : Addr} {fd : FuncData} {f qn : Str} {B newId initId : String} {bmB : List Value}
variable {A : Around} {E : Value → Shared → Prop}
/-- what is there behind the making -/
structure Made (h h' : Heap) (C e dx : Addr) (f : Str) (v : Value) : Prop where
  keep : ∀ b o, h.get? b = some o → h'.get? b = some o
  eb : h.objs.size ≤ e
  db : h.objs.size ≤ dx
  ne : dx ≠ e
  ob : ∃ t1, h'.get? e = some (exr C t1 (some dx))
  ns : h'.Ns1 dx (fun y => if y = f then some v else none)
theorem fresh_out {h : Heap} {b : Addr} (X : K.In h) (hb : h.objs.size ≤ b) : K.lookup b = none := by
  cases e : K.lookup b with
  | none => rfl
  | some o => exact absurd (Heap.lt_size (X _ _ e)) (Nat.not_lt.mpr hb)
theorem made_pos (T : ExT prog K mg C fI fd f qn B newId initId bmB) {s : Shared} {v : Value} {Q : Value → Shared → Prop} (X : K.In s.heap) (hg : s.heap.Ns mainGlobals mg)
    (hb : ∃ mb, s.heap.Ns builtinsNs mb ∧ ∀ y : Str, y ≠ "__name__" → mb y = bootBuiltins y) (hlim : s.heap.NoLimit) (hroom : A.depth + 1 < recursionLimit)
    (k : ∀ h' tk e dx, Made s.heap h' C e dx f v → Q (.ref e) { s with heap := h', toks := tk }) : wpAny (model prog w) A (call (.ref C) [v]) Q E s := by
  obtain ⟨nm, N', qn', bs, bm, hdct, sn, sub, ab, col, dd, k0, k1, k2, k3, k5, hC, hT⟩ := excInit_of X T.q
  obtain ⟨oI, hoI, hcI⟩ : ∃ oI, s.heap.get? fI = some oI ∧ oI.cls = .type "function" := by
    obtain ⟨o, ho, hc⟩ := Option.map_eq_some_iff.mp (show (K.lookup fI).map (·.cls) = some (.type "function") from beq_iff_eq.mp T.isf)
    exact ⟨o, X _ _ ho, hc⟩
  have up : ∀ b o, s.heap.get? b = some o → ((s.heap.push (excTup [v])).push (exr C s.heap.objs.size none)).get? b = some o :=
    fun b o e => Heap.get?_push_of_some _ (Heap.get?_push_of_some _ e)
  have ge : ((s.heap.push (excTup [v])).push (exr C s.heap.objs.size none)).get? (s.heap.objs.size + 1) = some (exr C s.heap.objs.size none) := by heap_get
  have sz : ((s.heap.push (excTup [v])).push (exr C s.heap.objs.size none)).objs.size = s.heap.objs.size + 2 := by rw [Heap.size_push, Heap.size_push]
  have hg' : ((s.heap.push (excTup [v])).push (exr C s.heap.objs.size none)).Ns mainGlobals mg := hg.keeps up
  have hb' : ∃ mb, ((s.heap.push (excTup [v])).push (exr C s.heap.objs.size none)).Ns builtinsNs mb ∧ ∀ y : Str, y ≠ "__name__" → mb y = bootBuiltins y :=
    let ⟨mb, h1, h2⟩ := hb
    ⟨mb, h1.keeps up, h2⟩
  have out := fresh_out (b := s.heap.objs.size + 1) X (Nat.le_succ _)
  obtain ⟨hp, g, d, tk, os⟩ := s
  refine wpAny_call (PX.call_own T.FB hT hC (looks_findIn X T.iC) (fun self => exc_bind hoI hcI self) (by show 1 ≤ sizeLine; rw [sizeLine_eq]; omega) ?_)
  refine init_run (s := ⟨(hp.push (excTup [v])).push (exr C hp.objs.size none), g, d, tk, os⟩) T (X.keeps up) hg' hb' (hlim.keeps up) ge out hroom (T.bp _ _ _) fun h' tk' dx t1 kk db ne ob ns => ?_
  refine ⟨rfl, k h' tk' _ dx ⟨fun b o e => kk b o (Nat.ne_of_lt (Nat.lt_succ_of_lt (Heap.lt_size e))) (up b o e), Nat.le_succ _, Nat.le_trans (by rw [sz]; exact Nat.le_add_right _ _) db, ne, ⟨t1, ob⟩, ns⟩⟩
theorem made_kw (T : ExT prog K mg C fI fd f qn B newId initId bmB) {s : Shared} {v : Value} {Q : Value → Shared → Prop} (X : K.In s.heap) (hg : s.heap.Ns mainGlobals mg)
    (hb : ∃ mb, s.heap.Ns builtinsNs mb ∧ ∀ y : Str, y ≠ "__name__" → mb y = bootBuiltins y) (hlim : s.heap.NoLimit) (hroom : A.depth + 1 < recursionLimit)
    (k : ∀ h' tk e dx, Made s.heap h' C e dx f v → Q (.ref e) { s with heap := h', toks := tk }) : wpAny (model prog w) A (call (.ref C) [] [(f, v)]) Q E s := by
  obtain ⟨nm, N', qn', bs, bm, hdct, sn, sub, ab, col, dd, k0, k1, k2, k3, k5, hC, hT⟩ := excInit_of X T.q
  obtain ⟨oI, hoI, hcI⟩ : ∃ oI, s.heap.get? fI = some oI ∧ oI.cls = .type "function" := by
    obtain ⟨o, ho, hc⟩ := Option.map_eq_some_iff.mp (show (K.lookup fI).map (·.cls) = some (.type "function") from beq_iff_eq.mp T.isf)
    exact ⟨o, X _ _ ho, hc⟩
  have up : ∀ b o, s.heap.get? b = some o → ((s.heap.push (excTup [])).push (exr C s.heap.objs.size none)).get? b = some o :=
    fun b o e => Heap.get?_push_of_some _ (Heap.get?_push_of_some _ e)
  have ge : ((s.heap.push (excTup [])).push (exr C s.heap.objs.size none)).get? (s.heap.objs.size + 1) = some (exr C s.heap.objs.size none) := by heap_get
  have sz : ((s.heap.push (excTup [])).push (exr C s.heap.objs.size none)).objs.size = s.heap.objs.size + 2 := by rw [Heap.size_push, Heap.size_push]
  have hg' : ((s.heap.push (excTup [])).push (exr C s.heap.objs.size none)).Ns mainGlobals mg := hg.keeps up
  have hb' : ∃ mb, ((s.heap.push (excTup [])).push (exr C s.heap.objs.size none)).Ns builtinsNs mb ∧ ∀ y : Str, y ≠ "__name__" → mb y = bootBuiltins y :=
    let ⟨mb, h1, h2⟩ := hb
    ⟨mb, h1.keeps up, h2⟩
  have out := fresh_out (b := s.heap.objs.size + 1) X (Nat.le_succ _)
  obtain ⟨hp, g, d, tk, os⟩ := s
  refine wpAny_call (kw_call T.FB hT hC (looks_findIn X T.iC) (fun self => exc_bind hoI hcI self) ?_)
  refine init_run (s := ⟨(hp.push (excTup [])).push (exr C hp.objs.size none), g, d, tk, os⟩) T (X.keeps up) hg' hb' (hlim.keeps up) ge out hroom (T.bk _ _ _) fun h' tk' dx t1 kk db ne ob ns => ?_
  refine ⟨rfl, k h' tk' _ dx ⟨fun b o e => kk b o (Nat.ne_of_lt (Nat.lt_succ_of_lt (Heap.lt_size e))) (up b o e), Nat.le_succ _, Nat.le_trans (by rw [sz]; exact Nat.le_add_right _ _) db, ne, ⟨t1, ob⟩, ns⟩⟩
end
end XH

set_option Elab.async false
set_option linter.all false
set_option maxRecDepth 100000
set_option maxHeartbeats 4000000
/-! The rules over the hand layer: such an exception made as a value, asked by isinstance, its field read; repr of data. -/
namespace XH
open PySem PySem.W PySem.Calls PyProof.Rows L2
/-- at a: an exception of the class at C that keeps v in its field f -/
def ExcAt (H : Hp) (a C : Addr) (f : Str) (v : V) : Prop := ∃ d, H a = some (exo a C (some d)) ∧ H d = some (exd d [(f, v)])
theorem ExcAt.same {H H' : Hp} {a C : Addr} {f : Str} {v : V} (x : ExcAt H a C f v) (s : Same H H') : ExcAt H' a C f v :=
  let ⟨d, h1, h2⟩ := x
  ⟨d, s _ _ h1, s _ _ h2⟩
theorem same_refl {H : Hp} : Same H H := fun _ _ e => e
theorem same_trans {H H' H'' : Hp} (a : Same H H') (b : Same H' H'') : Same H H'' := fun x o e => b x o (a x o e)
theorem same_new {H : Hp} {a : Addr} {o : HO} (h : H a = none) : Same H (upd H a o) := fun b u e => by
  rw [upd_ne (ne_of_none e h)]
  exact e
section
variable {X : Cx} {pins : List (Addr × Obj)} {σ : L2.St} {H : Hp} {s : Shared}
theorem inv_made {h' : Heap} {tk : Nat} {C e dx : Addr} {f : Str} {v : V} {u : Value} (I : Inv X pins σ H s) (r : RelV v u) (m : Made s.heap h' C e dx f u) :
    Inv X pins σ (upd (upd H dx (exd dx [(f, v)])) e (exo e C (some dx))) { s with heap := h', toks := tk } := by
  obtain ⟨kp, eb, db, ne, ⟨t1, ob⟩, ns⟩ := m
  obtain ⟨G, g1, g2⟩ := restrict h' fun b => decide (b ≠ e)
  have gk : ∀ b, b ≠ e → G.get? b = h'.get? b := fun b hb => g1 b (decide_eq_true hb)
  have ge : G.get? e = none := g2 e (decide_eq_false fun z => z rfl)
  have gs : ∀ b o, G.get? b = some o → h'.get? b = some o := fun b o z => by
    by_cases hb : b = e
    · rw [hb, ge] at z
      cases z
    · rw [← gk b hb]
      exact z
  have old : ∀ b o, s.heap.get? b = some o → G.get? b = some o := fun b o z => by
    rw [gk b (Nat.ne_of_lt (Nat.lt_of_lt_of_le (Heap.lt_size z) eb))]
    exact kp b o z
  have od : ObjOk X.prog X.w (upd H dx (exd dx [(f, v)])) G dx (exd dx [(f, v)]) := by
    refine exd_ok (ns.at fun o z => (gk dx ne).trans z) fun g => ?_
    have z := relO_put (f := f) (fs := []) (mA := fun _ => none) r (fun _ => trivial) g
    exact z
  have I2 : Inv X pins σ (upd H dx (exd dx [(f, v)])) { s with heap := G, toks := tk } := I.laid (t' := tk) old db od
  have hn : (upd H dx (exd dx [(f, v)])) e = none := by
    rw [upd_ne (Ne.symm ne)]
    exact I.hok.fresh eb
  exact I2.laidN (t' := tk) gs ge hn (exo_ok ob)
theorem made_at {C e dx : Addr} {f : Str} {v : V} (h : e ≠ dx) : ExcAt (upd (upd H dx (exd dx [(f, v)])) e (exo e C (some dx))) e C f v :=
  ⟨dx, upd_same, by rw [upd_ne (Ne.symm h), upd_same]⟩
end
/-- C(e), C(f=e): a new exception; what was tracked stands -/
def tMk (C : Addr) (f : Str) (te : TE) : TE := fun σ H Q => te σ H fun v H1 => ∀ a H2, H1 a = none → Same H1 H2 → ExcAt H2 a C f v → Q (.ref a) H2
section
variable {X : Cx} {C fI : Addr} {fd : FuncData} {f qn : Str} {B newId initId : String} {bmB : List Value}
theorem inv_glob {pins : List (Addr × Obj)} {σ : L2.St} {H : Hp} {s : Shared} (I : Inv X pins σ H s) : s.heap.Ns mainGlobals X.mg ∧ ∃ mb, s.heap.Ns builtinsNs mb ∧ ∀ y : Str, y ≠ "__name__" → mb y = bootBuiltins y :=
  ⟨I.mod.glob.keeps I.bk, let ⟨mb, h1, h2⟩ := I.mod.blt; ⟨mb, h1.keeps I.bk, h2⟩⟩
theorem mk_run {pins : List (Addr × Obj)} {σ : L2.St} {H : Hp} {s : Shared} {v : V} {u : Value} {Q : VK} {kw : Bool} (T : ExT X.prog X.K X.mg C fI fd f qn B newId initId bmB) (dp : X.A.depth + 1 < recursionLimit)
    (I : Inv X pins σ H s) (r : RelV v u) (k : ∀ a H2, H a = none → Same H H2 → ExcAt H2 a C f v → Q (.ref a) H2) :
    ∀ h' tk e dx, Made s.heap h' C e dx f u → EP X pins σ Q (.ref e) { s with heap := h', toks := tk } := fun h' tk e dx m => by
  have he : H e = none := I.hok.fresh m.eb
  have hd : H dx = none := I.hok.fresh m.db
  refine ⟨.ref e, _, inv_made I r m, rfl, k e _ he ?_ (made_at (Ne.symm m.ne))⟩
  exact same_trans (same_new hd) (same_new (by rw [upd_ne (Ne.symm m.ne)]; exact he))
theorem pe_mkp {x : Str} {e : Expr} {te : TE} {p pos : Pos} (T : ExT X.prog X.K X.mg C fI fd f qn B newId initId bmB) (dp : X.A.depth + 1 < recursionLimit) (gC : X.mg x = some (.ref C)) (kC : keepIn X.K (.ref C) = true) (hg : Gl X x) (he : PE X e te)
    (hs : starEach [e] X.env = (false, eval e X.env) :: starEach [] X.env := by rfl) (hdb : (x == ("__debug__" : Str)) = false := by decide) :
    PE X (.Call (.Name x p) [e] [] pos) (tMk C f te) := by
  refine ⟨fun pins s σ H Q I h => ?_⟩
  refine wpAny_Call_Name_kw (ld_glob I hg gC ?_ hdb)
  refine callWith_K (h₀ := X.base) I.ok.mod.kin kC ?_ hs (by rfl)
  rw [hs]
  show wpAny _ _ (spliced ((false, eval e X.env) :: backTo pos (starEach [] X.env))) _ _ s
  refine spliced_cons (thn (he.run pins s σ H _ I h) fun u s1 ⟨v, H1, I1, r1, q1⟩ => ?_)
  refine spliced_nil ⟨I1.kIn, ?_⟩
  show wpAny _ _ (call (.ref C) [u]) _ _ _
  exact made_pos T I1.kIn (inv_glob I1).1 (inv_glob I1).2 I1.nolimit dp (mk_run (kw := false) T dp I1 r1 q1)
theorem pe_mkk {x : Str} {e : Expr} {te : TE} {p pos kp : Pos} (T : ExT X.prog X.K X.mg C fI fd f qn B newId initId bmB) (dp : X.A.depth + 1 < recursionLimit) (gC : X.mg x = some (.ref C)) (kC : keepIn X.K (.ref C) = true) (hg : Gl X x) (he : PE X e te)
    (hdb : (x == ("__debug__" : Str)) = false := by decide) :
    PE X (.Call (.Name x p) [] [⟨some f, e, kp⟩] pos) (tMk C f te) := by
  refine ⟨fun pins s σ H Q I h => ?_⟩
  refine wpAny_Call_Name_kw (ld_glob I hg gC ?_ hdb)
  refine callWith_KW0 (h₀ := X.base) I.ok.mod.kin kC rfl ?_ rfl
  refine thn ((pk_cons he pk_nil).run pos pins s σ H (fun vs H1 => match vs with | [v] => ∀ a H2, H1 a = none → Same H1 H2 → ExcAt H2 a C f v → Q (.ref a) H2 | _ => False) I h) fun ws s2 ⟨zs, H2, I2, rz, q2⟩ => ⟨I2.kIn, ?_⟩
  rcases zs with _ | ⟨v, _ | ⟨_, _⟩⟩
  · exact q2.elim
  · obtain ⟨u, rfl, ru⟩ := vals1 rz
    exact made_kw T I2.kIn (inv_glob I2).1 (inv_glob I2).2 I2.nolimit dp (mk_run (kw := true) T dp I2 ru q2)
  · exact q2.elim
end
/-- what a class says, so that its exceptions are asked and read rightly -/
structure ExQ (K : Frag) (C : Addr) : Prop where
  cl : (clsIn K C).isSome = true
  hd : hasDictIn K C = true
  ga : findIn K (.ref C) "__getattribute__" = some (some (.builtin "BaseException.__getattribute__"))
  gt : findIn K (.ref C) "__getattr__" = some none
  sb : subIn K (.ref C) (.type "BaseException") = some true
  hc : findIn K (.ref C) "__class__" = some (some (.builtin "object.__class__"))
  hn : specialIn K (.builtin "object.__class__") "__get__" = some (some (.builtin "getset_descriptor.__get__"))
  tk : takesIn K (.builtin "object.__class__") = some true
  hm : mroIn K C (.type "object") = some true
section
variable {X : Cx} {pins : List (Addr × Obj)} {σ : L2.St} {H : Hp} {s : Shared}
theorem ExcAt.inst {a C : Addr} {f : Str} {v : V} (I : Inv X pins σ H s) (x : ExcAt H a C f v) : ∃ (ox od : Obj) (u : Value), InstAt s.heap a ox C (some od) ∧ RelV v u ∧ lookIn f od = some (some u) := by
  obtain ⟨d, h1, h2⟩ := x
  obtain ⟨t1, e1⟩ := exo_at I.hok h1
  obtain ⟨mA, ns, rel⟩ := exd_at I.hok h2
  obtain ⟨od, ho, hl⟩ := lookIn_ns ns
  have z : RelO (some v) (mA f) := by
    have y := rel f
    simpa [List.lookup] using y
  obtain ⟨u, hu, ru⟩ := RelO.some_of (v := v) (o := mA f) z
  exact ⟨_, od, u, ⟨e1, rfl, rfl, ho⟩, ru, by rw [hl, hu]⟩
end
/-- isinstance(x, c), x such an exception -/
def rIsX (K : Frag) : List V → Hp → VK → Prop := fun xs H Q => ∃ (a C : Addr) (f : Str) (v c : V) (u : Value) (b : Bool), xs = [.ref a, c] ∧ ClsV c u ∧ ExQ K C ∧ ExcAt H a C f v ∧ kitOne K (.ref C) u = some b ∧ Q (.bl b) H
/-- isinstance(x, (c, ..)), the tuple just laid -/
def rIsXT (K : Frag) : List V → Hp → VK → Prop := fun xs H Q => ∃ (a C tp : Addr) (f : Str) (v : V) (cs : List V) (us : List Value) (b : Bool), xs = [.ref a, .ref tp] ∧ H tp = some (.tup cs) ∧ Paired ClsV cs us ∧ ExQ K C ∧ ExcAt H a C f v ∧ kitAny K (.ref C) us = some b ∧ Q (.bl b) H
section
variable {X : Cx}
theorem call_isX : CallR X (.builtin "isinstance") (rIsX X.K) := by
  intro pins s σ H xs us Q I r h
  obtain ⟨a, C, f, v, c, u, b, rfl, kc, T, x, e, q⟩ := h
  obtain ⟨u1, u2, rfl, r1, r2⟩ := vals2 r
  have e2 := kc.eq r2
  subst e2
  obtain rfl : u1 = Value.ref a := r1
  obtain ⟨ox, od, w', J, _, _⟩ := x.inst I
  exact kia_one (kitx_exc T.cl T.ga T.gt T.sb T.hc T.hn T.tk T.hm) I.kIn J e (fun z => nomatch z) fun tk => ⟨.bl b, H, I.tok tk, rfl, q⟩
theorem call_isXT : CallR X (.builtin "isinstance") (rIsXT X.K) := by
  intro pins s σ H xs us Q I r h
  obtain ⟨a, C, tp, f, v, cs, ws, b, rfl, hT, kc, T, x, e, q⟩ := h
  obtain ⟨u1, u2, rfl, r1, r2⟩ := vals2 r
  obtain rfl : u1 = Value.ref a := r1
  obtain rfl : u2 = Value.ref tp := r2
  obtain ⟨ox, od, w', J, _, _⟩ := x.inst I
  obtain ⟨_, its, rv, o, h1, h2, n, h3⟩ := (show ObjOk X.prog X.w H s.heap tp (.tup cs) from I.hok tp _ hT)
  have e3 := ClsV.all kc rv
  subst e3
  obtain ⟨oc, odd, dt, sl⟩ := o
  simp only at h2 h3
  subst h2 h3
  exact kia_tup (kitx_exc T.cl T.ga T.gt T.sb T.hc T.hn T.tk T.hm) I.kIn J h1 e (fun z => nomatch z) fun tk => ⟨.bl b, H, I.tok tk, rfl, q⟩
/-- e.f, e such an exception -/
def tXfl (K : Frag) (f : Str) (te : TE) : TE := fun σ H Q => te σ H fun x H1 => ∃ (a C : Addr) (v : V), x = .ref a ∧ ExQ K C ∧ findIn K (.ref C) f = some none ∧ ExcAt H1 a C f v ∧ Q v H1
theorem pe_xfl {e : Expr} {te : TE} {pos : Pos} {f : Str} (he : PE X e te) (hb : attributeBase e f X.env (eval e X.env) = eval e X.env := by rfl) : PE X (.Attribute e f pos) (tXfl X.K f te) := by
  refine ⟨fun pins s σ H Q I h => ?_⟩
  refine attr_of hb (thn (he.run pins s σ H _ I h) fun u s1 hh => ?_)
  obtain ⟨x, H1, I1, rx, a, C, v, rfl, T, hno, xa, q⟩ := hh
  obtain rfl : u = Value.ref a := rx
  obtain ⟨ox, od, w', J, rw', hl⟩ := xa.inst I1
  exact HandSPX.exc_get I1.kIn J T.ga T.gt T.sb (findObj_own T.hd hno rfl hl) (handed_of rw') ⟨v, H1, I1.tok _, rw', q⟩
/-- repr of data without dicts, where no repr is under way -/
def rReprD (K : Frag) : List V → Hp → VK → Prop := fun xs H Q => ∃ (v : V) (d : PyData), xs = [v] ∧ Dp K H v d ∧ d.showable = true ∧ d.depth ≤ 60 ∧ d.shown.length ≤ sizeLine ∧ Q (.str d.shown) H
mutual
theorem dp_plain {K : Frag} {H : Hp} : ∀ (d : PyData) (v : V), Dp K H v d → d.hasDict = false
  | .none, _, _ => by simp only [PyData.hasDict]
  | .bool _, _, _ => by simp only [PyData.hasDict]
  | .int _, _, _ => by simp only [PyData.hasDict]
  | .str _, _, _ => by simp only [PyData.hasDict]
  | .list ds, _, h => by
    cases h with
    | lst hs ha => simpa only [PyData.hasDict] using dp_plainAll ds _ ha
  | .tuple ds, _, h => by
    cases h with
    | tup hs ha => simpa only [PyData.hasDict] using dp_plainAll ds _ ha
  | .dict _, _, h => by cases h
theorem dp_plainAll {K : Frag} {H : Hp} : ∀ (ds : List PyData) (vs : List V), DpAll K H vs ds → PyData.hasDictAll ds = false
  | [], _, _ => by simp only [PyData.hasDictAll]
  | d :: ds, _, h => by
    cases h with
    | cons h1 h2 => rw [PyData.hasDictAll, dp_plain d _ h1, dp_plainAll ds _ h2, Bool.or_false]
end
theorem call_reprD (hg : X.A.guards = some []) (hu : X.A.units + 100 < cLine) : CallR X (.builtin "repr") (rReprD X.K) := by
  intro pins s σ H xs us Q I r h
  obtain ⟨v, d, rfl, hd, sh, dp, sz, q⟩ := h
  obtain ⟨u, rfl, ru⟩ := vals1 r
  have nd := dp_plain d v hd
  obtain ⟨as, rd⟩ := Dp.reads I d v u hd ru
  cases hd with
  | non =>
    cases (show u = Value.none from ru)
    exact PySem.P.repr_of_none ⟨.str _, H, I.tok _, ⟨_, rfl⟩, q⟩
  | bl b =>
    cases (show u = Value.bool b from ru)
    exact PySem.P.repr_of_bool ⟨.str _, H, I.tok _, ⟨_, rfl⟩, q⟩
  | int i =>
    obtain ⟨t, rfl⟩ := (show ∃ t, u = Value.int i t from ru)
    exact PySem.P.repr_of_int (by simpa [PyData.showable] using sh) ⟨.str _, H, I.tok _, ⟨_, rfl⟩, q⟩
  | str x =>
    obtain ⟨t, rfl⟩ := (show ∃ t, u = Value.str x t from ru)
    exact PySem.P.repr_of_str ⟨.str _, H, I.tok _, ⟨_, rfl⟩, q⟩ sz
  | lst hs ha =>
    cases ru
    exact repr_of_reads' rd sh (PyData.noDict_hsm nd) hg (by omega) (fun _ _ e => e) (fun h' t tk kp => ⟨.str _, H, I.kept kp, ⟨_, rfl⟩, q⟩) sz
  | tup hs ha =>
    cases ru
    exact repr_of_reads' rd sh (PyData.noDict_hsm nd) hg (by omega) (fun _ _ e => e) (fun h' t tk kp => ⟨.str _, H, I.kept kp, ⟨_, rfl⟩, q⟩) sz
/-- repr of an empty dict too -/
def rReprQ (K : Frag) : List V → Hp → VK → Prop := fun xs H Q => rReprD K xs H Q ∨ ∃ a, xs = [.ref a] ∧ H a = some (.dK []) ∧ Q (.str "{}") H
theorem call_reprQ (hg : X.A.guards = some []) (hu : X.A.units + 100 < cLine) : CallR X (.builtin "repr") (rReprQ X.K) := by
  intro pins s σ H xs us Q I r h
  rcases h with h | ⟨a, rfl, ha, q⟩
  · exact call_reprD hg hu pins s σ H xs us Q I r h
  · obtain ⟨u, rfl, ru⟩ := vals1 r
    obtain rfl : u = Value.ref a := ru
    obtain ⟨_, hsys, vs, kv, hd⟩ := (show ObjOk X.prog X.w H s.heap a (.dK []) from I.hok a _ ha)
    cases kv
    obtain ⟨o, es, ep, h1, h2, h3, _, h4, _⟩ := hd
    have e0 : es.toList = [] := by
      cases e : es.toList with
      | nil => rfl
      | cons x r =>
        rw [e] at h4
        cases h4
    have rd : Reads s.heap (.ref a) (.dict []) (a :: [] ++ []) := by
      refine Reads.dict h1 h2.1 h3 ?_ ?_
      · rw [e0]
        exact ReadsAll.nil
      · rw [e0]
        exact ReadsAll.nil
    have ns : sysModules ∉ a :: [] ++ [] := fun z => by
      rcases List.mem_cons.mp z with y | y
      · rw [← y] at hsys
        simp at hsys
      · cases y
    exact repr_of_reads' rd (by simp [PyData.showable, PyData.showableKv]) (fun _ => ns) hg (by simp [PyData.depth, PyData.depthKv]; omega) (fun _ _ e => e) (fun h' t tk kp => ⟨.str _, H, I.kept kp, ⟨_, rfl⟩, q⟩) (by decide +kernel)
end
end XH

set_option Elab.async false
set_option linter.all false
set_option maxRecDepth 100000
set_option maxHeartbeats 4000000
/-! The law's own def, called from the very top: its surroundings are known (no repr is under way). -/
namespace L2H
open PySem PySem.Spec PyProof.Rows L2
/-- a promise kept when called from the top -/
def AtTop (P : Program) (w : World) (K : PySem.W.Frag) (mg : Str → Option Value) (base : Heap) (f : Addr) (fd : FuncData) (x : Str) (sp : Sp) : Prop :=
  ∀ (s : Shared) (H : Hp) (u : Value) (v : V) (Q : VK) (E : XK), Env0 P w K mg base callerA [] s H → BindsTo s fd ⟨[u], []⟩ [(x, u)] → RelV v u → sp [v] H Q E →
    codeAny (model P w) callerA (.call (.ref f) ⟨[u], []⟩) (CR CX0 [] P w H s Q E) s
section
variable {P : Program} {w : World} {K : PySem.W.Frag} {mg : Str → Option Value} {base : Heap} {x name : Str} {st : Stmt} {f : Addr} {fd : FuncData} {N : List Str} {k : Nat} {sp : Sp}
theorem atTop_of (F : Fun K name name st f fd) (S : FnScope N [x] (defScope st)) (hr : Room (k + 1) callerA)
    (body : ∀ (cdv : Value) (s : Shared) (H : Hp) (v : V) (Q : VK) (E : XK), Room k (callerA.deeper (envOfC name (defScope st) s.heap.objs.size f cdv)) → sp [v] H Q E →
      ∃ t, PSs (cxOf CX0 P w K mg base N name (defScope st) f cdv callerA [] s H E).nox (defBody st) t ∧ t { nx := fun _ H' => Q .non H', rt := Q } (start N [v]) H) :
    AtTop P w K mg base f fd x sp := by
  obtain ⟨oc, od, kV, doc, pm, an, cdv, ct, osl, rfl, lk, hcd⟩ := F.ex
  intro s H u v Q E e0 hb ru hsp
  have KX : K.In s.heap := e0.mod.kin.keeps fun b o z => (e0.bs b o z).1
  have lim : s.heap.NoLimit := e0.mod.nolimit.keeps fun b o z => (e0.bs b o z).1
  have kinds : ∀ y ∈ [(x, u)], (defScope st).names.lookup y.1 = some .local ∨ ((defScope st).names.lookup y.1 = some .cell ∧ ((cellsFrom (s.heap.objs.size + 1) (defScope st).names []).lookup y.1).isSome = true) := fun y hy => by
    rcases List.mem_cons.mp hy with rfl | z
    · rcases S.par x (List.mem_cons_self ..) with q | q
      · exact .inl q
      · exact .inr ⟨q, PySem.W.cellsFrom_some _ _ _ (.inl q)⟩
    · cases z
  refine codeAny_call_function hr.depth (KX _ _ lk) rfl S.co S.gen rfl (PySem.W.codeRec_of KX hcd) (hb _ _ _ _ ?_)
  refine wpAny_newFunctionEnv_cells S.kind kinds fun env he s1 y => ?_
  subst he
  refine ⟨lim.keeps y.toInCall.keep, codeAny_func ?_⟩
  obtain ⟨t, ht, hq⟩ := body cdv s H v Q E (hr.deeper _) hsp
  have I : Inv (cxOf CX0 P w K mg base N name (defScope st) f cdv callerA [] s H E) [] (start N [v]) H s1 := inv_start (ps := [x]) (us := [u]) S hr.hd e0 rfl (.cons ru .nil) y
  refine wpAny_mono (ht.nox.run [] s1 (start N [v]) H _ I hq) (fun fl s' hs => ?_) fun _ _ z => z
  cases fl with
  | ret u' =>
    obtain ⟨v', σ', H', J, rv, q⟩ := hs
    exact ⟨v', H', J.os, J.bare, J.base, J.hok, rv, q⟩
  | next =>
    obtain ⟨σ', H', J, q⟩ := hs
    exact ⟨V.non, H', J.os, J.bare, J.base, J.hok, rfl, q⟩
  | brk =>
    obtain ⟨_, _, _, q⟩ := hs
    exact q.elim
  | cont =>
    obtain ⟨_, _, _, q⟩ := hs
    exact q.elim
end
section
variable {P : Program} {w : World} {K : PySem.W.Frag} {mg mb : Str → Option Value} {fa a : Addr} {fd : FuncData} {x : Str} {sp : Sp} {t : Shared} {vs : List Value} {ns : List Int}
/-- what the law's row asks of the call -/
abbrev Good (t : Shared) : Result → Shared → Prop := fun r t' => r = .ok (.ret (.bool true)) ∧ OldK t.heap t'.heap ∧ t'.os = t.os ∧ AllBare t'.gens
theorem from_top (KX : K.In t.heap) (gn : t.heap.Ns mainGlobals mg) (bn : t.heap.Ns builtinsNs mb) (bb : ∀ y : Str, y ≠ "__name__" → mb y = bootBuiltins y) (lim : t.heap.NoLimit) (g0 : t.gens = #[])
    (at_a : t.heap.get? a = some { cls := .type "list", data := .seq vs.toArray }) (allInt : IntsAre vs ns) (short : ns.length ≤ sizeLine)
    (F : ∀ base : Heap, K.In base → base.Ns mainGlobals mg → AtTop P w K mg base fa fd x sp) (bind : ∀ (s : Shared) (u : Value), BindsTo s fd ⟨[u], []⟩ [(x, u)])
    (wish : ∀ H : Hp, Only H → SqL K H a (ns.map V.int) → sp [.ref a] H (fun v _ => v = .bl true) fun _ _ _ => False) :
    codeAny (model P w) callerA (.call (.ref fa) ⟨[.ref a], []⟩) (Good t) t := by
  have rvs := vals_ints allInt
  have inner : ∀ H : Hp, Only H → SqL K H a (ns.map V.int) → HOk P w H t.heap → (∀ b, H b ≠ none → b = a) → (H a ≠ none → K.lookup a = none) →
      codeAny (model P w) callerA (.call (.ref fa) ⟨[.ref a], []⟩) (Good t) t := fun H hO hS hok one out => by
    have pass : ∀ {b : Addr} {o : Obj}, t.heap.get? b = some o → H b = none → (hidT t.heap H).get? b = some o := fun z n => hidT_get z n
    have dicts : ∀ {b : Addr} {o : Obj} {es : Array DictEntry} {ep : Nat}, t.heap.get? b = some o → o.data = .dict es ep → H b = none := fun {b o es ep} z dz => by
      cases q : H b with
      | none => rfl
      | some u =>
        obtain rfl : b = a := one b (by rw [q]; simp)
        rw [at_a] at z
        cases z
        have y : Data.seq vs.toArray _ = Data.dict es ep := dz
        cases y
    have nsp : ∀ {b : Addr} {m : Str → Option Value}, t.heap.Ns b m → (hidT t.heap H).Ns b m := fun {b m} ⟨o, es, ep, z, dz, r⟩ => ⟨o, es, ep, pass z (dicts z dz), dz, r⟩
    have Kb : K.In (hidT t.heap H) := fun b o z => pass (KX b o z) (by
      cases q : H b with
      | none => rfl
      | some u =>
        obtain rfl : b = a := one b (by rw [q]; simp)
        rw [out (by rw [q]; simp)] at z
        cases z)
    have md : Mod K mg (hidT t.heap H) := ⟨Kb, nsp gn, ⟨mb, nsp bn, bb⟩, let ⟨mc, q1, q2⟩ := lim; ⟨mc, nsp q1, q2⟩⟩
    have env : Env0 P w K mg (hidT t.heap H) callerA [] t H :=
      ⟨rfl, md, fun b o z => of_hidT z, Nat.le_of_eq (hidT_size _ _), trivial, fun b hb => absurd (show b ∈ ([] : List Addr) from hb) (by simp), hok, .of_eq g0⟩
    refine codeAny_mono (F _ Kb (nsp gn) t H (.ref a) (.ref a) _ _ env (bind t (.ref a)) rfl (wish H hO hS)) fun r t' h => ?_
    cases r with
    | error e => exact False.elim h
    | ok fl =>
     cases fl with
     | next => exact False.elim h
     | brk => exact False.elim h
     | cont => exact False.elim h
     | ret u =>
      obtain ⟨v, H', os, bare, un, hok', r', q⟩ := h
      obtain rfl : v = V.bl true := q
      obtain rfl : u = Value.bool true := r'
      refine ⟨rfl, OldK.of_keep fun b o z => ?_, os, bare⟩
      cases q : H b with
      | none => exact un.keep b o z q (by intro y; exact absurd (show b ∈ ([] : List Addr) from y) (by simp)) (by simp)
      | some u =>
        rcases hO b with y | ⟨ob, xs, y⟩
        · rw [q] at y
          cases y
        · obtain ⟨e1, _⟩ := hok b _ y
          obtain ⟨e2, _⟩ := hok' b _ (un.frzs b ob _ y)
          rw [z] at e1
          cases e1
          exact e2
  cases hk : K.lookup a with
  | some o =>
    have z := KX a o hk
    rw [at_a] at z
    cases z
    have sq : SqL K (fun _ => none) a (ns.map V.int) := .inr ⟨_, vs.toArray, _, hk, rfl, rfl, rfl, by rw [List.size_toArray, allInt.length]; exact short, by simpa using rvs⟩
    exact inner (fun _ => none) (fun _ => .inl rfl) sq (fun b u y => by cases (show (none : Option HO) = some u from y)) (fun b y => absurd rfl y) fun y => absurd rfl y
  | none =>
    let Hs : Hp := fun b => if b = a then some (.frz { cls := .type "list", data := .seq vs.toArray } (.lst (ns.map V.int))) else none
    have on : Hs a = some (.frz { cls := .type "list", data := .seq vs.toArray } (.lst (ns.map V.int))) := if_pos rfl
    have off : ∀ b, b ≠ a → Hs b = none := fun b hb => if_neg hb
    refine inner Hs (fun b => ?_) (.inl (.inr ⟨_, on⟩)) (fun b u z => ?_) (fun b z => ?_) fun _ => hk
    · by_cases hb : b = a
      · subst hb
        exact .inr ⟨_, _, on⟩
      · exact .inl (off b hb)
    · by_cases hb : b = a
      · subst hb
        rw [on] at z
        cases z
        exact ⟨at_a, by rw [List.length_map]; exact short, vs, _, rvs, at_a⟩
      · rw [off b hb] at z
        cases z
    · by_cases hb : b = a
      · exact hb
      · exact absurd (off b hb) z
end
/-- the law's row, from the promise of its def called from the top -/
theorem walk_top {l : PySem.W.OpenLaw} {n : Nat} {q : Program} {loose : List Str} {XP : (Str → Option Value) → Heap → Prop} {YP : World → Heap → Prop} {d : DefRec} {K : Params → PySem.W.Frag} {sp : World → Sp} {x : Str}
    (hn : l.most = some n) (few : n ≤ sizeLine) (hdf : d.params.defaults = []) (hY : ∀ (w : World) (h : Heap), YP w h → (K w.params).In h)
    (F : ∀ (w : World) (mg : Str → Option Value) (fa : Addr) (h : Heap), (K w.params).In h → h.Ns mainGlobals mg → mg d.name = some (.ref fa) →
      ∃ fd : FuncData, (∀ (s : Shared) (u : Value), BindsTo s fd ⟨[u], []⟩ [(x, u)]) ∧
        ∀ base : Heap, (K w.params).In base → base.Ns mainGlobals mg → AtTop l.prog w (K w.params) mg base fa fd x (sp w))
    (wish : ∀ (w : World) (H : Hp) (a : Addr) (ns : List Int), ns.length ≤ n → Only H → SqL (K w.params) H a (ns.map V.int) → sp w [.ref a] H (fun v _ => v = .bl true) fun _ _ _ => False) :
    PySem.W.WalkO q loose XP YP l.row.toRowW d [] (fun f vs => PySem.call f vs) := by
  refine Att.attach_call hn hdf fun w s₀ t mg mb fa o pm cd doc a vs ns G Y ho hd hcd hmg hobj hints hlen g0 => ?_
  have KX := hY w _ Y
  obtain ⟨fd, hb, hF⟩ := F w mg fa _ KX G.T.g hmg
  exact from_top KX G.T.g G.T.b G.T.builtins G.T.nolimit g0 hobj hints (Nat.le_trans hlen few) hF hb fun H hO hS => wish w H a ns hlen hO hS
end L2H

set_option Elab.async false
set_option linter.all false
set_option maxRecDepth 100000
set_option maxHeartbeats 4000000
namespace K70
open PySem L2 L2H XH
def top (i : Nat) : Stmt := PySem.Challenge.pw_onlyjoins_k70_errors.main.body.getD i (.Pass ⟨0, 0, 0, 0⟩)
abbrev sBeg : Stmt := top 12
abbrev sNext : Stmt := top 13
abbrev sVal : Stmt := top 14
abbrev sKin : Stmt := top 15
abbrev sFld : Stmt := top 16
abbrev sLaw : Stmt := top 17
def mkv (c l : Addr) (n : Int) : List (Key × V) := [(Sum.inr "cells", .ref c), (Sum.inr "left", .ref l), (Sum.inr "at", .int n)]
/-- the state of the draws at m: its cells, what is left, the counter -/
structure MAt (H : Hp) (m c l : Addr) (cs ls : List Int) (n : Int) : Prop where
  hm : H m = some (.dK (mkv c l n))
  hc : H c = some (.lst (cs.map V.int))
  hl : H l = some (.lst (ls.map V.int))
  ne : c ≠ l
  n0 : 0 ≤ n
  nb : n ≤ 100000
  cb : cs.length ≤ 63
  lb : ls.length ≤ 63
theorem MAt.mc {H : Hp} {m c l : Addr} {cs ls : List Int} {n : Int} (M : MAt H m c l cs ls n) : m ≠ c := ne_of M.hm M.hc (by intro z; cases z)
theorem MAt.ml {H : Hp} {m c l : Addr} {cs ls : List Int} {n : Int} (M : MAt H m c l cs ls n) : m ≠ l := ne_of M.hm M.hl (by intro z; cases z)
theorem MAt.same {H H' : Hp} {m c l : Addr} {cs ls : List Int} {n : Int} (M : MAt H m c l cs ls n) (s : Same H H') : MAt H' m c l cs ls n :=
  ⟨s _ _ M.hm, s _ _ M.hc, s _ _ M.hl, M.ne, M.n0, M.nb, M.cb, M.lb⟩
def spBeg (K : PySem.W.Frag) : Sp := fun vs H Q _ => ∃ (a : Addr) (ns : List Int), vs = [.ref a] ∧ SqL K H a (ns.map V.int) ∧ ns.length ≤ 63 ∧
  ∀ H' m c l cs ls, Same H H' → MAt H' m c l cs ls 0 → Q (.ref m) H'
structure TxtB (mg : Str → Option Value) : Prop where
  list : mg "list" = none
  int : mg "int" = none
  len : mg "len" = none
theorem kne1 : ¬ (("cells" : Str) = "left") := by decide +kernel
theorem kne2 : ¬ (("cells" : Str) = "at") := by decide +kernel
theorem kne3 : ¬ (("left" : Str) = "at") := by decide +kernel
theorem kne4 : ¬ (("left" : Str) = "cells") := by decide +kernel
theorem kne5 : ¬ (("at" : Str) = "cells") := by decide +kernel
theorem kne6 : ¬ (("at" : Str) = "left") := by decide +kernel
section
variable {P : Program} {w : World} {K : PySem.W.Frag} {mg : Str → Option Value} {base : Heap}
theorem scB : FnScope ["script", "cell"] ["script"] (defScope sBeg) := ⟨rfl, rfl, rfl, by decide +kernel, rfl, by decide +kernel, by decide +kernel⟩
theorem ok_beg {f : Addr} {fd : FuncData} (F : Fun K "_law_begun" "_law_begun" sBeg f fd) (T : TxtB mg) : FnOk P w K mg base CX0 1 f fd ["script"] (spBeg K) := by
  refine F.ok scB (fun vs H Q E h => ?_) (fun cdv A outer s H vs Q E hr h => ?_)
  · obtain ⟨a, ns, rfl, _⟩ := h
    rfl
  · obtain ⟨a, ns, rfl, hS, hlen, k⟩ := h
    refine ⟨_, pss_one (ps_ret (pe_disp (pps_cons pe_str (pe_callTy call_list_of (by rfl) T.list (by decide +kernel) (pa_cons (pv 0) pa_nil))
      (pps_cons pe_str (pe_lc (own := [("cell", 1)]) (g := gName 1) rfl scB.nd (pi_list (pv 0)) (blkOk_by (own := [("cell", 1)]) (N := ["script", "cell"]) (sc := defScope sBeg) (by decide +kernel))
        (fun _ _ _ _ _ => pg_name (i := 1) scB.nd rfl (Or.inl rfl)) (fun _ _ _ _ _ => pts_one (pt_cmpR op_ge (pv 1) (pe_op op_pow pe_int pe_int) (nomark _))) (fun _ _ _ _ _ => pv 1))
      (pps_cons pe_str pe_int pps_nil))) (by rfl) (by rfl) (fun z => by cases z) (by decide))), ?_⟩
    intro p hp
    refine ⟨_, rfl, a, _, rfl, .inl (same_new hp |>.seq hS), fun c hc => ?_⟩
    have s1 : Same H (upd (upd H p (.dK [])) c (.lst (ns.map V.int))) := same_trans (same_new hp) (same_new hc)
    have pc : p ≠ c := ne_of_none upd_same hc
    generalize hH1 : upd (upd H p (.dK [])) c (.lst (ns.map V.int)) = H1 at s1
    have h1p : H1 p = some (.dK []) := by rw [← hH1, upd_ne pc, upd_same]
    have h1c : H1 c = some (.lst (ns.map V.int)) := by rw [← hH1, upd_same]
    refine ⟨_, rfl, a, rfl, ⟨_, s1.seq hS⟩, fun l nl => ?_⟩
    refine lc_list (K := K) (a := a) (xs := ns.map V.int) (fun i H' => ∃ ls : List Int, ls.length ≤ i ∧ Same H1 H' ∧ H' l = some (.lst (ls.map V.int)))
      ⟨[], Nat.le_refl _, same_new nl, upd_same⟩ (fun i H' _ ⟨_, _, s2, _⟩ => s2.seq (s1.seq hS)) ?_ ?_
    · rintro i y H' hi ⟨ls, ll, s2, e2⟩
      obtain ⟨z, rfl⟩ : ∃ z, y = V.int z := by
        rw [List.getElem?_map] at hi
        cases e : ns[i]? with
        | none => rw [e] at hi; cases hi
        | some z => rw [e] at hi; exact ⟨z, (Option.some.inj hi).symm⟩
      have hil : i < (ns.map V.int).length := (List.getElem?_eq_some_iff.mp hi).1
      rw [List.length_map] at hil
      refine ⟨rfl, _, rfl, _, _, rfl, rfl, ⟨by decide, by decide, by decide⟩, _, _, rfl, rfl, _, rfl, ?_⟩
      refine ite2 (fun _ => ?_) (fun _ => ?_)
      · refine ⟨_, rfl, _, e2, small1000 (by rw [List.length_map]; omega), ls ++ [z], ?_, ?_, ?_⟩
        · rw [List.length_append]
          show ls.length + 1 ≤ i + 1
          omega
        · intro b o e
          rw [upd_ne (ne_of_none e nl)]
          exact s2 b o e
        · rw [upd_same, List.map_append]
          rfl
      · exact ⟨ls, by omega, s2, e2⟩
    · rintro H' ⟨ls, ll, s2, e2⟩
      rw [List.length_map] at ll
      refine ⟨s2 _ _ h1p, mkv c l 0, rfl, by show 3 ≤ 15; decide, ?_⟩
      have hm : mergeK [] (mkv c l 0) = mkv c l 0 := by
        simp [mkv, mergeK, putK, kne1, kne2, kne3]
      rw [hm]
      refine k _ p c l ns ls ?_ ⟨upd_same, ?_, ?_, ?_, by decide, by decide, hlen, by omega⟩
      · intro b o e
        rw [upd_ne (ne_of_none e hp)]
        exact s2 b o (s1 b o e)
      · rw [upd_ne pc.symm]
        exact s2 _ _ h1c
      · rw [upd_ne (ne_of_none h1p nl).symm]
        exact e2
      · exact ne_of_none h1c nl
end
theorem dp_ints {K : PySem.W.Frag} {H : Hp} : ∀ ns : List Int, DpAll K H (ns.map V.int) (ns.map PyData.int)
  | [] => .nil
  | n :: ns => .cons (.int n) (dp_ints ns)
theorem dp_list {K : PySem.W.Frag} {H : Hp} {a : Addr} {ns : List Int} (h : SqL K H a (ns.map V.int)) : Dp K H (.ref a) (.list (ns.map PyData.int)) := .lst h (dp_ints ns)
theorem dp_nil {K : PySem.W.Frag} {H : Hp} {a : Addr} (h : H a = some (.lst [])) : Dp K H (.ref a) (.list []) := .lst (SqL.of h) .nil
theorem shaped_ints (ns : List Int) : SeqAt.shaped (.list (ns.map PyData.int)) = true := by
  have h : ∀ l : List Int, PyData.canLayAll0 (l.map PyData.int) = true ∧ PyData.depthAll (l.map PyData.int) ≤ 1 := by
    intro l
    induction l with
    | nil => exact ⟨rfl, Nat.zero_le _⟩
    | cons a l ih =>
      refine ⟨by simp [PyData.canLayAll0, PyData.canLay0, ih.1], ?_⟩
      simp only [List.map_cons, PyData.depthAll, PyData.depth]
      have := ih.2
      omega
  have z := h ns
  refine Bool.and_eq_true_iff.mpr ⟨by simp only [PyData.canLay0]; exact z.1, decide_eq_true ?_⟩
  simp only [PyData.depth]
  exact Nat.le_trans (Nat.succ_le_succ z.2) (by decide)
theorem eqv_ints (ns : List Int) : (!PyData.eqv (.list (ns.map PyData.int)) (.list [])) = !ns.isEmpty := by
  cases ns <;> simp [PyData.eqv, PyData.eqvAll]
/-- all but two objects stand -/
structure But (H H' : Hp) (m l : Addr) : Prop where
  kp : ∀ b o, H b = some o → b ≠ m → b ≠ l → H' b = some o
  out : ∀ b, H' b = none → H b = none
theorem same_out {H H' : Hp} (s : Same H H') {b : Addr} (h : H' b = none) : H b = none := by
  cases e : H b with
  | none => rfl
  | some o => rw [s _ _ e] at h; cases h
theorem But.then {H H' H'' : Hp} {m l : Addr} (x : But H H' m l) (s : Same H' H'') : But H H'' m l :=
  ⟨fun b o e h1 h2 => s _ _ (x.kp b o e h1 h2), fun b h => x.out b (same_out s h)⟩
theorem But.at {H H' : Hp} {m l a : Addr} {o : HO} (x : But H H' m l) (h : a = m ∨ a = l ∨ H a = none) (n : H' a ≠ none) : But H (upd H' a o) m l := by
  refine ⟨fun b u e h1 h2 => ?_, fun b hb => ?_⟩
  · have na : b ≠ a := fun z => by
      rcases h with y | y | y
      · exact h1 (z.trans y)
      · exact h2 (z.trans y)
      · rw [z, y] at e; cases e
    rw [upd_ne na]
    exact x.kp b u e h1 h2
  · by_cases e : b = a
    · rw [e, upd_same] at hb
      cases hb
    · rw [upd_ne e] at hb
      exact x.out b hb
theorem But.refl {H : Hp} {m l : Addr} : But H H m l := ⟨fun _ _ e _ _ => e, fun _ e => e⟩
theorem val_c {c l : Addr} {n : Int} : valV (mkv c l n) (Sum.inr "cells") = some (.ref c) := by simp [mkv, valV]
theorem val_l {c l : Addr} {n : Int} : valV (mkv c l n) (Sum.inr "left") = some (.ref l) := by simp [mkv, valV, kne1]
theorem val_a {c l : Addr} {n : Int} : valV (mkv c l n) (Sum.inr "at") = some (.int n) := by simp [mkv, valV, kne2, kne3]
theorem put_l {c l l' : Addr} {n : Int} : putK (mkv c l n) (Sum.inr "left") (.ref l') = mkv c l' n := by simp [mkv, putK, kne1, kne6]
theorem put_a {c l : Addr} {n n' : Int} : putK (mkv c l n) (Sum.inr "at") (.int n') = mkv c l n' := by simp [mkv, putK, kne2, kne3]
theorem MAt.getL {H : Hp} {m c l : Addr} {cs ls : List Int} {n : Int} (M : MAt H m c l cs ls n) : DGet H m (.str "left") (some (.ref l)) := by
  have z := DGet.k (k := Sum.inr "left") M.hm
  rw [val_l] at z
  exact z
theorem MAt.getC {H : Hp} {m c l : Addr} {cs ls : List Int} {n : Int} (M : MAt H m c l cs ls n) : DGet H m (.str "cells") (some (.ref c)) := by
  have z := DGet.k (k := Sum.inr "cells") M.hm
  rw [val_c] at z
  exact z
theorem MAt.getA {H : Hp} {m c l : Addr} {cs ls : List Int} {n : Int} (M : MAt H m c l cs ls n) : DGet H m (.str "at") (some (.int n)) := by
  have z := DGet.k (k := Sum.inr "at") M.hm
  rw [val_a] at z
  exact z
theorem MAt.putL {H : Hp} {m c l l' : Addr} {cs ls ls' : List Int} {n : Int} (M : MAt H m c l cs ls n) (e : H l' = some (.lst (ls'.map V.int))) (ne : c ≠ l') (nb : ls'.length ≤ 63) :
    DPut H m (.str "left") (.ref l') (upd H m (.dK (mkv c l' n))) ∧ MAt (upd H m (.dK (mkv c l' n))) m c l' cs ls' n := by
  constructor
  · have z := DPut.k (k := Sum.inr "left") (v := .ref l') M.hm (by show 3 < sizeLine; decide)
    rw [put_l] at z
    exact z
  · have n1 : c ≠ m := M.mc.symm
    have n2 : l' ≠ m := ne_of e M.hm (by intro z; cases z)
    exact ⟨upd_same, by rw [upd_ne n1]; exact M.hc, by rw [upd_ne n2]; exact e, ne, M.n0, M.nb, M.cb, nb⟩
theorem MAt.putA {H : Hp} {m c l : Addr} {cs ls : List Int} {n n' : Int} (M : MAt H m c l cs ls n) (h0 : 0 ≤ n') (hb : n' ≤ 100000) :
    DPut H m (.str "at") (.int n') (upd H m (.dK (mkv c l n'))) ∧ MAt (upd H m (.dK (mkv c l n'))) m c l cs ls n' := by
  constructor
  · have z := DPut.k (k := Sum.inr "at") (v := .int n') M.hm (by show 3 < sizeLine; decide)
    rw [put_a] at z
    exact z
  · exact ⟨upd_same, by rw [upd_ne M.mc.symm]; exact M.hc, by rw [upd_ne M.ml.symm]; exact M.hl, M.ne, h0, hb, M.cb, M.lb⟩
def leftLen (H : Hp) (m : Addr) : Nat :=
  match H m with
  | some (.dK (_ :: (_, .ref l) :: _)) => (match H l with | some (.lst xs) => xs.length | _ => 0)
  | _ => 0
theorem MAt.len {H : Hp} {m c l : Addr} {cs ls : List Int} {n : Int} (M : MAt H m c l cs ls n) : leftLen H m = ls.length := by
  simp [leftLen, M.hm, mkv, M.hl]
theorem cut_one (x : V) (xs : List V) : cutV (x :: xs) (some 1) none = xs := by
  have e : HT.sIx (x :: xs).length 0 (some ((1 : Nat) : Int)) = 1 := by
    rw [HT.sIx_nat, List.length_cons]
    omega
  have e' : HT.sIx (x :: xs).length 0 (some 1) = 1 := e
  unfold cutV
  rw [e', HT.sIx_none, List.drop_succ_cons, List.drop_zero, List.length_cons]
  exact List.take_of_length_le (by omega)
theorem at_some {ns : List Int} {j : Int} (h0 : 0 ≤ j) (h1 : j < (ns.length : Int)) : ∃ y, atI (ns.map V.int) j = some (V.int y) := by
  have hj : j.toNat < ns.length := by omega
  refine ⟨ns[j.toNat], ?_⟩
  have z := atI_nat (xs := ns.map V.int) (j := j.toNat) (v := V.int ns[j.toNat]) (by rw [List.getElem?_map, List.getElem?_eq_getElem hj]; rfl)
  rw [Int.toNat_of_nonneg h0] at z
  exact z
theorem while_two {c : TT} {tb : TS} {D : Ends} {σ : L2.St} {H : Hp} (Pv : L2.St → Hp → Prop) (μ : L2.St → Hp → Nat) (h0 : Pv σ H) (exit : ∀ σ H, Pv σ H → D.nx σ H)
    (mono : ∀ σ H Q Q', (∀ b H1, Q b H1 → Q' b H1) → c σ H Q → c σ H Q')
    (hs : ∀ σ H, Pv σ H → c σ H fun b H1 => if b = true then tb { D with nx := fun σ' H' => Pv σ' H' ∧ μ σ' H' < μ σ H, ct := fun σ' H' => Pv σ' H' ∧ μ σ' H' < μ σ H, bk := D.nx } σ H1 else Pv σ H1) : tWhile c tb D σ H :=
  while_by Pv μ h0 (fun σ H p => mono _ _ _ _ (fun b H1 q => by
    cases b with
    | true => exact q
    | false => exact exit _ _ q) (hs σ H p)) mono
/-- _law_next: a number below many; the state again -/
def spNext : Sp := fun vs H Q _ => ∃ (m c l : Addr) (many : Int) (cs ls : List Int) (n : Int), vs = [.ref m, .int many] ∧ MAt H m c l cs ls n ∧ 0 < many ∧ many < 1000000 ∧ n + 1 ≤ 100000 ∧
  ∀ r H' l' ls' n', 0 ≤ r → r < many → MAt H' m c l' cs ls' n' → n' ≤ n + 1 → But H H' m l → (l' = l ∨ H l' = none) → Q (.int r) H'
section
variable {P : Program} {w : World} {K : PySem.W.Frag} {mg : Str → Option Value} {base : Heap}
theorem scN : FnScope ["m", "many", "rest", "at", "bits", "cell", "blend"] ["m", "many"] (defScope sNext) := ⟨rfl, rfl, rfl, by decide +kernel, rfl, by decide +kernel, by decide +kernel⟩
theorem ok_next {f : Addr} {fd : FuncData} (F : Fun K "_law_next" "_law_next" sNext f fd) (T : TxtB mg) : FnOk P w K mg base CX0 1 f fd ["m", "many"] spNext := by
  refine F.ok scN (fun vs H Q E h => ?_) (fun cdv A outer s H vs Q E hr h => ?_)
  · obtain ⟨m, c, l, many, cs, ls, n, rfl, _⟩ := h
    rfl
  · obtain ⟨m, c, l, many, cs, ls, n, rfl, M, q0, q1, qn, k⟩ := h
    have hu := hu_of hr
    have hu2 : (A.deeper (PyProof.Rows.envOfC "_law_next" (defScope sNext) s.heap.objs.size f cdv)).units + 64 < cLine := by have := hr.un; omega
    have bi : bootBuiltins ("int" : Str) = some (.type "int") := by decide +kernel
    refine ⟨_, pss_cons (ps_while PassesOwn.never (PW.pt (pw_and (pt_cmpR (op_neD hu2) (pe_dget hu (pv 0) pe_str (fun _ _ => rfl)) (pe_lst pa_nil) (nomark _))
        (pw_and1 (pt_cmpR op_eq (pe_ix ix_list (pe_dget hu (pv 0) pe_str (fun _ _ => rfl)) pe_int (fun _ _ => rfl)) pe_int (nomark _)))))
        (pss_one (ps_dput hu (pv 0) pe_str (pe_slice sl_list (pe_dget hu (pv 0) pe_str (fun _ _ => rfl)) (po_some pe_int) po_none) rfl)))
      (pss_cons (ps_if (pt_cmpR (op_neD hu2) (pe_dget hu (pv 0) pe_str (fun _ _ => rfl)) (pe_lst pa_nil) (nomark _))
        (pss_cons (ps_set (i := 2) scN.nd rfl (Or.inl rfl) (pe_ix ix_list (pe_dget hu (pv 0) pe_str (fun _ _ => rfl)) pe_int (fun _ _ => rfl)))
          (pss_cons (ps_asg (pe_op op_fdivN (pv 2) (pv 1)) (pg_sub (pe_dget hu (pv 0) pe_str (fun _ _ => rfl)) pe_int set_list))
          (pss_one (ps_ret (pe_op op_modN (pe_callTy call_int1 (by rfl) T.int bi (pa_cons (pv 2) pa_nil)) (pv 1)))))) pss_nil)
      (pss_cons (ps_par rfl scN.nd (i := 3) (j := 4) rfl rfl (by decide) rfl rfl (pa_cons (pe_op op_add (pe_dget hu (pv 0) pe_str (fun _ _ => rfl)) pe_int) (pa_cons (pe_dget hu (pv 0) pe_str (fun _ _ => rfl)) pa_nil)) rfl)
      (pss_cons (ps_dput hu (pv 0) pe_str (pv 3) rfl)
      (pss_cons (ps_set (i := 5) scN.nd rfl (Or.inl rfl) (pe_ifExp (pt_cmpR (op_neD hu2) (pv 4) (pe_lst pa_nil) (nomark _))
        (pe_callTy call_int1 (by rfl) T.int bi (pa_cons (pe_ix ix_list (pv 4) (pe_op op_modN (pe_callTy call_int1 (by rfl) T.int bi (pa_cons (pe_op op_add (pe_op op_mul (pv 3) (pv 3)) (pe_op op_fdivN (pv 3) pe_int)) pa_nil))
          (pe_callB call_len_seq (by rfl) T.len PySem.boot_len (pa_cons (pv 4) pa_nil))) (fun _ _ => rfl)) pa_nil)) pe_int))
      (pss_cons (ps_set (i := 6) scN.nd rfl (Or.inl rfl) (pe_op op_modN (pe_callTy call_int1 (by rfl) T.int bi (pa_cons (pe_op op_add (pe_op op_add (pe_op op_mul (pv 5) pe_int) (pe_op op_mul (pv 3) pe_int)) (pe_op op_mul (pe_op op_mul pe_int (pv 3)) (pv 3))) pa_nil)) pe_int))
      (pss_one (ps_ret (pe_op op_modN (pe_callTy call_int1 (by rfl) T.int bi (pa_cons (pe_op op_fdivN (pe_op op_modN (pe_callTy call_int1 (by rfl) T.int bi (pa_cons (pe_op op_add (pe_op op_mul (pv 6) pe_int) (pe_op op_mul pe_int (pv 3))) pa_nil)) pe_int) pe_int) pa_nil)) (pv 1))))))))), ?_⟩
    refine while_two (fun σ' H' => ∃ l' ls', σ' = [some (V.ref m), some (V.int many), none, none, none, none, none] ∧ MAt H' m c l' cs ls' n ∧ But H H' m l ∧ (l' = l ∨ H l' = none)) (fun _ H' => leftLen H' m)
      ⟨l, ls, rfl, M, .refl, .inl rfl⟩ ?_ ?_ ?_
    · rintro σ' H' ⟨l', ls', rfl, M', bt, hl'⟩
      -- behind the loop
      refine ⟨_, rfl, m, _, rfl, M'.getL, by decide, fun p hp => ⟨_, _, dp_list (SqL.of (same_new hp _ _ M'.hl)), dp_nil upd_same, shaped_ints _, shaped_ints [], _, rfl, ?_⟩⟩
      have M1 := M'.same (same_new (o := .lst []) hp)
      have b1 := bt.then (same_new (o := .lst []) hp)
      generalize hG : upd H' p (HO.lst []) = G at M1 b1
      rw [eqv_ints]
      cases ls' with
      | cons z ls' =>
        refine iteT ⟨_, rfl, m, _, rfl, M1.getL, l', _, 0, .int z, rfl, rfl, SqL.of M1.hl, atI_nat (j := 0) rfl, ?_⟩
        refine ⟨_, rfl, _, rfl, _, _, rfl, rfl, ⟨by omega, by omega⟩, _, rfl, m, _, rfl, M1.getL, l', _, 0, 0, rfl, rfl, M1.hl, ?_, ?_⟩
        · unfold ixN
          rw [if_pos (by omega), List.length_map, List.length_cons]
          rw [if_pos (by omega)]
          rfl
        · refine ⟨_, rfl, .inl ⟨_, rfl, _, rfl, _, _, rfl, rfl, by omega, ?_⟩⟩
          have nl : G l' ≠ none := by rw [M1.hl]; simp
          have e1 : c ≠ l' := M1.ne
          have e2 : m ≠ l' := M1.ml
          refine k _ _ l' (z.fdiv many :: ls') n (Int.fmod_nonneg_of_pos _ q0) (Int.fmod_lt_of_pos _ q0) ⟨by rw [upd_ne e2]; exact M1.hm, by rw [upd_ne e1]; exact M1.hc, upd_same, e1, M1.n0, M1.nb, M1.cb, M1.lb⟩ (by omega) (b1.at (.inr hl') nl) hl'
      | nil =>
        refine iteF ⟨_, rfl, m, _, rfl, M1.getA, _, _, rfl, rfl, _, rfl, m, _, rfl, M1.getC, _, _, rfl, ?_⟩
        obtain ⟨dp, M2⟩ := M1.putA (n' := n + 1) (by have := M.n0; omega) qn
        have b2 := b1.at (o := .dK (mkv c l' (n + 1))) (.inl rfl) (by rw [M1.hm]; simp)
        refine ⟨_, rfl, _, rfl, m, _, rfl, dp, ?_⟩
        generalize hG2 : upd G m (HO.dK (mkv c l' (n + 1))) = G2 at M2 b2
        -- cell
        refine ⟨_, rfl, by decide, fun t ht => ⟨_, _, dp_list (SqL.of (same_new ht _ _ M2.hc)), dp_nil upd_same, shaped_ints _, shaped_ints [], _, rfl, ?_⟩⟩
        have M3 := M2.same (same_new (o := .lst []) ht)
        have b3 := b2.then (same_new (o := .lst []) ht)
        generalize hG3 : upd G2 t (HO.lst []) = G3 at M3 b3
        rw [eqv_ints]
        have big1 : -(2 ^ 64) < n + 1 := by have := M.n0; omega
        have big2 : n + 1 < 2 ^ 64 := by omega
        cases cs with
        | nil =>
          refine iteF ?_
          refine ⟨_, rfl, _, _, rfl, rfl, .inr ⟨by decide, by decide⟩, _, rfl, _, _, rfl, rfl, .inr ⟨by decide, by decide⟩, _, _, rfl, rfl, _, rfl, _, _, rfl, rfl, .inl ⟨by decide, by decide⟩, _, rfl, _, _, rfl, rfl, .inr ⟨big1, big2⟩, _, _, rfl, rfl, .inl ⟨_, rfl, _, _, rfl, rfl, (by show (2147483399 : Int) ≠ 0; decide), ?_⟩⟩
          refine ⟨_, rfl, _, _, rfl, rfl, .inr ⟨by decide, by decide⟩, _, rfl, _, _, rfl, rfl, .inl ⟨by decide, by decide⟩, _, _, rfl, rfl, .inl ⟨_, rfl, _, _, rfl, rfl, (by show (2147483647 : Int) ≠ 0; decide), _, _, rfl, rfl, ⟨by decide, by decide⟩, .inl ⟨_, rfl, _, rfl, _, _, rfl, rfl, by omega, ?_⟩⟩⟩
          exact k _ _ l' [] (n + 1) (Int.fmod_nonneg_of_pos _ q0) (Int.fmod_lt_of_pos _ q0) M3 (Int.le_refl _) b3 hl'
        | cons x cs =>
          have hl0 : (0 : Int) < ((x :: cs).length : Int) := by rw [List.length_cons]; omega
          obtain ⟨y, hy⟩ := at_some (ns := x :: cs) (j := ((n + 1) * (n + 1) + (n + 1).fdiv 2).fmod ((x :: cs).length : Int)) (Int.fmod_nonneg_of_pos _ hl0) (Int.fmod_lt_of_pos _ hl0)
          refine iteT ?_
          refine ⟨_, rfl, _, rfl, _, rfl, _, _, rfl, rfl, .inl ⟨big1, big2⟩, _, rfl, _, _, rfl, rfl, ⟨by decide, by decide⟩, _, _, rfl, rfl, .inl ⟨_, rfl, ?_⟩⟩
          refine ⟨_, rfl, c, _, rfl, .inl (SqL.of M3.hc), _, _, rfl, rfl, by rw [List.length_map]; omega, c, _, _, .int y, rfl, rfl, SqL.of M3.hc, by rw [List.length_map]; exact hy, .inl ⟨_, rfl, ?_⟩⟩
          refine ⟨_, rfl, _, _, rfl, rfl, .inr ⟨by decide, by decide⟩, _, rfl, _, _, rfl, rfl, .inr ⟨by decide, by decide⟩, _, _, rfl, rfl, _, rfl, _, _, rfl, rfl, .inl ⟨by decide, by decide⟩, _, rfl, _, _, rfl, rfl, .inr ⟨big1, big2⟩, _, _, rfl, rfl, .inl ⟨_, rfl, _, _, rfl, rfl, (by show (2147483399 : Int) ≠ 0; decide), ?_⟩⟩
          refine ⟨_, rfl, _, _, rfl, rfl, .inr ⟨by decide, by decide⟩, _, rfl, _, _, rfl, rfl, .inl ⟨by decide, by decide⟩, _, _, rfl, rfl, .inl ⟨_, rfl, _, _, rfl, rfl, (by show (2147483647 : Int) ≠ 0; decide), _, _, rfl, rfl, ⟨by decide, by decide⟩, .inl ⟨_, rfl, _, rfl, _, _, rfl, rfl, by omega, ?_⟩⟩⟩
          exact k _ _ l' [] (n + 1) (Int.fmod_nonneg_of_pos _ q0) (Int.fmod_lt_of_pos _ q0) M3 (Int.le_refl _) b3 hl'
    · intro σ' H' Q1 Q2 hq h
      obtain ⟨v, e1, a, u, e2, e3, e4, h⟩ := h
      refine ⟨v, e1, a, u, e2, e3, e4, fun p hp => ?_⟩
      obtain ⟨d, e, d1, d2, d3, d4, b, e5, h⟩ := h p hp
      refine ⟨d, e, d1, d2, d3, d4, b, e5, ?_⟩
      cases b with
      | false => exact hq _ _ h
      | true =>
        obtain ⟨v, e1, a, u, e2, e3, p2, xs, i, z, f1, f2, f3, f4, f5, k2, e6, h⟩ := h
        exact ⟨v, e1, a, u, e2, e3, p2, xs, i, z, f1, f2, f3, f4, f5, k2, e6, hq _ _ h⟩
    · rintro σ' H' ⟨l', ls', rfl, M', bt, hl'⟩
      refine ⟨_, rfl, m, _, rfl, M'.getL, by decide, fun p hp => ⟨_, _, dp_list (SqL.of (same_new hp _ _ M'.hl)), dp_nil upd_same, shaped_ints _, shaped_ints [], _, rfl, ?_⟩⟩
      have M1 := M'.same (same_new (o := .lst []) hp)
      rw [eqv_ints]
      cases ls' with
      | nil =>
        refine iteF (iteF ⟨l', [], rfl, M1, bt.then (same_new hp), hl'⟩)
      | cons z ls' =>
        refine iteT ⟨_, rfl, m, _, rfl, M1.getL, l', _, 0, .int z, rfl, rfl, SqL.of M1.hl, atI_nat (j := 0) rfl, rfl, _, rfl, ?_⟩
        refine ite2 (fun hz => ?_) (fun hz => ?_)
        · refine ⟨_, rfl, m, _, rfl, M1.getL, 1, rfl, l', _, rfl, SqL.of M1.hl, fun t ht => ?_⟩
          rw [List.map_cons, cut_one]
          have M2 := M1.same (same_new (o := .lst (ls'.map V.int)) ht)
          have ct : c ≠ t := ne_of_none M1.hc ht
          have nb2 : ls'.length ≤ 63 := Nat.le_trans (Nat.le_succ _) M1.lb
          obtain ⟨dp, M3⟩ := M2.putL (l' := t) (ls' := ls') upd_same ct nb2
          have b1 := bt.then (same_new (o := .lst []) hp)
          refine ⟨_, rfl, m, _, rfl, dp, ⟨t, ls', rfl, M3, (b1.then (same_new ht)).at (.inl rfl) (by rw [M2.hm]; simp), .inr (b1.out t ht)⟩, ?_⟩
          show leftLen _ m < leftLen H' m
          rw [M3.len, M'.len]
          exact Nat.lt_succ_self _
        · exact ⟨l', z :: ls', rfl, M1, bt.then (same_new hp), hl'⟩
end
end K70

set_option Elab.async false
set_option linter.all false
set_option maxRecDepth 100000
set_option maxHeartbeats 4000000
namespace K70
open PySem L2 L2H XH
/-- a value whose repr is x, now and wherever what is tracked stands -/
def QGood (K : PySem.W.Frag) (H : Hp) (v : V) (x : Str) : Prop := ∀ H', Same H H' → ∀ Q : VK, Q (.str x) H' → rReprQ K [v] H' Q
theorem QGood.same {K : PySem.W.Frag} {H H' : Hp} {v : V} {x : Str} (g : QGood K H v x) (s : Same H H') : QGood K H' v x := fun H2 s2 => g H2 (same_trans s s2)
theorem good_of {K : PySem.W.Frag} {H : Hp} {v : V} {d : PyData} (h : ∀ H', Same H H' → Dp K H' v d) (sh : d.showable = true) (dp : d.depth ≤ 60) (sz : d.shown.length ≤ sizeLine) : QGood K H v d.shown :=
  fun H' s Q q => .inl ⟨v, d, rfl, h H' s, sh, dp, sz, q⟩
def spVal (K : PySem.W.Frag) : Sp := fun vs H Q _ => ∃ (m c l : Addr) (cs ls : List Int) (n : Int), vs = [.ref m] ∧ MAt H m c l cs ls n ∧ n + 1 ≤ 100000 ∧
  ∀ v x H' l' ls' n', MAt H' m c l' cs ls' n' → n' ≤ n + 1 → QGood K H' v x → Q v H'
section
variable {P : Program} {w : World} {K : PySem.W.Frag} {mg : Str → Option Value} {base : Heap}
theorem scV : FnScope ["m"] ["m"] (defScope sVal) := ⟨rfl, rfl, rfl, by decide +kernel, rfl, by decide +kernel, by decide +kernel⟩
theorem ok_val {f fN : Addr} {fd fdN : FuncData} (F : Fun K "_law_value" "_law_value" sVal f fd) (FN : Fun K "_law_next" "_law_next" sNext fN fdN) (bN : Binds K fdN ["m", "many"] []) (T : TxtB mg) (gN : mg "_law_next" = some (.ref fN)) :
    FnOk P w K mg base CX0 2 f fd ["m"] (spVal K) := by
  have GN : FnOk P w K mg base CX0 1 fN fdN ["m", "many"] spNext := ok_next FN T
  refine F.ok scV (fun vs H Q E h => ?_) (fun cdv A outer s H vs Q E hr h => ?_)
  · obtain ⟨m, c, l, cs, ls, n, rfl, _⟩ := h
    rfl
  · obtain ⟨m, c, l, cs, ls, n, rfl, M, qn, k⟩ := h
    refine ⟨_, pss_one (ps_ret (pe_ix ix_list (pe_lst (pa_cons pe_non (pa_cons pe_int (pa_cons pe_int (pa_cons (pe_un un_neg pe_int) (pa_cons pe_str (pa_cons pe_str (pa_cons (pe_tup pa_nil)
      (pa_cons (pe_tup (pa_cons pe_int (pa_cons pe_int pa_nil))) (pa_cons (pe_lst pa_nil) (pa_cons pe_dnewK (pa_cons pe_bl (pa_cons (pe_op op_pow pe_int pe_int) pa_nil)))))))))))))
      (pe_call GN hr (by rfl) gN FN.kp bN .nil pass0 (pa_cons (pv 0) (pa_cons pe_int pa_nil))) (fun _ _ => rfl))), ?_⟩
    refine ⟨_, rfl, by decide, fun t0 n0 => ⟨by decide, fun t1 n1 => ⟨by decide, fun t2 n2 t3 n3 => ?_⟩⟩⟩
    refine ⟨_, _, rfl, rfl, ⟨by decide, by decide, by decide⟩, by show 12 ≤ sizeLine; decide, fun p np => ?_⟩
    have s1 : Same H (upd H t0 (.tup [])) := same_new n0
    generalize e1 : upd H t0 (HO.tup []) = H1 at n1 n2 n3 np s1 ⊢
    have a0 : H1 t0 = some (.tup []) := by rw [← e1, upd_same]
    have s2 : Same H1 (upd H1 t1 (.tup [.int 1, .int 2])) := same_new n1
    generalize e2 : upd H1 t1 (HO.tup [V.int 1, V.int 2]) = H2 at n2 n3 np s2 ⊢
    have a1 : H2 t1 = some (.tup [.int 1, .int 2]) := by rw [← e2, upd_same]
    have s3 : Same H2 (upd H2 t2 (.lst [])) := same_new n2
    generalize e3 : upd H2 t2 (HO.lst []) = H3 at n3 np s3 ⊢
    have a2 : H3 t2 = some (.lst []) := by rw [← e3, upd_same]
    have s4 : Same H3 (upd H3 t3 (.dK [])) := same_new n3
    generalize e4 : upd H3 t3 (HO.dK []) = H4 at np s4 ⊢
    have a3 : H4 t3 = some (.dK []) := by rw [← e4, upd_same]
    generalize hxs : [V.non, V.int 0, V.int 5, (fun i => V.int (-i)) 1, V.str "a", V.str "", V.ref t0, V.ref t1, V.ref t2, V.ref t3, V.bl true, (fun i j : Int => V.int (i ^ j.toNat)) 10 30] = xs
    have s5 : Same H4 (upd H4 p (.lst xs)) := same_new np
    generalize e5 : upd H4 p (HO.lst xs) = H5 at s5 ⊢
    have a4 : H5 p = some (.lst xs) := by rw [← e5, upd_same]
    have s45 := s5
    have s35 := same_trans s4 s45
    have s25 := same_trans s3 s35
    have s15 := same_trans s2 s25
    have s05 := same_trans s1 s15
    have M5 := M.same s05
    have nl0 : t0 ≠ l := fun z => by rw [z, M.hl] at n0; cases n0
    have nm3 : t3 ≠ m := fun z => by rw [z, same_trans (same_trans s1 s2) s3 _ _ M.hm] at n3; cases n3
    have nl2 : t2 ≠ l := fun z => by rw [z, same_trans s1 s2 _ _ M.hl] at n2; cases n2
    have nlp : p ≠ l := fun z => by rw [z, same_trans (same_trans (same_trans s1 s2) s3) s4 _ _ M.hl] at np; cases np
    refine ⟨_, rfl, m, c, l, 12, cs, ls, n, rfl, M5, by decide, by decide, qn, fun r H' l' ls' n' r0 r1 M' hn bt hl' => ?_⟩
    have kp : ∀ {b : Addr} {o : HO}, H5 b = some o → o ≠ .dK (mkv c l n) → b ≠ l → H' b = some o := fun {b o} e hm hl => bt.kp b o e (fun z => hm (by rw [z, M5.hm] at e; exact (Option.some.inj e).symm)) hl
    have b0 : H' t0 = some (.tup []) := kp (s15 _ _ a0) (by intro z; cases z) nl0
    have b1 : H' t1 = some (.tup [.int 1, .int 2]) := kp (s25 _ _ a1) (by intro z; cases z) (fun z => by
      have y := s25 _ _ a1
      rw [z, M5.hl] at y
      cases y)
    have b2 : H' t2 = some (.lst []) := kp (s35 _ _ a2) (by intro z; cases z) nl2
    have b3 : H' t3 = some (.dK []) := kp (s45 _ _ a3) (by intro z; simp [mkv] at z) (fun z => by
      have y := s45 _ _ a3
      rw [z, M5.hl] at y
      cases y)
    have b4 : H' p = some (.lst xs) := kp a4 (by intro z; cases z) nlp
    have go : ∀ (j : Nat) (v : V) (x : Str), (j : Int) = r → xs[j]? = some v → QGood K H' v x → rIxL K (.ref p) (.int r) H' Q := fun j v x ej hv g =>
      ⟨p, xs, r, v, rfl, rfl, SqL.of b4, ej ▸ atI_nat hv, k v x H' l' ls' n' M' hn g⟩
    show rIxL K (.ref p) (.int r) H' Q
    have cases12 : r = 0 ∨ r = 1 ∨ r = 2 ∨ r = 3 ∨ r = 4 ∨ r = 5 ∨ r = 6 ∨ r = 7 ∨ r = 8 ∨ r = 9 ∨ r = 10 ∨ r = 11 := by omega
    rcases cases12 with e | e | e | e | e | e | e | e | e | e | e | e
    · exact go 0 _ _ (by rw [e]; rfl) (by rw [← hxs]; rfl) (good_of (d := .none) (fun _ _ => .non) rfl (by decide) (by decide +kernel))
    · exact go 1 _ _ (by rw [e]; rfl) (by rw [← hxs]; rfl) (good_of (d := .int 0) (fun _ _ => .int 0) (by decide +kernel) (by decide) (by decide +kernel))
    · exact go 2 _ _ (by rw [e]; rfl) (by rw [← hxs]; rfl) (good_of (d := .int 5) (fun _ _ => .int 5) (by decide +kernel) (by decide) (by decide +kernel))
    · exact go 3 _ _ (by rw [e]; rfl) (by rw [← hxs]; rfl) (good_of (d := .int (-1)) (fun _ _ => .int (-1)) (by decide +kernel) (by decide) (by decide +kernel))
    · exact go 4 _ _ (by rw [e]; rfl) (by rw [← hxs]; rfl) (good_of (d := .str "a") (fun _ _ => .str "a") rfl (by decide) (by decide +kernel))
    · exact go 5 _ _ (by rw [e]; rfl) (by rw [← hxs]; rfl) (good_of (d := .str "") (fun _ _ => .str "") rfl (by decide) (by decide +kernel))
    · exact go 6 _ _ (by rw [e]; rfl) (by rw [← hxs]; rfl) (good_of (d := .tuple []) (fun _ s => .tup (SqT.of (s _ _ b0)) .nil) rfl (by decide) (by decide +kernel))
    · exact go 7 _ _ (by rw [e]; rfl) (by rw [← hxs]; rfl) (good_of (d := .tuple [.int 1, .int 2]) (fun _ s => .tup (SqT.of (s _ _ b1)) (.cons (.int 1) (.cons (.int 2) .nil))) (by decide +kernel) (by decide) (by decide +kernel))
    · exact go 8 _ _ (by rw [e]; rfl) (by rw [← hxs]; rfl) (good_of (d := .list []) (fun _ s => .lst (SqL.of (s _ _ b2)) .nil) rfl (by decide) (by decide +kernel))
    · exact go 9 _ "{}" (by rw [e]; rfl) (by rw [← hxs]; rfl) fun H2 s Q q => .inr ⟨t3, rfl, s _ _ b3, q⟩
    · exact go 10 _ _ (by rw [e]; rfl) (by rw [← hxs]; rfl) (good_of (d := .bool true) (fun _ _ => .bl true) rfl (by decide) (by decide +kernel))
    · exact go 11 _ _ (by rw [e]; rfl) (by rw [← hxs]; rfl) (good_of (d := .int (10 ^ 30)) (fun _ _ => .int (10 ^ 30)) (by decide +kernel) (by decide) (by decide +kernel))
end
end K70

set_option Elab.async false
set_option linter.all false
set_option maxRecDepth 100000
set_option maxHeartbeats 4000000
namespace K70
open PySem L2 L2H XH
def nmC : Nat → Str
  | 0 => "BadTree" | 1 => "BadRules" | 2 => "BadStore" | 3 => "BadUnfolding" | 4 => "BadNumber" | 5 => "BadPaper" | 6 => "BadText" | 7 => "Needed" | _ => "TooMany"
def flC : Nat → Str
  | 0 => "value" | 1 => "place" | 2 => "place" | 3 => "value" | 4 => "value" | 5 => "place" | 6 => "line" | 7 => "paper" | _ => "most"
/-- the nine classes of the text, at c 0 .. c 8 -/
structure CT (K : PySem.W.Frag) (mg : Str → Option Value) (c : Nat → Addr) : Prop where
  g : ∀ i, i < 9 → mg (nmC i) = some (.ref (c i))
  q : ∀ i, i < 9 → ExQ K (c i)
  kit : ∀ i j, i < 9 → j < 9 → PySem.W.kitOne K (.ref (c i)) (.ref (c j)) = some (decide (i = j))
  nf : ∀ i, i < 9 → PySem.W.findIn K (.ref (c i)) (flC i) = some none
  isi : mg "isinstance" = none
theorem CT.kit3 {K : PySem.W.Frag} {mg : Str → Option Value} {c : Nat → Addr} (T : CT K mg c) {i a b d : Nat} (hi : i < 9) (ha : a < 9) (hb : b < 9) (hd : d < 9) :
    PySem.W.kitAny K (.ref (c i)) [.ref (c a), .ref (c b), .ref (c d)] = some (decide (i = a) || (decide (i = b) || (decide (i = d) || false))) := by
  refine kitAny_cons (T.kit i a hi ha) (fun ea => ?_) (fun ea => by rw [ea, Bool.true_or])
  rw [ea, Bool.false_or]
  refine kitAny_cons (T.kit i b hi hb) (fun eb => ?_) (fun eb => by rw [eb, Bool.true_or])
  rw [eb, Bool.false_or]
  refine kitAny_cons (T.kit i d hi hd) (fun ed => ?_) (fun ed => by rw [ed, Bool.true_or])
  rw [ed, Bool.false_or]
  exact kitAny_nil
def spKin (c : Nat → Addr) : Sp := fun vs H Q _ => ∃ (a : Addr) (i : Nat) (v : V), vs = [.ref a] ∧ i < 9 ∧ ExcAt H a (c i) (flC i) v ∧
  ∀ p H', Same H H' → H' p = some (.lst ((List.range 9).map fun j => V.bl (decide (i = j)))) → Q (.ref p) H'
def spFld (c : Nat → Addr) : Sp := fun vs H Q _ => ∃ (a : Addr) (i : Nat) (v : V), vs = [.ref a] ∧ i < 9 ∧ ExcAt H a (c i) (flC i) v ∧ ∀ H', Same H H' → Q v H'
section
variable {P : Program} {w : World} {K : PySem.W.Frag} {mg : Str → Option Value} {base : Heap} {c : Nat → Addr}
theorem bisi : bootBuiltins ("isinstance" : Str) = some (.builtin "isinstance") := by decide +kernel
theorem scK : FnScope ["one", "found"] ["one"] (defScope sKin) := ⟨rfl, rfl, rfl, by decide +kernel, rfl, by decide +kernel, by decide +kernel⟩
theorem ok_kin {f : Addr} {fd : FuncData} (F : Fun K "_law_kinds" "_law_kinds" sKin f fd) (T : CT K mg c) : FnOk P w K mg base CX0 1 f fd ["one"] (spKin c) := by
  refine F.ok scK (fun vs H Q E h => ?_) (fun cdv A outer s H vs Q E hr h => ?_)
  · obtain ⟨a, i, v, rfl, _⟩ := h
    rfl
  · obtain ⟨a, i, v, rfl, hi, hx, k⟩ := h
    have g := T.g
    refine ⟨_, pss_cons (ps_set (i := 1) scK.nd rfl (Or.inl rfl) (pe_lst
        (pa_cons (pe_callB call_isX (by rfl) T.isi bisi (pa_cons (pv 0) (pa_cons (pe_glob (v := .ref (c 0)) (by rfl) (g 0 (by decide)) rfl) pa_nil)))
        (pa_cons (pe_callB call_isX (by rfl) T.isi bisi (pa_cons (pv 0) (pa_cons (pe_glob (v := .ref (c 1)) (by rfl) (g 1 (by decide)) rfl) pa_nil)))
        (pa_cons (pe_callB call_isX (by rfl) T.isi bisi (pa_cons (pv 0) (pa_cons (pe_glob (v := .ref (c 2)) (by rfl) (g 2 (by decide)) rfl) pa_nil))) pa_nil)))))
      (pss_cons (ps_set (i := 1) scK.nd rfl (Or.inl rfl) (pe_op op_cat (pv 1) (pe_lst
        (pa_cons (pe_callB call_isX (by rfl) T.isi bisi (pa_cons (pv 0) (pa_cons (pe_glob (v := .ref (c 3)) (by rfl) (g 3 (by decide)) rfl) pa_nil)))
        (pa_cons (pe_callB call_isX (by rfl) T.isi bisi (pa_cons (pv 0) (pa_cons (pe_glob (v := .ref (c 4)) (by rfl) (g 4 (by decide)) rfl) pa_nil)))
        (pa_cons (pe_callB call_isX (by rfl) T.isi bisi (pa_cons (pv 0) (pa_cons (pe_glob (v := .ref (c 5)) (by rfl) (g 5 (by decide)) rfl) pa_nil))) pa_nil))))))
      (pss_one (ps_ret (pe_op op_cat (pv 1) (pe_lst
        (pa_cons (pe_callB call_isX (by rfl) T.isi bisi (pa_cons (pv 0) (pa_cons (pe_glob (v := .ref (c 6)) (by rfl) (g 6 (by decide)) rfl) pa_nil)))
        (pa_cons (pe_callB call_isX (by rfl) T.isi bisi (pa_cons (pv 0) (pa_cons (pe_glob (v := .ref (c 7)) (by rfl) (g 7 (by decide)) rfl) pa_nil)))
        (pa_cons (pe_callB call_isX (by rfl) T.isi bisi (pa_cons (pv 0) (pa_cons (pe_glob (v := .ref (c 8)) (by rfl) (g 8 (by decide)) rfl) pa_nil))) pa_nil)))))))), ?_⟩
    refine ⟨_, rfl, a, c i, flC i, v, .ref (c 0), .ref (c 0), _, rfl, .own _, T.q i hi, hx, T.kit i 0 hi (by decide), _, rfl, a, c i, flC i, v, .ref (c 1), .ref (c 1), _, rfl, .own _, T.q i hi, hx, T.kit i 1 hi (by decide), _, rfl, a, c i, flC i, v, .ref (c 2), .ref (c 2), _, rfl, .own _, T.q i hi, hx, T.kit i 2 hi (by decide), by show 3 ≤ sizeLine; decide, fun p0 n0 => ?_⟩
    have s0 : Same H (upd H p0 (.lst [V.bl (decide (i = 0)), V.bl (decide (i = 1)), V.bl (decide (i = 2))])) := same_new n0
    have a0 : (upd H p0 (.lst [V.bl (decide (i = 0)), V.bl (decide (i = 1)), V.bl (decide (i = 2))])) p0 = some (.lst [V.bl (decide (i = 0)), V.bl (decide (i = 1)), V.bl (decide (i = 2))]) := upd_same
    generalize upd H p0 (HO.lst [V.bl (decide (i = 0)), V.bl (decide (i = 1)), V.bl (decide (i = 2))]) = H0 at s0 a0 ⊢
    have x0 := hx.same s0
    refine ⟨_, rfl, _, rfl, a, c i, flC i, v, .ref (c 3), .ref (c 3), _, rfl, .own _, T.q i hi, x0, T.kit i 3 hi (by decide), _, rfl, a, c i, flC i, v, .ref (c 4), .ref (c 4), _, rfl, .own _, T.q i hi, x0, T.kit i 4 hi (by decide), _, rfl, a, c i, flC i, v, .ref (c 5), .ref (c 5), _, rfl, .own _, T.q i hi, x0, T.kit i 5 hi (by decide), by show 3 ≤ sizeLine; decide, fun p1 n1 => ?_⟩
    have s1 : Same H0 (upd H0 p1 (.lst [V.bl (decide (i = 3)), V.bl (decide (i = 4)), V.bl (decide (i = 5))])) := same_new n1
    have a1 : (upd H0 p1 (.lst [V.bl (decide (i = 3)), V.bl (decide (i = 4)), V.bl (decide (i = 5))])) p1 = some (.lst [V.bl (decide (i = 3)), V.bl (decide (i = 4)), V.bl (decide (i = 5))]) := upd_same
    generalize upd H0 p1 (HO.lst [V.bl (decide (i = 3)), V.bl (decide (i = 4)), V.bl (decide (i = 5))]) = H1 at s1 a1 ⊢
    refine ⟨_, _, _, _, rfl, rfl, s1 _ _ a0, a1, by show 6 ≤ sizeLine; decide, fun p2 n2 => ?_⟩
    have s2 : Same H1 (upd H1 p2 (.lst ([V.bl (decide (i = 0)), V.bl (decide (i = 1)), V.bl (decide (i = 2))] ++ [V.bl (decide (i = 3)), V.bl (decide (i = 4)), V.bl (decide (i = 5))]))) := same_new n2
    have a2 : (upd H1 p2 (.lst ([V.bl (decide (i = 0)), V.bl (decide (i = 1)), V.bl (decide (i = 2))] ++ [V.bl (decide (i = 3)), V.bl (decide (i = 4)), V.bl (decide (i = 5))]))) p2 = some (.lst ([V.bl (decide (i = 0)), V.bl (decide (i = 1)), V.bl (decide (i = 2))] ++ [V.bl (decide (i = 3)), V.bl (decide (i = 4)), V.bl (decide (i = 5))])) := upd_same
    generalize upd H1 p2 (HO.lst ([V.bl (decide (i = 0)), V.bl (decide (i = 1)), V.bl (decide (i = 2))] ++ [V.bl (decide (i = 3)), V.bl (decide (i = 4)), V.bl (decide (i = 5))])) = H2 at s2 a2 ⊢
    have x2 := (x0.same s1).same s2
    refine ⟨_, rfl, _, rfl, a, c i, flC i, v, .ref (c 6), .ref (c 6), _, rfl, .own _, T.q i hi, x2, T.kit i 6 hi (by decide), _, rfl, a, c i, flC i, v, .ref (c 7), .ref (c 7), _, rfl, .own _, T.q i hi, x2, T.kit i 7 hi (by decide), _, rfl, a, c i, flC i, v, .ref (c 8), .ref (c 8), _, rfl, .own _, T.q i hi, x2, T.kit i 8 hi (by decide), by show 3 ≤ sizeLine; decide, fun p3 n3 => ?_⟩
    have s3 : Same H2 (upd H2 p3 (.lst [V.bl (decide (i = 6)), V.bl (decide (i = 7)), V.bl (decide (i = 8))])) := same_new n3
    have a3 : (upd H2 p3 (.lst [V.bl (decide (i = 6)), V.bl (decide (i = 7)), V.bl (decide (i = 8))])) p3 = some (.lst [V.bl (decide (i = 6)), V.bl (decide (i = 7)), V.bl (decide (i = 8))]) := upd_same
    generalize upd H2 p3 (HO.lst [V.bl (decide (i = 6)), V.bl (decide (i = 7)), V.bl (decide (i = 8))]) = H3 at s3 a3 ⊢
    refine ⟨_, _, _, _, rfl, rfl, s3 _ _ a2, a3, by show 9 ≤ sizeLine; decide, fun p4 n4 => ?_⟩
    refine k p4 _ (same_trans s0 (same_trans s1 (same_trans s2 (same_trans s3 (same_new n4))))) ?_
    rw [upd_same]
    rfl
theorem scF : FnScope ["one"] ["one"] (defScope sFld) := ⟨rfl, rfl, rfl, by decide +kernel, rfl, by decide +kernel, by decide +kernel⟩
theorem ok_fld {f : Addr} {fd : FuncData} (F : Fun K "_law_field" "_law_field" sFld f fd) (T : CT K mg c) : FnOk P w K mg base CX0 1 f fd ["one"] (spFld c) := by
  refine F.ok scF (fun vs H Q E h => ?_) (fun cdv A outer s H vs Q E hr h => ?_)
  · obtain ⟨a, i, v, rfl, _⟩ := h
    rfl
  · obtain ⟨a, i, v, rfl, hi, hx, k⟩ := h
    have g := T.g
    refine ⟨_, pss_cons (ps_if (pt_val (pe_callB call_isXT (by rfl) T.isi bisi (pa_cons (pv 0) (pa_cons (pe_tup (pa_cons (pe_glob (v := .ref (c 1)) (by rfl) (g 1 (by decide)) rfl)
        (pa_cons (pe_glob (v := .ref (c 2)) (by rfl) (g 2 (by decide)) rfl) (pa_cons (pe_glob (v := .ref (c 5)) (by rfl) (g 5 (by decide)) rfl) pa_nil)))) pa_nil)))) (pss_one (ps_ret (pe_xfl (pv 0)))) pss_nil)
      (pss_cons (ps_if (pt_val (pe_callB call_isXT (by rfl) T.isi bisi (pa_cons (pv 0) (pa_cons (pe_tup (pa_cons (pe_glob (v := .ref (c 0)) (by rfl) (g 0 (by decide)) rfl)
        (pa_cons (pe_glob (v := .ref (c 3)) (by rfl) (g 3 (by decide)) rfl) (pa_cons (pe_glob (v := .ref (c 4)) (by rfl) (g 4 (by decide)) rfl) pa_nil)))) pa_nil)))) (pss_one (ps_ret (pe_xfl (pv 0)))) pss_nil)
      (pss_cons (ps_if (pt_val (pe_callB call_isX (by rfl) T.isi bisi (pa_cons (pv 0) (pa_cons (pe_glob (v := .ref (c 6)) (by rfl) (g 6 (by decide)) rfl) pa_nil)))) (pss_one (ps_ret (pe_xfl (pv 0)))) pss_nil)
      (pss_one (ps_ret (pe_ifExp (pt_val (pe_callB call_isX (by rfl) T.isi bisi (pa_cons (pv 0) (pa_cons (pe_glob (v := .ref (c 7)) (by rfl) (g 7 (by decide)) rfl) pa_nil)))) (pe_xfl (pv 0)) (pe_xfl (pv 0))))))), ?_⟩
    have cases9 : i = 0 ∨ i = 1 ∨ i = 2 ∨ i = 3 ∨ i = 4 ∨ i = 5 ∨ i = 6 ∨ i = 7 ∨ i = 8 := by omega
    rcases cases9 with rfl | rfl | rfl | rfl | rfl | rfl | rfl | rfl | rfl
    · refine ⟨_, rfl, by show 3 ≤ sizeLine; decide, fun t0 n0 => ⟨a, _, t0, _, v, [.ref (c 1), .ref (c 2), .ref (c 5)], [.ref (c 1), .ref (c 2), .ref (c 5)], _, rfl, upd_same, .cons (.own _) (.cons (.own _) (.cons (.own _) .nil)), T.q _ hi, hx.same (same_new n0), T.kit3 hi (by decide) (by decide) (by decide), _, rfl, ?_⟩⟩
      refine iteF ⟨_, rfl, by show 3 ≤ sizeLine; decide, fun t1 n1 => ⟨a, _, t1, _, v, [.ref (c 0), .ref (c 3), .ref (c 4)], [.ref (c 0), .ref (c 3), .ref (c 4)], _, rfl, upd_same, .cons (.own _) (.cons (.own _) (.cons (.own _) .nil)), T.q _ hi, (hx.same (same_new n0)).same (same_new n1), T.kit3 hi (by decide) (by decide) (by decide), _, rfl, ?_⟩⟩
      exact iteT ⟨_, rfl, a, _, v, rfl, T.q _ hi, T.nf 0 (by decide), ((hx.same (same_new n0)).same (same_new n1)), k _ (same_trans (same_new n0) (same_new n1))⟩
    · refine ⟨_, rfl, by show 3 ≤ sizeLine; decide, fun t0 n0 => ⟨a, _, t0, _, v, [.ref (c 1), .ref (c 2), .ref (c 5)], [.ref (c 1), .ref (c 2), .ref (c 5)], _, rfl, upd_same, .cons (.own _) (.cons (.own _) (.cons (.own _) .nil)), T.q _ hi, hx.same (same_new n0), T.kit3 hi (by decide) (by decide) (by decide), _, rfl, ?_⟩⟩
      exact iteT ⟨_, rfl, a, _, v, rfl, T.q _ hi, T.nf 1 (by decide), (hx.same (same_new n0)), k _ (same_new n0)⟩
    · refine ⟨_, rfl, by show 3 ≤ sizeLine; decide, fun t0 n0 => ⟨a, _, t0, _, v, [.ref (c 1), .ref (c 2), .ref (c 5)], [.ref (c 1), .ref (c 2), .ref (c 5)], _, rfl, upd_same, .cons (.own _) (.cons (.own _) (.cons (.own _) .nil)), T.q _ hi, hx.same (same_new n0), T.kit3 hi (by decide) (by decide) (by decide), _, rfl, ?_⟩⟩
      exact iteT ⟨_, rfl, a, _, v, rfl, T.q _ hi, T.nf 2 (by decide), (hx.same (same_new n0)), k _ (same_new n0)⟩
    · refine ⟨_, rfl, by show 3 ≤ sizeLine; decide, fun t0 n0 => ⟨a, _, t0, _, v, [.ref (c 1), .ref (c 2), .ref (c 5)], [.ref (c 1), .ref (c 2), .ref (c 5)], _, rfl, upd_same, .cons (.own _) (.cons (.own _) (.cons (.own _) .nil)), T.q _ hi, hx.same (same_new n0), T.kit3 hi (by decide) (by decide) (by decide), _, rfl, ?_⟩⟩
      refine iteF ⟨_, rfl, by show 3 ≤ sizeLine; decide, fun t1 n1 => ⟨a, _, t1, _, v, [.ref (c 0), .ref (c 3), .ref (c 4)], [.ref (c 0), .ref (c 3), .ref (c 4)], _, rfl, upd_same, .cons (.own _) (.cons (.own _) (.cons (.own _) .nil)), T.q _ hi, (hx.same (same_new n0)).same (same_new n1), T.kit3 hi (by decide) (by decide) (by decide), _, rfl, ?_⟩⟩
      exact iteT ⟨_, rfl, a, _, v, rfl, T.q _ hi, T.nf 3 (by decide), ((hx.same (same_new n0)).same (same_new n1)), k _ (same_trans (same_new n0) (same_new n1))⟩
    · refine ⟨_, rfl, by show 3 ≤ sizeLine; decide, fun t0 n0 => ⟨a, _, t0, _, v, [.ref (c 1), .ref (c 2), .ref (c 5)], [.ref (c 1), .ref (c 2), .ref (c 5)], _, rfl, upd_same, .cons (.own _) (.cons (.own _) (.cons (.own _) .nil)), T.q _ hi, hx.same (same_new n0), T.kit3 hi (by decide) (by decide) (by decide), _, rfl, ?_⟩⟩
      refine iteF ⟨_, rfl, by show 3 ≤ sizeLine; decide, fun t1 n1 => ⟨a, _, t1, _, v, [.ref (c 0), .ref (c 3), .ref (c 4)], [.ref (c 0), .ref (c 3), .ref (c 4)], _, rfl, upd_same, .cons (.own _) (.cons (.own _) (.cons (.own _) .nil)), T.q _ hi, (hx.same (same_new n0)).same (same_new n1), T.kit3 hi (by decide) (by decide) (by decide), _, rfl, ?_⟩⟩
      exact iteT ⟨_, rfl, a, _, v, rfl, T.q _ hi, T.nf 4 (by decide), ((hx.same (same_new n0)).same (same_new n1)), k _ (same_trans (same_new n0) (same_new n1))⟩
    · refine ⟨_, rfl, by show 3 ≤ sizeLine; decide, fun t0 n0 => ⟨a, _, t0, _, v, [.ref (c 1), .ref (c 2), .ref (c 5)], [.ref (c 1), .ref (c 2), .ref (c 5)], _, rfl, upd_same, .cons (.own _) (.cons (.own _) (.cons (.own _) .nil)), T.q _ hi, hx.same (same_new n0), T.kit3 hi (by decide) (by decide) (by decide), _, rfl, ?_⟩⟩
      exact iteT ⟨_, rfl, a, _, v, rfl, T.q _ hi, T.nf 5 (by decide), (hx.same (same_new n0)), k _ (same_new n0)⟩
    · refine ⟨_, rfl, by show 3 ≤ sizeLine; decide, fun t0 n0 => ⟨a, _, t0, _, v, [.ref (c 1), .ref (c 2), .ref (c 5)], [.ref (c 1), .ref (c 2), .ref (c 5)], _, rfl, upd_same, .cons (.own _) (.cons (.own _) (.cons (.own _) .nil)), T.q _ hi, hx.same (same_new n0), T.kit3 hi (by decide) (by decide) (by decide), _, rfl, ?_⟩⟩
      refine iteF ⟨_, rfl, by show 3 ≤ sizeLine; decide, fun t1 n1 => ⟨a, _, t1, _, v, [.ref (c 0), .ref (c 3), .ref (c 4)], [.ref (c 0), .ref (c 3), .ref (c 4)], _, rfl, upd_same, .cons (.own _) (.cons (.own _) (.cons (.own _) .nil)), T.q _ hi, (hx.same (same_new n0)).same (same_new n1), T.kit3 hi (by decide) (by decide) (by decide), _, rfl, ?_⟩⟩
      refine iteF ⟨_, rfl, a, _, _, v, .ref (c 6), .ref (c 6), _, rfl, .own _, T.q _ hi, ((hx.same (same_new n0)).same (same_new n1)), T.kit _ 6 hi (by decide), _, rfl, ?_⟩
      exact iteT ⟨_, rfl, a, _, v, rfl, T.q _ hi, T.nf 6 (by decide), ((hx.same (same_new n0)).same (same_new n1)), k _ (same_trans (same_new n0) (same_new n1))⟩
    · refine ⟨_, rfl, by show 3 ≤ sizeLine; decide, fun t0 n0 => ⟨a, _, t0, _, v, [.ref (c 1), .ref (c 2), .ref (c 5)], [.ref (c 1), .ref (c 2), .ref (c 5)], _, rfl, upd_same, .cons (.own _) (.cons (.own _) (.cons (.own _) .nil)), T.q _ hi, hx.same (same_new n0), T.kit3 hi (by decide) (by decide) (by decide), _, rfl, ?_⟩⟩
      refine iteF ⟨_, rfl, by show 3 ≤ sizeLine; decide, fun t1 n1 => ⟨a, _, t1, _, v, [.ref (c 0), .ref (c 3), .ref (c 4)], [.ref (c 0), .ref (c 3), .ref (c 4)], _, rfl, upd_same, .cons (.own _) (.cons (.own _) (.cons (.own _) .nil)), T.q _ hi, (hx.same (same_new n0)).same (same_new n1), T.kit3 hi (by decide) (by decide) (by decide), _, rfl, ?_⟩⟩
      refine iteF ⟨_, rfl, a, _, _, v, .ref (c 6), .ref (c 6), _, rfl, .own _, T.q _ hi, ((hx.same (same_new n0)).same (same_new n1)), T.kit _ 6 hi (by decide), _, rfl, ?_⟩
      refine iteF ⟨_, rfl, a, _, _, v, .ref (c 7), .ref (c 7), _, rfl, .own _, T.q _ hi, ((hx.same (same_new n0)).same (same_new n1)), T.kit _ 7 hi (by decide), _, rfl, ?_⟩
      exact iteT ⟨_, rfl, a, _, v, rfl, T.q _ hi, T.nf 7 (by decide), ((hx.same (same_new n0)).same (same_new n1)), k _ (same_trans (same_new n0) (same_new n1))⟩
    · refine ⟨_, rfl, by show 3 ≤ sizeLine; decide, fun t0 n0 => ⟨a, _, t0, _, v, [.ref (c 1), .ref (c 2), .ref (c 5)], [.ref (c 1), .ref (c 2), .ref (c 5)], _, rfl, upd_same, .cons (.own _) (.cons (.own _) (.cons (.own _) .nil)), T.q _ hi, hx.same (same_new n0), T.kit3 hi (by decide) (by decide) (by decide), _, rfl, ?_⟩⟩
      refine iteF ⟨_, rfl, by show 3 ≤ sizeLine; decide, fun t1 n1 => ⟨a, _, t1, _, v, [.ref (c 0), .ref (c 3), .ref (c 4)], [.ref (c 0), .ref (c 3), .ref (c 4)], _, rfl, upd_same, .cons (.own _) (.cons (.own _) (.cons (.own _) .nil)), T.q _ hi, (hx.same (same_new n0)).same (same_new n1), T.kit3 hi (by decide) (by decide) (by decide), _, rfl, ?_⟩⟩
      refine iteF ⟨_, rfl, a, _, _, v, .ref (c 6), .ref (c 6), _, rfl, .own _, T.q _ hi, ((hx.same (same_new n0)).same (same_new n1)), T.kit _ 6 hi (by decide), _, rfl, ?_⟩
      refine iteF ⟨_, rfl, a, _, _, v, .ref (c 7), .ref (c 7), _, rfl, .own _, T.q _ hi, ((hx.same (same_new n0)).same (same_new n1)), T.kit _ 7 hi (by decide), _, rfl, ?_⟩
      exact iteF ⟨_, rfl, a, _, v, rfl, T.q _ hi, T.nf 8 (by decide), ((hx.same (same_new n0)).same (same_new n1)), k _ (same_trans (same_new n0) (same_new n1))⟩
end
end K70

set_option Elab.async false
set_option linter.all false
set_option maxRecDepth 100000
set_option maxHeartbeats 4000000
namespace XH
open PySem PySem.W PySem.Calls PyProof.Rows L2
section
variable {X : Cx}
/-- C(): an exception class without a maker of its own, made without a value -/
theorem pe_exz {C : Addr} {bmB : List Value} {B newId initId : String} {x : Str} {p pos : Pos} (FB : ExcBaseFacts B newId initId bmB) (q : excIn X.K C bmB newId = true) (gC : X.mg x = some (.ref C)) (kC : keepIn X.K (.ref C) = true) (hg : Gl X x)
    (hdb : (x == ("__debug__" : Str)) = false := by decide) : PE X (.Call (.Name x p) [] [] pos) (fun σ H Q => ∀ a, H a = none → Q (.ref a) (upd H a (ExO (.ref C) a))) := by
  refine ⟨fun pins s σ H Q I h => ?_⟩
  refine wpAny_Call_Name_kw (ld_glob I hg gC ?_ hdb)
  refine callWith_KW0 (h₀ := X.base) (kws := []) I.ok.mod.kin kC rfl ?_ rfl
  refine thn (pk_nil.run pos pins s σ H (fun vs H1 => vs = [] ∧ H1 = H) I ⟨rfl, rfl⟩) fun ws s2 ⟨zs, H2, I2, rz, e1, e2⟩ => ⟨I2.kIn, ?_⟩
  subst e1 e2
  cases rz
  show wpAny _ _ (call (.ref C) []) _ _ _
  obtain ⟨bm, N, nm, qn, bs, hdct, sn, sub, ab, col, dd, k0, k1, k2, k3, k5, mN, hC, hN, hni, T⟩ := exc_obj I2.kIn q
  refine wpAny_call_exc_subT FB T hC hN hni (fun h' a hm => ?_) (by show 0 ≤ sizeLine; omega)
  have hn : H2 a = none := I2.hok.gone hm.new
  obtain ⟨t, ht, _, _⟩ := hm.there
  exact ⟨.ref a, _, I2.laidN hm.keeps hm.new hn (exO_ok ht ⟨rfl, rfl⟩ rfl rfl rfl (show 4 < 6 by decide)), rfl, h a hn⟩
/-- isinstance(x, c), x such a bare exception -/
def rIsZ (K : Frag) : List V → Hp → VK → Prop := fun xs H Q => ∃ (a C : Addr) (c : V) (u : Value) (b : Bool), xs = [.ref a, c] ∧ ClsV c u ∧ ExQ K C ∧ H a = some (ExO (.ref C) a) ∧ kitOne K (.ref C) u = some b ∧ Q (.bl b) H
theorem call_isZ : CallR X (.builtin "isinstance") (rIsZ X.K) := by
  intro pins s σ H xs us Q I r h
  obtain ⟨a, C, c, u, b, rfl, kc, T, x, e, q⟩ := h
  obtain ⟨u1, u2, rfl, r1, r2⟩ := vals2 r
  have e2 := kc.eq r2
  subst e2
  obtain rfl : u1 = Value.ref a := r1
  obtain ⟨⟨oe, vs, ho, hz, hd, _⟩, _, _⟩ := I.hok a _ x
  have J : InstAt s.heap a oe C none := by
    obtain ⟨oc, od, oda, osl⟩ := oe
    obtain ⟨z1, z2⟩ := hz
    dsimp only at z1 z2 hd
    subst z1 z2 hd
    exact ⟨ho, rfl, rfl, trivial⟩
  exact kia_one (kitx_exc T.cl T.ga T.gt T.sb T.hc T.hn T.tk T.hm) I.kIn J e (fun z => nomatch z) fun tk => ⟨.bl b, H, I.tok tk, rfl, q⟩
end
end XH
namespace K70
open PySem L2 L2H XH
/-- all that the law's own text asks of what the top has written -/
structure LT (P : Program) (K : PySem.W.Frag) (mg : Str → Option Value) (c : Nat → Addr) (cJ : Addr) : Prop extends CT K mg c where
  ext : ∀ i, i < 9 → ∃ fI fd qn B newId initId bmB, ExT P K mg (c i) fI fd (flC i) qn B newId initId bmB
  kp : ∀ i, i < 9 → PySem.W.keepIn K (.ref (c i)) = true
  gJ : mg "JoinError" = some (.ref cJ)
  kJ : PySem.W.keepIn K (.ref cJ) = true
  qJ : ExQ K cJ
  eJ : PySem.W.excIn K cJ [.type "ValueError", .type "Exception", .type "BaseException", .type "object"] "ValueError.__new__" = true
  vJ : PySem.W.kitOne K (.ref cJ) (.type "ValueError") = some true
  isJ : ∀ i, i < 9 → PySem.W.kitOne K (.ref (c i)) (.ref cJ) = some (decide (i < 7))
  isV : ∀ i, i < 9 → PySem.W.kitOne K (.ref (c i)) (.type "ValueError") = some (decide (i < 7))
  isL : ∀ i, i < 9 → PySem.W.kitOne K (.ref (c i)) (.type "LookupError") = some (decide (i = 7))
  isO : ∀ i, i < 9 → PySem.W.kitOne K (.ref (c i)) (.type "OverflowError") = some (decide (i = 8))
  isK : ∀ i, i < 9 → PySem.W.kitAny K (.ref (c i)) [.type "KeyError", .type "IndexError"] = some false
  tb : TxtB mg
  range : mg "range" = none
  min : mg "min" = none
  enum : mg "enumerate" = none
  repr : mg "repr" = none
  bV : mg "ValueError" = none
  bL : mg "LookupError" = none
  bO : mg "OverflowError" = none
  bK : mg "KeyError" = none
  bI : mg "IndexError" = none
def kbs (j : Nat) : List Bool := (List.range 9).map fun j' => decide (j = j')
theorem dp_bs {K : PySem.W.Frag} {H : Hp} : ∀ bs : List Bool, DpAll K H (bs.map V.bl) (bs.map PyData.bool)
  | [] => .nil
  | b :: bs => .cons (.bl b) (dp_bs bs)
theorem dp_bools {K : PySem.W.Frag} {H : Hp} {a : Addr} {j : Nat} (h : SqL K H a ((List.range 9).map fun j' => V.bl (decide (j = j')))) : Dp K H (.ref a) (.list ((kbs j).map PyData.bool)) := by
  have e : ((List.range 9).map fun j' => V.bl (decide (j = j'))) = (kbs j).map V.bl := by
    unfold kbs
    rw [List.map_map]
    rfl
  rw [e] at h
  exact .lst h (dp_bs _)
theorem can_bools : ∀ bs : List Bool, PyData.canLayAll0 (bs.map PyData.bool) = true ∧ PyData.depthAll (bs.map PyData.bool) ≤ 1
  | [] => ⟨rfl, Nat.zero_le _⟩
  | b :: bs => by
    have z := can_bools bs
    refine ⟨by simp [PyData.canLayAll0, PyData.canLay0, z.1], ?_⟩
    simp only [List.map_cons, PyData.depthAll, PyData.depth]
    have := z.2
    omega
theorem shaped_bools (bs : List Bool) : SeqAt.shaped (.list (bs.map PyData.bool)) = true := by
  have z := can_bools bs
  refine Bool.and_eq_true_iff.mpr ⟨by simp only [PyData.canLay0]; exact z.1, decide_eq_true ?_⟩
  simp only [PyData.depth]
  exact Nat.le_trans (Nat.succ_le_succ z.2) (by decide)
theorem eqv_bools (bs : List Bool) : (!PyData.eqv (.list (bs.map PyData.bool)) (.list (bs.map PyData.bool))) = false := by
  have h : ∀ l : List Bool, PyData.eqvAll (l.map PyData.bool) (l.map PyData.bool) = true := by
    intro l
    induction l with
    | nil => simp [PyData.eqvAll]
    | cons a l ih => simp [PyData.eqvAll, PyData.eqv, ih]
  simp [PyData.eqv, h]
def spLaw (K : PySem.W.Frag) : Sp := fun vs H Q _ => ∃ (a : Addr) (ns : List Int), vs = [.ref a] ∧ SqL K H a (ns.map V.int) ∧ ns.length ≤ 63 ∧ ∀ H', Q (.bl true) H'
theorem bbV : bootBuiltins ("ValueError" : Str) = some (.type "ValueError") := by decide +kernel
theorem bbL : bootBuiltins ("LookupError" : Str) = some (.type "LookupError") := by decide +kernel
theorem bbO : bootBuiltins ("OverflowError" : Str) = some (.type "OverflowError") := by decide +kernel
theorem bbK : bootBuiltins ("KeyError" : Str) = some (.type "KeyError") := by decide +kernel
theorem bbI : bootBuiltins ("IndexError" : Str) = some (.type "IndexError") := by decide +kernel
theorem brepr : bootBuiltins ("repr" : Str) = some (.builtin "repr") := by decide +kernel
theorem bmin : bootBuiltins ("min" : Str) = some (.builtin "min") := by decide +kernel
section
variable {P : Program} {w : World} {K : PySem.W.Frag} {mg : Str → Option Value} {base : Heap} {c : Nat → Addr} {cJ : Addr}
theorem scL : FnScope ["script", "m", "turn", "q", "some", "far", "at", "one", "told", "k"] ["script"] (defScope sLaw) := ⟨rfl, rfl, rfl, by decide +kernel, rfl, by decide +kernel, by decide +kernel⟩
theorem ok_law {f fB fN fV fK fF : Addr} {fd fdB fdN fdV fdK fdF : FuncData} (F : Fun K "law" "law" sLaw f fd) (T : LT P K mg c cJ)
    (FB : Fun K "_law_begun" "_law_begun" sBeg fB fdB) (bB : Binds K fdB ["script"] []) (gB : mg "_law_begun" = some (.ref fB))
    (FN : Fun K "_law_next" "_law_next" sNext fN fdN) (bN : Binds K fdN ["m", "many"] []) (gN : mg "_law_next" = some (.ref fN))
    (FV : Fun K "_law_value" "_law_value" sVal fV fdV) (bV : Binds K fdV ["m"] []) (gV : mg "_law_value" = some (.ref fV))
    (FK : Fun K "_law_kinds" "_law_kinds" sKin fK fdK) (bK : Binds K fdK ["one"] []) (gK : mg "_law_kinds" = some (.ref fK))
    (FF : Fun K "_law_field" "_law_field" sFld fF fdF) (bF : Binds K fdF ["one"] []) (gF : mg "_law_field" = some (.ref fF)) :
    AtTop P w K mg base f fd "script" (spLaw K) := by
  have GB : FnOk P w K mg base CX0 1 fB fdB ["script"] (spBeg K) := ok_beg FB T.tb
  have GV : FnOk P w K mg base CX0 2 fV fdV ["m"] (spVal K) := ok_val FV FN bN T.tb gN
  have GK : FnOk P w K mg base CX0 1 fK fdK ["one"] (spKin c) := ok_kin FK T.toCT
  have GF : FnOk P w K mg base CX0 1 fF fdF ["one"] (spFld c) := ok_fld FF T.toCT
  obtain ⟨_, _, _, _, _, _, _, E0⟩ := T.ext 0 (by decide)
  obtain ⟨_, _, _, _, _, _, _, E1⟩ := T.ext 1 (by decide)
  obtain ⟨_, _, _, _, _, _, _, E2⟩ := T.ext 2 (by decide)
  obtain ⟨_, _, _, _, _, _, _, E3⟩ := T.ext 3 (by decide)
  obtain ⟨_, _, _, _, _, _, _, E4⟩ := T.ext 4 (by decide)
  obtain ⟨_, _, _, _, _, _, _, E5⟩ := T.ext 5 (by decide)
  obtain ⟨_, _, _, _, _, _, _, E6⟩ := T.ext 6 (by decide)
  obtain ⟨_, _, _, _, _, _, _, E7⟩ := T.ext 7 (by decide)
  obtain ⟨_, _, _, _, _, _, _, E8⟩ := T.ext 8 (by decide)
  refine atTop_of (k := 3) F scL ⟨rfl, by decide, by decide⟩ fun cdv s H v Q E hr h => ?_
  obtain ⟨a, ns, ev, hS, hlen, k⟩ := h
  obtain rfl := (List.cons.inj ev).1
  have hr1 : Room 1 _ := hr.mono (by decide)
  have hr2 : Room 2 _ := hr.mono (by decide)
  have dp : (callerA.deeper (PyProof.Rows.envOfC "law" (defScope sLaw) s.heap.objs.size f cdv)).depth + 1 < recursionLimit := by have := hr.dp; omega
  have hu2 : (callerA.deeper (PyProof.Rows.envOfC "law" (defScope sLaw) s.heap.objs.size f cdv)).units + 64 < cLine := by have := hr.un; omega
  have hu3 : (callerA.deeper (PyProof.Rows.envOfC "law" (defScope sLaw) s.heap.objs.size f cdv)).units + 100 < cLine := by have := hr.un; omega
  have hgd : (callerA.deeper (PyProof.Rows.envOfC "law" (defScope sLaw) s.heap.objs.size f cdv)).guards = some [] := rfl
  refine ⟨_, pss_cons (ps_set (i := 1) scL.nd rfl (Or.inl rfl) (pe_call GB hr1 (by rfl) gB FB.kp bB .nil pass0 (pa_cons (pv 0) pa_nil)))
    (pss_cons (ps_for PassesOwn.never rfl (pi_range1 rfl T.range (pa_cons (pe_op op_add pe_int (pe_callB (call_min2 rfl) (by rfl) T.min bmin (pa_cons (pe_callB call_len_seq (by rfl) T.tb.len PySem.boot_len (pa_cons (pv 0) pa_nil)) (pa_cons pe_int pa_nil)))) pa_nil)) (pg_name (i := 2) scL.nd rfl (Or.inl rfl))
    (pss_cons (ps_set (i := 3) scL.nd rfl (Or.inl rfl) (pe_call GV hr2 (by rfl) gV FV.kp bV .nil pass0 (pa_cons (pv 1) pa_nil)))
    (pss_cons (ps_set (i := 4) scL.nd rfl (Or.inl rfl) (pe_lst (pa_cons (pe_mkp E0 dp (T.g 0 (by decide)) (T.kp 0 (by decide)) (by rfl) (pv 3))
        (pa_cons (pe_mkp E1 dp (T.g 1 (by decide)) (T.kp 1 (by decide)) (by rfl) (pv 3))
        (pa_cons (pe_mkp E2 dp (T.g 2 (by decide)) (T.kp 2 (by decide)) (by rfl) (pv 3))
        (pa_cons (pe_mkp E3 dp (T.g 3 (by decide)) (T.kp 3 (by decide)) (by rfl) (pv 3))
        (pa_cons (pe_mkp E4 dp (T.g 4 (by decide)) (T.kp 4 (by decide)) (by rfl) (pv 3))
        (pa_cons (pe_mkp E5 dp (T.g 5 (by decide)) (T.kp 5 (by decide)) (by rfl) (pv 3))
        (pa_cons (pe_mkp E6 dp (T.g 6 (by decide)) (T.kp 6 (by decide)) (by rfl) (pv 3))
        pa_nil)))))))))
    (pss_cons (ps_set (i := 4) scL.nd rfl (Or.inl rfl) (pe_op op_cat (pv 4) (pe_lst (pa_cons (pe_mkp E7 dp (T.g 7 (by decide)) (T.kp 7 (by decide)) (by rfl) (pv 3))
        (pa_cons (pe_mkp E8 dp (T.g 8 (by decide)) (T.kp 8 (by decide)) (by rfl) (pv 3))
        pa_nil)))))
    (pss_cons (ps_set (i := 5) scL.nd rfl (Or.inl rfl) (pe_lst (pa_cons (pe_mkk E0 dp (T.g 0 (by decide)) (T.kp 0 (by decide)) (by rfl) (pv 3))
        (pa_cons (pe_mkk E1 dp (T.g 1 (by decide)) (T.kp 1 (by decide)) (by rfl) (pv 3))
        (pa_cons (pe_mkk E2 dp (T.g 2 (by decide)) (T.kp 2 (by decide)) (by rfl) (pv 3))
        (pa_cons (pe_mkk E3 dp (T.g 3 (by decide)) (T.kp 3 (by decide)) (by rfl) (pv 3))
        (pa_cons (pe_mkk E4 dp (T.g 4 (by decide)) (T.kp 4 (by decide)) (by rfl) (pv 3))
        pa_nil)))))))
    (pss_cons (ps_set (i := 5) scL.nd rfl (Or.inl rfl) (pe_op op_cat (pv 5) (pe_lst (pa_cons (pe_mkk E5 dp (T.g 5 (by decide)) (T.kp 5 (by decide)) (by rfl) (pv 3))
        (pa_cons (pe_mkk E6 dp (T.g 6 (by decide)) (T.kp 6 (by decide)) (by rfl) (pv 3))
        (pa_cons (pe_mkk E7 dp (T.g 7 (by decide)) (T.kp 7 (by decide)) (by rfl) (pv 3))
        (pa_cons (pe_mkk E8 dp (T.g 8 (by decide)) (T.kp 8 (by decide)) (by rfl) (pv 3))
        pa_nil)))))))
    (pss_one (ps_for PassesOwn.never rfl (pi_enum (by rfl) T.enum (pa_cons (pv 4) pa_nil)) (pg_tup rfl (pgs_cons (pg_name (i := 6) scL.nd rfl (Or.inr rfl)) (pgs_cons (pg_name (i := 7) scL.nd rfl (Or.inl rfl)) pgs_nil)))
      (pss_cons (ps_if (PW.pt (pw_or (pt_cmpR op_ne (pe_callB (call_reprQ hgd hu3) (by rfl) T.repr brepr (pa_cons (pe_call GF hr1 (by rfl) gF FF.kp bF .nil pass0 (pa_cons (pv 7) pa_nil)) pa_nil)) (pe_callB (call_reprQ hgd hu3) (by rfl) T.repr brepr (pa_cons (pv 3) pa_nil)) (nomark _))
        (pw_or1 (pt_cmpR op_ne (pe_callB (call_reprQ hgd hu3) (by rfl) T.repr brepr (pa_cons (pe_call GF hr1 (by rfl) gF FF.kp bF .nil pass0 (pa_cons (pe_ix ix_list (pv 5) (pv 6) (fun _ _ => rfl)) pa_nil)) pa_nil)) (pe_callB (call_reprQ hgd hu3) (by rfl) T.repr brepr (pa_cons (pv 3) pa_nil)) (nomark _))))) (pss_one (ps_ret pe_bl)) pss_nil)
      (pss_cons (ps_if (PW.pt (pw_or (pt_cmpR (op_neD hu2) (pe_call GK hr1 (by rfl) gK FK.kp bK .nil pass0 (pa_cons (pv 7) pa_nil)) (pe_lc (own := [("k", 9)]) (g := gName 9) (tt := tYes) rfl scL.nd (pi_range1 rfl T.range (pa_cons pe_int pa_nil)) (blkOk_by (own := [("k", 9)]) (N := ["script", "m", "turn", "q", "some", "far", "at", "one", "told", "k"]) (sc := defScope sLaw) (by decide +kernel))
          (fun _ _ _ _ _ => pg_name (i := 9) scL.nd rfl (Or.inl rfl)) (fun _ _ _ _ _ => pts_nil) (fun _ _ _ _ _ => pe_cmpR op_eq (pv 9) (pv 6) (nomark _))) (nomark _))
        (pw_or1 (pt_cmpR (op_neD hu2) (pe_call GK hr1 (by rfl) gK FK.kp bK .nil pass0 (pa_cons (pe_ix ix_list (pv 5) (pv 6) (fun _ _ => rfl)) pa_nil)) (pe_call GK hr1 (by rfl) gK FK.kp bK .nil pass0 (pa_cons (pv 7) pa_nil)) (nomark _))))) (pss_one (ps_ret pe_bl)) pss_nil)
      (pss_cons (ps_set (i := 8) scL.nd rfl (Or.inl rfl) (pe_lst (pa_cons (pe_callB call_isX (by rfl) T.isi bisi (pa_cons (pv 7) (pa_cons (pe_glob (v := .ref cJ) (by rfl) T.gJ rfl) pa_nil)))
        (pa_cons (pe_callB call_isX (by rfl) T.isi bisi (pa_cons (pv 7) (pa_cons (pe_bltn (v := .ty "ValueError") (by rfl) T.bV bbV rfl) pa_nil)))
        (pa_cons (pe_callB call_isX (by rfl) T.isi bisi (pa_cons (pv 7) (pa_cons (pe_bltn (v := .ty "LookupError") (by rfl) T.bL bbL rfl) pa_nil)))
        pa_nil)))))
      (pss_cons (ps_set (i := 8) scL.nd rfl (Or.inl rfl) (pe_op op_cat (pv 8) (pe_lst (pa_cons (pe_callB call_isX (by rfl) T.isi bisi (pa_cons (pv 7) (pa_cons (pe_bltn (v := .ty "OverflowError") (by rfl) T.bO bbO rfl) pa_nil)))
        (pa_cons (pe_callB call_isXT (by rfl) T.isi bisi (pa_cons (pv 7) (pa_cons (pe_tup (pa_cons (pe_bltn (v := .ty "KeyError") (by rfl) T.bK bbK rfl) (pa_cons (pe_bltn (v := .ty "IndexError") (by rfl) T.bI bbI rfl) pa_nil))) pa_nil)))
        pa_nil)))))
      (pss_one (ps_if (pt_cmpR (op_neD hu2) (pv 8) (pe_lst (pa_cons (pe_cmpR op_lt (pv 6) pe_int (nomark _))
        (pa_cons (pe_cmpR op_lt (pv 6) pe_int (nomark _))
        (pa_cons (pe_cmpR op_eq (pv 6) pe_int (nomark _))
        (pa_cons (pe_cmpR op_eq (pv 6) pe_int (nomark _))
        (pa_cons pe_bl
        pa_nil)))))) (nomark _)) (pss_one (ps_ret pe_bl)) pss_nil))))))))))))))
    (pss_one (ps_ret (pe_callB call_isZ (by rfl) T.isi bisi (pa_cons (pe_exz PySem.F.excBase_ValueError T.eJ T.gJ T.kJ (by rfl)) (pa_cons (pe_bltn (v := .ty "ValueError") (by rfl) T.bV bbV rfl) pa_nil)))))), ?_⟩
  refine ⟨_, rfl, a, ns, rfl, hS, hlen, fun H1 m cc l cs ls sm1 M1 => ?_⟩
  refine ⟨_, rfl, a, _, rfl, .inl (sm1.seq hS), _, _, rfl, _, _, rfl, rfl, _, rfl, ?_, ?_, ?_⟩
  · split <;> omega
  · split <;> omega
  refine for_range (lo := 0) (fun i σ' H' => ∃ (l' : Addr) (ls' : List Int) (n' : Int) (v2 v3 v4 v5 v6 v7 v8 v9 : Option V), σ' = [some (V.ref a), some (V.ref m), v2, v3, v4, v5, v6, v7, v8, v9] ∧ MAt H' m cc l' cs ls' n' ∧ n' ≤ i)
    ⟨l, ls, 0, none, none, none, none, none, none, none, none, rfl, M1, by omega⟩ ?_ ?_
  · rintro i σ' H' hi ⟨l', ls', n', v2, v3, v4, v5, v6, v7, v8, v9, rfl, M', hn'⟩
    have hi8 : i < 10 := by
      refine Nat.lt_of_lt_of_le hi ?_
      split <;> omega
    refine ⟨_, rfl, m, cc, l', cs, ls', n', rfl, M', by omega, fun q x g0 l2 ls2 n2 M2 hn2 good => ?_⟩
    refine ⟨_, rfl, fun a0 g1 na0 S0 xa0 => ?_⟩
    refine ⟨_, rfl, fun a1 g2 na1 S1 xa1 => ?_⟩
    refine ⟨_, rfl, fun a2 g3 na2 S2 xa2 => ?_⟩
    refine ⟨_, rfl, fun a3 g4 na3 S3 xa3 => ?_⟩
    refine ⟨_, rfl, fun a4 g5 na4 S4 xa4 => ?_⟩
    refine ⟨_, rfl, fun a5 g6 na5 S5 xa5 => ?_⟩
    refine ⟨_, rfl, fun a6 g7 na6 S6 xa6 => ?_⟩
    refine ⟨by show 7 ≤ sizeLine; decide, fun p1 np1 => ?_⟩
    have S7 : Same g7 (upd g7 p1 (HO.lst [V.ref a0, V.ref a1, V.ref a2, V.ref a3, V.ref a4, V.ref a5, V.ref a6])) := same_new np1
    have op1 : (upd g7 p1 (HO.lst [V.ref a0, V.ref a1, V.ref a2, V.ref a3, V.ref a4, V.ref a5, V.ref a6])) p1 = some (HO.lst [V.ref a0, V.ref a1, V.ref a2, V.ref a3, V.ref a4, V.ref a5, V.ref a6]) := upd_same
    generalize upd g7 p1 (HO.lst [V.ref a0, V.ref a1, V.ref a2, V.ref a3, V.ref a4, V.ref a5, V.ref a6]) = g8 at S7 op1 ⊢
    refine ⟨_, rfl, _, rfl, fun a7 g9 na7 S8 xa7 => ?_⟩
    refine ⟨_, rfl, fun a8 g10 na8 S9 xa8 => ?_⟩
    refine ⟨by show 2 ≤ sizeLine; decide, fun p2 np2 => ?_⟩
    have S10 : Same g10 (upd g10 p2 (HO.lst [V.ref a7, V.ref a8])) := same_new np2
    have op2 : (upd g10 p2 (HO.lst [V.ref a7, V.ref a8])) p2 = some (HO.lst [V.ref a7, V.ref a8]) := upd_same
    generalize upd g10 p2 (HO.lst [V.ref a7, V.ref a8]) = g11 at S10 op2 ⊢
    refine ⟨p1, p2, _, _, rfl, rfl, (same_trans S8 (same_trans S9 S10)) _ _ op1, op2, by show 9 ≤ sizeLine; decide, fun p3 np3 => ?_⟩
    have S11 : Same g11 (upd g11 p3 (HO.lst ([V.ref a0, V.ref a1, V.ref a2, V.ref a3, V.ref a4, V.ref a5, V.ref a6] ++ [V.ref a7, V.ref a8]))) := same_new np3
    have op3 : (upd g11 p3 (HO.lst ([V.ref a0, V.ref a1, V.ref a2, V.ref a3, V.ref a4, V.ref a5, V.ref a6] ++ [V.ref a7, V.ref a8]))) p3 = some (HO.lst ([V.ref a0, V.ref a1, V.ref a2, V.ref a3, V.ref a4, V.ref a5, V.ref a6] ++ [V.ref a7, V.ref a8])) := upd_same
    generalize upd g11 p3 (HO.lst ([V.ref a0, V.ref a1, V.ref a2, V.ref a3, V.ref a4, V.ref a5, V.ref a6] ++ [V.ref a7, V.ref a8])) = g12 at S11 op3 ⊢
    refine ⟨_, rfl, fun b0 g13 nb0 S12 xb0 => ?_⟩
    refine ⟨_, rfl, fun b1 g14 nb1 S13 xb1 => ?_⟩
    refine ⟨_, rfl, fun b2 g15 nb2 S14 xb2 => ?_⟩
    refine ⟨_, rfl, fun b3 g16 nb3 S15 xb3 => ?_⟩
    refine ⟨_, rfl, fun b4 g17 nb4 S16 xb4 => ?_⟩
    refine ⟨by show 5 ≤ sizeLine; decide, fun p4 np4 => ?_⟩
    have S17 : Same g17 (upd g17 p4 (HO.lst [V.ref b0, V.ref b1, V.ref b2, V.ref b3, V.ref b4])) := same_new np4
    have op4 : (upd g17 p4 (HO.lst [V.ref b0, V.ref b1, V.ref b2, V.ref b3, V.ref b4])) p4 = some (HO.lst [V.ref b0, V.ref b1, V.ref b2, V.ref b3, V.ref b4]) := upd_same
    generalize upd g17 p4 (HO.lst [V.ref b0, V.ref b1, V.ref b2, V.ref b3, V.ref b4]) = g18 at S17 op4 ⊢
    refine ⟨_, rfl, _, rfl, fun b5 g19 nb5 S18 xb5 => ?_⟩
    refine ⟨_, rfl, fun b6 g20 nb6 S19 xb6 => ?_⟩
    refine ⟨_, rfl, fun b7 g21 nb7 S20 xb7 => ?_⟩
    refine ⟨_, rfl, fun b8 g22 nb8 S21 xb8 => ?_⟩
    refine ⟨by show 4 ≤ sizeLine; decide, fun p5 np5 => ?_⟩
    have S22 : Same g22 (upd g22 p5 (HO.lst [V.ref b5, V.ref b6, V.ref b7, V.ref b8])) := same_new np5
    have op5 : (upd g22 p5 (HO.lst [V.ref b5, V.ref b6, V.ref b7, V.ref b8])) p5 = some (HO.lst [V.ref b5, V.ref b6, V.ref b7, V.ref b8]) := upd_same
    generalize upd g22 p5 (HO.lst [V.ref b5, V.ref b6, V.ref b7, V.ref b8]) = g23 at S22 op5 ⊢
    refine ⟨p4, p5, _, _, rfl, rfl, (same_trans S18 (same_trans S19 (same_trans S20 (same_trans S21 S22)))) _ _ op4, op5, by show 9 ≤ sizeLine; decide, fun p6 np6 => ?_⟩
    have S23 : Same g23 (upd g23 p6 (HO.lst ([V.ref b0, V.ref b1, V.ref b2, V.ref b3, V.ref b4] ++ [V.ref b5, V.ref b6, V.ref b7, V.ref b8]))) := same_new np6
    have op6 : (upd g23 p6 (HO.lst ([V.ref b0, V.ref b1, V.ref b2, V.ref b3, V.ref b4] ++ [V.ref b5, V.ref b6, V.ref b7, V.ref b8]))) p6 = some (HO.lst ([V.ref b0, V.ref b1, V.ref b2, V.ref b3, V.ref b4] ++ [V.ref b5, V.ref b6, V.ref b7, V.ref b8])) := upd_same
    generalize upd g23 p6 (HO.lst ([V.ref b0, V.ref b1, V.ref b2, V.ref b3, V.ref b4] ++ [V.ref b5, V.ref b6, V.ref b7, V.ref b8])) = g24 at S23 op6 ⊢
    have good' : QGood K g24 q x := good.same (same_trans S0 (same_trans S1 (same_trans S2 (same_trans S3 (same_trans S4 (same_trans S5 (same_trans S6 (same_trans S7 (same_trans S8 (same_trans S9 (same_trans S10 (same_trans S11 (same_trans S12 (same_trans S13 (same_trans S14 (same_trans S15 (same_trans S16 (same_trans S17 (same_trans S18 (same_trans S19 (same_trans S20 (same_trans S21 (same_trans S22 S23)))))))))))))))))))))))
    have M24 := M2.same (same_trans S0 (same_trans S1 (same_trans S2 (same_trans S3 (same_trans S4 (same_trans S5 (same_trans S6 (same_trans S7 (same_trans S8 (same_trans S9 (same_trans S10 (same_trans S11 (same_trans S12 (same_trans S13 (same_trans S14 (same_trans S15 (same_trans S16 (same_trans S17 (same_trans S18 (same_trans S19 (same_trans S20 (same_trans S21 (same_trans S22 S23)))))))))))))))))))))))
    have hsome := (same_trans S12 (same_trans S13 (same_trans S14 (same_trans S15 (same_trans S16 (same_trans S17 (same_trans S18 (same_trans S19 (same_trans S20 (same_trans S21 (same_trans S22 S23))))))))))) _ _ op3
    have alls : ∀ j, j < 9 → ∃ e, ([V.ref a0, V.ref a1, V.ref a2, V.ref a3, V.ref a4, V.ref a5, V.ref a6] ++ [V.ref a7, V.ref a8])[j]? = some (V.ref e) ∧ ExcAt g24 e (c j) (flC j) q := by
      intro j hj
      have cases9 : j = 0 ∨ j = 1 ∨ j = 2 ∨ j = 3 ∨ j = 4 ∨ j = 5 ∨ j = 6 ∨ j = 7 ∨ j = 8 := by omega
      rcases cases9 with rfl | rfl | rfl | rfl | rfl | rfl | rfl | rfl | rfl
      · exact ⟨a0, rfl, xa0.same (same_trans S1 (same_trans S2 (same_trans S3 (same_trans S4 (same_trans S5 (same_trans S6 (same_trans S7 (same_trans S8 (same_trans S9 (same_trans S10 (same_trans S11 (same_trans S12 (same_trans S13 (same_trans S14 (same_trans S15 (same_trans S16 (same_trans S17 (same_trans S18 (same_trans S19 (same_trans S20 (same_trans S21 (same_trans S22 S23))))))))))))))))))))))⟩
      · exact ⟨a1, rfl, xa1.same (same_trans S2 (same_trans S3 (same_trans S4 (same_trans S5 (same_trans S6 (same_trans S7 (same_trans S8 (same_trans S9 (same_trans S10 (same_trans S11 (same_trans S12 (same_trans S13 (same_trans S14 (same_trans S15 (same_trans S16 (same_trans S17 (same_trans S18 (same_trans S19 (same_trans S20 (same_trans S21 (same_trans S22 S23)))))))))))))))))))))⟩
      · exact ⟨a2, rfl, xa2.same (same_trans S3 (same_trans S4 (same_trans S5 (same_trans S6 (same_trans S7 (same_trans S8 (same_trans S9 (same_trans S10 (same_trans S11 (same_trans S12 (same_trans S13 (same_trans S14 (same_trans S15 (same_trans S16 (same_trans S17 (same_trans S18 (same_trans S19 (same_trans S20 (same_trans S21 (same_trans S22 S23))))))))))))))))))))⟩
      · exact ⟨a3, rfl, xa3.same (same_trans S4 (same_trans S5 (same_trans S6 (same_trans S7 (same_trans S8 (same_trans S9 (same_trans S10 (same_trans S11 (same_trans S12 (same_trans S13 (same_trans S14 (same_trans S15 (same_trans S16 (same_trans S17 (same_trans S18 (same_trans S19 (same_trans S20 (same_trans S21 (same_trans S22 S23)))))))))))))))))))⟩
      · exact ⟨a4, rfl, xa4.same (same_trans S5 (same_trans S6 (same_trans S7 (same_trans S8 (same_trans S9 (same_trans S10 (same_trans S11 (same_trans S12 (same_trans S13 (same_trans S14 (same_trans S15 (same_trans S16 (same_trans S17 (same_trans S18 (same_trans S19 (same_trans S20 (same_trans S21 (same_trans S22 S23))))))))))))))))))⟩
      · exact ⟨a5, rfl, xa5.same (same_trans S6 (same_trans S7 (same_trans S8 (same_trans S9 (same_trans S10 (same_trans S11 (same_trans S12 (same_trans S13 (same_trans S14 (same_trans S15 (same_trans S16 (same_trans S17 (same_trans S18 (same_trans S19 (same_trans S20 (same_trans S21 (same_trans S22 S23)))))))))))))))))⟩
      · exact ⟨a6, rfl, xa6.same (same_trans S7 (same_trans S8 (same_trans S9 (same_trans S10 (same_trans S11 (same_trans S12 (same_trans S13 (same_trans S14 (same_trans S15 (same_trans S16 (same_trans S17 (same_trans S18 (same_trans S19 (same_trans S20 (same_trans S21 (same_trans S22 S23))))))))))))))))⟩
      · exact ⟨a7, rfl, xa7.same (same_trans S9 (same_trans S10 (same_trans S11 (same_trans S12 (same_trans S13 (same_trans S14 (same_trans S15 (same_trans S16 (same_trans S17 (same_trans S18 (same_trans S19 (same_trans S20 (same_trans S21 (same_trans S22 S23))))))))))))))⟩
      · exact ⟨a8, rfl, xa8.same (same_trans S10 (same_trans S11 (same_trans S12 (same_trans S13 (same_trans S14 (same_trans S15 (same_trans S16 (same_trans S17 (same_trans S18 (same_trans S19 (same_trans S20 (same_trans S21 (same_trans S22 S23)))))))))))))⟩
    have allf : ∀ j, j < 9 → ∃ e, ([V.ref b0, V.ref b1, V.ref b2, V.ref b3, V.ref b4] ++ [V.ref b5, V.ref b6, V.ref b7, V.ref b8])[j]? = some (V.ref e) ∧ ExcAt g24 e (c j) (flC j) q := by
      intro j hj
      have cases9 : j = 0 ∨ j = 1 ∨ j = 2 ∨ j = 3 ∨ j = 4 ∨ j = 5 ∨ j = 6 ∨ j = 7 ∨ j = 8 := by omega
      rcases cases9 with rfl | rfl | rfl | rfl | rfl | rfl | rfl | rfl | rfl
      · exact ⟨b0, rfl, xb0.same (same_trans S13 (same_trans S14 (same_trans S15 (same_trans S16 (same_trans S17 (same_trans S18 (same_trans S19 (same_trans S20 (same_trans S21 (same_trans S22 S23))))))))))⟩
      · exact ⟨b1, rfl, xb1.same (same_trans S14 (same_trans S15 (same_trans S16 (same_trans S17 (same_trans S18 (same_trans S19 (same_trans S20 (same_trans S21 (same_trans S22 S23)))))))))⟩
      · exact ⟨b2, rfl, xb2.same (same_trans S15 (same_trans S16 (same_trans S17 (same_trans S18 (same_trans S19 (same_trans S20 (same_trans S21 (same_trans S22 S23))))))))⟩
      · exact ⟨b3, rfl, xb3.same (same_trans S16 (same_trans S17 (same_trans S18 (same_trans S19 (same_trans S20 (same_trans S21 (same_trans S22 S23)))))))⟩
      · exact ⟨b4, rfl, xb4.same (same_trans S17 (same_trans S18 (same_trans S19 (same_trans S20 (same_trans S21 (same_trans S22 S23))))))⟩
      · exact ⟨b5, rfl, xb5.same (same_trans S19 (same_trans S20 (same_trans S21 (same_trans S22 S23))))⟩
      · exact ⟨b6, rfl, xb6.same (same_trans S20 (same_trans S21 (same_trans S22 S23)))⟩
      · exact ⟨b7, rfl, xb7.same (same_trans S21 (same_trans S22 S23))⟩
      · exact ⟨b8, rfl, xb8.same (same_trans S22 S23)⟩
    have lens : ([V.ref a0, V.ref a1, V.ref a2, V.ref a3, V.ref a4, V.ref a5, V.ref a6] ++ [V.ref a7, V.ref a8]).length = 9 := rfl
    generalize [V.ref a0, V.ref a1, V.ref a2, V.ref a3, V.ref a4, V.ref a5, V.ref a6] ++ [V.ref a7, V.ref a8] = someL at hsome alls lens
    generalize [V.ref b0, V.ref b1, V.ref b2, V.ref b3, V.ref b4] ++ [V.ref b5, V.ref b6, V.ref b7, V.ref b8] = farL at op6 allf
    clear S0 S1 S2 S3 S4 S5 S6 S7 S8 S9 S10 S11 S12 S13 S14 S15 S16 S17 S18 S19 S20 S21 S22 S23 xa0 xb0 na0 nb0 xa1 xb1 na1 nb1 xa2 xb2 na2 nb2 xa3 xb3 na3 nb3 xa4 xb4 na4 nb4 xa5 xb5 na5 nb5 xa6 xb6 na6 nb6 xa7 xb7 na7 nb7 xa8 xb8 na8 nb8 np1 np2 np3 np4 np5 np6 op1 op2 op3 op4 op5
    refine ⟨_, rfl, p3, _, rfl, SqL.of hsome, for_it walk_enum (fun j σ' H' => ∃ w6 w7 w8 : Option V, σ' = [some (V.ref a), some (V.ref m), some (V.int (0 + i)), some q, some (V.ref p3), some (V.ref p6), w6, w7, w8, v9] ∧ Same g24 H')
      ⟨_, _, _, rfl, same_refl⟩ (fun j σ' H' _ ⟨_, _, _, _, t⟩ => SqL.of (t _ _ hsome)) ?_ ?_⟩
    · rintro j x' σ' H' H'' hj ⟨w6, w7, w8, rfl, t⟩ ⟨tp, xi, y, rfl, ntp, rfl, e1, e2⟩
      rw [lens] at hj
      obtain ⟨aj, hja, xa⟩ := alls j hj
      obtain ⟨bj, hjb, xb⟩ := allf j hj
      have e1' : V.int (j : Int) = xi := Option.some.inj e1
      subst e1'
      have e2' : V.ref aj = y := Option.some.inj (hja.symm.trans e2)
      subst e2'
      have st : Same g24 (upd H' tp (.tup [.int (j : Int), .ref aj])) := same_trans t (same_new ntp)
      refine ⟨tp, _, rfl, SqT.of upd_same, rfl, _, _, rfl, _, _, rfl, rfl, ?_⟩
      generalize upd H' tp (HO.tup [V.int (j : Int), V.ref aj]) = k0 at st ⊢
      -- the field, by position and by name
      refine ⟨_, rfl, aj, j, q, rfl, hj, xa.same st, fun k1 t1 => good' k1 (same_trans st t1) _ ⟨_, rfl, good' k1 (same_trans st t1) _ ⟨rfl, _, rfl, iteNS rfl ?_⟩⟩⟩
      refine ⟨_, rfl, _, rfl, p6, _, (j : Int), .ref bj, rfl, rfl, SqL.of ((same_trans st t1) _ _ op6), atI_nat hjb, bj, j, q, rfl, hj, xb.same (same_trans st t1), fun k2 t2 => good' k2 (same_trans st (same_trans t1 t2)) _ ⟨_, rfl, good' k2 (same_trans st (same_trans t1 t2)) _ ⟨rfl, _, rfl, iteNS rfl ?_⟩⟩⟩
      have u2 : Same g24 k2 := same_trans st (same_trans t1 t2)
      -- the classes
      refine ⟨_, rfl, aj, j, q, rfl, hj, xa.same u2, fun pk k3 t3 ek => ?_⟩
      refine ⟨9, rfl, by decide, by decide, fun D nD => lc_range (lo := 0) (n := 9) (fun n H => Same k3 H ∧ H D = some (.lst ((List.range n).map fun j' => V.bl (decide (j = j'))))) ⟨same_new nD, upd_same⟩ ?_ ?_⟩
      · rintro n H4 hn4 ⟨t4, e4⟩
        refine ⟨rfl, ?_⟩
        unfold tYes
        try dsimp only
        rw [if_pos rfl]
        refine ⟨_, rfl, _, rfl, rfl, _, e4, small1000 (by rw [List.length_map, List.length_range]; omega), fun b o e => ?_, ?_⟩
        · rw [upd_ne (ne_of_none e nD)]
          exact t4 b o e
        · rw [upd_same, List.range_succ, List.map_append, List.map_cons, List.map_nil]
          have z : decide (V.int (0 + (n : Int)) = V.int (j : Int)) = decide (j = n) := by
            rw [dec_int]
            by_cases e : j = n
            · subst e
              simp
            · have e' : ((0 + (n : Int)) == (j : Int)) = false := by
                simp
                omega
              rw [e', decide_eq_false e]
          rw [z]
      · rintro H4 ⟨t4, e4⟩
        have u4 : Same g24 H4 := same_trans u2 (same_trans t3 t4)
        refine ⟨_, _, dp_bools (SqL.of (t4 _ _ ek)), dp_bools (SqL.of e4), shaped_bools _, shaped_bools _, _, rfl, ?_⟩
        rw [eqv_bools]
        refine iteF ?_
        refine ⟨_, rfl, _, rfl, p6, _, (j : Int), .ref bj, rfl, rfl, SqL.of (u4 _ _ op6), atI_nat hjb, bj, j, q, rfl, hj, xb.same u4, fun q1 k5 t5 e5 => ?_⟩
        refine ⟨_, rfl, aj, j, q, rfl, hj, xa.same (same_trans u4 t5), fun q2 k6 t6 e6 => ?_⟩
        refine ⟨_, _, dp_bools (SqL.of (t6 _ _ e5)), dp_bools (SqL.of e6), shaped_bools _, shaped_bools _, _, rfl, ?_⟩
        rw [eqv_bools]
        refine iteF ?_
        have u6 : Same g24 k6 := same_trans u4 (same_trans t5 t6)
        -- the built-in classes
        refine ⟨_, rfl, aj, c j, flC j, q, .ref cJ, .ref cJ, _, rfl, .own _, T.q j hj, xa.same u6, T.isJ j hj, _, rfl, aj, c j, flC j, q, .ty "ValueError", .type "ValueError", _, rfl, .ty _, T.q j hj, xa.same u6, T.isV j hj, _, rfl, aj, c j, flC j, q, .ty "LookupError", .type "LookupError", _, rfl, .ty _, T.q j hj, xa.same u6, T.isL j hj, by show 3 ≤ sizeLine; decide, fun r0 nr0 => ?_⟩
        have v0 : Same k6 (upd k6 r0 (.lst [V.bl (decide (j < 7)), V.bl (decide (j < 7)), V.bl (decide (j = 7))])) := same_new nr0
        have w0 : (upd k6 r0 (.lst [V.bl (decide (j < 7)), V.bl (decide (j < 7)), V.bl (decide (j = 7))])) r0 = some (.lst [V.bl (decide (j < 7)), V.bl (decide (j < 7)), V.bl (decide (j = 7))]) := upd_same
        generalize upd k6 r0 (HO.lst [V.bl (decide (j < 7)), V.bl (decide (j < 7)), V.bl (decide (j = 7))]) = k7 at v0 w0 ⊢
        have u7 : Same g24 k7 := same_trans u6 v0
        refine ⟨_, rfl, _, rfl, aj, c j, flC j, q, .ty "OverflowError", .type "OverflowError", _, rfl, .ty _, T.q j hj, xa.same u7, T.isO j hj, _, rfl, by show 2 ≤ sizeLine; decide, fun tt ntt => ⟨aj, c j, tt, flC j, q, [.ty "KeyError", .ty "IndexError"], [.type "KeyError", .type "IndexError"], _, rfl, upd_same, .cons (.ty _) (.cons (.ty _) .nil), T.q j hj, (xa.same u7).same (same_new ntt), T.isK j hj, by show 2 ≤ sizeLine; decide, fun r1 nr1 => ?_⟩⟩
        have v1 : Same k7 (upd k7 tt (.tup [.ty "KeyError", .ty "IndexError"])) := same_new ntt
        generalize upd k7 tt (HO.tup [V.ty "KeyError", V.ty "IndexError"]) = k8 at v1 nr1 ⊢
        have v2' : Same k8 (upd k8 r1 (.lst [.bl (decide (j = 8)), .bl false])) := same_new nr1
        have w1 : (upd k8 r1 (.lst [.bl (decide (j = 8)), .bl false])) r1 = some (.lst [.bl (decide (j = 8)), .bl false]) := upd_same
        generalize upd k8 r1 (HO.lst [V.bl (decide (j = 8)), V.bl false]) = k9 at v2' w1 ⊢
        refine ⟨r0, r1, _, _, rfl, rfl, (same_trans v1 v2') _ _ w0, w1, by show 5 ≤ sizeLine; decide, fun r2 nr2 => ?_⟩
        have v3' : Same k9 (upd k9 r2 (.lst ([V.bl (decide (j < 7)), V.bl (decide (j < 7)), V.bl (decide (j = 7))] ++ [V.bl (decide (j = 8)), V.bl false]))) := same_new nr2
        have w2 : (upd k9 r2 (.lst ([V.bl (decide (j < 7)), V.bl (decide (j < 7)), V.bl (decide (j = 7))] ++ [V.bl (decide (j = 8)), V.bl false]))) r2 = some (.lst ([V.bl (decide (j < 7)), V.bl (decide (j < 7)), V.bl (decide (j = 7))] ++ [V.bl (decide (j = 8)), V.bl false])) := upd_same
        generalize upd k9 r2 (HO.lst ([V.bl (decide (j < 7)), V.bl (decide (j < 7)), V.bl (decide (j = 7))] ++ [V.bl (decide (j = 8)), V.bl false])) = k10 at v3' w2 ⊢
        have u10 : Same g24 k10 := same_trans u7 (same_trans v1 (same_trans v2' v3'))
        have hb1 : decide ((j : Int) < 7) = decide (j < 7) := decide_eq_decide.mpr ⟨fun e => by omega, fun e => by omega⟩
        have hb2 : decide (V.int (j : Int) = V.int 7) = decide (j = 7) := decide_eq_decide.mpr ⟨fun e => by cases e; rfl, fun e => by rw [e]; rfl⟩
        have hb3 : decide (V.int (j : Int) = V.int 8) = decide (j = 8) := decide_eq_decide.mpr ⟨fun e => by cases e; rfl, fun e => by rw [e]; rfl⟩
        refine ⟨_, rfl, _, rfl, _, _, rfl, rfl, _, rfl, _, _, rfl, rfl, _, rfl, rfl, _, rfl, rfl, by show 5 ≤ sizeLine; decide, fun r3 nr3 => ?_⟩
        have dA : Dp K (upd k10 r3 (.lst [V.bl (decide ((j : Int) < 7)), V.bl (decide ((j : Int) < 7)), V.bl (decide (V.int (j : Int) = V.int 7)), V.bl (decide (V.int (j : Int) = V.int 8)), V.bl false])) (.ref r2) (.list ([decide (j < 7), decide (j < 7), decide (j = 7), decide (j = 8), false].map PyData.bool)) :=
          .lst (SqL.of (same_new nr3 _ _ w2)) (dp_bs [decide (j < 7), decide (j < 7), decide (j = 7), decide (j = 8), false])
        have dB : Dp K (upd k10 r3 (.lst [V.bl (decide ((j : Int) < 7)), V.bl (decide ((j : Int) < 7)), V.bl (decide (V.int (j : Int) = V.int 7)), V.bl (decide (V.int (j : Int) = V.int 8)), V.bl false])) (.ref r3) (.list ([decide (j < 7), decide (j < 7), decide (j = 7), decide (j = 8), false].map PyData.bool)) := by
          rw [hb1, hb2, hb3]
          exact .lst (SqL.of upd_same) (dp_bs [decide (j < 7), decide (j < 7), decide (j = 7), decide (j = 8), false])
        refine ⟨_, _, dA, dB, shaped_bools _, shaped_bools _, _, rfl, ?_⟩
        rw [eqv_bools]
        exact iteF ⟨_, _, _, rfl, same_trans u10 (same_new nr3)⟩
    · rintro σ' H' ⟨w6, w7, w8, rfl, t⟩
      exact ⟨l2, ls2, n2, _, _, _, _, _, _, _, _, rfl, M24.same t, by omega⟩
  · rintro σ' H' ⟨l', ls', n', v2, v3, v4, v5, v6, v7, v8, v9, rfl, M', hn'⟩
    intro e ne
    exact ⟨e, cJ, .ty "ValueError", .type "ValueError", true, rfl, .ty _, T.qJ, upd_same, T.vJ, k _⟩
end
end K70

set_option Elab.async false
set_option linter.all false
set_option maxRecDepth 100000
set_option maxHeartbeats 4000000
namespace K70
open PySem L2 L2H XH PySem.W
abbrev mro (B : String) : List Value := if B = "OverflowError" then [.type "OverflowError", .type "ArithmeticError", .type "Exception", .type "BaseException", .type "object"] else [.type B, .type "Exception", .type "BaseException", .type "object"]
/-- what is asked of a class and its maker, in one look -/
def exB (K : Frag) (C fI cda : Addr) (f qn : Str) (B newId initId : String) (bmB : List Value) : Bool :=
  excInitIn K C bmB newId && (excOver K C bmB && (hasDictIn K C && (decide (findIn K (.ref C) "__init__" = some (some (.ref fI))) && (isFn K (.ref fI) && (codeIn K (.ref cda) qn &&
  (decide (ks_superIn K C C "__init__" = some (some (.builtin initId))) && (decide (subIn K (.ref C) (.type B) = some true) && (decide (mroIn K C (.ref C) = some true) && (decide (nsIn K cStatics "thirdparty.any" = some none) &&
  (decide (findIn K (.ref C) "__setattr__" = some (some (.builtin "object.__setattr__"))) && decide (findIn K (.ref C) f = some none)))))))))))
def exQ (K : Frag) (C : Addr) : Bool :=
  (clsIn K C).isSome && (hasDictIn K C && (decide (findIn K (.ref C) "__getattribute__" = some (some (.builtin "BaseException.__getattribute__"))) && (decide (findIn K (.ref C) "__getattr__" = some none) &&
  (decide (subIn K (.ref C) (.type "BaseException") = some true) && (decide (findIn K (.ref C) "__class__" = some (some (.builtin "object.__class__"))) &&
  (decide (specialIn K (.builtin "object.__class__") "__get__" = some (some (.builtin "getset_descriptor.__get__"))) && (decide (takesIn K (.builtin "object.__class__") = some true) && (decide (mroIn K C (.type "object") = some true) && keepIn K (.ref C)))))))))
theorem exQ_ok {K : Frag} {C : Addr} (h : exQ K C = true) : ExQ K C ∧ keepIn K (.ref C) = true := by
  simp only [exQ, Bool.and_eq_true, decide_eq_true_eq] at h
  obtain ⟨h1, h2, h3, h4, h5, h6, h7, h8, h9, h10⟩ := h
  exact ⟨⟨h1, h2, h3, h4, h5, h6, h7, h8, h9⟩, h10⟩
/-- the written answers of isinstance among the classes -/
def kitsB (K : Frag) (c : Nat → Addr) (cJ : Addr) : Bool :=
  (List.range 9).all fun i => (List.range 9).all (fun j => decide (kitOne K (.ref (c i)) (.ref (c j)) = some (decide (i = j)))) && (decide (kitOne K (.ref (c i)) (.ref cJ) = some (decide (i < 7))) &&
    (decide (kitOne K (.ref (c i)) (.type "ValueError") = some (decide (i < 7))) && (decide (kitOne K (.ref (c i)) (.type "LookupError") = some (decide (i = 7))) &&
    (decide (kitOne K (.ref (c i)) (.type "OverflowError") = some (decide (i = 8))) && decide (kitAny K (.ref (c i)) [.type "KeyError", .type "IndexError"] = some false)))))
theorem kitsB_at {K : Frag} {c : Nat → Addr} {cJ : Addr} (h : kitsB K c cJ = true) {i : Nat} (hi : i < 9) :
    (∀ j, j < 9 → kitOne K (.ref (c i)) (.ref (c j)) = some (decide (i = j))) ∧ kitOne K (.ref (c i)) (.ref cJ) = some (decide (i < 7)) ∧ kitOne K (.ref (c i)) (.type "ValueError") = some (decide (i < 7)) ∧
    kitOne K (.ref (c i)) (.type "LookupError") = some (decide (i = 7)) ∧ kitOne K (.ref (c i)) (.type "OverflowError") = some (decide (i = 8)) ∧ kitAny K (.ref (c i)) [.type "KeyError", .type "IndexError"] = some false := by
  have z := List.all_eq_true.mp h i (List.mem_range.mpr hi)
  simp only [Bool.and_eq_true, decide_eq_true_eq] at z
  obtain ⟨z0, z1, z2, z3, z4, z5⟩ := z
  refine ⟨fun j hj => ?_, z1, z2, z3, z4, z5⟩
  have y := List.all_eq_true.mp z0 j (List.mem_range.mpr hj)
  exact of_decide_eq_true y
theorem scopeOk : ∀ f ∈ (["value", "place", "line", "paper", "most"] : List Str), (iScope f).names.lookup ("self" : Str) = some .local ∧ (iScope f).names.lookup f = some .local ∧ (iScope f).names.lookup ("__class__" : Str) = some .free ∧
    (iScope f).names.lookup ("super" : Str) = some .globalImplicit ∧ (∀ x ∈ (iScope f).names, x.2 ≠ .cell) ∧ (f == ("__debug__" : Str)) = false ∧ ¬ ("self" : Str) = f := by decide +kernel

theorem ext0 {K : Frag} {mg : Str → Option Value} {C fI cda cc : Addr} {oc doc pm ct ccl cl : Value} {od an cdd cld : Option Addr} {osl ccs csl : Array (Option Value)} {vs : Array Value} {file : Str} {tf : Tok}
    (l1 : K.lookup fI = some ⟨oc, od, .func (ksFn "__init__" "BadTree.__init__" (defArgs (inClass (top 2) 0)) (defBody (inClass (top 2) 0)) (defScope (inClass (top 2) 0)) .none .none doc pm an (.ref cda) ct cc), osl⟩) (l2 : K.lookup cda = some ⟨ccl, cdd, .fields vs, ccs⟩) (h2 : vs[2]? = some (.str file tf)) (hf : ((PySem.Challenge.pw_onlyjoins_k70_errors.main.file : Str) == file) = true)
    (l3 : K.lookup cc = some ⟨cl, cld, .cell (some (.ref C)), csl⟩) (b : exB K C fI cda "value" "BadTree.__init__" "ValueError" "ValueError.__new__" "ValueError.__init__" (mro "ValueError") = true) (gs : mg "super" = none) :
    ∃ fI fd qn B newId initId bmB, ExT PySem.Challenge.pw_onlyjoins_k70_errors K mg C fI fd "value" qn B newId initId bmB := by
  simp only [exB, Bool.and_eq_true, decide_eq_true_eq] at b
  obtain ⟨b1, b2, b3, b4, b5, b6, b7, b8, b9, b10, b11, b12⟩ := b
  obtain ⟨s0, s1, s2, s3, s4, s5, s6⟩ := scopeOk "value" (by decide +kernel)
  exact ⟨fI, ksFn "__init__" "BadTree.__init__" (defArgs (inClass (top 2) 0)) (defBody (inClass (top 2) 0)) (defScope (inClass (top 2) 0)) .none .none doc pm an (.ref cda) ct cc, "BadTree.__init__", "ValueError", "ValueError.__new__", "ValueError.__init__", mro "ValueError",
    { FB := PySem.F.excBase_ValueError, KF := kxs_ValueError, SF := PySem.F.store_ValueError, q := b1, ov := b2, hd := b3, iC := b4, isf := b5, sup := b7, sB := b8, sC := b9, op := b10, sa := b11, nf := b12, mgS := gs,
      fn := ⟨oc, doc, pm, ct, od, an, cda, cc, osl, _, _, _, _, _, _, _, _, _, _, _, _, _, by exact rfl, rfl, l1, b6, ⟨ccl, cdd, vs, ccs, file, tf, l2, h2, hf⟩, cl, cld, csl, l3⟩,
      tp := by decide +kernel, l0 := s0, l1 := s1, l2 := s2, l3 := s3, lc := s4, ld := s5, lf := s6,
      bp := fun s x v => .of_eq rfl, bk := fun s x v => .of_eq rfl }⟩
theorem ext1 {K : Frag} {mg : Str → Option Value} {C fI cda cc : Addr} {oc doc pm ct ccl cl : Value} {od an cdd cld : Option Addr} {osl ccs csl : Array (Option Value)} {vs : Array Value} {file : Str} {tf : Tok}
    (l1 : K.lookup fI = some ⟨oc, od, .func (ksFn "__init__" "BadRules.__init__" (defArgs (inClass (top 3) 0)) (defBody (inClass (top 3) 0)) (defScope (inClass (top 3) 0)) .none .none doc pm an (.ref cda) ct cc), osl⟩) (l2 : K.lookup cda = some ⟨ccl, cdd, .fields vs, ccs⟩) (h2 : vs[2]? = some (.str file tf)) (hf : ((PySem.Challenge.pw_onlyjoins_k70_errors.main.file : Str) == file) = true)
    (l3 : K.lookup cc = some ⟨cl, cld, .cell (some (.ref C)), csl⟩) (b : exB K C fI cda "place" "BadRules.__init__" "ValueError" "ValueError.__new__" "ValueError.__init__" (mro "ValueError") = true) (gs : mg "super" = none) :
    ∃ fI fd qn B newId initId bmB, ExT PySem.Challenge.pw_onlyjoins_k70_errors K mg C fI fd "place" qn B newId initId bmB := by
  simp only [exB, Bool.and_eq_true, decide_eq_true_eq] at b
  obtain ⟨b1, b2, b3, b4, b5, b6, b7, b8, b9, b10, b11, b12⟩ := b
  obtain ⟨s0, s1, s2, s3, s4, s5, s6⟩ := scopeOk "place" (by decide +kernel)
  exact ⟨fI, ksFn "__init__" "BadRules.__init__" (defArgs (inClass (top 3) 0)) (defBody (inClass (top 3) 0)) (defScope (inClass (top 3) 0)) .none .none doc pm an (.ref cda) ct cc, "BadRules.__init__", "ValueError", "ValueError.__new__", "ValueError.__init__", mro "ValueError",
    { FB := PySem.F.excBase_ValueError, KF := kxs_ValueError, SF := PySem.F.store_ValueError, q := b1, ov := b2, hd := b3, iC := b4, isf := b5, sup := b7, sB := b8, sC := b9, op := b10, sa := b11, nf := b12, mgS := gs,
      fn := ⟨oc, doc, pm, ct, od, an, cda, cc, osl, _, _, _, _, _, _, _, _, _, _, _, _, _, by exact rfl, rfl, l1, b6, ⟨ccl, cdd, vs, ccs, file, tf, l2, h2, hf⟩, cl, cld, csl, l3⟩,
      tp := by decide +kernel, l0 := s0, l1 := s1, l2 := s2, l3 := s3, lc := s4, ld := s5, lf := s6,
      bp := fun s x v => .of_eq rfl, bk := fun s x v => .of_eq rfl }⟩
theorem ext2 {K : Frag} {mg : Str → Option Value} {C fI cda cc : Addr} {oc doc pm ct ccl cl : Value} {od an cdd cld : Option Addr} {osl ccs csl : Array (Option Value)} {vs : Array Value} {file : Str} {tf : Tok}
    (l1 : K.lookup fI = some ⟨oc, od, .func (ksFn "__init__" "BadStore.__init__" (defArgs (inClass (top 4) 0)) (defBody (inClass (top 4) 0)) (defScope (inClass (top 4) 0)) .none .none doc pm an (.ref cda) ct cc), osl⟩) (l2 : K.lookup cda = some ⟨ccl, cdd, .fields vs, ccs⟩) (h2 : vs[2]? = some (.str file tf)) (hf : ((PySem.Challenge.pw_onlyjoins_k70_errors.main.file : Str) == file) = true)
    (l3 : K.lookup cc = some ⟨cl, cld, .cell (some (.ref C)), csl⟩) (b : exB K C fI cda "place" "BadStore.__init__" "ValueError" "ValueError.__new__" "ValueError.__init__" (mro "ValueError") = true) (gs : mg "super" = none) :
    ∃ fI fd qn B newId initId bmB, ExT PySem.Challenge.pw_onlyjoins_k70_errors K mg C fI fd "place" qn B newId initId bmB := by
  simp only [exB, Bool.and_eq_true, decide_eq_true_eq] at b
  obtain ⟨b1, b2, b3, b4, b5, b6, b7, b8, b9, b10, b11, b12⟩ := b
  obtain ⟨s0, s1, s2, s3, s4, s5, s6⟩ := scopeOk "place" (by decide +kernel)
  exact ⟨fI, ksFn "__init__" "BadStore.__init__" (defArgs (inClass (top 4) 0)) (defBody (inClass (top 4) 0)) (defScope (inClass (top 4) 0)) .none .none doc pm an (.ref cda) ct cc, "BadStore.__init__", "ValueError", "ValueError.__new__", "ValueError.__init__", mro "ValueError",
    { FB := PySem.F.excBase_ValueError, KF := kxs_ValueError, SF := PySem.F.store_ValueError, q := b1, ov := b2, hd := b3, iC := b4, isf := b5, sup := b7, sB := b8, sC := b9, op := b10, sa := b11, nf := b12, mgS := gs,
      fn := ⟨oc, doc, pm, ct, od, an, cda, cc, osl, _, _, _, _, _, _, _, _, _, _, _, _, _, by exact rfl, rfl, l1, b6, ⟨ccl, cdd, vs, ccs, file, tf, l2, h2, hf⟩, cl, cld, csl, l3⟩,
      tp := by decide +kernel, l0 := s0, l1 := s1, l2 := s2, l3 := s3, lc := s4, ld := s5, lf := s6,
      bp := fun s x v => .of_eq rfl, bk := fun s x v => .of_eq rfl }⟩
theorem ext3 {K : Frag} {mg : Str → Option Value} {C fI cda cc : Addr} {oc doc pm ct ccl cl : Value} {od an cdd cld : Option Addr} {osl ccs csl : Array (Option Value)} {vs : Array Value} {file : Str} {tf : Tok}
    (l1 : K.lookup fI = some ⟨oc, od, .func (ksFn "__init__" "BadUnfolding.__init__" (defArgs (inClass (top 5) 0)) (defBody (inClass (top 5) 0)) (defScope (inClass (top 5) 0)) .none .none doc pm an (.ref cda) ct cc), osl⟩) (l2 : K.lookup cda = some ⟨ccl, cdd, .fields vs, ccs⟩) (h2 : vs[2]? = some (.str file tf)) (hf : ((PySem.Challenge.pw_onlyjoins_k70_errors.main.file : Str) == file) = true)
    (l3 : K.lookup cc = some ⟨cl, cld, .cell (some (.ref C)), csl⟩) (b : exB K C fI cda "value" "BadUnfolding.__init__" "ValueError" "ValueError.__new__" "ValueError.__init__" (mro "ValueError") = true) (gs : mg "super" = none) :
    ∃ fI fd qn B newId initId bmB, ExT PySem.Challenge.pw_onlyjoins_k70_errors K mg C fI fd "value" qn B newId initId bmB := by
  simp only [exB, Bool.and_eq_true, decide_eq_true_eq] at b
  obtain ⟨b1, b2, b3, b4, b5, b6, b7, b8, b9, b10, b11, b12⟩ := b
  obtain ⟨s0, s1, s2, s3, s4, s5, s6⟩ := scopeOk "value" (by decide +kernel)
  exact ⟨fI, ksFn "__init__" "BadUnfolding.__init__" (defArgs (inClass (top 5) 0)) (defBody (inClass (top 5) 0)) (defScope (inClass (top 5) 0)) .none .none doc pm an (.ref cda) ct cc, "BadUnfolding.__init__", "ValueError", "ValueError.__new__", "ValueError.__init__", mro "ValueError",
    { FB := PySem.F.excBase_ValueError, KF := kxs_ValueError, SF := PySem.F.store_ValueError, q := b1, ov := b2, hd := b3, iC := b4, isf := b5, sup := b7, sB := b8, sC := b9, op := b10, sa := b11, nf := b12, mgS := gs,
      fn := ⟨oc, doc, pm, ct, od, an, cda, cc, osl, _, _, _, _, _, _, _, _, _, _, _, _, _, by exact rfl, rfl, l1, b6, ⟨ccl, cdd, vs, ccs, file, tf, l2, h2, hf⟩, cl, cld, csl, l3⟩,
      tp := by decide +kernel, l0 := s0, l1 := s1, l2 := s2, l3 := s3, lc := s4, ld := s5, lf := s6,
      bp := fun s x v => .of_eq rfl, bk := fun s x v => .of_eq rfl }⟩
theorem ext4 {K : Frag} {mg : Str → Option Value} {C fI cda cc : Addr} {oc doc pm ct ccl cl : Value} {od an cdd cld : Option Addr} {osl ccs csl : Array (Option Value)} {vs : Array Value} {file : Str} {tf : Tok}
    (l1 : K.lookup fI = some ⟨oc, od, .func (ksFn "__init__" "BadNumber.__init__" (defArgs (inClass (top 6) 0)) (defBody (inClass (top 6) 0)) (defScope (inClass (top 6) 0)) .none .none doc pm an (.ref cda) ct cc), osl⟩) (l2 : K.lookup cda = some ⟨ccl, cdd, .fields vs, ccs⟩) (h2 : vs[2]? = some (.str file tf)) (hf : ((PySem.Challenge.pw_onlyjoins_k70_errors.main.file : Str) == file) = true)
    (l3 : K.lookup cc = some ⟨cl, cld, .cell (some (.ref C)), csl⟩) (b : exB K C fI cda "value" "BadNumber.__init__" "ValueError" "ValueError.__new__" "ValueError.__init__" (mro "ValueError") = true) (gs : mg "super" = none) :
    ∃ fI fd qn B newId initId bmB, ExT PySem.Challenge.pw_onlyjoins_k70_errors K mg C fI fd "value" qn B newId initId bmB := by
  simp only [exB, Bool.and_eq_true, decide_eq_true_eq] at b
  obtain ⟨b1, b2, b3, b4, b5, b6, b7, b8, b9, b10, b11, b12⟩ := b
  obtain ⟨s0, s1, s2, s3, s4, s5, s6⟩ := scopeOk "value" (by decide +kernel)
  exact ⟨fI, ksFn "__init__" "BadNumber.__init__" (defArgs (inClass (top 6) 0)) (defBody (inClass (top 6) 0)) (defScope (inClass (top 6) 0)) .none .none doc pm an (.ref cda) ct cc, "BadNumber.__init__", "ValueError", "ValueError.__new__", "ValueError.__init__", mro "ValueError",
    { FB := PySem.F.excBase_ValueError, KF := kxs_ValueError, SF := PySem.F.store_ValueError, q := b1, ov := b2, hd := b3, iC := b4, isf := b5, sup := b7, sB := b8, sC := b9, op := b10, sa := b11, nf := b12, mgS := gs,
      fn := ⟨oc, doc, pm, ct, od, an, cda, cc, osl, _, _, _, _, _, _, _, _, _, _, _, _, _, by exact rfl, rfl, l1, b6, ⟨ccl, cdd, vs, ccs, file, tf, l2, h2, hf⟩, cl, cld, csl, l3⟩,
      tp := by decide +kernel, l0 := s0, l1 := s1, l2 := s2, l3 := s3, lc := s4, ld := s5, lf := s6,
      bp := fun s x v => .of_eq rfl, bk := fun s x v => .of_eq rfl }⟩
theorem ext5 {K : Frag} {mg : Str → Option Value} {C fI cda cc : Addr} {oc doc pm ct ccl cl : Value} {od an cdd cld : Option Addr} {osl ccs csl : Array (Option Value)} {vs : Array Value} {file : Str} {tf : Tok}
    (l1 : K.lookup fI = some ⟨oc, od, .func (ksFn "__init__" "BadPaper.__init__" (defArgs (inClass (top 7) 0)) (defBody (inClass (top 7) 0)) (defScope (inClass (top 7) 0)) .none .none doc pm an (.ref cda) ct cc), osl⟩) (l2 : K.lookup cda = some ⟨ccl, cdd, .fields vs, ccs⟩) (h2 : vs[2]? = some (.str file tf)) (hf : ((PySem.Challenge.pw_onlyjoins_k70_errors.main.file : Str) == file) = true)
    (l3 : K.lookup cc = some ⟨cl, cld, .cell (some (.ref C)), csl⟩) (b : exB K C fI cda "place" "BadPaper.__init__" "ValueError" "ValueError.__new__" "ValueError.__init__" (mro "ValueError") = true) (gs : mg "super" = none) :
    ∃ fI fd qn B newId initId bmB, ExT PySem.Challenge.pw_onlyjoins_k70_errors K mg C fI fd "place" qn B newId initId bmB := by
  simp only [exB, Bool.and_eq_true, decide_eq_true_eq] at b
  obtain ⟨b1, b2, b3, b4, b5, b6, b7, b8, b9, b10, b11, b12⟩ := b
  obtain ⟨s0, s1, s2, s3, s4, s5, s6⟩ := scopeOk "place" (by decide +kernel)
  exact ⟨fI, ksFn "__init__" "BadPaper.__init__" (defArgs (inClass (top 7) 0)) (defBody (inClass (top 7) 0)) (defScope (inClass (top 7) 0)) .none .none doc pm an (.ref cda) ct cc, "BadPaper.__init__", "ValueError", "ValueError.__new__", "ValueError.__init__", mro "ValueError",
    { FB := PySem.F.excBase_ValueError, KF := kxs_ValueError, SF := PySem.F.store_ValueError, q := b1, ov := b2, hd := b3, iC := b4, isf := b5, sup := b7, sB := b8, sC := b9, op := b10, sa := b11, nf := b12, mgS := gs,
      fn := ⟨oc, doc, pm, ct, od, an, cda, cc, osl, _, _, _, _, _, _, _, _, _, _, _, _, _, by exact rfl, rfl, l1, b6, ⟨ccl, cdd, vs, ccs, file, tf, l2, h2, hf⟩, cl, cld, csl, l3⟩,
      tp := by decide +kernel, l0 := s0, l1 := s1, l2 := s2, l3 := s3, lc := s4, ld := s5, lf := s6,
      bp := fun s x v => .of_eq rfl, bk := fun s x v => .of_eq rfl }⟩
theorem ext6 {K : Frag} {mg : Str → Option Value} {C fI cda cc : Addr} {oc doc pm ct ccl cl : Value} {od an cdd cld : Option Addr} {osl ccs csl : Array (Option Value)} {vs : Array Value} {file : Str} {tf : Tok}
    (l1 : K.lookup fI = some ⟨oc, od, .func (ksFn "__init__" "BadText.__init__" (defArgs (inClass (top 8) 0)) (defBody (inClass (top 8) 0)) (defScope (inClass (top 8) 0)) .none .none doc pm an (.ref cda) ct cc), osl⟩) (l2 : K.lookup cda = some ⟨ccl, cdd, .fields vs, ccs⟩) (h2 : vs[2]? = some (.str file tf)) (hf : ((PySem.Challenge.pw_onlyjoins_k70_errors.main.file : Str) == file) = true)
    (l3 : K.lookup cc = some ⟨cl, cld, .cell (some (.ref C)), csl⟩) (b : exB K C fI cda "line" "BadText.__init__" "ValueError" "ValueError.__new__" "ValueError.__init__" (mro "ValueError") = true) (gs : mg "super" = none) :
    ∃ fI fd qn B newId initId bmB, ExT PySem.Challenge.pw_onlyjoins_k70_errors K mg C fI fd "line" qn B newId initId bmB := by
  simp only [exB, Bool.and_eq_true, decide_eq_true_eq] at b
  obtain ⟨b1, b2, b3, b4, b5, b6, b7, b8, b9, b10, b11, b12⟩ := b
  obtain ⟨s0, s1, s2, s3, s4, s5, s6⟩ := scopeOk "line" (by decide +kernel)
  exact ⟨fI, ksFn "__init__" "BadText.__init__" (defArgs (inClass (top 8) 0)) (defBody (inClass (top 8) 0)) (defScope (inClass (top 8) 0)) .none .none doc pm an (.ref cda) ct cc, "BadText.__init__", "ValueError", "ValueError.__new__", "ValueError.__init__", mro "ValueError",
    { FB := PySem.F.excBase_ValueError, KF := kxs_ValueError, SF := PySem.F.store_ValueError, q := b1, ov := b2, hd := b3, iC := b4, isf := b5, sup := b7, sB := b8, sC := b9, op := b10, sa := b11, nf := b12, mgS := gs,
      fn := ⟨oc, doc, pm, ct, od, an, cda, cc, osl, _, _, _, _, _, _, _, _, _, _, _, _, _, by exact rfl, rfl, l1, b6, ⟨ccl, cdd, vs, ccs, file, tf, l2, h2, hf⟩, cl, cld, csl, l3⟩,
      tp := by decide +kernel, l0 := s0, l1 := s1, l2 := s2, l3 := s3, lc := s4, ld := s5, lf := s6,
      bp := fun s x v => .of_eq rfl, bk := fun s x v => .of_eq rfl }⟩
theorem ext7 {K : Frag} {mg : Str → Option Value} {C fI cda cc : Addr} {oc doc pm ct ccl cl : Value} {od an cdd cld : Option Addr} {osl ccs csl : Array (Option Value)} {vs : Array Value} {file : Str} {tf : Tok}
    (l1 : K.lookup fI = some ⟨oc, od, .func (ksFn "__init__" "Needed.__init__" (defArgs (inClass (top 9) 0)) (defBody (inClass (top 9) 0)) (defScope (inClass (top 9) 0)) .none .none doc pm an (.ref cda) ct cc), osl⟩) (l2 : K.lookup cda = some ⟨ccl, cdd, .fields vs, ccs⟩) (h2 : vs[2]? = some (.str file tf)) (hf : ((PySem.Challenge.pw_onlyjoins_k70_errors.main.file : Str) == file) = true)
    (l3 : K.lookup cc = some ⟨cl, cld, .cell (some (.ref C)), csl⟩) (b : exB K C fI cda "paper" "Needed.__init__" "LookupError" "LookupError.__new__" "LookupError.__init__" (mro "LookupError") = true) (gs : mg "super" = none) :
    ∃ fI fd qn B newId initId bmB, ExT PySem.Challenge.pw_onlyjoins_k70_errors K mg C fI fd "paper" qn B newId initId bmB := by
  simp only [exB, Bool.and_eq_true, decide_eq_true_eq] at b
  obtain ⟨b1, b2, b3, b4, b5, b6, b7, b8, b9, b10, b11, b12⟩ := b
  obtain ⟨s0, s1, s2, s3, s4, s5, s6⟩ := scopeOk "paper" (by decide +kernel)
  exact ⟨fI, ksFn "__init__" "Needed.__init__" (defArgs (inClass (top 9) 0)) (defBody (inClass (top 9) 0)) (defScope (inClass (top 9) 0)) .none .none doc pm an (.ref cda) ct cc, "Needed.__init__", "LookupError", "LookupError.__new__", "LookupError.__init__", mro "LookupError",
    { FB := PySem.F.excBase_LookupError, KF := kxs_LookupError, SF := PySem.F.store_LookupError, q := b1, ov := b2, hd := b3, iC := b4, isf := b5, sup := b7, sB := b8, sC := b9, op := b10, sa := b11, nf := b12, mgS := gs,
      fn := ⟨oc, doc, pm, ct, od, an, cda, cc, osl, _, _, _, _, _, _, _, _, _, _, _, _, _, by exact rfl, rfl, l1, b6, ⟨ccl, cdd, vs, ccs, file, tf, l2, h2, hf⟩, cl, cld, csl, l3⟩,
      tp := by decide +kernel, l0 := s0, l1 := s1, l2 := s2, l3 := s3, lc := s4, ld := s5, lf := s6,
      bp := fun s x v => .of_eq rfl, bk := fun s x v => .of_eq rfl }⟩
theorem ext8 {K : Frag} {mg : Str → Option Value} {C fI cda cc : Addr} {oc doc pm ct ccl cl : Value} {od an cdd cld : Option Addr} {osl ccs csl : Array (Option Value)} {vs : Array Value} {file : Str} {tf : Tok}
    (l1 : K.lookup fI = some ⟨oc, od, .func (ksFn "__init__" "TooMany.__init__" (defArgs (inClass (top 10) 0)) (defBody (inClass (top 10) 0)) (defScope (inClass (top 10) 0)) .none .none doc pm an (.ref cda) ct cc), osl⟩) (l2 : K.lookup cda = some ⟨ccl, cdd, .fields vs, ccs⟩) (h2 : vs[2]? = some (.str file tf)) (hf : ((PySem.Challenge.pw_onlyjoins_k70_errors.main.file : Str) == file) = true)
    (l3 : K.lookup cc = some ⟨cl, cld, .cell (some (.ref C)), csl⟩) (b : exB K C fI cda "most" "TooMany.__init__" "OverflowError" "OverflowError.__new__" "OverflowError.__init__" (mro "OverflowError") = true) (gs : mg "super" = none) :
    ∃ fI fd qn B newId initId bmB, ExT PySem.Challenge.pw_onlyjoins_k70_errors K mg C fI fd "most" qn B newId initId bmB := by
  simp only [exB, Bool.and_eq_true, decide_eq_true_eq] at b
  obtain ⟨b1, b2, b3, b4, b5, b6, b7, b8, b9, b10, b11, b12⟩ := b
  obtain ⟨s0, s1, s2, s3, s4, s5, s6⟩ := scopeOk "most" (by decide +kernel)
  exact ⟨fI, ksFn "__init__" "TooMany.__init__" (defArgs (inClass (top 10) 0)) (defBody (inClass (top 10) 0)) (defScope (inClass (top 10) 0)) .none .none doc pm an (.ref cda) ct cc, "TooMany.__init__", "OverflowError", "OverflowError.__new__", "OverflowError.__init__", mro "OverflowError",
    { FB := PySem.F.excBase_OverflowError, KF := kxs_OverflowError, SF := PySem.F.store_OverflowError, q := b1, ov := b2, hd := b3, iC := b4, isf := b5, sup := b7, sB := b8, sC := b9, op := b10, sa := b11, nf := b12, mgS := gs,
      fn := ⟨oc, doc, pm, ct, od, an, cda, cc, osl, _, _, _, _, _, _, _, _, _, _, _, _, _, by exact rfl, rfl, l1, b6, ⟨ccl, cdd, vs, ccs, file, tf, l2, h2, hf⟩, cl, cld, csl, l3⟩,
      tp := by decide +kernel, l0 := s0, l1 := s1, l2 := s2, l3 := s3, lc := s4, ld := s5, lf := s6,
      bp := fun s x v => .of_eq rfl, bk := fun s x v => .of_eq rfl }⟩
end K70

set_option Elab.async false
set_option linter.all false
set_option maxRecDepth 100000
set_option maxHeartbeats 4000000
namespace K70
open PySem L2 L2H XH
def c9of (c0 c1 c2 c3 c4 c5 c6 c7 c8 : Addr) : Nat → Addr
  | 0 => c0 | 1 => c1 | 2 => c2 | 3 => c3 | 4 => c4 | 5 => c5 | 6 => c6 | 7 => c7 | _ => c8
theorem all9 {p : Nat → Prop} (h0 : p 0) (h1 : p 1) (h2 : p 2) (h3 : p 3) (h4 : p 4) (h5 : p 5) (h6 : p 6) (h7 : p 7) (h8 : p 8) : ∀ i, i < 9 → p i := by
  intro i hi
  have z : i = 0 ∨ i = 1 ∨ i = 2 ∨ i = 3 ∨ i = 4 ∨ i = 5 ∨ i = 6 ∨ i = 7 ∨ i = 8 := by omega
  rcases z with rfl | rfl | rfl | rfl | rfl | rfl | rfl | rfl | rfl <;> assumption
abbrev pK : Program := PySem.Challenge.pw_onlyjoins_k70_errors
theorem nf_of {K : PySem.W.Frag} {C fI cda : Addr} {f qn : Str} {B newId initId : String} {bmB : List Value} (b : exB K C fI cda f qn B newId initId bmB = true) : PySem.W.findIn K (.ref C) f = some none := by
  simp only [exB, Bool.and_eq_true, decide_eq_true_eq] at b
  exact b.2.2.2.2.2.2.2.2.2.2.2
theorem all_mk {w : World} {K : PySem.W.Frag} {h : Heap} {mg : Str → Option Value} {fa : Addr} (X : K.In h) (G : h.Ns mainGlobals mg) (hfa : mg "law" = some (.ref fa))
    {c0 f0 d0 e0 : Addr} {oc0 doc0 pm0 ct0 ccl0 cl0 : Value} {od0 an0 cdd0 cld0 : Option Addr} {osl0 ccs0 csl0 : Array (Option Value)} {vs0 : Array Value} {fil0 : Str} {tf0 : Tok}
    {c1 f1 d1 e1 : Addr} {oc1 doc1 pm1 ct1 ccl1 cl1 : Value} {od1 an1 cdd1 cld1 : Option Addr} {osl1 ccs1 csl1 : Array (Option Value)} {vs1 : Array Value} {fil1 : Str} {tf1 : Tok}
    {c2 f2 d2 e2 : Addr} {oc2 doc2 pm2 ct2 ccl2 cl2 : Value} {od2 an2 cdd2 cld2 : Option Addr} {osl2 ccs2 csl2 : Array (Option Value)} {vs2 : Array Value} {fil2 : Str} {tf2 : Tok}
    {c3 f3 d3 e3 : Addr} {oc3 doc3 pm3 ct3 ccl3 cl3 : Value} {od3 an3 cdd3 cld3 : Option Addr} {osl3 ccs3 csl3 : Array (Option Value)} {vs3 : Array Value} {fil3 : Str} {tf3 : Tok}
    {c4 f4 d4 e4 : Addr} {oc4 doc4 pm4 ct4 ccl4 cl4 : Value} {od4 an4 cdd4 cld4 : Option Addr} {osl4 ccs4 csl4 : Array (Option Value)} {vs4 : Array Value} {fil4 : Str} {tf4 : Tok}
    {c5 f5 d5 e5 : Addr} {oc5 doc5 pm5 ct5 ccl5 cl5 : Value} {od5 an5 cdd5 cld5 : Option Addr} {osl5 ccs5 csl5 : Array (Option Value)} {vs5 : Array Value} {fil5 : Str} {tf5 : Tok}
    {c6 f6 d6 e6 : Addr} {oc6 doc6 pm6 ct6 ccl6 cl6 : Value} {od6 an6 cdd6 cld6 : Option Addr} {osl6 ccs6 csl6 : Array (Option Value)} {vs6 : Array Value} {fil6 : Str} {tf6 : Tok}
    {c7 f7 d7 e7 : Addr} {oc7 doc7 pm7 ct7 ccl7 cl7 : Value} {od7 an7 cdd7 cld7 : Option Addr} {osl7 ccs7 csl7 : Array (Option Value)} {vs7 : Array Value} {fil7 : Str} {tf7 : Tok}
    {c8 f8 d8 e8 : Addr} {oc8 doc8 pm8 ct8 ccl8 cl8 : Value} {od8 an8 cdd8 cld8 : Option Addr} {osl8 ccs8 csl8 : Array (Option Value)} {vs8 : Array Value} {fil8 : Str} {tf8 : Tok}
    {cJ : Addr}
    {fB : Addr} {odB anB : Option Addr} {slB : Array (Option Value)} {ocB kVB dcB pmB cdB ctB : Value}
    {fN : Addr} {odN anN : Option Addr} {slN : Array (Option Value)} {ocN kVN dcN pmN cdN ctN : Value}
    {fV : Addr} {odV anV : Option Addr} {slV : Array (Option Value)} {ocV kVV dcV pmV cdV ctV : Value}
    {fK : Addr} {odK anK : Option Addr} {slK : Array (Option Value)} {ocK kVK dcK pmK cdK ctK : Value}
    {fF : Addr} {odF anF : Option Addr} {slF : Array (Option Value)} {ocF kVF dcF pmF cdF ctF : Value}
    {fL : Addr} {odL anL : Option Addr} {slL : Array (Option Value)} {ocL kVL dcL pmL cdL ctL : Value}
    (a0 : PySem.W.nsIn K mainGlobals "BadTree" = some (some (.ref c0))) (i0 : PySem.W.findIn K (.ref c0) "__init__" = some (some (.ref f0)))
    (l0 : K.lookup f0 = some ⟨oc0, od0, .func (PySem.W.ksFn "__init__" "BadTree.__init__" (defArgs (inClass (top 2) 0)) (defBody (inClass (top 2) 0)) (defScope (inClass (top 2) 0)) .none .none doc0 pm0 an0 (.ref d0) ct0 e0), osl0⟩)
    (m0 : K.lookup d0 = some ⟨ccl0, cdd0, .fields vs0, ccs0⟩) (v0 : vs0[2]? = some (.str fil0 tf0)) (h0 : ((pK.main.file : Str) == fil0) = true) (n0 : K.lookup e0 = some ⟨cl0, cld0, .cell (some (.ref c0)), csl0⟩)
    (b0 : exB K c0 f0 d0 "value" "BadTree.__init__" "ValueError" "ValueError.__new__" "ValueError.__init__" (mro "ValueError") = true) (q0 : exQ K c0 = true)
    (a1 : PySem.W.nsIn K mainGlobals "BadRules" = some (some (.ref c1))) (i1 : PySem.W.findIn K (.ref c1) "__init__" = some (some (.ref f1)))
    (l1 : K.lookup f1 = some ⟨oc1, od1, .func (PySem.W.ksFn "__init__" "BadRules.__init__" (defArgs (inClass (top 3) 0)) (defBody (inClass (top 3) 0)) (defScope (inClass (top 3) 0)) .none .none doc1 pm1 an1 (.ref d1) ct1 e1), osl1⟩)
    (m1 : K.lookup d1 = some ⟨ccl1, cdd1, .fields vs1, ccs1⟩) (v1 : vs1[2]? = some (.str fil1 tf1)) (h1 : ((pK.main.file : Str) == fil1) = true) (n1 : K.lookup e1 = some ⟨cl1, cld1, .cell (some (.ref c1)), csl1⟩)
    (b1 : exB K c1 f1 d1 "place" "BadRules.__init__" "ValueError" "ValueError.__new__" "ValueError.__init__" (mro "ValueError") = true) (q1 : exQ K c1 = true)
    (a2 : PySem.W.nsIn K mainGlobals "BadStore" = some (some (.ref c2))) (i2 : PySem.W.findIn K (.ref c2) "__init__" = some (some (.ref f2)))
    (l2 : K.lookup f2 = some ⟨oc2, od2, .func (PySem.W.ksFn "__init__" "BadStore.__init__" (defArgs (inClass (top 4) 0)) (defBody (inClass (top 4) 0)) (defScope (inClass (top 4) 0)) .none .none doc2 pm2 an2 (.ref d2) ct2 e2), osl2⟩)
    (m2 : K.lookup d2 = some ⟨ccl2, cdd2, .fields vs2, ccs2⟩) (v2 : vs2[2]? = some (.str fil2 tf2)) (h2 : ((pK.main.file : Str) == fil2) = true) (n2 : K.lookup e2 = some ⟨cl2, cld2, .cell (some (.ref c2)), csl2⟩)
    (b2 : exB K c2 f2 d2 "place" "BadStore.__init__" "ValueError" "ValueError.__new__" "ValueError.__init__" (mro "ValueError") = true) (q2 : exQ K c2 = true)
    (a3 : PySem.W.nsIn K mainGlobals "BadUnfolding" = some (some (.ref c3))) (i3 : PySem.W.findIn K (.ref c3) "__init__" = some (some (.ref f3)))
    (l3 : K.lookup f3 = some ⟨oc3, od3, .func (PySem.W.ksFn "__init__" "BadUnfolding.__init__" (defArgs (inClass (top 5) 0)) (defBody (inClass (top 5) 0)) (defScope (inClass (top 5) 0)) .none .none doc3 pm3 an3 (.ref d3) ct3 e3), osl3⟩)
    (m3 : K.lookup d3 = some ⟨ccl3, cdd3, .fields vs3, ccs3⟩) (v3 : vs3[2]? = some (.str fil3 tf3)) (h3 : ((pK.main.file : Str) == fil3) = true) (n3 : K.lookup e3 = some ⟨cl3, cld3, .cell (some (.ref c3)), csl3⟩)
    (b3 : exB K c3 f3 d3 "value" "BadUnfolding.__init__" "ValueError" "ValueError.__new__" "ValueError.__init__" (mro "ValueError") = true) (q3 : exQ K c3 = true)
    (a4 : PySem.W.nsIn K mainGlobals "BadNumber" = some (some (.ref c4))) (i4 : PySem.W.findIn K (.ref c4) "__init__" = some (some (.ref f4)))
    (l4 : K.lookup f4 = some ⟨oc4, od4, .func (PySem.W.ksFn "__init__" "BadNumber.__init__" (defArgs (inClass (top 6) 0)) (defBody (inClass (top 6) 0)) (defScope (inClass (top 6) 0)) .none .none doc4 pm4 an4 (.ref d4) ct4 e4), osl4⟩)
    (m4 : K.lookup d4 = some ⟨ccl4, cdd4, .fields vs4, ccs4⟩) (v4 : vs4[2]? = some (.str fil4 tf4)) (h4 : ((pK.main.file : Str) == fil4) = true) (n4 : K.lookup e4 = some ⟨cl4, cld4, .cell (some (.ref c4)), csl4⟩)
    (b4 : exB K c4 f4 d4 "value" "BadNumber.__init__" "ValueError" "ValueError.__new__" "ValueError.__init__" (mro "ValueError") = true) (q4 : exQ K c4 = true)
    (a5 : PySem.W.nsIn K mainGlobals "BadPaper" = some (some (.ref c5))) (i5 : PySem.W.findIn K (.ref c5) "__init__" = some (some (.ref f5)))
    (l5 : K.lookup f5 = some ⟨oc5, od5, .func (PySem.W.ksFn "__init__" "BadPaper.__init__" (defArgs (inClass (top 7) 0)) (defBody (inClass (top 7) 0)) (defScope (inClass (top 7) 0)) .none .none doc5 pm5 an5 (.ref d5) ct5 e5), osl5⟩)
    (m5 : K.lookup d5 = some ⟨ccl5, cdd5, .fields vs5, ccs5⟩) (v5 : vs5[2]? = some (.str fil5 tf5)) (h5 : ((pK.main.file : Str) == fil5) = true) (n5 : K.lookup e5 = some ⟨cl5, cld5, .cell (some (.ref c5)), csl5⟩)
    (b5 : exB K c5 f5 d5 "place" "BadPaper.__init__" "ValueError" "ValueError.__new__" "ValueError.__init__" (mro "ValueError") = true) (q5 : exQ K c5 = true)
    (a6 : PySem.W.nsIn K mainGlobals "BadText" = some (some (.ref c6))) (i6 : PySem.W.findIn K (.ref c6) "__init__" = some (some (.ref f6)))
    (l6 : K.lookup f6 = some ⟨oc6, od6, .func (PySem.W.ksFn "__init__" "BadText.__init__" (defArgs (inClass (top 8) 0)) (defBody (inClass (top 8) 0)) (defScope (inClass (top 8) 0)) .none .none doc6 pm6 an6 (.ref d6) ct6 e6), osl6⟩)
    (m6 : K.lookup d6 = some ⟨ccl6, cdd6, .fields vs6, ccs6⟩) (v6 : vs6[2]? = some (.str fil6 tf6)) (h6 : ((pK.main.file : Str) == fil6) = true) (n6 : K.lookup e6 = some ⟨cl6, cld6, .cell (some (.ref c6)), csl6⟩)
    (b6 : exB K c6 f6 d6 "line" "BadText.__init__" "ValueError" "ValueError.__new__" "ValueError.__init__" (mro "ValueError") = true) (q6 : exQ K c6 = true)
    (a7 : PySem.W.nsIn K mainGlobals "Needed" = some (some (.ref c7))) (i7 : PySem.W.findIn K (.ref c7) "__init__" = some (some (.ref f7)))
    (l7 : K.lookup f7 = some ⟨oc7, od7, .func (PySem.W.ksFn "__init__" "Needed.__init__" (defArgs (inClass (top 9) 0)) (defBody (inClass (top 9) 0)) (defScope (inClass (top 9) 0)) .none .none doc7 pm7 an7 (.ref d7) ct7 e7), osl7⟩)
    (m7 : K.lookup d7 = some ⟨ccl7, cdd7, .fields vs7, ccs7⟩) (v7 : vs7[2]? = some (.str fil7 tf7)) (h7 : ((pK.main.file : Str) == fil7) = true) (n7 : K.lookup e7 = some ⟨cl7, cld7, .cell (some (.ref c7)), csl7⟩)
    (b7 : exB K c7 f7 d7 "paper" "Needed.__init__" "LookupError" "LookupError.__new__" "LookupError.__init__" (mro "LookupError") = true) (q7 : exQ K c7 = true)
    (a8 : PySem.W.nsIn K mainGlobals "TooMany" = some (some (.ref c8))) (i8 : PySem.W.findIn K (.ref c8) "__init__" = some (some (.ref f8)))
    (l8 : K.lookup f8 = some ⟨oc8, od8, .func (PySem.W.ksFn "__init__" "TooMany.__init__" (defArgs (inClass (top 10) 0)) (defBody (inClass (top 10) 0)) (defScope (inClass (top 10) 0)) .none .none doc8 pm8 an8 (.ref d8) ct8 e8), osl8⟩)
    (m8 : K.lookup d8 = some ⟨ccl8, cdd8, .fields vs8, ccs8⟩) (v8 : vs8[2]? = some (.str fil8 tf8)) (h8 : ((pK.main.file : Str) == fil8) = true) (n8 : K.lookup e8 = some ⟨cl8, cld8, .cell (some (.ref c8)), csl8⟩)
    (b8 : exB K c8 f8 d8 "most" "TooMany.__init__" "OverflowError" "OverflowError.__new__" "OverflowError.__init__" (mro "OverflowError") = true) (q8 : exQ K c8 = true)
    (aJ : PySem.W.nsIn K mainGlobals "JoinError" = some (some (.ref cJ))) (qJ : exQ K cJ = true) (eJ : PySem.W.excIn K cJ [.type "ValueError", .type "Exception", .type "BaseException", .type "object"] "ValueError.__new__" = true)
    (vJ : PySem.W.kitOne K (.ref cJ) (.type "ValueError") = some true) (kits : kitsB K (c9of c0 c1 c2 c3 c4 c5 c6 c7 c8) cJ = true)
    (aB : PySem.W.nsIn K mainGlobals "_law_begun" = some (some (.ref fB))) (lB : K.lookup fB = some ⟨ocB, odB, .func (PySem.W.fnOf "_law_begun" "_law_begun" (defArgs sBeg) (defBody sBeg) (defScope sBeg) .none kVB dcB pmB anB cdB ctB), slB⟩) (cB : PySem.W.codeIn K cdB "_law_begun" = true) (kB : PySem.W.keepIn K (.ref fB) = true)
    (aN : PySem.W.nsIn K mainGlobals "_law_next" = some (some (.ref fN))) (lN : K.lookup fN = some ⟨ocN, odN, .func (PySem.W.fnOf "_law_next" "_law_next" (defArgs sNext) (defBody sNext) (defScope sNext) .none kVN dcN pmN anN cdN ctN), slN⟩) (cN : PySem.W.codeIn K cdN "_law_next" = true) (kN : PySem.W.keepIn K (.ref fN) = true)
    (aV : PySem.W.nsIn K mainGlobals "_law_value" = some (some (.ref fV))) (lV : K.lookup fV = some ⟨ocV, odV, .func (PySem.W.fnOf "_law_value" "_law_value" (defArgs sVal) (defBody sVal) (defScope sVal) .none kVV dcV pmV anV cdV ctV), slV⟩) (cV : PySem.W.codeIn K cdV "_law_value" = true) (kV : PySem.W.keepIn K (.ref fV) = true)
    (aK : PySem.W.nsIn K mainGlobals "_law_kinds" = some (some (.ref fK))) (lK : K.lookup fK = some ⟨ocK, odK, .func (PySem.W.fnOf "_law_kinds" "_law_kinds" (defArgs sKin) (defBody sKin) (defScope sKin) .none kVK dcK pmK anK cdK ctK), slK⟩) (cK : PySem.W.codeIn K cdK "_law_kinds" = true) (kK : PySem.W.keepIn K (.ref fK) = true)
    (aF : PySem.W.nsIn K mainGlobals "_law_field" = some (some (.ref fF))) (lF : K.lookup fF = some ⟨ocF, odF, .func (PySem.W.fnOf "_law_field" "_law_field" (defArgs sFld) (defBody sFld) (defScope sFld) .none kVF dcF pmF anF cdF ctF), slF⟩) (cF : PySem.W.codeIn K cdF "_law_field" = true) (kF : PySem.W.keepIn K (.ref fF) = true)
    (aL : PySem.W.nsIn K mainGlobals "law" = some (some (.ref fL))) (lL : K.lookup fL = some ⟨ocL, odL, .func (PySem.W.fnOf "law" "law" (defArgs sLaw) (defBody sLaw) (defScope sLaw) .none kVL dcL pmL anL cdL ctL), slL⟩) (cL : PySem.W.codeIn K cdL "law" = true) (kL : PySem.W.keepIn K (.ref fL) = true)
    (z0 : PySem.W.nsIn K mainGlobals "list" = some none)
    (z1 : PySem.W.nsIn K mainGlobals "int" = some none)
    (z2 : PySem.W.nsIn K mainGlobals "len" = some none)
    (z3 : PySem.W.nsIn K mainGlobals "isinstance" = some none)
    (z4 : PySem.W.nsIn K mainGlobals "range" = some none)
    (z5 : PySem.W.nsIn K mainGlobals "min" = some none)
    (z6 : PySem.W.nsIn K mainGlobals "enumerate" = some none)
    (z7 : PySem.W.nsIn K mainGlobals "repr" = some none)
    (z8 : PySem.W.nsIn K mainGlobals "ValueError" = some none)
    (z9 : PySem.W.nsIn K mainGlobals "LookupError" = some none)
    (z10 : PySem.W.nsIn K mainGlobals "OverflowError" = some none)
    (z11 : PySem.W.nsIn K mainGlobals "KeyError" = some none)
    (z12 : PySem.W.nsIn K mainGlobals "IndexError" = some none)
    (z13 : PySem.W.nsIn K mainGlobals "super" = some none) :
    ∃ fd : FuncData, (∀ (s : Shared) (u : Value), BindsTo s fd ⟨[u], []⟩ [("script", u)]) ∧ ∀ base : Heap, K.In base → base.Ns mainGlobals mg → AtTop pK w K mg base fa fd "script" (spLaw K) := by
  have e := hfa.symm.trans (PySem.W.mg_of X G aL)
  cases e
  have no : ∀ {n : Str}, PySem.W.nsIn K mainGlobals n = some none → mg n = none := fun {n} z => PySem.W.mg_none_of X G z
  have FB := fun_mk (st := sBeg) lB cB kB
  have BB := FB.binds (ps := ["script"]) fun _ _ _ _ _ _ us hl => match us, hl with | [_], _ => rfl
  have FN := fun_mk (st := sNext) lN cN kN
  have BN := FN.binds (ps := ["m", "many"]) fun _ _ _ _ _ _ us hl => match us, hl with | [_, _], _ => rfl
  have FV := fun_mk (st := sVal) lV cV kV
  have BV := FV.binds (ps := ["m"]) fun _ _ _ _ _ _ us hl => match us, hl with | [_], _ => rfl
  have FK := fun_mk (st := sKin) lK cK kK
  have BK := FK.binds (ps := ["one"]) fun _ _ _ _ _ _ us hl => match us, hl with | [_], _ => rfl
  have FF := fun_mk (st := sFld) lF cF kF
  have BF := FF.binds (ps := ["one"]) fun _ _ _ _ _ _ us hl => match us, hl with | [_], _ => rfl
  have FL := fun_mk (st := sLaw) lL cL kL
  have kq := fun {i : Nat} (hi : i < 9) => kitsB_at kits hi
  have T : LT pK K mg (c9of c0 c1 c2 c3 c4 c5 c6 c7 c8) cJ :=
    { g := all9 (PySem.W.mg_of X G a0) (PySem.W.mg_of X G a1) (PySem.W.mg_of X G a2) (PySem.W.mg_of X G a3) (PySem.W.mg_of X G a4) (PySem.W.mg_of X G a5) (PySem.W.mg_of X G a6) (PySem.W.mg_of X G a7) (PySem.W.mg_of X G a8),
      q := all9 ((exQ_ok q0).1) ((exQ_ok q1).1) ((exQ_ok q2).1) ((exQ_ok q3).1) ((exQ_ok q4).1) ((exQ_ok q5).1) ((exQ_ok q6).1) ((exQ_ok q7).1) ((exQ_ok q8).1),
      kit := fun i j hi hj => (kq hi).1 j hj, nf := all9 (nf_of b0) (nf_of b1) (nf_of b2) (nf_of b3) (nf_of b4) (nf_of b5) (nf_of b6) (nf_of b7) (nf_of b8), isi := no z3,
      ext := all9 (ext0 l0 m0 v0 h0 n0 b0 (no z13)) (ext1 l1 m1 v1 h1 n1 b1 (no z13)) (ext2 l2 m2 v2 h2 n2 b2 (no z13)) (ext3 l3 m3 v3 h3 n3 b3 (no z13)) (ext4 l4 m4 v4 h4 n4 b4 (no z13)) (ext5 l5 m5 v5 h5 n5 b5 (no z13)) (ext6 l6 m6 v6 h6 n6 b6 (no z13)) (ext7 l7 m7 v7 h7 n7 b7 (no z13)) (ext8 l8 m8 v8 h8 n8 b8 (no z13)),
      kp := all9 ((exQ_ok q0).2) ((exQ_ok q1).2) ((exQ_ok q2).2) ((exQ_ok q3).2) ((exQ_ok q4).2) ((exQ_ok q5).2) ((exQ_ok q6).2) ((exQ_ok q7).2) ((exQ_ok q8).2),
      gJ := PySem.W.mg_of X G aJ, kJ := (exQ_ok qJ).2, qJ := (exQ_ok qJ).1, eJ := eJ, vJ := vJ, isJ := fun i hi => (kq hi).2.1, isV := fun i hi => (kq hi).2.2.1, isL := fun i hi => (kq hi).2.2.2.1, isO := fun i hi => (kq hi).2.2.2.2.1, isK := fun i hi => (kq hi).2.2.2.2.2,
      tb := ⟨no z0, no z1, no z2⟩, range := no z4, min := no z5, enum := no z6, repr := no z7, bV := no z8, bL := no z9, bO := no z10, bK := no z11, bI := no z12 }
  exact ⟨_, fun s v => .of_eq rfl, fun base _ _ => ok_law FL T FB BB (PySem.W.mg_of X G aB) FN BN (PySem.W.mg_of X G aN) FV BV (PySem.W.mg_of X G aV) FK BK (PySem.W.mg_of X G aK) FF BF (PySem.W.mg_of X G aF)⟩
theorem walk {q : Program} {loose : List Str} {XP : (Str → Option Value) → Heap → Prop} {YP : World → Heap → Prop} {d : DefRec} {K : Params → PySem.W.Frag} {l : PySem.W.OpenLaw} (hp : l.prog = pK) (hn : l.most = some 63) (hdf : d.params.defaults = [])
    (hY : ∀ (w : World) (h : Heap), YP w h → (K w.params).In h)
    (F : ∀ (w : World) (mg : Str → Option Value) (fa : Addr) (h : Heap), (K w.params).In h → h.Ns mainGlobals mg → mg d.name = some (.ref fa) →
      ∃ fd : FuncData, (∀ (s : Shared) (u : Value), BindsTo s fd ⟨[u], []⟩ [("script", u)]) ∧ ∀ base : Heap, (K w.params).In base → base.Ns mainGlobals mg → AtTop l.prog w (K w.params) mg base fa fd "script" (spLaw (K w.params))) :
    PySem.W.WalkO q loose XP YP l.row.toRowW d [] (fun f vs => PySem.call f vs) :=
  walk_top (n := 63) (x := "script") (sp := fun w => spLaw (K w.params)) hn (by decide) hdf hY F fun _ _ a ns hl _ hS => ⟨a, ns, rfl, hS, hl, fun _ => rfl⟩
end K70

set_option Elab.async false
open PySem PySem.W PyProof.Rows
set_option maxRecDepth 100000 in
set_option maxHeartbeats 0 in
theorem PySem.Challenge.cw_onlyjoins_k70_errors_holds : PySem.Challenge.rw_onlyjoins_k70_errors.Holds := by
  w_on; o_law; k_head; (case hw => w_witness2)
  k_fill
  refine K70.walk (l := PySem.Challenge.rw_onlyjoins_k70_errors) rfl rfl rfl (fun w h Y => PySem.W.kIn_of Y) ?F
  case F =>
    intro w mg fa h KX G hmg
    refine' K70.all_mk KX G hmg ?a0 ?i0 ?l0 ?m0 ?v0 ?h0 ?n0 ?b0 ?q0 ?a1 ?i1 ?l1 ?m1 ?v1 ?h1 ?n1 ?b1 ?q1 ?a2 ?i2 ?l2 ?m2 ?v2 ?h2 ?n2 ?b2 ?q2 ?a3 ?i3 ?l3 ?m3 ?v3 ?h3 ?n3 ?b3 ?q3 ?a4 ?i4 ?l4 ?m4 ?v4 ?h4 ?n4 ?b4 ?q4 ?a5 ?i5 ?l5 ?m5 ?v5 ?h5 ?n5 ?b5 ?q5 ?a6 ?i6 ?l6 ?m6 ?v6 ?h6 ?n6 ?b6 ?q6 ?a7 ?i7 ?l7 ?m7 ?v7 ?h7 ?n7 ?b7 ?q7 ?a8 ?i8 ?l8 ?m8 ?v8 ?h8 ?n8 ?b8 ?q8 ?aJ ?qJ ?eJ ?vJ ?kits ?aB ?lB ?cB ?kB ?aN ?lN ?cN ?kN ?aV ?lV ?cV ?kV ?aK ?lK ?cK ?kK ?aF ?lF ?cF ?kF ?aL ?lL ?cL ?kL ?z0 ?z1 ?z2 ?z3 ?z4 ?z5 ?z6 ?z7 ?z8 ?z9 ?z10 ?z11 ?z12 ?z13
    (case a0 => k_is)
    (case i0 => k_is)
    (case l0 => k_is)
    (case m0 => k_is)
    (case v0 => exact rfl)
    (case h0 => decide +kernel)
    (case n0 => k_is)
    (case b0 => kernel_rfl)
    (case q0 => kernel_rfl)
    (case a1 => k_is)
    (case i1 => k_is)
    (case l1 => k_is)
    (case m1 => k_is)
    (case v1 => exact rfl)
    (case h1 => decide +kernel)
    (case n1 => k_is)
    (case b1 => kernel_rfl)
    (case q1 => kernel_rfl)
    (case a2 => k_is)
    (case i2 => k_is)
    (case l2 => k_is)
    (case m2 => k_is)
    (case v2 => exact rfl)
    (case h2 => decide +kernel)
    (case n2 => k_is)
    (case b2 => kernel_rfl)
    (case q2 => kernel_rfl)
    (case a3 => k_is)
    (case i3 => k_is)
    (case l3 => k_is)
    (case m3 => k_is)
    (case v3 => exact rfl)
    (case h3 => decide +kernel)
    (case n3 => k_is)
    (case b3 => kernel_rfl)
    (case q3 => kernel_rfl)
    (case a4 => k_is)
    (case i4 => k_is)
    (case l4 => k_is)
    (case m4 => k_is)
    (case v4 => exact rfl)
    (case h4 => decide +kernel)
    (case n4 => k_is)
    (case b4 => kernel_rfl)
    (case q4 => kernel_rfl)
    (case a5 => k_is)
    (case i5 => k_is)
    (case l5 => k_is)
    (case m5 => k_is)
    (case v5 => exact rfl)
    (case h5 => decide +kernel)
    (case n5 => k_is)
    (case b5 => kernel_rfl)
    (case q5 => kernel_rfl)
    (case a6 => k_is)
    (case i6 => k_is)
    (case l6 => k_is)
    (case m6 => k_is)
    (case v6 => exact rfl)
    (case h6 => decide +kernel)
    (case n6 => k_is)
    (case b6 => kernel_rfl)
    (case q6 => kernel_rfl)
    (case a7 => k_is)
    (case i7 => k_is)
    (case l7 => k_is)
    (case m7 => k_is)
    (case v7 => exact rfl)
    (case h7 => decide +kernel)
    (case n7 => k_is)
    (case b7 => kernel_rfl)
    (case q7 => kernel_rfl)
    (case a8 => k_is)
    (case i8 => k_is)
    (case l8 => k_is)
    (case m8 => k_is)
    (case v8 => exact rfl)
    (case h8 => decide +kernel)
    (case n8 => k_is)
    (case b8 => kernel_rfl)
    (case q8 => kernel_rfl)
    (case aJ => k_is)
    (case qJ => kernel_rfl)
    (case eJ => kernel_rfl)
    (case vJ => kernel_rfl)
    (case kits => kernel_rfl)
    (case aB => k_is)
    (case lB => k_is)
    (case cB => k_is)
    (case kB => k_is)
    (case aN => k_is)
    (case lN => k_is)
    (case cN => k_is)
    (case kN => k_is)
    (case aV => k_is)
    (case lV => k_is)
    (case cV => k_is)
    (case kV => k_is)
    (case aK => k_is)
    (case lK => k_is)
    (case cK => k_is)
    (case kK => k_is)
    (case aF => k_is)
    (case lF => k_is)
    (case cF => k_is)
    (case kF => k_is)
    (case aL => k_is)
    (case lL => k_is)
    (case cL => k_is)
    (case kL => k_is)
    (case z0 => k_is)
    (case z1 => k_is)
    (case z2 => k_is)
    (case z3 => k_is)
    (case z4 => k_is)
    (case z5 => k_is)
    (case z6 => k_is)
    (case z7 => k_is)
    (case z8 => k_is)
    (case z9 => k_is)
    (case z10 => k_is)
    (case z11 => k_is)
    (case z12 => k_is)
    (case z13 => k_is)
