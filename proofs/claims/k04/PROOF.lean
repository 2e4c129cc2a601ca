import PyProof.Rows.All
import Wide.All
import OpenK.AllK
import Wide.FinOn
import HandS.ForMost
import HandS.Spec
import HandS.IsInst
import HandS.RaiseMore
import PyProof.ReprRoads
import PyProof.EqAt
import PyProof.EqKinds
import PyProof.NeKinds
import HandS.Base
import HandS.Call
import HandS.List
import HandS.Set
import HandS.SetFor
import HandS.SetTxt0
import PyProof.Rows.SortStr
import PyProof.Rows.SortKeyStr
import PyProof.Rows.SortShellK
import HandS.Strs
import PyProof.StrOps2
import HandS.Exc
import HandS.ExcInit
import HandS.ExcValue
import KE.KExcSuper
import KE.KExcInit
import KE.KExcIs
import HandS.Defaults
import HandS.Walk
import HandS.TupAny
import HandS.Zip
import HandS.Style
import PyProof.StrLawsRepr
import HandS.ForSpec
import KE.GoesEnum
import HandS.Iter
import HandS.Flow
import HandS.Codes
import HandS.Lambda
import KE.KDflt
import HandS.Comp
import HandS.Rev
import HandS.TupMul
import HandS.EndTab
import PySem.Challenge.RW_onlyjoins_k04_whole_unfoldings
set_option Elab.async false
set_option linter.all false
set_option maxRecDepth 100000
set_option maxHeartbeats 4000000
/-! The law's own def, called from the very top: its surroundings are known (no repr is under way). -/
namespace L2H
open PySem PySem.Spec PyProof.Rows L2
/-- a promise kept when called from the top -/
def AtTop (P : Program) (w : World) (K : PySem.W.Frag) (mg : Str → Option Value) (base : Heap) (f : Addr) (fd : FuncData) (x : Str) (sp : Sp) : Prop :=
  ∀ (s : Shared) (H : Hp) (u : Value) (v : V) (Q : VK) (E : XK), Env0 P w K mg base callerA [] s H → BindsTo s fd ⟨[u], []⟩ [(x, u)] → RelV v u → sp [v] H Q E →
    codeAny (model P w) callerA (.call (.ref f) ⟨[u], []⟩) (CR CX0 [] P w H s Q E) s
section
variable {P : Program} {w : World} {K : PySem.W.Frag} {mg : Str → Option Value} {base : Heap} {x name : Str} {st : Stmt} {f : Addr} {fd : FuncData} {N : List Str} {k : Nat} {sp : Sp}
theorem atTop_of (F : Fun K name name st f fd) (S : FnScope N [x] (defScope st)) (hr : Room (k + 1) callerA)
    (body : ∀ (cdv : Value) (s : Shared) (H : Hp) (v : V) (Q : VK) (E : XK), Room k (callerA.deeper (envOfC name (defScope st) s.heap.objs.size f cdv)) → sp [v] H Q E →
      ∃ t, PSs (cxOf CX0 P w K mg base N name (defScope st) f cdv callerA [] s H E).nox (defBody st) t ∧ t { nx := fun _ H' => Q .non H', rt := Q } (start N [v]) H) :
    AtTop P w K mg base f fd x sp := by
  obtain ⟨oc, od, kV, doc, pm, an, cdv, ct, osl, rfl, lk, hcd⟩ := F.ex
  intro s H u v Q E e0 hb ru hsp
  have KX : K.In s.heap := e0.mod.kin.keeps fun b o z => (e0.bs b o z).1
  have lim : s.heap.NoLimit := e0.mod.nolimit.keeps fun b o z => (e0.bs b o z).1
  have kinds : ∀ y ∈ [(x, u)], (defScope st).names.lookup y.1 = some .local ∨ ((defScope st).names.lookup y.1 = some .cell ∧ ((cellsFrom (s.heap.objs.size + 1) (defScope st).names []).lookup y.1).isSome = true) := fun y hy => by
    rcases List.mem_cons.mp hy with rfl | z
    · rcases S.par x (List.mem_cons_self ..) with q | q
      · exact .inl q
      · exact .inr ⟨q, PySem.W.cellsFrom_some _ _ _ (.inl q)⟩
    · cases z
  refine codeAny_call_function hr.depth (KX _ _ lk) rfl S.co S.gen rfl (PySem.W.codeRec_of KX hcd) (hb _ _ _ _ ?_)
  refine wpAny_newFunctionEnv_cells S.kind kinds fun env he s1 y => ?_
  subst he
  refine ⟨lim.keeps y.toInCall.keep, codeAny_func ?_⟩
  obtain ⟨t, ht, hq⟩ := body cdv s H v Q E (hr.deeper _) hsp
  have I : Inv (cxOf CX0 P w K mg base N name (defScope st) f cdv callerA [] s H E) [] (start N [v]) H s1 := inv_start (ps := [x]) (us := [u]) S hr.hd e0 rfl (.cons ru .nil) y
  refine wpAny_mono (ht.nox.run [] s1 (start N [v]) H _ I hq) (fun fl s' hs => ?_) fun _ _ z => z
  cases fl with
  | ret u' =>
    obtain ⟨v', σ', H', J, rv, q⟩ := hs
    exact ⟨v', H', J.os, J.bare, J.base, J.hok, rv, q⟩
  | next =>
    obtain ⟨σ', H', J, q⟩ := hs
    exact ⟨V.non, H', J.os, J.bare, J.base, J.hok, rfl, q⟩
  | brk =>
    obtain ⟨_, _, _, q⟩ := hs
    exact q.elim
  | cont =>
    obtain ⟨_, _, _, q⟩ := hs
    exact q.elim
end
section
variable {P : Program} {w : World} {K : PySem.W.Frag} {mg mb : Str → Option Value} {fa a : Addr} {fd : FuncData} {x : Str} {sp : Sp} {t : Shared} {vs : List Value} {ns : List Int}
/-- what the law's row asks of the call -/
abbrev Good (t : Shared) : Result → Shared → Prop := fun r t' => r = .ok (.ret (.bool true)) ∧ OldK t.heap t'.heap ∧ t'.os = t.os ∧ AllBare t'.gens
theorem from_top (KX : K.In t.heap) (gn : t.heap.Ns mainGlobals mg) (bn : t.heap.Ns builtinsNs mb) (bb : ∀ y : Str, y ≠ "__name__" → mb y = bootBuiltins y) (lim : t.heap.NoLimit) (g0 : t.gens = #[])
    (at_a : t.heap.get? a = some { cls := .type "list", data := .seq vs.toArray }) (allInt : IntsAre vs ns) (short : ns.length ≤ sizeLine)
    (F : ∀ base : Heap, K.In base → base.Ns mainGlobals mg → AtTop P w K mg base fa fd x sp) (bind : ∀ (s : Shared) (u : Value), BindsTo s fd ⟨[u], []⟩ [(x, u)])
    (wish : ∀ H : Hp, Only H → SqL K H a (ns.map V.int) → sp [.ref a] H (fun v _ => v = .bl true) fun _ _ _ => False) :
    codeAny (model P w) callerA (.call (.ref fa) ⟨[.ref a], []⟩) (Good t) t := by
  have rvs := vals_ints allInt
  have inner : ∀ H : Hp, Only H → SqL K H a (ns.map V.int) → HOk P w H t.heap → (∀ b, H b ≠ none → b = a) → (H a ≠ none → K.lookup a = none) →
      codeAny (model P w) callerA (.call (.ref fa) ⟨[.ref a], []⟩) (Good t) t := fun H hO hS hok one out => by
    have pass : ∀ {b : Addr} {o : Obj}, t.heap.get? b = some o → H b = none → (hidT t.heap H).get? b = some o := fun z n => hidT_get z n
    have dicts : ∀ {b : Addr} {o : Obj} {es : Array DictEntry} {ep : Nat}, t.heap.get? b = some o → o.data = .dict es ep → H b = none := fun {b o es ep} z dz => by
      cases q : H b with
      | none => rfl
      | some u =>
        obtain rfl : b = a := one b (by rw [q]; simp)
        rw [at_a] at z
        cases z
        have y : Data.seq vs.toArray _ = Data.dict es ep := dz
        cases y
    have nsp : ∀ {b : Addr} {m : Str → Option Value}, t.heap.Ns b m → (hidT t.heap H).Ns b m := fun {b m} ⟨o, es, ep, z, dz, r⟩ => ⟨o, es, ep, pass z (dicts z dz), dz, r⟩
    have Kb : K.In (hidT t.heap H) := fun b o z => pass (KX b o z) (by
      cases q : H b with
      | none => rfl
      | some u =>
        obtain rfl : b = a := one b (by rw [q]; simp)
        rw [out (by rw [q]; simp)] at z
        cases z)
    have md : Mod K mg (hidT t.heap H) := ⟨Kb, nsp gn, ⟨mb, nsp bn, bb⟩, let ⟨mc, q1, q2⟩ := lim; ⟨mc, nsp q1, q2⟩⟩
    have env : Env0 P w K mg (hidT t.heap H) callerA [] t H :=
      ⟨rfl, md, fun b o z => of_hidT z, Nat.le_of_eq (hidT_size _ _), trivial, fun b hb => absurd (show b ∈ ([] : List Addr) from hb) (by simp), hok, .of_eq g0⟩
    refine codeAny_mono (F _ Kb (nsp gn) t H (.ref a) (.ref a) _ _ env (bind t (.ref a)) rfl (wish H hO hS)) fun r t' h => ?_
    cases r with
    | error e => exact False.elim h
    | ok fl =>
     cases fl with
     | next => exact False.elim h
     | brk => exact False.elim h
     | cont => exact False.elim h
     | ret u =>
      obtain ⟨v, H', os, bare, un, hok', r', q⟩ := h
      obtain rfl : v = V.bl true := q
      obtain rfl : u = Value.bool true := r'
      refine ⟨rfl, OldK.of_keep fun b o z => ?_, os, bare⟩
      cases q : H b with
      | none => exact un.keep b o z q (by intro y; exact absurd (show b ∈ ([] : List Addr) from y) (by simp)) (by simp)
      | some u =>
        rcases hO b with y | ⟨ob, xs, y⟩
        · rw [q] at y
          cases y
        · obtain ⟨e1, _⟩ := hok b _ y
          obtain ⟨e2, _⟩ := hok' b _ (un.frzs b ob _ y)
          rw [z] at e1
          cases e1
          exact e2
  cases hk : K.lookup a with
  | some o =>
    have z := KX a o hk
    rw [at_a] at z
    cases z
    have sq : SqL K (fun _ => none) a (ns.map V.int) := .inr ⟨_, vs.toArray, _, hk, rfl, rfl, rfl, by rw [List.size_toArray, allInt.length]; exact short, by simpa using rvs⟩
    exact inner (fun _ => none) (fun _ => .inl rfl) sq (fun b u y => by cases (show (none : Option HO) = some u from y)) (fun b y => absurd rfl y) fun y => absurd rfl y
  | none =>
    let Hs : Hp := fun b => if b = a then some (.frz { cls := .type "list", data := .seq vs.toArray } (.lst (ns.map V.int))) else none
    have on : Hs a = some (.frz { cls := .type "list", data := .seq vs.toArray } (.lst (ns.map V.int))) := if_pos rfl
    have off : ∀ b, b ≠ a → Hs b = none := fun b hb => if_neg hb
    refine inner Hs (fun b => ?_) (.inl (.inr ⟨_, on⟩)) (fun b u z => ?_) (fun b z => ?_) fun _ => hk
    · by_cases hb : b = a
      · subst hb
        exact .inr ⟨_, _, on⟩
      · exact .inl (off b hb)
    · by_cases hb : b = a
      · subst hb
        rw [on] at z
        cases z
        exact ⟨at_a, by rw [List.length_map]; exact short, vs, _, rvs, at_a⟩
      · rw [off b hb] at z
        cases z
    · by_cases hb : b = a
      · exact hb
      · exact absurd (off b hb) z
end
/-- the law's row, from the promise of its def called from the top -/
theorem walk_top {l : PySem.W.OpenLaw} {n : Nat} {q : Program} {loose : List Str} {XP : (Str → Option Value) → Heap → Prop} {YP : World → Heap → Prop} {d : DefRec} {K : Params → PySem.W.Frag} {sp : World → Sp} {x : Str}
    (hn : l.most = some n) (few : n ≤ sizeLine) (hdf : d.params.defaults = []) (hY : ∀ (w : World) (h : Heap), YP w h → (K w.params).In h)
    (F : ∀ (w : World) (mg : Str → Option Value) (fa : Addr) (h : Heap), (K w.params).In h → h.Ns mainGlobals mg → mg d.name = some (.ref fa) →
      ∃ fd : FuncData, (∀ (s : Shared) (u : Value), BindsTo s fd ⟨[u], []⟩ [(x, u)]) ∧
        ∀ base : Heap, (K w.params).In base → base.Ns mainGlobals mg → AtTop l.prog w (K w.params) mg base fa fd x (sp w))
    (wish : ∀ (w : World) (H : Hp) (a : Addr) (ns : List Int), ns.length ≤ n → Only H → SqL (K w.params) H a (ns.map V.int) → sp w [.ref a] H (fun v _ => v = .bl true) fun _ _ _ => False) :
    PySem.W.WalkO q loose XP YP l.row.toRowW d [] (fun f vs => PySem.call f vs) := by
  refine Att.attach_call hn hdf fun w s₀ t mg mb fa o pm cd doc a vs ns G Y ho hd hcd hmg hobj hints hlen g0 => ?_
  have KX := hY w _ Y
  obtain ⟨fd, hb, hF⟩ := F w mg fa _ KX G.T.g hmg
  exact from_top KX G.T.g G.T.b G.T.builtins G.T.nolimit g0 hobj hints (Nat.le_trans hlen few) hF hb fun H hO hS => wish w H a ns hlen hO hS
end L2H
set_option Elab.async false
set_option linter.all false
set_option maxRecDepth 100000
set_option maxHeartbeats 4000000
/-! The law's own def, called from the very top: the table of modules stands apart, too. -/
namespace L2H
open PySem PySem.Spec PyProof.Rows L2
/-- the table of modules is tracked, and locked -/
def SysF (H : Hp) : Prop := ∃ o u, H sysModules = some (.frz o u)
section
variable {P : Program} {w : World} {K : PySem.W.Frag} {mg mb : Str → Option Value} {fa a : Addr} {fd : FuncData} {x : Str} {sp : Sp} {t : Shared} {vs : List Value} {ns : List Int}
theorem from_topB (KX : K.In t.heap) (gn : t.heap.Ns mainGlobals mg) (bn : t.heap.Ns builtinsNs mb) (bb : ∀ y : Str, y ≠ "__name__" → mb y = bootBuiltins y) (lim : t.heap.NoLimit) (g0 : t.gens = #[])
    (sm : ∃ m, t.heap.Ns sysModules m) (km : K.lookup sysModules = none)
    (at_a : t.heap.get? a = some { cls := .type "list", data := .seq vs.toArray }) (allInt : IntsAre vs ns) (short : ns.length ≤ sizeLine)
    (F : ∀ base : Heap, K.In base → base.Ns mainGlobals mg → AtTop P w K mg base fa fd x sp) (bind : ∀ (s : Shared) (u : Value), BindsTo s fd ⟨[u], []⟩ [(x, u)])
    (wish : ∀ H : Hp, SysF H → SqL K H a (ns.map V.int) → sp [.ref a] H (fun v _ => v = .bl true) fun _ _ _ => False) :
    codeAny (model P w) callerA (.call (.ref fa) ⟨[.ref a], []⟩) (Good t) t := by
  have rvs := vals_ints allInt
  obtain ⟨mm, om, esm, epm, hom, hdm, _⟩ := sm
  have na : a ≠ sysModules := fun z => by
    rw [z, hom] at at_a
    cases at_a
    have y : Data.seq vs.toArray _ = Data.dict esm epm := hdm
    cases y
  have inner : ∀ H : Hp, OnlyF H → SysF H → SqL K H a (ns.map V.int) → HOk P w H t.heap → (∀ b, H b ≠ none → b = a ∨ b = sysModules) → (H a ≠ none → K.lookup a = none) →
      codeAny (model P w) callerA (.call (.ref fa) ⟨[.ref a], []⟩) (Good t) t := fun H hO hY hS hok one out => by
    have pass : ∀ {b : Addr} {o : Obj}, t.heap.get? b = some o → H b = none → (hidT t.heap H).get? b = some o := fun z n => hidT_get z n
    have dicts : ∀ {b : Addr} {o : Obj} {es : Array DictEntry} {ep : Nat}, b ≠ sysModules → t.heap.get? b = some o → o.data = .dict es ep → H b = none := fun {b o es ep} nb z dz => by
      cases q : H b with
      | none => rfl
      | some u =>
        rcases one b (by rw [q]; simp) with rfl | y
        · rw [at_a] at z
          cases z
          have y : Data.seq vs.toArray _ = Data.dict es ep := dz
          cases y
        · exact absurd y nb
    have nsp : ∀ {b : Addr} {m : Str → Option Value}, b ≠ sysModules → t.heap.Ns b m → (hidT t.heap H).Ns b m := fun {b m} nb ⟨o, es, ep, z, dz, r⟩ => ⟨o, es, ep, pass z (dicts nb z dz), dz, r⟩
    have Kb : K.In (hidT t.heap H) := fun b o z => pass (KX b o z) (by
      cases q : H b with
      | none => rfl
      | some u =>
        rcases one b (by rw [q]; simp) with rfl | y
        · rw [out (by rw [q]; simp)] at z
          cases z
        · rw [y, km] at z
          cases z)
    have md : Mod K mg (hidT t.heap H) := ⟨Kb, nsp (by decide) gn, ⟨mb, nsp (by decide) bn, bb⟩, let ⟨mc, q1, q2⟩ := lim; ⟨mc, nsp (by decide) q1, q2⟩⟩
    have env : Env0 P w K mg (hidT t.heap H) callerA [] t H :=
      ⟨rfl, md, fun b o z => of_hidT z, Nat.le_of_eq (hidT_size _ _), trivial, fun b hb => absurd (show b ∈ ([] : List Addr) from hb) (by simp), hok, .of_eq g0⟩
    refine codeAny_mono (F _ Kb (nsp (by decide) gn) t H (.ref a) (.ref a) _ _ env (bind t (.ref a)) rfl (wish H hY hS)) fun r t' h => ?_
    cases r with
    | error e => exact False.elim h
    | ok fl =>
     cases fl with
     | next => exact False.elim h
     | brk => exact False.elim h
     | cont => exact False.elim h
     | ret u =>
      obtain ⟨v, H', os, bare, un, hok', r', q⟩ := h
      obtain rfl : v = V.bl true := q
      obtain rfl : u = Value.bool true := r'
      refine ⟨rfl, OldK.of_keep fun b o z => ?_, os, bare⟩
      cases q : H b with
      | none => exact un.keep b o z q (by intro y; exact absurd (show b ∈ ([] : List Addr) from y) (by simp)) (by simp)
      | some u =>
        rcases hO b with y | ⟨ob, xs, y⟩
        · rw [q] at y
          cases y
        · obtain ⟨e1, _⟩ := hok b _ y
          obtain ⟨e2, _⟩ := hok' b _ (un.frzs b ob _ y)
          rw [z] at e1
          cases e1
          exact e2
  have hoks : ∀ {H : Hp} {u : HO}, ObjOk P w H t.heap sysModules (.frz om (.ext fun _ => True)) := fun {H u} => ⟨hom, trivial, ⟨om, hom⟩, fun _ _ _ _ => trivial⟩
  cases hk : K.lookup a with
  | some o =>
    have z := KX a o hk
    rw [at_a] at z
    cases z
    let Hs : Hp := fun b => if b = sysModules then some (.frz om (.ext fun _ => True)) else none
    have ons : Hs sysModules = some (.frz om (.ext fun _ => True)) := if_pos rfl
    have off : ∀ b, b ≠ sysModules → Hs b = none := fun b h1 => if_neg h1
    have sq : SqL K Hs a (ns.map V.int) := .inr ⟨_, vs.toArray, _, hk, rfl, rfl, rfl, by rw [List.size_toArray, allInt.length]; exact short, by simpa using rvs⟩
    refine inner Hs (fun b => ?_) ⟨_, _, ons⟩ sq (fun b u z => ?_) (fun b z => ?_) fun y => absurd (off a na) y
    · by_cases hb : b = sysModules
      · subst hb
        exact .inr ⟨_, _, ons⟩
      · exact .inl (off b hb)
    · by_cases hb : b = sysModules
      · subst hb
        rw [ons] at z
        cases z
        exact hoks (u := .lst [])
      · rw [off b hb] at z
        cases z
    · by_cases hb : b = sysModules
      · exact .inr hb
      · exact absurd (off b hb) z
  | none =>
    let Hs : Hp := fun b => if b = a then some (.frz { cls := .type "list", data := .seq vs.toArray } (.lst (ns.map V.int))) else if b = sysModules then some (.frz om (.ext fun _ => True)) else none
    have on : Hs a = some (.frz { cls := .type "list", data := .seq vs.toArray } (.lst (ns.map V.int))) := if_pos rfl
    have ons : Hs sysModules = some (.frz om (.ext fun _ => True)) := by
      show (if _ then _ else _) = _
      rw [if_neg na.symm, if_pos rfl]
    have off : ∀ b, b ≠ a → b ≠ sysModules → Hs b = none := fun b h1 h2 => by
      show (if _ then _ else _) = _
      rw [if_neg h1, if_neg h2]
    refine inner Hs (fun b => ?_) ⟨_, _, ons⟩ (.inl (.inr ⟨_, on⟩)) (fun b u z => ?_) (fun b z => ?_) fun _ => hk
    · by_cases hb : b = a
      · subst hb
        exact .inr ⟨_, _, on⟩
      · by_cases hc : b = sysModules
        · subst hc
          exact .inr ⟨_, _, ons⟩
        · exact .inl (off b hb hc)
    · by_cases hb : b = a
      · subst hb
        rw [on] at z
        cases z
        exact ⟨at_a, by rw [List.length_map]; exact short, vs, _, rvs, at_a⟩
      · by_cases hc : b = sysModules
        · subst hc
          rw [ons] at z
          cases z
          exact hoks (u := .lst [])
        · rw [off b hb hc] at z
          cases z
    · by_cases hb : b = a
      · exact .inl hb
      · by_cases hc : b = sysModules
        · exact .inr hc
        · exact absurd (off b hb hc) z
end
/-- the law's row, from the promise of its def called from the top; the table of modules is tracked -/
theorem walk_topB {l : PySem.W.OpenLaw} {n : Nat} {q : Program} {loose : List Str} {XP : (Str → Option Value) → Heap → Prop} {YP : World → Heap → Prop} {d : DefRec} {K : Params → PySem.W.Frag} {sp : World → Sp} {x : Str}
    (hn : l.most = some n) (few : n ≤ sizeLine) (hdf : d.params.defaults = []) (hi : importsNone q = true) (hY : ∀ (w : World) (h : Heap), YP w h → (K w.params).In h) (km : ∀ w : World, (K w.params).lookup sysModules = none)
    (F : ∀ (w : World) (mg : Str → Option Value) (fa : Addr) (h : Heap), (K w.params).In h → h.Ns mainGlobals mg → mg d.name = some (.ref fa) →
      ∃ fd : FuncData, (∀ (s : Shared) (u : Value), BindsTo s fd ⟨[u], []⟩ [(x, u)]) ∧
        ∀ base : Heap, (K w.params).In base → base.Ns mainGlobals mg → AtTop l.prog w (K w.params) mg base fa fd x (sp w))
    (wish : ∀ (w : World) (H : Hp) (a : Addr) (ns : List Int), ns.length ≤ n → SysF H → SqL (K w.params) H a (ns.map V.int) → sp w [.ref a] H (fun v _ => v = .bl true) fun _ _ _ => False) :
    PySem.W.WalkO q loose XP YP l.row.toRowW d [] (fun f vs => PySem.call f vs) := by
  refine Att.attach_call hn hdf fun w s₀ t mg mb fa o pm cd doc a vs ns G Y ho hd hcd hmg hobj hints hlen g0 => ?_
  have KX := hY w _ Y
  obtain ⟨fd, hb, hF⟩ := F w mg fa _ KX G.T.g hmg
  have S := G.T.seer hi
  exact from_topB KX G.T.g G.T.b G.T.builtins G.T.nolimit g0 (let ⟨mm, y, _⟩ := S.mods; ⟨mm, y⟩) (km w) hobj hints (Nat.le_trans hlen few) hF hb fun H hO hS => wish w H a ns hlen hO hS
end L2H
set_option Elab.async false
set_option linter.all false
set_option maxRecDepth 100000
set_option maxHeartbeats 4000000
/-! Data as the law passes it: None, bools, ints, texts, lists, tuples, empty dicts; all of it tracked. -/
namespace DQ
open PySem PySem.W PySem.Calls PyProof.Rows L2
theorem same_refl {H : Hp} : Same H H := fun _ _ e => e
theorem same_trans {H H' H'' : Hp} (a : Same H H') (b : Same H' H'') : Same H H'' := fun x o e => b x o (a x o e)
theorem same_new {H : Hp} {a : Addr} {o : HO} (h : H a = none) : Same H (upd H a o) := fun b u e => by
  rw [upd_ne (ne_of_none e h)]
  exact e
theorem same_out {H H' : Hp} (s : Same H H') {b : Addr} (h : H' b = none) : H b = none := by
  cases e : H b with
  | none => rfl
  | some o => rw [s _ _ e] at h; cases h
mutual
inductive Dq (H : Hp) : V → PyData → Prop
  | non : Dq H .non .none
  | bl (b : Bool) : Dq H (.bl b) (.bool b)
  | int (i : Int) : Dq H (.int i) (.int i)
  | str (x : Str) (h : x.length ≤ sizeLine ∧ PyData.strOk x = true) : Dq H (.str x) (.str x)
  | lst {a : Addr} {xs : List V} {ds : List PyData} : H a = some (.lst xs) → DqAll H xs ds → Dq H (.ref a) (.list ds)
  | tup {a : Addr} {xs : List V} {ds : List PyData} : H a = some (.tup xs) → DqAll H xs ds → Dq H (.ref a) (.tuple ds)
  | dic {a : Addr} : H a = some (.dK []) → Dq H (.ref a) (.dict [])
inductive DqAll (H : Hp) : List V → List PyData → Prop
  | nil : DqAll H [] []
  | cons {v : V} {vs : List V} {d : PyData} {ds : List PyData} : Dq H v d → DqAll H vs ds → DqAll H (v :: vs) (d :: ds)
end
mutual
theorem Dq.same {H H' : Hp} (s : Same H H') : ∀ {v : V} {d : PyData}, Dq H v d → Dq H' v d
  | _, _, .non => .non
  | _, _, .bl b => .bl b
  | _, _, .int i => .int i
  | _, _, .str x h => .str x h
  | _, _, .lst h a => .lst (s _ _ h) (a.same s)
  | _, _, .tup h a => .tup (s _ _ h) (a.same s)
  | _, _, .dic h => .dic (s _ _ h)
theorem DqAll.same {H H' : Hp} (s : Same H H') : ∀ {vs : List V} {ds : List PyData}, DqAll H vs ds → DqAll H' vs ds
  | _, _, .nil => .nil
  | _, _, .cons h t => .cons (h.same s) (t.same s)
end
theorem DqAll.len {H : Hp} : ∀ {vs : List V} {ds : List PyData}, DqAll H vs ds → vs.length = ds.length
  | _, _, .nil => rfl
  | _, _, .cons _ t => congrArg Nat.succ t.len
theorem DqAll.at {H : Hp} : ∀ {vs : List V} {ds : List PyData} {i : Nat} {d : PyData}, DqAll H vs ds → ds[i]? = some d → ∃ v, vs[i]? = some v ∧ Dq H v d
  | _, _, _, _, .nil, e => by simp at e
  | _, _, 0, _, .cons h _, e => by
    cases e
    exact ⟨_, rfl, h⟩
  | _, _, i + 1, _, .cons _ t, e => t.at (i := i) e
theorem DqAll.app {H : Hp} : ∀ {vs ws : List V} {ds es : List PyData}, DqAll H vs ds → DqAll H ws es → DqAll H (vs ++ ws) (ds ++ es)
  | _, _, _, _, .nil, b => b
  | _, _, _, _, .cons h t, b => .cons h (t.app b)
theorem DqAll.take {H : Hp} : ∀ {vs : List V} {ds : List PyData} (n : Nat), DqAll H vs ds → DqAll H (vs.take n) (ds.take n)
  | _, _, 0, _ => by simpa using DqAll.nil
  | _, _, n + 1, .nil => .nil
  | _, _, n + 1, .cons h t => .cons h (t.take n)
theorem DqAll.drop {H : Hp} : ∀ {vs : List V} {ds : List PyData} (n : Nat), DqAll H vs ds → DqAll H (vs.drop n) (ds.drop n)
  | _, _, 0, h => h
  | _, _, n + 1, .nil => .nil
  | _, _, n + 1, .cons h t => t.drop n
theorem DqAll.rev {H : Hp} : ∀ {vs : List V} {ds : List PyData}, DqAll H vs ds → DqAll H vs.reverse ds.reverse
  | _, _, .nil => .nil
  | _, _, .cons h t => by
    rw [List.reverse_cons, List.reverse_cons]
    exact t.rev.app (.cons h .nil)
theorem DqAll.strs {H : Hp} : ∀ (ws : List Str), (∀ x ∈ ws, x.length ≤ sizeLine ∧ PyData.strOk x = true) → DqAll H (ws.map V.str) (ws.map PyData.str)
  | [], _ => .nil
  | w :: ws, h => .cons (.str w (h w (List.mem_cons_self ..))) (DqAll.strs ws fun x hx => h x (List.mem_cons_of_mem _ hx))
/-- the list of modules stands apart -/
abbrev Sys (H : Hp) : Prop := L2H.SysF H
theorem _root_.L2H.SysF.same {H H' : Hp} (x : Sys H) (s : Same H H') : Sys H' := let ⟨o, u, e⟩ := x; ⟨o, u, s _ _ e⟩
section
variable {X : Cx} {pins : List (Addr × Obj)} {σ : L2.St} {H : Hp} {s : Shared}
mutual
theorem Dq.reads (I : Inv X pins σ H s) (y : Sys H) : ∀ {v : V} {d : PyData} {u : Value}, Dq H v d → RelV v u → ∃ as, Reads s.heap u d as ∧ sysModules ∉ as
  | _, _, _, .non, r => by
    cases r
    exact ⟨_, .none, by simp⟩
  | _, _, _, .bl b, r => by
    cases r
    exact ⟨_, .bool b, by simp⟩
  | _, _, _, .int i, r => by
    obtain ⟨t, rfl⟩ := r
    exact ⟨_, .int i t, by simp⟩
  | _, _, _, .str x _, r => by
    obtain ⟨t, rfl⟩ := r
    exact ⟨_, .str x t, by simp⟩
  | _, _, _, .lst (a := a) h ha, r => by
    cases r
    obtain ⟨_, its, n, rv, e⟩ := (show ObjOk X.prog X.w H s.heap a (.lst _) from I.hok a _ h)
    obtain ⟨as, ra, na⟩ := ha.reads I y rv
    refine ⟨_, .list e rfl rfl ra, fun z => ?_⟩
    rcases List.mem_cons.mp z with q | q
    · obtain ⟨o, u, ey⟩ := y
      rw [q, h] at ey
      cases ey
    · exact na q
  | _, _, _, .tup (a := a) h ha, r => by
    cases r
    obtain ⟨_, its, rv, o, ho, hc, n, hd⟩ := (show ObjOk X.prog X.w H s.heap a (.tup _) from I.hok a _ h)
    obtain ⟨as, ra, na⟩ := ha.reads I y rv
    exact ⟨_, .tuple ho hc hd ra, na⟩
  | _, _, _, .dic (a := a) h, r => by
    cases r
    obtain ⟨_, hsys, vs, kv, hd⟩ := (show ObjOk X.prog X.w H s.heap a (.dK []) from I.hok a _ h)
    cases kv
    obtain ⟨o, es, ep, h1, h2, h3, _, h4, _⟩ := hd
    have e0 : es.toList = [] := by
      cases e : es.toList with
      | nil => rfl
      | cons x r =>
        rw [e] at h4
        cases h4
    refine ⟨a :: [] ++ [], Reads.dict h1 h2.1 h3 (by rw [e0]; exact .nil) (by rw [e0]; exact .nil), fun z => ?_⟩
    rcases List.mem_cons.mp z with q | q
    · rw [← q] at hsys
      simp at hsys
    · cases q
theorem DqAll.reads (I : Inv X pins σ H s) (y : Sys H) : ∀ {vs : List V} {ds : List PyData} {us : List Value}, DqAll H vs ds → Vals vs us → ∃ as, ReadsAll s.heap us ds as ∧ sysModules ∉ as
  | _, _, _, .nil, r => by
    cases r
    exact ⟨_, .nil, by simp⟩
  | _, _, _, .cons h t, r => by
    cases r with
    | cons r1 r2 =>
      obtain ⟨as, q1, n1⟩ := h.reads I y r1
      obtain ⟨bs, q2, n2⟩ := t.reads I y r2
      exact ⟨_, .cons q1 q2, fun z => by
        rcases List.mem_append.mp z with q | q
        · exact n1 q
        · exact n2 q⟩
end
end
/-- repr of such data -/
def rReprX : List V → Hp → VK → Prop := fun xs H Q => ∃ (v : V) (d : PyData), xs = [v] ∧ Sys H ∧ Dq H v d ∧ d.showable = true ∧ d.depth ≤ 60 ∧ d.shown.length ≤ sizeLine ∧ Q (.str d.shown) H
theorem call_reprX {X : Cx} (hg : X.A.guards = some []) (hu : X.A.units + 100 < cLine) : CallR X (.builtin "repr") rReprX := by
  intro pins s σ H xs us Q I r h
  obtain ⟨v, d, rfl, y, hd, sh, dp, sz, q⟩ := h
  obtain ⟨u, rfl, ru⟩ := vals1 r
  obtain ⟨as, rd, na⟩ := hd.reads I y ru
  cases hd with
  | non =>
    cases (show u = Value.none from ru)
    exact PySem.P.repr_of_none ⟨.str _, H, I.tok _, ⟨_, rfl⟩, q⟩
  | bl b =>
    cases (show u = Value.bool b from ru)
    exact PySem.P.repr_of_bool ⟨.str _, H, I.tok _, ⟨_, rfl⟩, q⟩
  | int i =>
    obtain ⟨t, rfl⟩ := (show ∃ t, u = Value.int i t from ru)
    exact PySem.P.repr_of_int (by simpa [PyData.showable] using sh) ⟨.str _, H, I.tok _, ⟨_, rfl⟩, q⟩
  | str x hx =>
    obtain ⟨t, rfl⟩ := (show ∃ t, u = Value.str x t from ru)
    exact PySem.P.repr_of_str ⟨.str _, H, I.tok _, ⟨_, rfl⟩, q⟩ sz
  | lst hs ha =>
    cases ru
    exact repr_of_reads' rd sh (fun _ => na) hg (by omega) (fun _ _ e => e) (fun h' t tk kp => ⟨.str _, H, I.kept kp, ⟨_, rfl⟩, q⟩) sz
  | tup hs ha =>
    cases ru
    exact repr_of_reads' rd sh (fun _ => na) hg (by omega) (fun _ _ e => e) (fun h' t tk kp => ⟨.str _, H, I.kept kp, ⟨_, rfl⟩, q⟩) sz
  | dic hs =>
    cases ru
    exact repr_of_reads' rd sh (fun _ => na) hg (by omega) (fun _ _ e => e) (fun h' t tk kp => ⟨.str _, H, I.kept kp, ⟨_, rfl⟩, q⟩) sz
/-- of which built-in class data is -/
def tyN : PyData → String
  | .none => "NoneType" | .bool _ => "bool" | .int _ => "int" | .str _ => "str" | .list _ => "list" | .tuple _ => "tuple" | .dict _ => "dict"
theorem Dq.ty {K : Frag} {H : Hp} {v : V} {d : PyData} (h : Dq H v d) : TyX K H v (.type (tyN d)) := by
  cases h with
  | non => exact .base .non
  | bl b => exact .base (.bl b)
  | int i => exact .base (.int i)
  | str x _ => exact .base (.str x)
  | lst e _ => exact .base (.lst e)
  | tup e _ => exact .base (.tup e)
  | dic e => exact .base (.dK e)
def isTup : PyData → Bool | .tuple _ => true | _ => false
def isStr : PyData → Bool | .str _ => true | _ => false
def isInt : PyData → Bool | .int _ => true | .bool _ => true | _ => false
def isBool : PyData → Bool | .bool _ => true | _ => false
theorem kt (d : PyData) : kitB (tyN d) "tuple" = some (isTup d) := by
  cases d
  · exact (by decide +kernel : kitB "NoneType" "tuple" = some false)
  · exact (by decide +kernel : kitB "bool" "tuple" = some false)
  · exact (by decide +kernel : kitB "int" "tuple" = some false)
  · exact (by decide +kernel : kitB "str" "tuple" = some false)
  · exact (by decide +kernel : kitB "list" "tuple" = some false)
  · exact (by decide +kernel : kitB "tuple" "tuple" = some true)
  · exact (by decide +kernel : kitB "dict" "tuple" = some false)
theorem ks (d : PyData) : kitB (tyN d) "str" = some (isStr d) := by
  cases d
  · exact (by decide +kernel : kitB "NoneType" "str" = some false)
  · exact (by decide +kernel : kitB "bool" "str" = some false)
  · exact (by decide +kernel : kitB "int" "str" = some false)
  · exact (by decide +kernel : kitB "str" "str" = some true)
  · exact (by decide +kernel : kitB "list" "str" = some false)
  · exact (by decide +kernel : kitB "tuple" "str" = some false)
  · exact (by decide +kernel : kitB "dict" "str" = some false)
theorem ki (d : PyData) : kitB (tyN d) "int" = some (isInt d) := by
  cases d
  · exact (by decide +kernel : kitB "NoneType" "int" = some false)
  · exact (by decide +kernel : kitB "bool" "int" = some true)
  · exact (by decide +kernel : kitB "int" "int" = some true)
  · exact (by decide +kernel : kitB "str" "int" = some false)
  · exact (by decide +kernel : kitB "list" "int" = some false)
  · exact (by decide +kernel : kitB "tuple" "int" = some false)
  · exact (by decide +kernel : kitB "dict" "int" = some false)
theorem kb (d : PyData) : kitB (tyN d) "bool" = some (isBool d) := by
  cases d
  · exact (by decide +kernel : kitB "NoneType" "bool" = some false)
  · exact (by decide +kernel : kitB "bool" "bool" = some true)
  · exact (by decide +kernel : kitB "int" "bool" = some false)
  · exact (by decide +kernel : kitB "str" "bool" = some false)
  · exact (by decide +kernel : kitB "list" "bool" = some false)
  · exact (by decide +kernel : kitB "tuple" "bool" = some false)
  · exact (by decide +kernel : kitB "dict" "bool" = some false)
/-- what isinstance(x, tuple) and the like ask -/
theorem is_tup {K : Frag} {H : Hp} {v : V} {d : PyData} {Q : VK} (h : Dq H v d) (q : Q (.bl (isTup d)) H) : rIsi K [v, .ty "tuple"] H Q := ⟨v, .ty "tuple", _, _, _, rfl, .ty _, h.ty, kit_ty (kt d), q⟩
theorem is_str {K : Frag} {H : Hp} {v : V} {d : PyData} {Q : VK} (h : Dq H v d) (q : Q (.bl (isStr d)) H) : rIsi K [v, .ty "str"] H Q := ⟨v, .ty "str", _, _, _, rfl, .ty _, h.ty, kit_ty (ks d), q⟩
theorem is_int {K : Frag} {H : Hp} {v : V} {d : PyData} {Q : VK} (h : Dq H v d) (q : Q (.bl (isInt d)) H) : rIsi K [v, .ty "int"] H Q := ⟨v, .ty "int", _, _, _, rfl, .ty _, h.ty, kit_ty (ki d), q⟩
theorem is_bool {K : Frag} {H : Hp} {v : V} {d : PyData} {Q : VK} (h : Dq H v d) (q : Q (.bl (isBool d)) H) : rIsi K [v, .ty "bool"] H Q := ⟨v, .ty "bool", _, _, _, rfl, .ty _, h.ty, kit_ty (kb d), q⟩
end DQ
set_option Elab.async false
set_option linter.all false
set_option maxRecDepth 100000
set_option maxHeartbeats 4000000
/-! a list or a tuple of anything, held against the empty one -/
namespace NI
open PySem PySem.Spec PyProof.Rows L2 PySem.SeqAt
section
variable {X : Cx}
def rNilL (K : PySem.W.Frag) (f : Bool → Bool) : R2 := fun x y H Q => ∃ a b xs, x = .ref a ∧ y = .ref b ∧ SqL K H a xs ∧ SqL K H b [] ∧ Q (.bl (f xs.isEmpty)) H
def rNilT (K : PySem.W.Frag) (f : Bool → Bool) : R2 := fun x y H Q => ∃ a b xs, x = .ref a ∧ y = .ref b ∧ SqT K H a xs ∧ SqT K H b [] ∧ Q (.bl (f xs.isEmpty)) H
theorem op_eqNil (hu : X.A.units < cLine) : OpR X (compareOp .Eq) (rNilL X.K id) := by
  intro pins s σ H x y v u Q I rx ry h
  obtain ⟨a, b, xs, rfl, rfl, ha, hb, q⟩ := h
  cases rx
  cases ry
  obtain ⟨its, r, pl, hz⟩ := I.list ha
  obtain ⟨its2, r2, pl2, hz2⟩ := I.list hb
  cases r2
  cases xs with
  | nil =>
    cases r
    exact eq_listAt (e := fun _ => true) pl.isList pl2.isList rfl hu (fun j h1 _ => absurd h1 (Nat.not_lt_zero j)) ⟨.bl true, H, I, rfl, q⟩
  | cons x xs =>
    cases r with
    | cons r1 r2 => exact eq_list_lengthsAt pl.isList pl2.isList (by simp) hu ⟨.bl false, H, I, rfl, q⟩
theorem op_neNil (hu : X.A.units < cLine) : OpR X (compareOp .NotEq) (rNilL X.K not) := by
  intro pins s σ H x y v u Q I rx ry h
  obtain ⟨a, b, xs, rfl, rfl, ha, hb, q⟩ := h
  cases rx
  cases ry
  obtain ⟨its, r, pl, hz⟩ := I.list ha
  obtain ⟨its2, r2, pl2, hz2⟩ := I.list hb
  cases r2
  cases xs with
  | nil =>
    cases r
    exact RcNeAt.lists (e := fun _ => true) pl.isList pl2.isList rfl hu (fun j h1 _ => absurd h1 (Nat.not_lt_zero j)) _ _ _ _ ⟨.bl false, H, I, rfl, q⟩
  | cons x xs =>
    cases r with
    | cons r1 r2 => exact RcNeAt.lists_lengths pl.isList pl2.isList (by simp) hu _ _ _ _ ⟨.bl true, H, I, rfl, q⟩
theorem op_eqNilT (hu : X.A.units < cLine) : OpR X (compareOp .Eq) (rNilT X.K id) := by
  intro pins s σ H x y v u Q I rx ry h
  obtain ⟨a, b, xs, rfl, rfl, ha, hb, q⟩ := h
  cases rx
  cases ry
  obtain ⟨its, r, pl, hz⟩ := I.tuple ha
  obtain ⟨its2, r2, pl2, hz2⟩ := I.tuple hb
  cases r2
  cases xs with
  | nil =>
    cases r
    exact eq_tupleAt (e := fun _ => true) pl pl2 hu (fun j h1 _ => absurd h1 (Nat.not_lt_zero j)) ⟨.bl true, H, I, rfl, q⟩
  | cons x xs =>
    cases r with
    | cons r1 r2 => exact eq_tupleAt (e := fun _ => true) pl pl2 hu (fun j _ h2 => absurd h2 (Nat.not_lt_zero j)) ⟨.bl false, H, I, rfl, q⟩
end
end NI
namespace NI
open PySem PySem.Spec PyProof.Rows L2 PySem.SeqAt
section
variable {X : Cx}
theorem op_neNilT (hu : X.A.units < cLine) : OpR X (compareOp .NotEq) (rNilT X.K not) := by
  intro pins s σ H x y v u Q I rx ry h
  obtain ⟨a, b, xs, rfl, rfl, ha, hb, q⟩ := h
  cases rx
  cases ry
  obtain ⟨its, r, pl, hz⟩ := I.tuple ha
  obtain ⟨its2, r2, pl2, hz2⟩ := I.tuple hb
  cases r2
  cases xs with
  | nil =>
    cases r
    exact RcNeAt.tuples (e := fun _ => true) pl pl2 hu (fun j h1 _ => absurd h1 (Nat.not_lt_zero j)) _ _ _ _ ⟨.bl false, H, I, rfl, q⟩
  | cons x xs =>
    cases r with
    | cons r1 r2 => exact RcNeAt.tuples (e := fun _ => true) pl pl2 hu (fun j _ h2 => absurd h2 (Nat.not_lt_zero j)) _ _ _ _ ⟨.bl true, H, I, rfl, q⟩
end
end NI
set_option Elab.async false
set_option linter.all false
set_option maxRecDepth 100000
set_option maxHeartbeats 4000000
/-! sets of texts, made of a tuple, gathered, sorted -/
namespace SX
open PySem PySem.Spec PyProof.Rows PySem.Froz L2
/-- the entries' texts are l in some order; the places rise; the order is told -/
structure TP (P : Program) (w : World) (D : SD) (l : List Str) : Prop where
  ok : TxOk P w D l
  pm : (D.1.toList.map fun e => strOf e.2).Perm l
  ri : Ris D.2.2.place.toList
  le : w.params.followText "set-order" = true ∨ D.2.2.led = true
def SetT (P : Program) (w : World) (h : Heap) (a : Addr) (l : List Str) : Prop := ∃ D : SD, h.get? a = some (sObj "set" D) ∧ TP P w D l
theorem tail_keep (ep : Nat) (es1 : Array (Int × Value)) (t2 : SetTable) (wd : Bool) (r : Ris t2.place.toList) :
    (tailTx ep es1 t2 wd).1.toList.Perm es1.toList ∧ Ris (tailTx ep es1 t2 wd).2.2.place.toList ∧ (tailTx ep es1 t2 wd).2.2.led = t2.led := by
  unfold tailTx
  by_cases c : (!wd && t2.tooFull) = true
  · rw [if_pos c]
    exact ⟨relayAll_perm t2 es1 _, relayAll_ris t2 es1 _, relayAll_led t2 es1 _⟩
  · rw [if_neg c]
    exact ⟨.refl _, r, rfl⟩
theorem TP.add {P : Program} {w : World} {D : SD} {l : List Str} {k : Str} (u : Tok) (F : TP P w D l) : TP P w (addTx (hashStr w k) (.str k u) D) (k :: l) := by
  obtain ⟨es, ep, t⟩ := D
  have r1 : Ris (layNew t es (hashStr w k) (.str k u)).2.1.place.toList := layNew_ris t es _ _ F.ri
  have e1 := layNew_led t es (hashStr w k) (.str k u)
  have p1 := layNew_perm t es (hashStr w k) (.str k u)
  let t2 : SetTable := if (layNew t es (hashStr w k) (.str k u)).2.1.plain = true then { (layNew t es (hashStr w k) (.str k u)).2.1 with plain := false } else (layNew t es (hashStr w k) (.str k u)).2.1
  have r2 : Ris t2.place.toList := by
    show Ris (if _ then _ else _ : SetTable).place.toList
    split
    · exact r1
    · exact r1
  have e2 : t2.led = t.led := by
    show (if _ then _ else _ : SetTable).led = _
    split
    · exact e1
    · exact e1
  obtain ⟨q1, q2, q3⟩ := tail_keep ep (layNew t es (hashStr w k) (.str k u)).1 t2 (layNew t es (hashStr w k) (.str k u)).2.2.1 r2
  refine ⟨add_ok u F.ok, ?_, q2, ?_⟩
  · refine (q1.map _).trans ((p1.map _).trans ?_)
    rw [Array.toList_push, List.map_append]
    exact (List.perm_append_comm (l₁ := List.map _ es.toList) (l₂ := [k])).trans (List.Perm.cons k F.pm)
  · rcases F.le with z | z
    · exact .inl z
    · exact .inr (q3.trans (e2.trans z))
section
variable {P : Program} {w : World} {A : Around} {E : Value → Shared → Prop} {s : Shared}
theorem found {a : Addr} {D : SD} {l : List Str} {k : Str} {u : Tok} {Q : Bool → Shared → Prop} (ho : s.heap.get? a = some (sObj "set" D)) (F : TxOk P w D l) (hk : k ∈ l) (hb : l.length < scanBound) (h : Q false s) :
    wpAny (model P w) A (setAddHashed a (.str k u) (hashStr w k)) Q E s := by
  obtain ⟨es, ep, t⟩ := D
  have hd : (sObj "set" (es, ep, t)).data = .set es ep t := rfl
  have el : ElemsOf (PySem.strKind P w) es.toList := F.el
  have f1 : t.fits es.size = true := F.fit
  have n1 : es.size < scanBound := by
    have z : es.size = l.length := F.sz
    omega
  obtain ⟨e, he, ie⟩ := (F.mem k).mp hk
  unfold setAddHashed setAddHashedIn
  refine wpAny_holding (wpAny_bind (wpAny_setState_of ho hd f1 ?_))
  dsimp only
  rw [byScan_of rfl n1 el]
  simp only [↓reduceIte]
  unfold setAddByScan
  refine wpAny_bind (wpAny_bind (wpAny_rule (wpAny_bind (wpAny_setScan_of (knd := PySem.strKind P w) (k := k) (is_str k u) ho hd f1 el ?_))))
  cases hf : List.findIdx? (fun e => (PySem.strKind P w).is k e.2) es.toList with
  | none =>
    have c := List.findIdx?_eq_none_iff.mp hf e he
    rw [ie] at c
    cases c
  | some j =>
    dsimp only
    exact wpAny_pure (wpAny_pure h)
/-- one more text put into it -/
def plus (l : List Str) (k : Str) : List Str := if k ∈ l then l else k :: l
theorem add_one {a : Addr} {l : List Str} {k : Str} {u : Tok} {Q : Bool → Shared → Prop} (S : SetT P w s.heap a l) (hb : l.length + 1 < scanBound)
    (h : ∀ h' b, Heap.SameBut a s.heap h' → SetT P w h' a (plus l k) → Q b { s with heap := h' }) : wpAny (model P w) A (setAddHashed a (.str k u) (hashStr w k)) Q E s := by
  obtain ⟨D, ho, F⟩ := S
  by_cases hk : k ∈ l
  · refine found ho F.ok hk (by omega) (h s.heap false (Heap.SameBut.refl a s.heap) ?_)
    unfold plus
    rw [if_pos hk]
    exact ⟨D, ho, F⟩
  · refine add_x ho F.ok hk hb (h _ true (Heap.SameBut.update s.heap a _) ?_)
    unfold plus
    rw [if_neg hk]
    exact ⟨_, get_upd _ ho rfl, F.add u⟩
theorem SetT.at {h h' : Heap} {a : Addr} {l : List Str} (S : SetT P w h a l) (k : ∀ o, h.get? a = some o → h'.get? a = some o) : SetT P w h' a l := by
  obtain ⟨D, e, F⟩ := S
  exact ⟨D, k _ e, F⟩
/-- the list gathered from the first texts -/
def pack (ns : List Str) : List Str := ns.foldl plus []
theorem pack_take {ns : List Str} {i : Nat} {z : Str} (h : ns[i]? = some z) : pack (ns.take (i + 1)) = plus (pack (ns.take i)) z := by
  unfold pack
  rw [List.take_add_one, h]
  show ((ns.take i) ++ [z]).foldl plus [] = _
  rw [List.foldl_append]
  rfl
theorem plus_len (l : List Str) (k : Str) : (plus l k).length ≤ l.length + 1 := by
  unfold plus
  split
  · omega
  · exact Nat.le_refl _
theorem fold_len : ∀ (ns l : List Str), (ns.foldl plus l).length ≤ l.length + ns.length
  | [], l => Nat.le_refl _
  | n :: ns, l => by
    have a := fold_len ns (plus l n)
    have b := plus_len l n
    show ((ns.foldl plus (plus l n)).length) ≤ _
    rw [List.length_cons]
    omega
theorem pack_len (ns : List Str) : (pack ns).length ≤ ns.length := by
  have z := fold_len ns []
  rw [List.length_nil, Nat.zero_add] at z
  exact z
theorem plus_mem {l : List Str} {k x : Str} : x ∈ plus l k ↔ x ∈ l ∨ x = k := by
  unfold plus
  split
  · rename_i h
    exact ⟨.inl, fun z => z.elim id fun e => e ▸ h⟩
  · rw [List.mem_cons]
    exact Or.comm
theorem plus_nodup {l : List Str} {k : Str} (h : l.Nodup) : (plus l k).Nodup := by
  unfold plus
  split
  · exact h
  · rename_i z
    exact List.nodup_cons.mpr ⟨z, h⟩
theorem fold_mem {x : Str} : ∀ (ns l : List Str), x ∈ ns.foldl plus l ↔ x ∈ l ∨ x ∈ ns
  | [], l => by simp
  | n :: ns, l => by
    show x ∈ ns.foldl plus (plus l n) ↔ _
    rw [fold_mem ns, plus_mem, List.mem_cons, or_assoc]
theorem fold_nodup : ∀ (ns l : List Str), l.Nodup → (ns.foldl plus l).Nodup
  | [], l, h => h
  | n :: ns, l, h => fold_nodup ns _ (plus_nodup h)
theorem pack_mem {x : Str} {ns : List Str} : x ∈ pack ns ↔ x ∈ ns := by
  unfold pack
  rw [fold_mem]
  simp
theorem pack_nodup (ns : List Str) : (pack ns).Nodup := fold_nodup ns [] List.nodup_nil
theorem loop {I : Addr} {fp wr : List Addr} {G : Array GenState → Array GenState → Prop} {n : Nat} {Pv : Nat → Value → Prop} {St : Nat → Shared → Prop} {R : Result → Shared → Prop}
    (W : WalksS P w A.in1 I fp wr G n Pv St) (S : Addr) (nf : S ∉ fp) (ns : List Str) (en : n = ns.length) (hb : ns.length + 1 < scanBound) (val : ∀ i v, Pv i v → ∃ k t, ns[i]? = some k ∧ v = .str k t) :
    ∀ (k i : Nat) (s : Shared), n - i = k → i ≤ n → St i s → SetT P w s.heap S (pack (ns.take i)) →
      (∀ s', Moved (S :: wr) G s s' → SetT P w s'.heap S (pack ns) → R (.ok (.ret .none)) s') → codeAny (model P w) A (.builtin "set.update.loop" ⟨[.ref S, .ref I], []⟩) R s := by
  have nw : S ∉ wr := fun h => nf (W.sub _ h)
  have sub : ∀ b ∈ wr, b ∈ S :: wr := fun b hb => List.mem_cons_of_mem _ hb
  intro k
  induction k with
  | zero =>
    intro i s ek hi st hS fin
    obtain rfl : i = n := by omega
    refine codeAny_builtin PyProof.Rows.F.entry_set_update_loop ?_
    rw [Around.under_plainId PyProof.Rows.F.plain_set_update_loop _]
    show wpAny _ A.in1 (pyNext (Value.ref I) >>= _) _ _ s
    refine wpAny_bind (W.done s _ _ st fun s1 m1 => ?_)
    rw [List.take_of_length_le (show ns.length ≤ i by omega)] at hS
    show wpAny _ A.in1 (ret Value.none) _ _ s1
    exact wpAny_pure (fin s1 (m1.mono sub) (hS.at fun o e => m1.heap S o nw e))
  | succ k ih =>
    intro i s ek hi st hS fin
    have lt : i < n := by omega
    refine codeAny_builtin PyProof.Rows.F.entry_set_update_loop ?_
    rw [Around.under_plainId PyProof.Rows.F.plain_set_update_loop _]
    show wpAny _ A.in1 (pyNext (Value.ref I) >>= _) _ _ s
    refine wpAny_bind (W.item i s _ _ lt st fun v s1 hP st1 m1 => ?_)
    obtain ⟨z, t, hz, rfl⟩ := val i v hP
    have hS1 : SetT P w s1.heap S (pack (ns.take i)) := hS.at fun o e => m1.heap S o nw e
    show wpAny _ A.in1 (holding [Value.str z t] (setAdd S (.str z t)) >>= _) _ _ s1
    refine wpAny_bind (wpAny_holding ?_)
    unfold setAdd
    refine wpAny_holding (wpAny_bind ((PySem.strKind P w).pyHash (k := z) (is_str z t) ?_))
    have pl := pack_len (ns.take i)
    rw [List.length_take] at pl
    refine add_one (s := { s1 with toks := s1.toks + 1 }) hS1 (by omega) fun h2 bb sb S2 => ?_
    rw [← pack_take hz] at S2
    refine wpAny_pure ⟨plainId_quiet PyProof.Rows.F.plain_set_update_loop _, ih (i + 1) _ (by omega) lt (W.frame _ s1 _ _ st1 (Nat.le_succ _) fun b hb o e => ?_) S2 fun s3 m3 S3 => fin s3 (Moved.trans W.gtrans ((m1.mono sub).then_heap (Nat.le_succ _) fun b o hb e => ?_) m3) S3⟩
    · rw [sb.2 b fun z : b = S => nf (z ▸ hb)]
      exact e
    · rw [sb.2 b fun z : b = S => hb (by rw [z]; exact List.mem_cons_self)]
      exact e
end
end SX
set_option Elab.async false
set_option linter.all false
set_option maxRecDepth 100000
set_option maxHeartbeats 6400000
namespace SX
open PySem PySem.Spec PyProof.Rows PySem.Froz L2
/-- a set as it is made, in this world -/
def bare (w : World) : Obj := { cls := .type "set", dict := none, data := .set #[] 0 (.fresh 0 0 (!w.params.followText "set-order")) }
theorem bare_ok {P : Program} {w : World} {h : Heap} {a : Addr} (e : h.get? a = some (bare w)) : SetT P w h a [] := by
  refine ⟨(#[], 0, .fresh 0 0 (!w.params.followText "set-order")), e, TxOk.nil (by rfl), .refl _, List.Pairwise.nil, ?_⟩
  show _ ∨ (!w.params.followText "set-order") = true
  cases w.params.followText "set-order"
  · exact .inr rfl
  · exact .inl rfl
section
variable {P : Program} {w : World} {A : Around} {E : Value → Shared → Prop} {s : Shared}
theorem strs_get : ∀ {us : List Value} {xs : List Str}, StrsAre us xs → ∀ {i : Nat} {v : Value}, us[i]? = some v → ∃ k t, xs[i]? = some k ∧ v = .str k t
  | _, _, .nil, i, v, h => by simp at h
  | _, _, .cons n t r, 0, v, h => by
    rw [List.getElem?_cons_zero] at h
    exact ⟨n, t, rfl, (Option.some.inj h).symm⟩
  | _, _, .cons n t r, i + 1, v, h => by
    rw [List.getElem?_cons_succ] at h ⊢
    exact strs_get r h
theorem of_tuple {l : Addr} {items : Array Value} (ns : List Str) {Q : Value → Shared → Prop} (hh : A.handled = none) (hl : s.heap.IsTuple l items) (it : StrsAre items.toList ns) (hb : ns.length + 1 < scanBound)
    (fin : ∀ (h' : Heap) (tk : Nat), SetT P w h' s.heap.objs.size (pack ns) → (∀ b o, s.heap.get? b = some o → h'.get? b = some o) → Q (.ref s.heap.objs.size) { s with heap := h', toks := tk }) :
    wpAny (model P w) A (call (.type "set") [.ref l]) Q E s := by
  have n1 : items.size = ns.length := by
    have q := StrsAre.len_eq it
    rw [Array.length_toList] at q
    exact q
  have ⟨c, tl, hmro⟩ := PySem.F.called_set.mro
  have hmade := PySem.F.called_set.made
  have hsub := PySem.F.called_set.sub
  refine wpAny_call (codeAny_of_tree ?_)
  show wpAny _ _ (callAny (.type "set") _) _ _ _
  refine wpAny_pure ⟨Code.quiet_builtin _ (by decide +kernel), codeAny_builtin PySem.F.entry_type_call ?_⟩
  rw [Around.under_plain (weight_type_call_type "set" [.ref l] []) rfl]
  have x1 := PySem.F.called_set.notType
  have x2 := PySem.F.called_set.canCreate
  have x3 := PySem.F.typeCall_set_1 (.ref l)
  repeat (any_goals (first | assumption | wp_step))
  refine codeAny_mono (code_set_led1 (.ref l) (E := E) (Q₁ := fun x y => x = .ref s.heap.objs.size ∧ y = { s with heap := s.heap.push (bare w) }) ⟨rfl, rfl⟩) fun r s1 hr => ?_
  cases r with
  | error e => exact hr
  | ok fl =>
    cases fl with
    | ret x =>
      obtain ⟨rfl, rfl⟩ := hr
      have hS : (s.heap.push (bare w)).get? s.heap.objs.size = some (bare w) := Heap.get?_push_size _ rfl
      have hT : Shared.TypeIs { s with heap := s.heap.push (bare w) } (.ref s.heap.objs.size) "set" := ⟨_, hS, rfl⟩
      have y1 := PySem.F.called_set.init.lookup
      have y2 := PySem.F.called_set.init.bind (.ref s.heap.objs.size)
      repeat (any_goals (first | assumption | wp_step))
      refine codeAny_mono (codeAny_call_builtin (R := wants (fun r y => r = .none ∧ ∃ h' tk, y = { s with heap := h', toks := tk } ∧ SetT P w h' s.heap.objs.size (pack ns) ∧ (∀ b o, s.heap.get? b = some o → h'.get? b = some o)) E)
        PySem.F.called_set.init.plain PySem.F.entry_set_init (check_set_init_1 hT ?_)) fun r2 s2 hr2 => ?_
      · obtain ⟨⟨ocls, odict, odata, oslots⟩, hol, hcl, nl, hdl⟩ := hl
        simp only at hcl hdl
        subst hcl hdl
        have hol2 : (s.heap.push (bare w)).get? l = some { cls := .type "tuple", dict := odict, data := .seq items nl, slots := oslots } := Heap.get?_push_of_some _ hol
        have z1 := PySem.F.sub_tuple_set
        have z2 := PySem.F.sub_tuple_frozenset
        have z3 : (Value.type "tuple" == Value.type "dict") = false := by decide
        have hl1 : (s.heap.push (bare w)).IsTuple l items := ⟨_, hol2, rfl, nl, rfl⟩
        unfold Builtin.«set.__init__» noKeywords Builtin.Frozenset.updateFrom
        generalize hPI : pyIter = PI
        wp_walk
        subst hPI
        refine wpAny_pyIter_tuple hl1 (wpAny_bind (wpAny_runValue ?_))
        have lS : l < s.heap.objs.size := Heap.lt_size hol
        have h3 : A.in1.in1.in1.handled = none := by simp [hh]
        have nI : l ≠ (s.heap.push (bare w)).objs.size := by
          rw [Heap.size_push]
          exact Nat.ne_of_lt (Nat.lt_succ_of_lt lS)
        have nf : s.heap.objs.size ∉ [(s.heap.push (bare w)).objs.size, l] := fun z => by
          rw [Heap.size_push] at z
          rcases List.mem_cons.mp z with z | z
          · omega
          · have z := List.mem_singleton.mp z
            exact Nat.ne_of_gt lS z
        refine loop ((Walks.tuple h3 _ l nI items).toS) s.heap.objs.size nf ns n1 hb (fun i v hv => strs_get it (by rw [Array.getElem?_toList]; exact hv)) (items.size - 0) 0 _ (by omega) (Nat.zero_le _)
          ⟨⟨_, Heap.get?_push_size _ rfl, rfl, rfl⟩, hl1.push _⟩ (bare_ok (Heap.get?_push_of_some _ hS)) fun s' hm hS' => ?_
        obtain ⟨h', g', d', tk', os'⟩ := s'
        have eg : g' = s.gens := hm.gens
        have ed : d' = s.drawn := hm.drawn
        have eo : os' = s.os := hm.os
        subst eg ed eo
        show wpAny _ _ _ _ _ _
        refine wpAny_pure ?_
        show wpAny _ _ (ret Value.none) _ _ _
        refine wpAny_pure ⟨rfl, h', tk', rfl, hS', fun b o e => hm.heap b o (fun z => ?_) (Heap.get?_push_of_some _ (Heap.get?_push_of_some _ e))⟩
        have b0 : b < s.heap.objs.size := Heap.lt_size e
        rcases List.mem_cons.mp z with z | z
        · exact Nat.ne_of_lt b0 z
        · have z := List.mem_singleton.mp z
          rw [Heap.size_push] at z
          exact Nat.ne_of_lt (Nat.lt_succ_of_lt b0) z
      · cases r2 with
        | error e => exact hr2
        | ok f2 =>
          cases f2 with
          | ret r =>
            obtain ⟨rfl, h', tk, rfl, S2, k2⟩ := hr2
            repeat (any_goals (first | assumption | wp_step))
            exact fin _ _ S2 k2
          | _ => exact hr2.elim
    | _ => exact hr.elim
/-- sorted of it -/
theorem strs_rev {vs : List Value} (h : ∀ v ∈ vs, ∃ k t, v = Value.str k t) : StrsAre vs (vs.map strOf) := strsAre_map vs h
theorem sorted_of {a : Addr} {l : List Str} {Q : Value → Shared → Prop} (S : SetT P w s.heap a l) (hh : A.handled = none) (n64 : l.length < 64)
    (fin : ∀ s' p (out : Array Value) (c : Nat) (ns : List Str), (∀ b o, s.heap.get? b = some o → s'.heap.get? b = some o) → s'.gens = s.gens → s'.os = s.os → s.heap.objs.size ≤ p →
      s'.heap.get? p = some (seqObj "list" out c) → StrsAre out.toList ns → sortedS ns = true → ns.Perm l → Q (.ref p) s') : wpAny (model P w) A (call (.builtin "sorted") [.ref a]) Q E s := by
  obtain ⟨⟨es, ep, t⟩, ho, F⟩ := S
  have sz : es.size = l.length := F.ok.sz
  have b1 : es.size < scanBound := by
    show es.size < 4096
    omega
  refine Calls.call_function_entry kind_sorted plain_sorted entry_sorted (args_sorted1 _) ?_
  unfold Builtin.«sorted»
  refine wpAny_bind (m := checkCount "sorted" 1 1 _) (wpAny_pure (wpAny_bind (collect_set (A := A.in1) hh ⟨_, ho, rfl, rfl⟩ F.ok.fit b1 F.ri F.le fun s1 vs k1 z1 g1 o1 pm => ?_)))
  have vl : vs.length = l.length := by
    rw [pm.length_eq, List.length_map, Array.length_toList]
    exact sz
  have hI : StrsAre vs (vs.map strOf) := strs_rev fun v hv => by
    obtain ⟨e, he, q⟩ := List.mem_map.mp (pm.mem_iff.mp hv)
    obtain ⟨⟨k, ik, _⟩, _⟩ := F.ok.el e he
    obtain ⟨u, hu⟩ := Value.isStrOf_shape ik
    exact ⟨k, u, q.symm.trans hu⟩
  have pk : (vs.map strOf).Perm l := by
    have q := pm.map strOf
    rw [List.map_map] at q
    exact q.trans F.pm
  refine wpAny_bind (wpAny_newList ?_ (by rw [vl, sizeLine_eq]; omega))
  have hoL : (s1.heap.push (seqObj "list" vs.toArray 0)).get? s1.heap.objs.size = some (seqObj "list" vs.toArray 0) := Heap.get?_push_size _ rfl
  have k0 : KeysOf PyProof.Rows.strKind (pairsOf vs) := fun p hp => by
    rw [pairsOf_toList] at hp
    obtain ⟨x, u, e⟩ := hI.all _ (mem_zip_self hp).2
    exact ⟨x.cps.toList, by rw [e]⟩
  have kk : ∀ v1 v2 rest, vs = v1 :: v2 :: rest → keyKind' (v1 :: v2 :: rest).toArray = pure oneType' := fun v1 v2 rest e => by
    rw [e] at hI
    exact keyKind_strs hI
  refine wpAny_bind (wpAny_holding (wpAny_call_entry slot_list_sort ⟨_, hoL, rfl⟩ entry_list_sort (list_sort_treeK strKind_oneLt hoL k0 kk (by rw [vl]; exact n64) fun st' a1 a2 => ⟨_, rfl, ?_⟩) (args_list_sort _)))
  obtain ⟨c, hc⟩ := sortedHeap_at (vs := vs) (out := (arrOf st').map (·.2)) hoL
  obtain ⟨ss, q1, q2, q3⟩ := sorted_out_str hI a1 a2
  refine wpAny_pure ⟨_, rfl, fin _ s1.heap.objs.size _ c ss (fun b u e => ?_) g1 o1 z1 hc q1 q3 (q2.trans pk)⟩
  have q := k1 b u e
  have lt := Heap.lt_size q
  show (sortedHeap (s1.heap.push (seqObj "list" vs.toArray 0)) s1.heap.objs.size vs _).get? b = some u
  rw [sortedHeap_old (Nat.ne_of_lt lt) (by rw [size_push']; exact Nat.lt_succ_of_lt lt)]
  exact Heap.get?_push_of_some _ q
end
end SX
set_option Elab.async false
set_option linter.all false
set_option maxRecDepth 100000
set_option maxHeartbeats 4000000
namespace SX
open PySem PySem.Spec PyProof.Rows PySem.Froz L2
/-- the set of texts at a -/
def SetTO (P : Program) (w : World) (a : Addr) (l : List Str) : HO := .ext fun h => SetT P w h a l
theorem setTO_new {w : World} {P : Program} {H : Hp} {h : Heap} {a : Addr} {l : List Str} (R : SetT P w h a l) : ObjOk P w H h a (SetTO P w a l) := by
  have ⟨D, ho, _⟩ := R
  exact ⟨R, ⟨_, ho⟩, fun h1 h2 p k => SetT.at p k⟩
theorem vals_of_texts : ∀ {us : List Value} {xs : List Str}, StrsAre us xs → Vals (xs.map V.str) us
  | _, _, .nil => .nil
  | _, _, .cons x t r => .cons ⟨t, rfl⟩ (vals_of_texts r)
theorem texts_of : ∀ {us : List Value} {xs : List Str}, Vals (xs.map V.str) us → StrsAre us xs
  | _, [], r => by
    cases r
    exact .nil
  | _, x :: xs, r => by
    cases r with
    | cons a b =>
      obtain ⟨t, rfl⟩ := a
      exact .cons x t (texts_of b)
section
variable {X : Cx}
/-- set(t) of a tuple of texts -/
def rSetTx (P : Program) (w : World) (K : PySem.W.Frag) : List V → Hp → VK → Prop := fun xs H Q => ∃ (a : Addr) (ws : List Str), xs = [V.ref a] ∧ SqT K H a (ws.map V.str) ∧ ws.length ≤ 1000 ∧
  ∀ p, H p = none → Q (.ref p) (upd H p (SetTO P w p (pack ws)))
theorem cr_setTx (hc : X.calm = true) : CallR X (.type "set") (rSetTx X.prog X.w X.K) := by
  intro pins s σ H xs us Q I r h
  obtain ⟨a, ws, rfl, hq, hn, q⟩ := h
  rw [Vals.ref1 r]
  obtain ⟨its, rv, pl, hz⟩ := I.tuple hq
  refine of_tuple (items := its.toArray) ws (I.ok.hd hc) pl (by rw [List.toList_toArray]; exact texts_of rv) (by show _ < 4096; omega) fun h' tk S k => ?_
  have hn : H s.heap.objs.size = none := I.hok.fresh (Nat.le_refl _)
  exact ⟨.ref _, upd H s.heap.objs.size (SetTO X.prog X.w s.heap.objs.size (pack ws)), I.laid (t' := tk) k (Nat.le_refl _) (setTO_new S), rfl, q _ hn⟩
/-- sorted(s) of a set of fewer than 64 texts -/
def rSortTx (P : Program) (w : World) : List V → Hp → VK → Prop := fun xs H Q => ∃ (a : Addr) (l : List Str), xs = [V.ref a] ∧ H a = some (SetTO P w a l) ∧ l.length < 64 ∧
  ∀ (ns : List Str) (p : Addr), sortedS ns = true → ns.Perm l → H p = none → Q (.ref p) (upd H p (.lst (ns.map V.str)))
theorem cr_sortTx (hc : X.calm = true) : CallR X (.builtin "sorted") (rSortTx X.prog X.w) := by
  intro pins s σ H xs us Q I r h
  obtain ⟨a, l, rfl, ha, n64, q⟩ := h
  have R : SetT X.prog X.w s.heap a l := (I.hok a _ ha).1
  rw [Vals.ref1 r]
  refine sorted_of R (I.ok.hd hc) n64 fun s' p out c ns k g o hp hg hi hs pm => ?_
  have nl : (ns.map V.str).length ≤ sizeLine := by
    rw [List.length_map, pm.length_eq, sizeLine_eq]
    omega
  have np : H p = none := I.hok.fresh hp
  obtain ⟨h2, g2, d2, t2, o2⟩ := s'
  obtain rfl : o2 = s.os := o
  have J : Inv X pins σ (upd H p (.lst (ns.map V.str))) { s with heap := h2, gens := g2, drawn := d2, toks := t2 } :=
    I.call (ch := []) (Un.laid k hp np) (I.hok.laid k hp ⟨nl, out.toList, c, vals_of_texts hi, hg⟩) (by rw [show g2 = s.gens from g]; exact I.bare) (fun _ z => nomatch z)
  exact ⟨.ref p, _, J, rfl, q ns p hs pm np⟩
end
end SX
set_option Elab.async false
set_option linter.all false
set_option maxRecDepth 100000
set_option maxHeartbeats 4000000
/-! text * 2 -/
namespace NI
open PySem PySem.Spec PyProof.Rows L2
section
variable {X : Cx}
def rDbl : R2 := fun a b H Q => ∃ x, a = .str x ∧ b = .int 2 ∧ x.length ≤ 1000000 ∧ ∀ y : Str, y.length ≤ 2 * x.length → (∀ c ∈ y.cps.toList, c ∈ x.cps.toList) → Q (.str y) H
theorem op_dbl : OpR X (binaryOp .Mult) rDbl := by
  intro pins s σ H a b v u Q I ra rb h
  obtain ⟨x, rfl, rfl, hx, q⟩ := h
  obtain ⟨t, rfl⟩ := ra
  obtain ⟨t', rfl⟩ := rb
  refine P.mul_str (by decide) (fun _ _ => by omega) (fun _ _ => ?_) ?_
  · show decide (x.length * (2 : Int).toNat > sizeLine) = false
    refine decide_eq_false ?_
    have e : (2 : Int).toNat = 2 := rfl
    rw [e]
    show ¬ x.length * 2 > 2 ^ 24
    omega
  · rw [if_neg (by decide)]
    split
    · exact ⟨.str x, H, I, ⟨_, rfl⟩, q x (by omega) fun c hc => hc⟩
    · have e : ((List.replicate (2 : Int).toNat x.cps).foldl (· ++ ·) #[]) = x.cps ++ x.cps := by
        show (#[] ++ x.cps) ++ x.cps = _
        rw [Array.empty_append]
      rw [e]
      have l2 : (⟨x.cps ++ x.cps⟩ : Str).length = 2 * x.length := by
        show (x.cps ++ x.cps).size = 2 * x.cps.size
        rw [Array.size_append]
        omega
      refine ⟨by rw [l2]; show _ ≤ 2 ^ 24; omega, ?_⟩
      exact ⟨.str _, H, I.tok _, ⟨_, rfl⟩, q _ (Nat.le_of_eq l2) fun c hc => by
        rw [show ((⟨x.cps ++ x.cps⟩ : Str).cps.toList) = x.cps.toList ++ x.cps.toList from Array.toList_append] at hc
        rcases List.mem_append.mp hc with h | h <;> exact h⟩
end
end NI
set_option Elab.async false
set_option linter.all false
set_option maxRecDepth 100000
set_option maxHeartbeats 4000000
/-! An own exception class whose maker says super() and keeps one field: made by position and by the field's name. -/
namespace XH
open PySem PySem.W PySem.Calls PyProof.Rows Builtin.ObjectAttr

def iArgs (f : Str) (p1 p2 : Pos) : Arguments :=
  { posonlyargs := [], args := [{ arg := "self", annotation := none, pos := p1 }, { arg := f, annotation := none, pos := p2 }],
    vararg := none, kwonlyargs := [], kw_defaults := [], kwarg := none, defaults := [] }
def iSup (txt : Str) (a0 a1 a2 a3 a4 a5 : Pos) : Stmt :=
  .Expr (.Call (.Attribute (.Call (.Name "super" a0) [] [] a1) "__init__" a2) [.Constant (.str txt) 0 a3] [] a4) a5
def iSet (f : Str) (b0 b1 b2 b3 : Pos) : Stmt := .Assign [.Attribute (.Name "self" b0) f b1] (.Name f b2) b3
def iScope (f : Str) : Scope :=
  { kind := .function, names := [("self", .local), (f, .local), ("__class__", .free), ("super", .globalImplicit)], isGenerator := false, isCoroutine := false, more := [] }
/-- an exception of the class at C: its args at t, its dict -/
abbrev exr (C t : Addr) (dv : Option Addr) : Obj := excRec (.ref C) t dv .none .none (.bool false)

/-- what the text's written part says of such a class -/
structure ExT (prog : Program) (K : Frag) (mg : Str → Option Value) (C fI : Addr) (fd : FuncData) (f qn : Str) (B newId initId : String) (bmB : List Value) : Prop where
  FB : ExcBaseFacts B newId initId bmB
  KF : KxsFacts B initId
  SF : StoreFacts B bmB "object.__setattr__" "object"
  q : excInitIn K C bmB newId = true
  ov : excOver K C bmB = true
  hd : hasDictIn K C = true
  iC : findIn K (.ref C) "__init__" = some (some (.ref fI))
  fn : ∃ (oc doc pm ct : Value) (od an : Option Addr) (cda cc : Addr) (osl : Array (Option Value)) (txt : Str) (p1 p2 a0 a1 a2 a3 a4 a5 b0 b1 b2 b3 : Pos), (a2.endLine == a4.line) = true ∧
    fd = ksFn "__init__" qn (iArgs f p1 p2) [iSup txt a0 a1 a2 a3 a4 a5, iSet f b0 b1 b2 b3] (iScope f) .none .none doc pm an (.ref cda) ct cc ∧
    K.lookup fI = some ⟨oc, od, .func fd, osl⟩ ∧ codeIn K (.ref cda) qn = true ∧
    (∃ (ccl : Value) (cdd : Option Addr) (vs : Array Value) (ccs : Array (Option Value)) (file : Str) (tf : Tok),
      K.lookup cda = some ⟨ccl, cdd, .fields vs, ccs⟩ ∧ vs[2]? = some (.str file tf) ∧ ((prog.main.file : Str) == file) = true) ∧
    ∃ (cl : Value) (cld : Option Addr) (csl : Array (Option Value)), K.lookup cc = some ⟨cl, cld, .cell (some (.ref C)), csl⟩
  isf : isFn K (.ref fI) = true
  sup : ks_superIn K C C "__init__" = some (some (.builtin initId))
  sB : subIn K (.ref C) (.type B) = some true
  sC : mroIn K C (.ref C) = some true
  op : nsIn K cStatics "thirdparty.any" = some none
  sa : findIn K (.ref C) "__setattr__" = some (some (.builtin "object.__setattr__"))
  nf : findIn K (.ref C) f = some none
  mgS : mg "super" = none
  tp : (prog.main.scope.names.lookup ("super" : Str)).isSome = false
  l0 : (iScope f).names.lookup ("self" : Str) = some .local
  l1 : (iScope f).names.lookup f = some .local
  l2 : (iScope f).names.lookup ("__class__" : Str) = some .free
  l3 : (iScope f).names.lookup ("super" : Str) = some .globalImplicit
  lc : ∀ x ∈ (iScope f).names, x.2 ≠ .cell
  ld : (f == ("__debug__" : Str)) = false
  lf : ¬ ("self" : Str) = f
  bp : ∀ (s : Shared) (x v : Value), BindsTo s fd ⟨[x, v], []⟩ [("self", x), (f, v)]
  bk : ∀ (s : Shared) (x v : Value), BindsTo s fd ⟨[x], [(f, v)]⟩ [("self", x), (f, v)]

/-- a method's call whose name and bracket stand in one row -/
theorem mc_eq (env : Env) {o c : Expr} {x : Str} {p2 p4 : Pos} (e : (p2.endLine == p4.line) = true) :
    eval (.Call (.Attribute o x p2) [c] [] p4) env = (do
      let ov ← attributeBase o x env (eval o env)
      standAt p2.atName
      let r ← holding [ov] (calleeOf (methodCallForm 1 (backTo p4 (starEach [c] env)) []) o env ov x)
      callWith p4 r.1 r.2 (backTo p4 (starEach [c] env)) []) := by
  rw [arm_eval_Call]
  have z : methodCallPos (methodCallForm 1 (backTo p4 (starEach [c] env)) []) o env p2 p4 = pure p4 := by
    unfold methodCallPos
    rw [if_pos (by rw [e, Bool.or_true])]
  show (attributeBase o x env (eval o env) >>= fun ov => standAt p2.atName >>= fun _ => methodCall o x p2 p4 env ov 1 (backTo p4 (starEach [c] env)) []) = _
  unfold methodCall
  rw [z]
  rfl
section
variable {prog : Program} {w : World} {A : Around} {E : Value → Shared → Prop} {h : Heap} {g : Array GenState} {d : Drawn} {t : Nat} {os : OsState}
variable {nm q : Str} {C N : Addr} {bs bm bmB : List Value} {hdct : Bool} {sn : List Str} {sub : List Value} {ab : Bool} {col : Option Bool} {dd : Option Addr} {k0 k1 k2 k3 k5 : Option Value} {B newId initId : String}
/-- the bound maker of the base, called -/
theorem mw_call (FB : ExcBaseFacts B newId initId bmB) {u e t0 : Addr} {ws : List Value} {Q : Value → Shared → Prop}
    (cC : h.get? C = some (excClassObj nm q C N bs bm hdct sn sub ab col dd k0 k1 k2 k3 k5 newId)) (ce : h.get? e = some (exr C t0 none)) (cu : h.get? u = some (kxs_mw initId e)) (hz : ws.length ≤ sizeLine)
    (k : ∀ h', (∀ b o, b ≠ e → h.get? b = some o → h'.get? b = some o) → h'.get? e = some (exr C h.objs.size none) → Q .none ⟨h', g, d, t, os⟩) :
    wpAny (model prog w) A (call (.ref u) ws) Q E ⟨h, g, d, t, os⟩ := by
  refine wpAny_call (codeAny_of_tree ?_)
  show wpAny _ A.in1 (callAny (.ref u) ⟨ws, []⟩) _ _ _
  unfold callAny
  refine wpAny_bind (wpAny_load cu ?_)
  simp only [kxs_mw, show (Value.type "method-wrapper" == Value.type "method" || Value.type "method-wrapper" == Value.type "builtin_function_or_method" ||
    Value.type "method-wrapper" == Value.type "method-wrapper") = true by decide, if_true]
  refine KFB.if_so (by decide) ?_
  refine wpAny_bind (check_bound_init FB.toExcCallFacts cC ce rfl (wpAny_bind (wpAny_pure (wpAny_pure ?_))))
  refine ⟨plainId_quiet FB.init.plain _, codeAny_builtin FB.initEntry ?_⟩
  exact exc_init_tree (cls := .ref C) (t0 := t0) (dv := none) (c2 := .none) (c3 := .none) (b4 := .bool false) ce hz fun h' a b _ => k h' a b
end

section
variable {prog : Program} {w : World} {K : Frag} {mg : Str → Option Value} {C fI : Addr} {fd : FuncData} {f qn : Str} {B newId initId : String} {bmB : List Value}
variable {A : Around} {R : Result → Shared → Prop}
/-- the maker runs on a fresh exception -/
theorem init_run (T : ExT prog K mg C fI fd f qn B newId initId bmB) {s : Shared} {v : Value} {ar : Args} {x t0 : Addr} (X : K.In s.heap) (hg : s.heap.Ns mainGlobals mg)
    (hb : ∃ mb, s.heap.Ns builtinsNs mb ∧ ∀ y : Str, y ≠ "__name__" → mb y = bootBuiltins y) (hlim : s.heap.NoLimit)
    (hx : s.heap.get? x = some (exr C t0 none)) (hnx : K.lookup x = none) (hroom : A.depth < recursionLimit) (hbind : BindsTo s fd ar [("self", .ref x), (f, v)])
    (k : ∀ h' tk dx t1, (∀ b o, b ≠ x → s.heap.get? b = some o → h'.get? b = some o) → s.heap.objs.size ≤ dx → dx ≠ x → h'.get? x = some (exr C t1 (some dx)) →
      h'.Ns1 dx (fun y => if y = f then some v else none) → R (.ok (.ret .none)) { s with heap := h', toks := tk }) :
    codeAny (model prog w) A (.call (.ref fI) ar) R s := by
  obtain ⟨oc, doc, pm, ct, od, an, cda, cc, osl, txt, p1, p2, a0, a1, a2, a3, a4, a5, b0, b1, b2, b3, hpos, rfl, lk, hcd, ⟨ccl, cdd, vs, ccs, file, tf, lcode, hvs, hfile⟩, cl, cld, csl, lcell⟩ := T.fn
  refine ks_codeAny_call_defAt hroom (X _ _ lk) rfl hlim (codeRec_of X hcd) rfl hbind T.lc (fun y hy => ?_) (fun h₀ hns hk₀ => ?_) rfl rfl rfl
  · rcases List.mem_cons.mp hy with rfl | hy
    · exact T.l0
    · rcases List.mem_cons.mp hy with rfl | hy
      · exact T.l1
      · cases hy
  have kL : ∀ b o, s.heap.get? b = some o → h₀.get? b = some o := hk₀
  have X0 : K.In h₀ := X.keeps kL
  have hC : ∃ nm N' qn' bs bm hdct sn sub ab col dd k0 k1 k2 k3 k5, s.heap.get? C = some (excClassObj nm qn' C N' bs bm hdct sn sub ab col dd k0 k1 k2 k3 k5 newId) ∧ ∀ Y : String, bm.contains (.type Y) = bmB.contains (.type Y) := excInit_of X T.q
  obtain ⟨nm, N', qn', bs, bm, hdct, sn, sub, ab, col, dd, k0, k1, k2, k3, k5, hC, hT⟩ := hC
  obtain ⟨cd, hcd', hhd⟩ : ∃ cd, clsIn K C = some cd ∧ cd.hasDict = true := any_some T.hd
  obtain ⟨oD, hD1, hD2⟩ : ∃ oD, s.heap.get? C = some oD ∧ oD.data = .cls cd := by
    have z := hcd'
    unfold clsIn at z
    split at z
    · rename_i c' d' cd' sl' ho
      cases z
      exact ⟨_, X _ _ ho, rfl⟩
    · cases z
  have hmf : ([(("self" : Str), Value.ref x), (f, v)].reverse).lookup f = some v := by
    show List.lookup f [(f, v), (("self" : Str), Value.ref x)] = _
    simp [List.lookup]
  have hms : List.lookup ("self" : Str) ([(("self" : Str), Value.ref x), (f, v)].reverse) = some (Value.ref x) := by
    show List.lookup ("self" : Str) [(f, v), (("self" : Str), Value.ref x)] = _
    have e1 : (("self" : Str) == f) = false := by simpa using T.lf
    simp [List.lookup, e1]
  have hx0 := kL _ _ hx
  have hxL : x < s.heap.objs.size := Heap.lt_size hx
  obtain ⟨mb, hb1, hb2⟩ := hb
  have sup : bootBuiltins "super" = some (.type "super") := by first | boot_by_name | rfl | kernel_rfl
  -- super().__init__(txt)
  refine ks_wpAt_execs_cons (ks_wpAt_Expr_any (ks_wpAt_MethodCall ?_ (mc_eq _ hpos)))
  refine ks_wpAt_super_base (env := ksEnv qn (iScope f) s.heap.objs.size fI (.ref cda) cc) T.l3 T.l2 (by decide) rfl (X0 _ _ lk) rfl rfl rfl (X0 _ _ lcode) rfl hvs hfile T.tp ?_
  refine ks_loadName_global rfl T.l3 (loadGlobal_builtin (env := ksEnv qn (iScope f) s.heap.objs.size fI (.ref cda) cc) (hg.keeps kL) T.mgS (hb1.keeps kL) ((hb2 _ (by decide)).trans sup) ⟨rfl, ?_⟩)
  refine wpAny_loadName_free rfl T.l2 rfl ⟨_, X0 _ _ lcell, rfl⟩ ?_
  refine wpAny_loadName_local rfl T.l0 hns hms ?_
  refine ks_wpAny_isType_cls (kL _ _ hD1) hD2 ⟨rfl, ?_⟩
  refine ks_wpAny_call_super (kL _ _ hD1) hD2 hx0 rfl (fun c e => by cases e) (looks_mroIn X0 T.sC) (fun h1 e1 k1 => ?_)
  have X1 : K.In h1 := X0.keeps k1
  have hx1 := k1 _ _ hx0
  have I1 : InstAt h1 x (exr C t0 none) C none := ⟨hx1, rfl, rfl, trivial⟩
  have hsup : alongIn K "__init__" ((cd.mro.dropWhile (· != .ref C)).drop 1) = some (some (.builtin initId)) := by
    have z := T.sup
    unfold ks_superIn at z
    rw [hcd'] at z
    exact z
  refine kxs_getMethod T.KF e1 (looks_opaque X1 T.op) (l₀ := cd.mro) (fun A Q E s k q => wpAny_bind ((looks_clsIn X1 hcd') A _ E s k (wpAny_pure q))) rfl X1 hsup (I1.type.andThen (looks_subIn X1 T.sB)) (ks_ne X1 I1 hcd') (by decide) ?_
  have k2 : ∀ b o, h1.get? b = some o → (h1.push (kxs_mw initId x)).get? b = some o := fun b o e => Heap.get?_push_of_some _ e
  have hmw : (h1.push (kxs_mw initId x)).get? h1.objs.size = some (kxs_mw initId x) := Heap.get?_push_at rfl rfl
  refine kxs_callWith (i := initId) (x := x) (by rfl) (evalArgs_plain ?_)
  show wpAny _ _ (spliced ((false, eval (.Constant (.str txt) 0 a3) _) :: backTo a4 (starEach [] _))) _ _ _
  refine spliced_cons (Calls.Constant_str (spliced_nil ⟨hmw, ?_⟩))
  have up : ∀ b o, s.heap.get? b = some o → (h1.push (kxs_mw initId x)).get? b = some o := fun b o e => k2 _ _ (k1 _ _ (kL _ _ e))
  refine mw_call T.FB (up _ _ hC) (up _ _ hx) hmw (by show 1 ≤ sizeLine; rw [sizeLine_eq]; omega) fun h3 k3 e3 => ?_
  -- self.f = f
  have up3 : ∀ b o, b ≠ x → s.heap.get? b = some o → h3.get? b = some o := fun b o hb e => k3 _ _ hb (up _ _ e)
  have X3 : K.In h3 := fun b o e => up3 b o (fun z => ?_) (X _ _ e)
  have hns3 : h3.Ns s.heap.objs.size (fun y => List.lookup y ([(("self" : Str), Value.ref x), (f, v)].reverse)) := by
    obtain ⟨o, es, ep, e, r⟩ := hns
    exact ⟨o, es, ep, k3 _ _ (Nat.ne_of_gt hxL) (k2 _ _ (k1 _ _ e)), r⟩
  refine wpAt_of_wpAny (wpAny_execs_cons (plainObj_wpAny_Assign_Attribute ?_))
  refine wpAny_Name (wpAny_loadName_local rfl T.l1 hns3 hmf ?_) T.ld
  refine wpAny_Name (wpAny_loadName_local rfl T.l0 hns3 hms ?_) (by decide)
  have I3 : InstAt h3 x (exr C (h1.push (kxs_mw initId x)).objs.size none) C none := ⟨e3, rfl, rfl, trivial⟩
  refine set_plain X3 I3 T.sa ?_
  refine osa_openX (r := none) T.SF X3 I3 T.ov (by unfold takerIn; rw [T.nf]; rfl) fun bb => ?_
  have hcls : Looks (model prog w) h3 (classData C) cd := looks_clsIn X3 hcd'
  have hxs : x ≠ h3.objs.size := Nat.ne_of_lt (Heap.lt_size e3)
  have big : s.heap.objs.size < h3.objs.size := by
    obtain ⟨o, es, ep, e, r⟩ := hns3
    exact Heap.lt_size e
  obtain ⟨cn, cbs, cmro, cns, cqn, chd, csn, csb, cab, ccol, cdel⟩ := cd
  dsimp only at hhd
  subst hhd
  show wpAny _ _ (storeInOwnDict (.ref x) (.ref C) (.str f _) f v bb) _ _ _
  unfold storeInOwnDict ownDictForStores
  repeat (first
    | with_reducible refine PX.store_in_new ?_ ?_
    | with_reducible refine wpAny_loadPart_at e3 ?_
    | with_reducible refine hcls.at ?_
    | wp_step)
  · have z := Heap.get?_push_at (h := h3) (o := ({ cls := .type "dict", data := .dict #[] } : Obj)) rfl rfl
    exact ⟨_, #[], _, (Heap.get?_update_ne _ _ _ _ hxs.symm).trans z, rfl, fun e he => absurd he (by simp), fun _ => rfl⟩
  · intro h4 tk4 hn4 hs4
    have hx4 : (h3.push { cls := .type "dict", data := .dict #[] }).get? x = some (exr C (h1.push (kxs_mw initId x)).objs.size none) := Heap.get?_push_of_some _ e3
    refine wpAny_execs_nil (k h4 tk4 h3.objs.size (h1.push (kxs_mw initId x)).objs.size (fun b o hb ho => ?_) (Nat.le_of_lt big) hxs.symm ?_ hn4)
    · refine (hs4.2 b (Nat.ne_of_lt (Heap.lt_size (up3 b o hb ho)))).trans ?_
      exact (Heap.get?_update_ne _ _ _ _ hb).trans (Heap.get?_push_of_some _ (up3 b o hb ho))
    · exact (hs4.2 x hxs).trans (Heap.get?_update_self _ hx4 rfl)
  rw [z, hnx] at e
  cases e
end
end XH
set_option Elab.async false
set_option linter.all false
set_option maxRecDepth 100000
set_option maxHeartbeats 4000000
namespace XH
open PySem PySem.W PySem.Calls PyProof.Rows Builtin.ObjectAttr
section
variable {prog : Program} {w : World} {M : Model} {A : Around} {E : Value → Shared → Prop} {R : Result → Shared → Prop} {h : Heap} {g : Array GenState} {d : Drawn} {t : Nat} {os : OsState}
variable {nm q : Str} {C N : Addr} {bs bm bmB : List Value} {hdct : Bool} {sn : List Str} {sub : List Value} {ab : Bool} {col : Option Bool} {dd : Option Addr} {k0 k1 k2 k3 k5 : Option Value} {B newId initId : String}

theorem kw_check (FB : ExcBaseFacts B newId initId bmB) (same : ∀ Y : String, bm.contains (.type Y) = bmB.contains (.type Y)) {f : Str} {v : Value} {Q : Unit → Shared → Prop}
    (cC : h.get? C = some (excClassObj nm q C N bs bm hdct sn sub ab col dd k0 k1 k2 k3 k5 newId)) (k : Q () ⟨h, g, d, t, os⟩) :
    wpAny M A (checkBuiltinCall newId ⟨[.ref C], [(f, v)]⟩) Q E ⟨h, g, d, t, os⟩ := by
  have has : (Value.ref C :: bm).contains (.type B) = true := by
    rw [List.contains_cons, same, FB.hasB, Bool.or_true]
  have star := FB.noStar
  simp only [checkBuiltinCall, FB.newKind, FB.newSplit, FB.newRow]
  repeat (first
    | refine wpAny_loadPart_at cC ?_
    | (refine wpAny_isSubtype_exc cC ?_; rw [has])
    | refine wpAny_staticBase_exc cC ?_
    | refine wpAny_madeBy_exc cC ?_
    | simp only [bne_self_eq_false, Bool.false_eq_true, if_false]
    | wp_step)
  exact k

theorem kw_new (FB : ExcBaseFacts B newId initId bmB) (same : ∀ Y : String, bm.contains (.type Y) = bmB.contains (.type Y)) {f : Str} {v : Value}
    (cC : h.get? C = some (excClassObj nm q C N bs bm hdct sn sub ab col dd k0 k1 k2 k3 k5 newId))
    (k : R (.ok (.ret (.ref (h.objs.size + 1)))) ⟨(h.push (excTup [])).push (exr C h.objs.size none), g, d, t, os⟩) :
    codeAny (model prog w) A (.builtin newId ⟨[.ref C], [(f, v)]⟩) R ⟨h, g, d, t, os⟩ := by
  have ends := FB.ends
  have hB : (Value.ref C :: bm).contains (.type B) = true := by
    rw [List.contains_cons, same, FB.hasB, Bool.or_true]
  have hA : (Value.ref C :: bm).contains (.type "AttributeError") = false := by
    rw [List.contains_cons, same, FB.noAttr]; rfl
  have hN : (Value.ref C :: bm).contains (.type "NameError") = false := by
    rw [List.contains_cons, same, FB.noName]; rfl
  have hz : ([] : List Value).length ≤ sizeLine := by show 0 ≤ sizeLine; omega
  refine codeAny_builtinAt FB.entry ?_
  unfold Builtin.«BaseException.__new__»
  refine _root_.PySem.wpAt_bind ?_
  show _root_.PySem.wpAt _ _ _ (stack >>= _) _ _ _
  refine _root_.PySem.wpAt_bind (_root_.PySem.wpAt_stack fun p below => _root_.PySem.wpAt_of_wpAny ?_)
  wp_walk
  refine _root_.PySem.wpAt_of_wpAny ?_
  rw [FB.owner]
  repeat (first
    | with_reducible refine wpAny_madeHere_exc FB.canon cC ?_
    | with_reducible refine wpAny_loadPart_at cC ?_
    | (with_reducible refine wpAny_isSubtype_exc cC ?_; first | rw [hB] | rw [hA] | rw [hN])
    | wp_step)
  show R _ _
  rw [Heap.size_push]
  exact k

theorem kw_type (FB : ExcBaseFacts B newId initId bmB) (same : ∀ Y : String, bm.contains (.type Y) = bmB.contains (.type Y)) {f : Str} {v : Value} {fI : Addr} {Q : Fin → Shared → Prop}
    (cC : h.get? C = some (excClassObj nm q C N bs bm hdct sn sub ab col dd k0 k1 k2 k3 k5 newId))
    (li : Looks (model prog w) h (typeLookup (.ref C) "__init__") (some (.ref fI))) (lb : ∀ self, Looks (model prog w) h (bindSpecial (.ref fI) self) (.ref fI, [self]))
    (k : codeAny (model prog w) A (.call (.ref fI) ⟨[.ref (h.objs.size + 1)], [(f, v)]⟩)
      (fun r s' => match r with | .ok (.ret u) => u = .none ∧ Q (.done (.ret (.ref (h.objs.size + 1)))) s' | .ok _ => False | .error e => E e s')
      ⟨(h.push (excTup [])).push (exr C h.objs.size none), g, d, t, os⟩) :
    wpAny (model prog w) A (Builtin.«type.__call__» ⟨[.ref C], [(f, v)]⟩) Q E ⟨h, g, d, t, os⟩ := by
  repeat (first | with_reducible refine wpAny_loadPart_at cC ?_ | with_reducible refine wpAny_madeBy_exc cC ?_ | wp_step)
  refine codeAny_call_builtin_code (Code.quiet_builtin _ FB.quiet) (kw_check FB same cC ?_)
  refine kw_new FB same cC ?_
  show wpAny _ _ _ _ _ _
  have up : ∀ b o, h.get? b = some o → ((h.push (excTup [])).push (exr C h.objs.size none)).get? b = some o :=
    fun b o e => Heap.get?_push_of_some _ (Heap.get?_push_of_some _ e)
  have cC1 := up _ _ cC
  have ge : ((h.push (excTup [])).push (exr C h.objs.size none)).get? (h.objs.size + 1) = some (exr C h.objs.size none) := by heap_get
  have cc : (Value.ref C :: bm).contains (.ref C) = true := by simp
  have li1 := li.keeps up
  have lb1 := (lb (.ref (h.objs.size + 1))).keeps up
  unfold isInstance
  repeat (first
    | with_reducible refine wpAny_loadPart_at ge ?_
    | (with_reducible refine wpAny_isSubtype_exc cC1 ?_; rw [cc])
    | wp_step)
  show wpAny _ _ (typeLookup (.ref C) _) _ _ _
  refine li1.at (wpAny_holding (wpAny_bind (lb1.at (wpAny_bind (wpAny_call (codeAny_mono k fun r s' z => ?_))))))
  rcases r with e | (v | _ | _ | _) <;> first | exact z | exact z.elim | skip
  obtain ⟨rfl, z⟩ := z
  first
    | exact wpAny_pure (wpAny_pure z)
    | (wp_walk; exact z)

theorem kw_call (FB : ExcBaseFacts B newId initId bmB) (same : ∀ Y : String, bm.contains (.type Y) = bmB.contains (.type Y)) {f : Str} {v : Value} {fI : Addr}
    (cC : h.get? C = some (excClassObj nm q C N bs bm hdct sn sub ab col dd k0 k1 k2 k3 k5 newId))
    (li : Looks (model prog w) h (typeLookup (.ref C) "__init__") (some (.ref fI))) (lb : ∀ self, Looks (model prog w) h (bindSpecial (.ref fI) self) (.ref fI, [self]))
    (k : codeAny (model prog w) (A.under (.builtin "type.__call__" ⟨[.ref C], [(f, v)]⟩)) (.call (.ref fI) ⟨[.ref (h.objs.size + 1)], [(f, v)]⟩) (InitBack (h.objs.size + 1) R)
      ⟨(h.push (excTup [])).push (exr C h.objs.size none), g, d, t, os⟩) :
    codeAny (model prog w) A (.call (.ref C) ⟨[], [(f, v)]⟩) R ⟨h, g, d, t, os⟩ := by
  have f1 := tc_lookup
  have f2 := tc_bind (.ref C)
  have ty : (⟨h, g, d, t, os⟩ : Shared).TypeIs (.ref C) "type" := ⟨_, cC, rfl⟩
  refine codeAny_of_tree ?_
  show wpAny _ _ (callAny (.ref C) _) _ _ _
  repeat (any_goals (first
    | assumption
    | with_reducible refine wpAny_loadPart_at cC ?_
    | wp_step))
  refine ⟨rfl, ?_⟩
  refine codeAny_call_builtin_at (Code.quiet_builtin _ (by decide +kernel)) entry_typeCall ?_
  have f3 := tc_sub
  have last : wpAny (model prog w) (A.under (.builtin "type.__call__" ⟨[.ref C], [(f, v)]⟩)) (Builtin.«type.__call__» ⟨[.ref C], [(f, v)]⟩)
      (fun fin s' => match fin with | .done fl => R (.ok fl) s' | .again c' => c'.quiet = true ∧ codeAny (model prog w) A c' R s') (fun e s' => R (.error e) s') ⟨h, g, d, t, os⟩ := by
    refine kw_type FB same cC li lb (codeAny_mono k fun r s' z => ?_)
    rcases r with e | (v | _ | _ | _) <;> exact z
  simp only [checkBuiltinCall, tc_kind, tc_split]
  repeat (any_goals (first
    | assumption
    | with_reducible refine wpAny_loadPart_at cC ?_
    | with_reducible refine wpAny_onRaise ?_
    | with_reducible refine wpAny_map ?_
    | wp_step))
end

section
variable {prog : Program} {w : World} {K : Frag} {mg : Str → Option Value} {C fI : Addr} {fd : FuncData} {f qn : Str} {B newId initId : String} {bmB : List Value}
variable {A : Around} {E : Value → Shared → Prop}
/-- what is there behind the making -/
structure Made (h h' : Heap) (C e dx : Addr) (f : Str) (v : Value) : Prop where
  keep : ∀ b o, h.get? b = some o → h'.get? b = some o
  eb : h.objs.size ≤ e
  db : h.objs.size ≤ dx
  ne : dx ≠ e
  ob : ∃ t1, h'.get? e = some (exr C t1 (some dx))
  ns : h'.Ns1 dx (fun y => if y = f then some v else none)
theorem fresh_out {h : Heap} {b : Addr} (X : K.In h) (hb : h.objs.size ≤ b) : K.lookup b = none := by
  cases e : K.lookup b with
  | none => rfl
  | some o => exact absurd (Heap.lt_size (X _ _ e)) (Nat.not_lt.mpr hb)
theorem made_pos (T : ExT prog K mg C fI fd f qn B newId initId bmB) {s : Shared} {v : Value} {Q : Value → Shared → Prop} (X : K.In s.heap) (hg : s.heap.Ns mainGlobals mg)
    (hb : ∃ mb, s.heap.Ns builtinsNs mb ∧ ∀ y : Str, y ≠ "__name__" → mb y = bootBuiltins y) (hlim : s.heap.NoLimit) (hroom : A.depth + 1 < recursionLimit)
    (k : ∀ h' tk e dx, Made s.heap h' C e dx f v → Q (.ref e) { s with heap := h', toks := tk }) : wpAny (model prog w) A (call (.ref C) [v]) Q E s := by
  obtain ⟨nm, N', qn', bs, bm, hdct, sn, sub, ab, col, dd, k0, k1, k2, k3, k5, hC, hT⟩ := excInit_of X T.q
  obtain ⟨oI, hoI, hcI⟩ : ∃ oI, s.heap.get? fI = some oI ∧ oI.cls = .type "function" := by
    obtain ⟨o, ho, hc⟩ := Option.map_eq_some_iff.mp (show (K.lookup fI).map (·.cls) = some (.type "function") from beq_iff_eq.mp T.isf)
    exact ⟨o, X _ _ ho, hc⟩
  have up : ∀ b o, s.heap.get? b = some o → ((s.heap.push (excTup [v])).push (exr C s.heap.objs.size none)).get? b = some o :=
    fun b o e => Heap.get?_push_of_some _ (Heap.get?_push_of_some _ e)
  have ge : ((s.heap.push (excTup [v])).push (exr C s.heap.objs.size none)).get? (s.heap.objs.size + 1) = some (exr C s.heap.objs.size none) := by heap_get
  have sz : ((s.heap.push (excTup [v])).push (exr C s.heap.objs.size none)).objs.size = s.heap.objs.size + 2 := by rw [Heap.size_push, Heap.size_push]
  have hg' : ((s.heap.push (excTup [v])).push (exr C s.heap.objs.size none)).Ns mainGlobals mg := hg.keeps up
  have hb' : ∃ mb, ((s.heap.push (excTup [v])).push (exr C s.heap.objs.size none)).Ns builtinsNs mb ∧ ∀ y : Str, y ≠ "__name__" → mb y = bootBuiltins y :=
    let ⟨mb, h1, h2⟩ := hb
    ⟨mb, h1.keeps up, h2⟩
  have out := fresh_out (b := s.heap.objs.size + 1) X (Nat.le_succ _)
  obtain ⟨hp, g, d, tk, os⟩ := s
  refine wpAny_call (PX.call_own T.FB hT hC (looks_findIn X T.iC) (fun self => exc_bind hoI hcI self) (by show 1 ≤ sizeLine; rw [sizeLine_eq]; omega) ?_)
  refine init_run (s := ⟨(hp.push (excTup [v])).push (exr C hp.objs.size none), g, d, tk, os⟩) T (X.keeps up) hg' hb' (hlim.keeps up) ge out hroom (T.bp _ _ _) fun h' tk' dx t1 kk db ne ob ns => ?_
  refine ⟨rfl, k h' tk' _ dx ⟨fun b o e => kk b o (Nat.ne_of_lt (Nat.lt_succ_of_lt (Heap.lt_size e))) (up b o e), Nat.le_succ _, Nat.le_trans (by rw [sz]; exact Nat.le_add_right _ _) db, ne, ⟨t1, ob⟩, ns⟩⟩
theorem made_kw (T : ExT prog K mg C fI fd f qn B newId initId bmB) {s : Shared} {v : Value} {Q : Value → Shared → Prop} (X : K.In s.heap) (hg : s.heap.Ns mainGlobals mg)
    (hb : ∃ mb, s.heap.Ns builtinsNs mb ∧ ∀ y : Str, y ≠ "__name__" → mb y = bootBuiltins y) (hlim : s.heap.NoLimit) (hroom : A.depth + 1 < recursionLimit)
    (k : ∀ h' tk e dx, Made s.heap h' C e dx f v → Q (.ref e) { s with heap := h', toks := tk }) : wpAny (model prog w) A (call (.ref C) [] [(f, v)]) Q E s := by
  obtain ⟨nm, N', qn', bs, bm, hdct, sn, sub, ab, col, dd, k0, k1, k2, k3, k5, hC, hT⟩ := excInit_of X T.q
  obtain ⟨oI, hoI, hcI⟩ : ∃ oI, s.heap.get? fI = some oI ∧ oI.cls = .type "function" := by
    obtain ⟨o, ho, hc⟩ := Option.map_eq_some_iff.mp (show (K.lookup fI).map (·.cls) = some (.type "function") from beq_iff_eq.mp T.isf)
    exact ⟨o, X _ _ ho, hc⟩
  have up : ∀ b o, s.heap.get? b = some o → ((s.heap.push (excTup [])).push (exr C s.heap.objs.size none)).get? b = some o :=
    fun b o e => Heap.get?_push_of_some _ (Heap.get?_push_of_some _ e)
  have ge : ((s.heap.push (excTup [])).push (exr C s.heap.objs.size none)).get? (s.heap.objs.size + 1) = some (exr C s.heap.objs.size none) := by heap_get
  have sz : ((s.heap.push (excTup [])).push (exr C s.heap.objs.size none)).objs.size = s.heap.objs.size + 2 := by rw [Heap.size_push, Heap.size_push]
  have hg' : ((s.heap.push (excTup [])).push (exr C s.heap.objs.size none)).Ns mainGlobals mg := hg.keeps up
  have hb' : ∃ mb, ((s.heap.push (excTup [])).push (exr C s.heap.objs.size none)).Ns builtinsNs mb ∧ ∀ y : Str, y ≠ "__name__" → mb y = bootBuiltins y :=
    let ⟨mb, h1, h2⟩ := hb
    ⟨mb, h1.keeps up, h2⟩
  have out := fresh_out (b := s.heap.objs.size + 1) X (Nat.le_succ _)
  obtain ⟨hp, g, d, tk, os⟩ := s
  refine wpAny_call (kw_call T.FB hT hC (looks_findIn X T.iC) (fun self => exc_bind hoI hcI self) ?_)
  refine init_run (s := ⟨(hp.push (excTup [])).push (exr C hp.objs.size none), g, d, tk, os⟩) T (X.keeps up) hg' hb' (hlim.keeps up) ge out hroom (T.bk _ _ _) fun h' tk' dx t1 kk db ne ob ns => ?_
  refine ⟨rfl, k h' tk' _ dx ⟨fun b o e => kk b o (Nat.ne_of_lt (Nat.lt_succ_of_lt (Heap.lt_size e))) (up b o e), Nat.le_succ _, Nat.le_trans (by rw [sz]; exact Nat.le_add_right _ _) db, ne, ⟨t1, ob⟩, ns⟩⟩
end
end XH
set_option Elab.async false
set_option linter.all false
set_option maxRecDepth 100000
set_option maxHeartbeats 4000000
/-! The rules over the hand layer: such an exception made as a value, asked by isinstance, its field read; repr of data. -/
namespace XH
open PySem PySem.W PySem.Calls PyProof.Rows L2
/-- at a: an exception of the class at C that keeps v in its field f -/
def ExcAt (H : Hp) (a C : Addr) (f : Str) (v : V) : Prop := ∃ d, H a = some (exo a C (some d)) ∧ H d = some (exd d [(f, v)])
theorem ExcAt.same {H H' : Hp} {a C : Addr} {f : Str} {v : V} (x : ExcAt H a C f v) (s : Same H H') : ExcAt H' a C f v :=
  let ⟨d, h1, h2⟩ := x
  ⟨d, s _ _ h1, s _ _ h2⟩
theorem same_refl {H : Hp} : Same H H := fun _ _ e => e
theorem same_trans {H H' H'' : Hp} (a : Same H H') (b : Same H' H'') : Same H H'' := fun x o e => b x o (a x o e)
theorem same_new {H : Hp} {a : Addr} {o : HO} (h : H a = none) : Same H (upd H a o) := fun b u e => by
  rw [upd_ne (ne_of_none e h)]
  exact e
section
variable {X : Cx} {pins : List (Addr × Obj)} {σ : L2.St} {H : Hp} {s : Shared}
theorem inv_made {h' : Heap} {tk : Nat} {C e dx : Addr} {f : Str} {v : V} {u : Value} (I : Inv X pins σ H s) (r : RelV v u) (m : Made s.heap h' C e dx f u) :
    Inv X pins σ (upd (upd H dx (exd dx [(f, v)])) e (exo e C (some dx))) { s with heap := h', toks := tk } := by
  obtain ⟨kp, eb, db, ne, ⟨t1, ob⟩, ns⟩ := m
  obtain ⟨G, g1, g2⟩ := restrict h' fun b => decide (b ≠ e)
  have gk : ∀ b, b ≠ e → G.get? b = h'.get? b := fun b hb => g1 b (decide_eq_true hb)
  have ge : G.get? e = none := g2 e (decide_eq_false fun z => z rfl)
  have gs : ∀ b o, G.get? b = some o → h'.get? b = some o := fun b o z => by
    by_cases hb : b = e
    · rw [hb, ge] at z
      cases z
    · rw [← gk b hb]
      exact z
  have old : ∀ b o, s.heap.get? b = some o → G.get? b = some o := fun b o z => by
    rw [gk b (Nat.ne_of_lt (Nat.lt_of_lt_of_le (Heap.lt_size z) eb))]
    exact kp b o z
  have od : ObjOk X.prog X.w (upd H dx (exd dx [(f, v)])) G dx (exd dx [(f, v)]) := by
    refine exd_ok (ns.at fun o z => (gk dx ne).trans z) fun g => ?_
    have z := relO_put (f := f) (fs := []) (mA := fun _ => none) r (fun _ => trivial) g
    exact z
  have I2 : Inv X pins σ (upd H dx (exd dx [(f, v)])) { s with heap := G, toks := tk } := I.laid (t' := tk) old db od
  have hn : (upd H dx (exd dx [(f, v)])) e = none := by
    rw [upd_ne (Ne.symm ne)]
    exact I.hok.fresh eb
  exact I2.laidN (t' := tk) gs ge hn (exo_ok ob)
theorem made_at {C e dx : Addr} {f : Str} {v : V} (h : e ≠ dx) : ExcAt (upd (upd H dx (exd dx [(f, v)])) e (exo e C (some dx))) e C f v :=
  ⟨dx, upd_same, by rw [upd_ne (Ne.symm h), upd_same]⟩
end
/-- C(e), C(f=e): a new exception; what was tracked stands -/
def tMk (C : Addr) (f : Str) (te : TE) : TE := fun σ H Q => te σ H fun v H1 => ∀ a H2, H1 a = none → Same H1 H2 → ExcAt H2 a C f v → Q (.ref a) H2
section
variable {X : Cx} {C fI : Addr} {fd : FuncData} {f qn : Str} {B newId initId : String} {bmB : List Value}
theorem inv_glob {pins : List (Addr × Obj)} {σ : L2.St} {H : Hp} {s : Shared} (I : Inv X pins σ H s) : s.heap.Ns mainGlobals X.mg ∧ ∃ mb, s.heap.Ns builtinsNs mb ∧ ∀ y : Str, y ≠ "__name__" → mb y = bootBuiltins y :=
  ⟨I.mod.glob.keeps I.bk, let ⟨mb, h1, h2⟩ := I.mod.blt; ⟨mb, h1.keeps I.bk, h2⟩⟩
theorem mk_run {pins : List (Addr × Obj)} {σ : L2.St} {H : Hp} {s : Shared} {v : V} {u : Value} {Q : VK} {kw : Bool} (T : ExT X.prog X.K X.mg C fI fd f qn B newId initId bmB) (dp : X.A.depth + 1 < recursionLimit)
    (I : Inv X pins σ H s) (r : RelV v u) (k : ∀ a H2, H a = none → Same H H2 → ExcAt H2 a C f v → Q (.ref a) H2) :
    ∀ h' tk e dx, Made s.heap h' C e dx f u → EP X pins σ Q (.ref e) { s with heap := h', toks := tk } := fun h' tk e dx m => by
  have he : H e = none := I.hok.fresh m.eb
  have hd : H dx = none := I.hok.fresh m.db
  refine ⟨.ref e, _, inv_made I r m, rfl, k e _ he ?_ (made_at (Ne.symm m.ne))⟩
  exact same_trans (same_new hd) (same_new (by rw [upd_ne (Ne.symm m.ne)]; exact he))
theorem pe_mkp {x : Str} {e : Expr} {te : TE} {p pos : Pos} (T : ExT X.prog X.K X.mg C fI fd f qn B newId initId bmB) (dp : X.A.depth + 1 < recursionLimit) (gC : X.mg x = some (.ref C)) (kC : keepIn X.K (.ref C) = true) (hg : Gl X x) (he : PE X e te)
    (hs : starEach [e] X.env = (false, eval e X.env) :: starEach [] X.env := by rfl) (hdb : (x == ("__debug__" : Str)) = false := by decide) :
    PE X (.Call (.Name x p) [e] [] pos) (tMk C f te) := by
  refine ⟨fun pins s σ H Q I h => ?_⟩
  refine wpAny_Call_Name_kw (ld_glob I hg gC ?_ hdb)
  refine callWith_K (h₀ := X.base) I.ok.mod.kin kC ?_ hs (by rfl)
  rw [hs]
  show wpAny _ _ (spliced ((false, eval e X.env) :: backTo pos (starEach [] X.env))) _ _ s
  refine spliced_cons (thn (he.run pins s σ H _ I h) fun u s1 ⟨v, H1, I1, r1, q1⟩ => ?_)
  refine spliced_nil ⟨I1.kIn, ?_⟩
  show wpAny _ _ (call (.ref C) [u]) _ _ _
  exact made_pos T I1.kIn (inv_glob I1).1 (inv_glob I1).2 I1.nolimit dp (mk_run (kw := false) T dp I1 r1 q1)
theorem pe_mkk {x : Str} {e : Expr} {te : TE} {p pos kp : Pos} (T : ExT X.prog X.K X.mg C fI fd f qn B newId initId bmB) (dp : X.A.depth + 1 < recursionLimit) (gC : X.mg x = some (.ref C)) (kC : keepIn X.K (.ref C) = true) (hg : Gl X x) (he : PE X e te)
    (hdb : (x == ("__debug__" : Str)) = false := by decide) :
    PE X (.Call (.Name x p) [] [⟨some f, e, kp⟩] pos) (tMk C f te) := by
  refine ⟨fun pins s σ H Q I h => ?_⟩
  refine wpAny_Call_Name_kw (ld_glob I hg gC ?_ hdb)
  refine callWith_KW0 (h₀ := X.base) I.ok.mod.kin kC rfl ?_ rfl
  refine thn ((pk_cons he pk_nil).run pos pins s σ H (fun vs H1 => match vs with | [v] => ∀ a H2, H1 a = none → Same H1 H2 → ExcAt H2 a C f v → Q (.ref a) H2 | _ => False) I h) fun ws s2 ⟨zs, H2, I2, rz, q2⟩ => ⟨I2.kIn, ?_⟩
  rcases zs with _ | ⟨v, _ | ⟨_, _⟩⟩
  · exact q2.elim
  · obtain ⟨u, rfl, ru⟩ := vals1 rz
    exact made_kw T I2.kIn (inv_glob I2).1 (inv_glob I2).2 I2.nolimit dp (mk_run (kw := true) T dp I2 ru q2)
  · exact q2.elim
end
/-- what a class says, so that its exceptions are asked and read rightly -/
structure ExQ (K : Frag) (C : Addr) : Prop where
  cl : (clsIn K C).isSome = true
  hd : hasDictIn K C = true
  ga : findIn K (.ref C) "__getattribute__" = some (some (.builtin "BaseException.__getattribute__"))
  gt : findIn K (.ref C) "__getattr__" = some none
  sb : subIn K (.ref C) (.type "BaseException") = some true
  hc : findIn K (.ref C) "__class__" = some (some (.builtin "object.__class__"))
  hn : specialIn K (.builtin "object.__class__") "__get__" = some (some (.builtin "getset_descriptor.__get__"))
  tk : takesIn K (.builtin "object.__class__") = some true
  hm : mroIn K C (.type "object") = some true
section
variable {X : Cx} {pins : List (Addr × Obj)} {σ : L2.St} {H : Hp} {s : Shared}
theorem ExcAt.inst {a C : Addr} {f : Str} {v : V} (I : Inv X pins σ H s) (x : ExcAt H a C f v) : ∃ (ox od : Obj) (u : Value), InstAt s.heap a ox C (some od) ∧ RelV v u ∧ lookIn f od = some (some u) := by
  obtain ⟨d, h1, h2⟩ := x
  obtain ⟨t1, e1⟩ := exo_at I.hok h1
  obtain ⟨mA, ns, rel⟩ := exd_at I.hok h2
  obtain ⟨od, ho, hl⟩ := lookIn_ns ns
  have z : RelO (some v) (mA f) := by
    have y := rel f
    simpa [List.lookup] using y
  obtain ⟨u, hu, ru⟩ := RelO.some_of (v := v) (o := mA f) z
  exact ⟨_, od, u, ⟨e1, rfl, rfl, ho⟩, ru, by rw [hl, hu]⟩
end
/-- isinstance(x, c), x such an exception -/
def rIsX (K : Frag) : List V → Hp → VK → Prop := fun xs H Q => ∃ (a C : Addr) (f : Str) (v c : V) (u : Value) (b : Bool), xs = [.ref a, c] ∧ ClsV c u ∧ ExQ K C ∧ ExcAt H a C f v ∧ kitOne K (.ref C) u = some b ∧ Q (.bl b) H
/-- isinstance(x, (c, ..)), the tuple just laid -/
def rIsXT (K : Frag) : List V → Hp → VK → Prop := fun xs H Q => ∃ (a C tp : Addr) (f : Str) (v : V) (cs : List V) (us : List Value) (b : Bool), xs = [.ref a, .ref tp] ∧ H tp = some (.tup cs) ∧ Paired ClsV cs us ∧ ExQ K C ∧ ExcAt H a C f v ∧ kitAny K (.ref C) us = some b ∧ Q (.bl b) H
section
variable {X : Cx}
theorem call_isX : CallR X (.builtin "isinstance") (rIsX X.K) := by
  intro pins s σ H xs us Q I r h
  obtain ⟨a, C, f, v, c, u, b, rfl, kc, T, x, e, q⟩ := h
  obtain ⟨u1, u2, rfl, r1, r2⟩ := vals2 r
  have e2 := kc.eq r2
  subst e2
  obtain rfl : u1 = Value.ref a := r1
  obtain ⟨ox, od, w', J, _, _⟩ := x.inst I
  exact kia_one (kitx_exc T.cl T.ga T.gt T.sb T.hc T.hn T.tk T.hm) I.kIn J e (fun z => nomatch z) fun tk => ⟨.bl b, H, I.tok tk, rfl, q⟩
theorem call_isXT : CallR X (.builtin "isinstance") (rIsXT X.K) := by
  intro pins s σ H xs us Q I r h
  obtain ⟨a, C, tp, f, v, cs, ws, b, rfl, hT, kc, T, x, e, q⟩ := h
  obtain ⟨u1, u2, rfl, r1, r2⟩ := vals2 r
  obtain rfl : u1 = Value.ref a := r1
  obtain rfl : u2 = Value.ref tp := r2
  obtain ⟨ox, od, w', J, _, _⟩ := x.inst I
  obtain ⟨_, its, rv, o, h1, h2, n, h3⟩ := (show ObjOk X.prog X.w H s.heap tp (.tup cs) from I.hok tp _ hT)
  have e3 := ClsV.all kc rv
  subst e3
  obtain ⟨oc, odd, dt, sl⟩ := o
  simp only at h2 h3
  subst h2 h3
  exact kia_tup (kitx_exc T.cl T.ga T.gt T.sb T.hc T.hn T.tk T.hm) I.kIn J h1 e (fun z => nomatch z) fun tk => ⟨.bl b, H, I.tok tk, rfl, q⟩
/-- e.f, e such an exception -/
def tXfl (K : Frag) (f : Str) (te : TE) : TE := fun σ H Q => te σ H fun x H1 => ∃ (a C : Addr) (v : V), x = .ref a ∧ ExQ K C ∧ findIn K (.ref C) f = some none ∧ ExcAt H1 a C f v ∧ Q v H1
theorem pe_xfl {e : Expr} {te : TE} {pos : Pos} {f : Str} (he : PE X e te) (hb : attributeBase e f X.env (eval e X.env) = eval e X.env := by rfl) : PE X (.Attribute e f pos) (tXfl X.K f te) := by
  refine ⟨fun pins s σ H Q I h => ?_⟩
  refine attr_of hb (thn (he.run pins s σ H _ I h) fun u s1 hh => ?_)
  obtain ⟨x, H1, I1, rx, a, C, v, rfl, T, hno, xa, q⟩ := hh
  obtain rfl : u = Value.ref a := rx
  obtain ⟨ox, od, w', J, rw', hl⟩ := xa.inst I1
  exact HandSPX.exc_get I1.kIn J T.ga T.gt T.sb (findObj_own T.hd hno rfl hl) (handed_of rw') ⟨v, H1, I1.tok _, rw', q⟩
/-- repr of data without dicts, where no repr is under way -/
def rReprD (K : Frag) : List V → Hp → VK → Prop := fun xs H Q => ∃ (v : V) (d : PyData), xs = [v] ∧ Dp K H v d ∧ d.showable = true ∧ d.depth ≤ 60 ∧ d.shown.length ≤ sizeLine ∧ Q (.str d.shown) H
mutual
theorem dp_plain {K : Frag} {H : Hp} : ∀ (d : PyData) (v : V), Dp K H v d → d.hasDict = false
  | .none, _, _ => by simp only [PyData.hasDict]
  | .bool _, _, _ => by simp only [PyData.hasDict]
  | .int _, _, _ => by simp only [PyData.hasDict]
  | .str _, _, _ => by simp only [PyData.hasDict]
  | .list ds, _, h => by
    cases h with
    | lst hs ha => simpa only [PyData.hasDict] using dp_plainAll ds _ ha
  | .tuple ds, _, h => by
    cases h with
    | tup hs ha => simpa only [PyData.hasDict] using dp_plainAll ds _ ha
  | .dict _, _, h => by cases h
theorem dp_plainAll {K : Frag} {H : Hp} : ∀ (ds : List PyData) (vs : List V), DpAll K H vs ds → PyData.hasDictAll ds = false
  | [], _, _ => by simp only [PyData.hasDictAll]
  | d :: ds, _, h => by
    cases h with
    | cons h1 h2 => rw [PyData.hasDictAll, dp_plain d _ h1, dp_plainAll ds _ h2, Bool.or_false]
end
theorem call_reprD (hg : X.A.guards = some []) (hu : X.A.units + 100 < cLine) : CallR X (.builtin "repr") (rReprD X.K) := by
  intro pins s σ H xs us Q I r h
  obtain ⟨v, d, rfl, hd, sh, dp, sz, q⟩ := h
  obtain ⟨u, rfl, ru⟩ := vals1 r
  have nd := dp_plain d v hd
  obtain ⟨as, rd⟩ := Dp.reads I d v u hd ru
  cases hd with
  | non =>
    cases (show u = Value.none from ru)
    exact PySem.P.repr_of_none ⟨.str _, H, I.tok _, ⟨_, rfl⟩, q⟩
  | bl b =>
    cases (show u = Value.bool b from ru)
    exact PySem.P.repr_of_bool ⟨.str _, H, I.tok _, ⟨_, rfl⟩, q⟩
  | int i =>
    obtain ⟨t, rfl⟩ := (show ∃ t, u = Value.int i t from ru)
    exact PySem.P.repr_of_int (by simpa [PyData.showable] using sh) ⟨.str _, H, I.tok _, ⟨_, rfl⟩, q⟩
  | str x =>
    obtain ⟨t, rfl⟩ := (show ∃ t, u = Value.str x t from ru)
    exact PySem.P.repr_of_str ⟨.str _, H, I.tok _, ⟨_, rfl⟩, q⟩ sz
  | lst hs ha =>
    cases ru
    exact repr_of_reads' rd sh (PyData.noDict_hsm nd) hg (by omega) (fun _ _ e => e) (fun h' t tk kp => ⟨.str _, H, I.kept kp, ⟨_, rfl⟩, q⟩) sz
  | tup hs ha =>
    cases ru
    exact repr_of_reads' rd sh (PyData.noDict_hsm nd) hg (by omega) (fun _ _ e => e) (fun h' t tk kp => ⟨.str _, H, I.kept kp, ⟨_, rfl⟩, q⟩) sz
/-- repr of an empty dict too -/
def rReprQ (K : Frag) : List V → Hp → VK → Prop := fun xs H Q => rReprD K xs H Q ∨ ∃ a, xs = [.ref a] ∧ H a = some (.dK []) ∧ Q (.str "{}") H
theorem call_reprQ (hg : X.A.guards = some []) (hu : X.A.units + 100 < cLine) : CallR X (.builtin "repr") (rReprQ X.K) := by
  intro pins s σ H xs us Q I r h
  rcases h with h | ⟨a, rfl, ha, q⟩
  · exact call_reprD hg hu pins s σ H xs us Q I r h
  · obtain ⟨u, rfl, ru⟩ := vals1 r
    obtain rfl : u = Value.ref a := ru
    obtain ⟨_, hsys, vs, kv, hd⟩ := (show ObjOk X.prog X.w H s.heap a (.dK []) from I.hok a _ ha)
    cases kv
    obtain ⟨o, es, ep, h1, h2, h3, _, h4, _⟩ := hd
    have e0 : es.toList = [] := by
      cases e : es.toList with
      | nil => rfl
      | cons x r =>
        rw [e] at h4
        cases h4
    have rd : Reads s.heap (.ref a) (.dict []) (a :: [] ++ []) := by
      refine Reads.dict h1 h2.1 h3 ?_ ?_
      · rw [e0]
        exact ReadsAll.nil
      · rw [e0]
        exact ReadsAll.nil
    have ns : sysModules ∉ a :: [] ++ [] := fun z => by
      rcases List.mem_cons.mp z with y | y
      · rw [← y] at hsys
        simp at hsys
      · cases y
    exact repr_of_reads' rd (by simp [PyData.showable, PyData.showableKv]) (fun _ => ns) hg (by simp [PyData.depth, PyData.depthKv]; omega) (fun _ _ e => e) (fun h' t tk kp => ⟨.str _, H, I.kept kp, ⟨_, rfl⟩, q⟩) (by decide +kernel)
end
end XH
set_option Elab.async false
set_option linter.all false
set_option maxRecDepth 100000
set_option maxHeartbeats 4000000
namespace K01
open PySem L2 L2H DQ
def top (i : Nat) : Stmt := PySem.Challenge.pw_onlyjoins_k04_whole_unfoldings.main.body.getD i (.Pass ⟨0, 0, 0, 0⟩)
abbrev sJE : Stmt := top 2
abbrev sBR : Stmt := top 3
abbrev sBU : Stmt := top 4
abbrev sWord : Stmt := top 12
abbrev sMarks : Stmt := top 13
abbrev sTr : Stmt := top 14
abbrev sBo : Stmt := top 15
abbrev sShape : Stmt := top 16
abbrev sCount : Stmt := top 17
abbrev sNode : Stmt := top 18
abbrev sPair : Stmt := top 19
abbrev sCall : Stmt := top 20
abbrev sCLv : Stmt := top 21
abbrev sJoin : Stmt := top 25
abbrev sRules : Stmt := top 43
abbrev sNum : Stmt := top 44
abbrev sRow : Stmt := top 45
abbrev sIsU : Stmt := top 48
abbrev sTreeOf : Stmt := top 49
abbrev sDepOf : Stmt := top 50
abbrev sShor : Stmt := top 51
abbrev sNeed : Stmt := top 52
abbrev sIsA : Stmt := top 53
abbrev sAreS : Stmt := top 54
abbrev sSum : Stmt := top 55
abbrev sBuild : Stmt := top 56
abbrev sPutC : Stmt := top 57
abbrev sBeg : Stmt := top 59
abbrev sNext : Stmt := top 60
abbrev sOdd : Stmt := top 61
abbrev sBent : Stmt := top 62
abbrev sTree : Stmt := top 63
abbrev sBody : Stmt := top 64
abbrev sEas : Stmt := top 65
abbrev sPut : Stmt := top 67
abbrev sUnf : Stmt := top 68
abbrev sLCL : Stmt := top 69
abbrev sDep : Stmt := top 70
abbrev sIsRow : Stmt := top 71
abbrev sCau : Stmt := top 72
abbrev sLaw : Stmt := top 73
def mkv (c l : Addr) (n : Int) : List (Key × V) := [(Sum.inr "cells", .ref c), (Sum.inr "left", .ref l), (Sum.inr "at", .int n)]
/-- the state of the draws at m: its cells, what is left, the counter -/
structure MAt (H : Hp) (m c l : Addr) (cs ls : List Int) (n : Int) : Prop where
  hm : H m = some (.dK (mkv c l n))
  hc : H c = some (.lst (cs.map V.int))
  hl : H l = some (.lst (ls.map V.int))
  ne : c ≠ l
  n0 : 0 ≤ n
  nb : n ≤ 1000000000
  cb : cs.length ≤ 63
  lb : ls.length ≤ 63
theorem MAt.mc {H : Hp} {m c l : Addr} {cs ls : List Int} {n : Int} (M : MAt H m c l cs ls n) : m ≠ c := ne_of M.hm M.hc (by intro z; cases z)
theorem MAt.ml {H : Hp} {m c l : Addr} {cs ls : List Int} {n : Int} (M : MAt H m c l cs ls n) : m ≠ l := ne_of M.hm M.hl (by intro z; cases z)
theorem MAt.same {H H' : Hp} {m c l : Addr} {cs ls : List Int} {n : Int} (M : MAt H m c l cs ls n) (s : Same H H') : MAt H' m c l cs ls n :=
  ⟨s _ _ M.hm, s _ _ M.hc, s _ _ M.hl, M.ne, M.n0, M.nb, M.cb, M.lb⟩
def spBeg (K : PySem.W.Frag) : Sp := fun vs H Q _ => ∃ (a : Addr) (ns : List Int), vs = [.ref a] ∧ SqL K H a (ns.map V.int) ∧ ns.length ≤ 63 ∧
  ∀ H' m c l cs ls, Same H H' → MAt H' m c l cs ls 0 → Q (.ref m) H'
structure TxtB (mg : Str → Option Value) : Prop where
  list : mg "list" = none
  int : mg "int" = none
  len : mg "len" = none
theorem kne1 : ¬ (("cells" : Str) = "left") := by decide +kernel
theorem kne2 : ¬ (("cells" : Str) = "at") := by decide +kernel
theorem kne3 : ¬ (("left" : Str) = "at") := by decide +kernel
theorem kne4 : ¬ (("left" : Str) = "cells") := by decide +kernel
theorem kne5 : ¬ (("at" : Str) = "cells") := by decide +kernel
theorem kne6 : ¬ (("at" : Str) = "left") := by decide +kernel
section
variable {P : Program} {w : World} {K : PySem.W.Frag} {mg : Str → Option Value} {base : Heap}
theorem scB : FnScope ["script", "cell"] ["script"] (defScope sBeg) := ⟨rfl, rfl, rfl, by decide +kernel, rfl, by decide +kernel, by decide +kernel⟩
theorem ok_beg {f : Addr} {fd : FuncData} (F : Fun K "_law_begun" "_law_begun" sBeg f fd) (T : TxtB mg) : FnOk P w K mg base CX0 1 f fd ["script"] (spBeg K) := by
  refine F.ok scB (fun vs H Q E h => ?_) (fun cdv A outer s H vs Q E hr h => ?_)
  · obtain ⟨a, ns, rfl, _⟩ := h
    rfl
  · obtain ⟨a, ns, rfl, hS, hlen, k⟩ := h
    refine ⟨_, pss_one (ps_ret (pe_disp (pps_cons pe_str (pe_callTy call_list_of (by rfl) T.list (by decide +kernel) (pa_cons (pv 0) pa_nil))
      (pps_cons pe_str (pe_lc (own := [("cell", 1)]) (g := gName 1) rfl scB.nd (pi_list (pv 0)) (blkOk_by (own := [("cell", 1)]) (N := ["script", "cell"]) (sc := defScope sBeg) (by decide +kernel))
        (fun _ _ _ _ _ => pg_name (i := 1) scB.nd rfl (Or.inl rfl)) (fun _ _ _ _ _ => pts_one (pt_cmpR op_ge (pv 1) (pe_op op_pow pe_int pe_int) (nomark _))) (fun _ _ _ _ _ => pv 1))
      (pps_cons pe_str pe_int pps_nil))) (by rfl) (by rfl) (fun z => by cases z) (by decide))), ?_⟩
    intro p hp
    refine ⟨_, rfl, a, _, rfl, .inl (same_new hp |>.seq hS), fun c hc => ?_⟩
    have s1 : Same H (upd (upd H p (.dK [])) c (.lst (ns.map V.int))) := same_trans (same_new hp) (same_new hc)
    have pc : p ≠ c := ne_of_none upd_same hc
    generalize hH1 : upd (upd H p (.dK [])) c (.lst (ns.map V.int)) = H1 at s1
    have h1p : H1 p = some (.dK []) := by rw [← hH1, upd_ne pc, upd_same]
    have h1c : H1 c = some (.lst (ns.map V.int)) := by rw [← hH1, upd_same]
    refine ⟨_, rfl, a, rfl, ⟨_, s1.seq hS⟩, fun l nl => ?_⟩
    refine lc_list (K := K) (a := a) (xs := ns.map V.int) (fun i H' => ∃ ls : List Int, ls.length ≤ i ∧ Same H1 H' ∧ H' l = some (.lst (ls.map V.int)))
      ⟨[], Nat.le_refl _, same_new nl, upd_same⟩ (fun i H' _ ⟨_, _, s2, _⟩ => s2.seq (s1.seq hS)) ?_ ?_
    · rintro i y H' hi ⟨ls, ll, s2, e2⟩
      obtain ⟨z, rfl⟩ : ∃ z, y = V.int z := by
        rw [List.getElem?_map] at hi
        cases e : ns[i]? with
        | none => rw [e] at hi; cases hi
        | some z => rw [e] at hi; exact ⟨z, (Option.some.inj hi).symm⟩
      have hil : i < (ns.map V.int).length := (List.getElem?_eq_some_iff.mp hi).1
      rw [List.length_map] at hil
      refine ⟨rfl, _, rfl, _, _, rfl, rfl, ⟨by decide, by decide, by decide⟩, _, _, rfl, rfl, _, rfl, ?_⟩
      refine ite2 (fun _ => ?_) (fun _ => ?_)
      · refine ⟨_, rfl, _, e2, small1000 (by rw [List.length_map]; omega), ls ++ [z], ?_, ?_, ?_⟩
        · rw [List.length_append]
          show ls.length + 1 ≤ i + 1
          omega
        · intro b o e
          rw [upd_ne (ne_of_none e nl)]
          exact s2 b o e
        · rw [upd_same, List.map_append]
          rfl
      · exact ⟨ls, by omega, s2, e2⟩
    · rintro H' ⟨ls, ll, s2, e2⟩
      rw [List.length_map] at ll
      refine ⟨s2 _ _ h1p, mkv c l 0, rfl, by show 3 ≤ 15; decide, ?_⟩
      have hm : mergeK [] (mkv c l 0) = mkv c l 0 := by
        simp [mkv, mergeK, putK, kne1, kne2, kne3]
      rw [hm]
      refine k _ p c l ns ls ?_ ⟨upd_same, ?_, ?_, ?_, by decide, by decide, hlen, by omega⟩
      · intro b o e
        rw [upd_ne (ne_of_none e hp)]
        exact s2 b o (s1 b o e)
      · rw [upd_ne pc.symm]
        exact s2 _ _ h1c
      · rw [upd_ne (ne_of_none h1p nl).symm]
        exact e2
      · exact ne_of_none h1c nl
end
theorem dp_ints {K : PySem.W.Frag} {H : Hp} : ∀ ns : List Int, DpAll K H (ns.map V.int) (ns.map PyData.int)
  | [] => .nil
  | n :: ns => .cons (.int n) (dp_ints ns)
theorem dp_list {K : PySem.W.Frag} {H : Hp} {a : Addr} {ns : List Int} (h : SqL K H a (ns.map V.int)) : Dp K H (.ref a) (.list (ns.map PyData.int)) := .lst h (dp_ints ns)
theorem dp_nil {K : PySem.W.Frag} {H : Hp} {a : Addr} (h : H a = some (.lst [])) : Dp K H (.ref a) (.list []) := .lst (SqL.of h) .nil
theorem shaped_ints (ns : List Int) : SeqAt.shaped (.list (ns.map PyData.int)) = true := by
  have h : ∀ l : List Int, PyData.canLayAll0 (l.map PyData.int) = true ∧ PyData.depthAll (l.map PyData.int) ≤ 1 := by
    intro l
    induction l with
    | nil => exact ⟨rfl, Nat.zero_le _⟩
    | cons a l ih =>
      refine ⟨by simp [PyData.canLayAll0, PyData.canLay0, ih.1], ?_⟩
      simp only [List.map_cons, PyData.depthAll, PyData.depth]
      have := ih.2
      omega
  have z := h ns
  refine Bool.and_eq_true_iff.mpr ⟨by simp only [PyData.canLay0]; exact z.1, decide_eq_true ?_⟩
  simp only [PyData.depth]
  exact Nat.le_trans (Nat.succ_le_succ z.2) (by decide)
theorem eqv_ints (ns : List Int) : (!PyData.eqv (.list (ns.map PyData.int)) (.list [])) = !ns.isEmpty := by
  cases ns <;> simp [PyData.eqv, PyData.eqvAll]
/-- all but two objects stand -/
structure But (H H' : Hp) (m l : Addr) : Prop where
  kp : ∀ b o, H b = some o → b ≠ m → b ≠ l → H' b = some o
  out : ∀ b, H' b = none → H b = none
theorem But.then {H H' H'' : Hp} {m l : Addr} (x : But H H' m l) (s : Same H' H'') : But H H'' m l :=
  ⟨fun b o e h1 h2 => s _ _ (x.kp b o e h1 h2), fun b h => x.out b (same_out s h)⟩
theorem But.at {H H' : Hp} {m l a : Addr} {o : HO} (x : But H H' m l) (h : a = m ∨ a = l ∨ H a = none) (n : H' a ≠ none) : But H (upd H' a o) m l := by
  refine ⟨fun b u e h1 h2 => ?_, fun b hb => ?_⟩
  · have na : b ≠ a := fun z => by
      rcases h with y | y | y
      · exact h1 (z.trans y)
      · exact h2 (z.trans y)
      · rw [z, y] at e; cases e
    rw [upd_ne na]
    exact x.kp b u e h1 h2
  · by_cases e : b = a
    · rw [e, upd_same] at hb
      cases hb
    · rw [upd_ne e] at hb
      exact x.out b hb
theorem But.refl {H : Hp} {m l : Addr} : But H H m l := ⟨fun _ _ e _ _ => e, fun _ e => e⟩
theorem val_c {c l : Addr} {n : Int} : valV (mkv c l n) (Sum.inr "cells") = some (.ref c) := by simp [mkv, valV]
theorem val_l {c l : Addr} {n : Int} : valV (mkv c l n) (Sum.inr "left") = some (.ref l) := by simp [mkv, valV, kne1]
theorem val_a {c l : Addr} {n : Int} : valV (mkv c l n) (Sum.inr "at") = some (.int n) := by simp [mkv, valV, kne2, kne3]
theorem put_l {c l l' : Addr} {n : Int} : putK (mkv c l n) (Sum.inr "left") (.ref l') = mkv c l' n := by simp [mkv, putK, kne1, kne6]
theorem put_a {c l : Addr} {n n' : Int} : putK (mkv c l n) (Sum.inr "at") (.int n') = mkv c l n' := by simp [mkv, putK, kne2, kne3]
theorem MAt.getL {H : Hp} {m c l : Addr} {cs ls : List Int} {n : Int} (M : MAt H m c l cs ls n) : DGet H m (.str "left") (some (.ref l)) := by
  have z := DGet.k (k := Sum.inr "left") M.hm
  rw [val_l] at z
  exact z
theorem MAt.getC {H : Hp} {m c l : Addr} {cs ls : List Int} {n : Int} (M : MAt H m c l cs ls n) : DGet H m (.str "cells") (some (.ref c)) := by
  have z := DGet.k (k := Sum.inr "cells") M.hm
  rw [val_c] at z
  exact z
theorem MAt.getA {H : Hp} {m c l : Addr} {cs ls : List Int} {n : Int} (M : MAt H m c l cs ls n) : DGet H m (.str "at") (some (.int n)) := by
  have z := DGet.k (k := Sum.inr "at") M.hm
  rw [val_a] at z
  exact z
theorem MAt.putL {H : Hp} {m c l l' : Addr} {cs ls ls' : List Int} {n : Int} (M : MAt H m c l cs ls n) (e : H l' = some (.lst (ls'.map V.int))) (ne : c ≠ l') (nb : ls'.length ≤ 63) :
    DPut H m (.str "left") (.ref l') (upd H m (.dK (mkv c l' n))) ∧ MAt (upd H m (.dK (mkv c l' n))) m c l' cs ls' n := by
  constructor
  · have z := DPut.k (k := Sum.inr "left") (v := .ref l') M.hm (by show 3 < sizeLine; decide)
    rw [put_l] at z
    exact z
  · have n1 : c ≠ m := M.mc.symm
    have n2 : l' ≠ m := ne_of e M.hm (by intro z; cases z)
    exact ⟨upd_same, by rw [upd_ne n1]; exact M.hc, by rw [upd_ne n2]; exact e, ne, M.n0, M.nb, M.cb, nb⟩
theorem MAt.putA {H : Hp} {m c l : Addr} {cs ls : List Int} {n n' : Int} (M : MAt H m c l cs ls n) (h0 : 0 ≤ n') (hb : n' ≤ 1000000000) :
    DPut H m (.str "at") (.int n') (upd H m (.dK (mkv c l n'))) ∧ MAt (upd H m (.dK (mkv c l n'))) m c l cs ls n' := by
  constructor
  · have z := DPut.k (k := Sum.inr "at") (v := .int n') M.hm (by show 3 < sizeLine; decide)
    rw [put_a] at z
    exact z
  · exact ⟨upd_same, by rw [upd_ne M.mc.symm]; exact M.hc, by rw [upd_ne M.ml.symm]; exact M.hl, M.ne, h0, hb, M.cb, M.lb⟩
def leftLen (H : Hp) (m : Addr) : Nat :=
  match H m with
  | some (.dK (_ :: (_, .ref l) :: _)) => (match H l with | some (.lst xs) => xs.length | _ => 0)
  | _ => 0
theorem MAt.len {H : Hp} {m c l : Addr} {cs ls : List Int} {n : Int} (M : MAt H m c l cs ls n) : leftLen H m = ls.length := by
  simp [leftLen, M.hm, mkv, M.hl]
theorem cut_one (x : V) (xs : List V) : cutV (x :: xs) (some 1) none = xs := by
  have e : HT.sIx (x :: xs).length 0 (some ((1 : Nat) : Int)) = 1 := by
    rw [HT.sIx_nat, List.length_cons]
    omega
  have e' : HT.sIx (x :: xs).length 0 (some 1) = 1 := e
  unfold cutV
  rw [e', HT.sIx_none, List.drop_succ_cons, List.drop_zero, List.length_cons]
  exact List.take_of_length_le (by omega)
theorem at_some {ns : List Int} {j : Int} (h0 : 0 ≤ j) (h1 : j < (ns.length : Int)) : ∃ y, atI (ns.map V.int) j = some (V.int y) := by
  have hj : j.toNat < ns.length := by omega
  refine ⟨ns[j.toNat], ?_⟩
  have z := atI_nat (xs := ns.map V.int) (j := j.toNat) (v := V.int ns[j.toNat]) (by rw [List.getElem?_map, List.getElem?_eq_getElem hj]; rfl)
  rw [Int.toNat_of_nonneg h0] at z
  exact z
theorem while_two {c : TT} {tb : TS} {D : Ends} {σ : L2.St} {H : Hp} (Pv : L2.St → Hp → Prop) (μ : L2.St → Hp → Nat) (h0 : Pv σ H) (exit : ∀ σ H, Pv σ H → D.nx σ H)
    (mono : ∀ σ H Q Q', (∀ b H1, Q b H1 → Q' b H1) → c σ H Q → c σ H Q')
    (hs : ∀ σ H, Pv σ H → c σ H fun b H1 => if b = true then tb { D with nx := fun σ' H' => Pv σ' H' ∧ μ σ' H' < μ σ H, ct := fun σ' H' => Pv σ' H' ∧ μ σ' H' < μ σ H, bk := D.nx } σ H1 else Pv σ H1) : tWhile c tb D σ H :=
  while_by Pv μ h0 (fun σ H p => mono _ _ _ _ (fun b H1 q => by
    cases b with
    | true => exact q
    | false => exact exit _ _ q) (hs σ H p)) mono
/-- _law_next: a number below many; the state again -/
def spNext : Sp := fun vs H Q _ => ∃ (m c l : Addr) (many : Int) (cs ls : List Int) (n : Int), vs = [.ref m, .int many] ∧ MAt H m c l cs ls n ∧ 0 < many ∧ many < 1000000 ∧ n + 1 ≤ 1000000000 ∧
  ∀ r H' l' ls' n', 0 ≤ r → r < many → MAt H' m c l' cs ls' n' → n' ≤ n + 1 → But H H' m l → (l' = l ∨ H l' = none) → Q (.int r) H'
section
variable {P : Program} {w : World} {K : PySem.W.Frag} {mg : Str → Option Value} {base : Heap}
theorem scN : FnScope ["m", "many", "rest", "at", "bits", "cell", "blend"] ["m", "many"] (defScope sNext) := ⟨rfl, rfl, rfl, by decide +kernel, rfl, by decide +kernel, by decide +kernel⟩
theorem ok_next {f : Addr} {fd : FuncData} (F : Fun K "_law_next" "_law_next" sNext f fd) (T : TxtB mg) : FnOk P w K mg base CX0 1 f fd ["m", "many"] spNext := by
  refine F.ok scN (fun vs H Q E h => ?_) (fun cdv A outer s H vs Q E hr h => ?_)
  · obtain ⟨m, c, l, many, cs, ls, n, rfl, _⟩ := h
    rfl
  · obtain ⟨m, c, l, many, cs, ls, n, rfl, M, q0, q1, qn, k⟩ := h
    have hu := hu_of hr
    have hu2 : (A.deeper (PyProof.Rows.envOfC "_law_next" (defScope sNext) s.heap.objs.size f cdv)).units + 64 < cLine := by have := hr.un; omega
    have bi : bootBuiltins ("int" : Str) = some (.type "int") := by decide +kernel
    refine ⟨_, pss_cons (ps_while PassesOwn.never (PW.pt (pw_and (pt_cmpR (op_neD hu2) (pe_dget hu (pv 0) pe_str (fun _ _ => rfl)) (pe_lst pa_nil) (nomark _))
        (pw_and1 (pt_cmpR op_eq (pe_ix ix_list (pe_dget hu (pv 0) pe_str (fun _ _ => rfl)) pe_int (fun _ _ => rfl)) pe_int (nomark _)))))
        (pss_one (ps_dput hu (pv 0) pe_str (pe_slice sl_list (pe_dget hu (pv 0) pe_str (fun _ _ => rfl)) (po_some pe_int) po_none) rfl)))
      (pss_cons (ps_if (pt_cmpR (op_neD hu2) (pe_dget hu (pv 0) pe_str (fun _ _ => rfl)) (pe_lst pa_nil) (nomark _))
        (pss_cons (ps_set (i := 2) scN.nd rfl (Or.inl rfl) (pe_ix ix_list (pe_dget hu (pv 0) pe_str (fun _ _ => rfl)) pe_int (fun _ _ => rfl)))
          (pss_cons (ps_asg (pe_op op_fdivN (pv 2) (pv 1)) (pg_sub (pe_dget hu (pv 0) pe_str (fun _ _ => rfl)) pe_int set_list))
          (pss_one (ps_ret (pe_op op_modN (pe_callTy call_int1 (by rfl) T.int bi (pa_cons (pv 2) pa_nil)) (pv 1)))))) pss_nil)
      (pss_cons (ps_par rfl scN.nd (i := 3) (j := 4) rfl rfl (by decide) rfl rfl (pa_cons (pe_op op_add (pe_dget hu (pv 0) pe_str (fun _ _ => rfl)) pe_int) (pa_cons (pe_dget hu (pv 0) pe_str (fun _ _ => rfl)) pa_nil)) rfl)
      (pss_cons (ps_dput hu (pv 0) pe_str (pv 3) rfl)
      (pss_cons (ps_set (i := 5) scN.nd rfl (Or.inl rfl) (pe_ifExp (pt_cmpR (op_neD hu2) (pv 4) (pe_lst pa_nil) (nomark _))
        (pe_callTy call_int1 (by rfl) T.int bi (pa_cons (pe_ix ix_list (pv 4) (pe_op op_modN (pe_callTy call_int1 (by rfl) T.int bi (pa_cons (pe_op op_add (pe_op op_mul (pv 3) (pv 3)) (pe_op op_fdivN (pv 3) pe_int)) pa_nil))
          (pe_callB call_len_seq (by rfl) T.len PySem.boot_len (pa_cons (pv 4) pa_nil))) (fun _ _ => rfl)) pa_nil)) pe_int))
      (pss_cons (ps_set (i := 6) scN.nd rfl (Or.inl rfl) (pe_op op_modN (pe_callTy call_int1 (by rfl) T.int bi (pa_cons (pe_op op_add (pe_op op_add (pe_op op_mul (pv 5) pe_int) (pe_op op_mul (pv 3) pe_int)) (pe_op op_mul (pe_op op_mul pe_int (pv 3)) (pv 3))) pa_nil)) pe_int))
      (pss_one (ps_ret (pe_op op_modN (pe_callTy call_int1 (by rfl) T.int bi (pa_cons (pe_op op_fdivN (pe_op op_modN (pe_callTy call_int1 (by rfl) T.int bi (pa_cons (pe_op op_add (pe_op op_mul (pv 6) pe_int) (pe_op op_mul pe_int (pv 3))) pa_nil)) pe_int) pe_int) pa_nil)) (pv 1))))))))), ?_⟩
    refine while_two (fun σ' H' => ∃ l' ls', σ' = [some (V.ref m), some (V.int many), none, none, none, none, none] ∧ MAt H' m c l' cs ls' n ∧ But H H' m l ∧ (l' = l ∨ H l' = none)) (fun _ H' => leftLen H' m)
      ⟨l, ls, rfl, M, .refl, .inl rfl⟩ ?_ ?_ ?_
    · rintro σ' H' ⟨l', ls', rfl, M', bt, hl'⟩
      -- behind the loop
      refine ⟨_, rfl, m, _, rfl, M'.getL, by decide, fun p hp => ⟨_, _, dp_list (SqL.of (same_new hp _ _ M'.hl)), dp_nil upd_same, shaped_ints _, shaped_ints [], _, rfl, ?_⟩⟩
      have M1 := M'.same (same_new (o := .lst []) hp)
      have b1 := bt.then (same_new (o := .lst []) hp)
      generalize hG : upd H' p (HO.lst []) = G at M1 b1
      rw [eqv_ints]
      cases ls' with
      | cons z ls' =>
        refine iteT ⟨_, rfl, m, _, rfl, M1.getL, l', _, 0, .int z, rfl, rfl, SqL.of M1.hl, atI_nat (j := 0) rfl, ?_⟩
        refine ⟨_, rfl, _, rfl, _, _, rfl, rfl, ⟨by omega, by omega⟩, _, rfl, m, _, rfl, M1.getL, l', _, 0, 0, rfl, rfl, M1.hl, ?_, ?_⟩
        · unfold ixN
          rw [if_pos (by omega), List.length_map, List.length_cons]
          rw [if_pos (by omega)]
          rfl
        · refine ⟨_, rfl, .inl ⟨_, rfl, _, rfl, _, _, rfl, rfl, by omega, ?_⟩⟩
          have nl : G l' ≠ none := by rw [M1.hl]; simp
          have e1 : c ≠ l' := M1.ne
          have e2 : m ≠ l' := M1.ml
          refine k _ _ l' (z.fdiv many :: ls') n (Int.fmod_nonneg_of_pos _ q0) (Int.fmod_lt_of_pos _ q0) ⟨by rw [upd_ne e2]; exact M1.hm, by rw [upd_ne e1]; exact M1.hc, upd_same, e1, M1.n0, M1.nb, M1.cb, M1.lb⟩ (by omega) (b1.at (.inr hl') nl) hl'
      | nil =>
        refine iteF ⟨_, rfl, m, _, rfl, M1.getA, _, _, rfl, rfl, _, rfl, m, _, rfl, M1.getC, _, _, rfl, ?_⟩
        obtain ⟨dp, M2⟩ := M1.putA (n' := n + 1) (by have := M.n0; omega) qn
        have b2 := b1.at (o := .dK (mkv c l' (n + 1))) (.inl rfl) (by rw [M1.hm]; simp)
        refine ⟨_, rfl, _, rfl, m, _, rfl, dp, ?_⟩
        generalize hG2 : upd G m (HO.dK (mkv c l' (n + 1))) = G2 at M2 b2
        -- cell
        refine ⟨_, rfl, by decide, fun t ht => ⟨_, _, dp_list (SqL.of (same_new ht _ _ M2.hc)), dp_nil upd_same, shaped_ints _, shaped_ints [], _, rfl, ?_⟩⟩
        have M3 := M2.same (same_new (o := .lst []) ht)
        have b3 := b2.then (same_new (o := .lst []) ht)
        generalize hG3 : upd G2 t (HO.lst []) = G3 at M3 b3
        rw [eqv_ints]
        have big1 : -(2 ^ 64) < n + 1 := by have := M.n0; omega
        have big2 : n + 1 < 2 ^ 64 := by omega
        cases cs with
        | nil =>
          refine iteF ?_
          refine ⟨_, rfl, _, _, rfl, rfl, .inr ⟨by decide, by decide⟩, _, rfl, _, _, rfl, rfl, .inr ⟨by decide, by decide⟩, _, _, rfl, rfl, _, rfl, _, _, rfl, rfl, .inl ⟨by decide, by decide⟩, _, rfl, _, _, rfl, rfl, .inr ⟨big1, big2⟩, _, _, rfl, rfl, .inl ⟨_, rfl, _, _, rfl, rfl, (by show (2147483399 : Int) ≠ 0; decide), ?_⟩⟩
          refine ⟨_, rfl, _, _, rfl, rfl, .inr ⟨by decide, by decide⟩, _, rfl, _, _, rfl, rfl, .inl ⟨by decide, by decide⟩, _, _, rfl, rfl, .inl ⟨_, rfl, _, _, rfl, rfl, (by show (2147483647 : Int) ≠ 0; decide), _, _, rfl, rfl, ⟨by decide, by decide⟩, .inl ⟨_, rfl, _, rfl, _, _, rfl, rfl, by omega, ?_⟩⟩⟩
          exact k _ _ l' [] (n + 1) (Int.fmod_nonneg_of_pos _ q0) (Int.fmod_lt_of_pos _ q0) M3 (Int.le_refl _) b3 hl'
        | cons x cs =>
          have hl0 : (0 : Int) < ((x :: cs).length : Int) := by rw [List.length_cons]; omega
          obtain ⟨y, hy⟩ := at_some (ns := x :: cs) (j := ((n + 1) * (n + 1) + (n + 1).fdiv 2).fmod ((x :: cs).length : Int)) (Int.fmod_nonneg_of_pos _ hl0) (Int.fmod_lt_of_pos _ hl0)
          refine iteT ?_
          refine ⟨_, rfl, _, rfl, _, rfl, _, _, rfl, rfl, .inl ⟨big1, big2⟩, _, rfl, _, _, rfl, rfl, ⟨by decide, by decide⟩, _, _, rfl, rfl, .inl ⟨_, rfl, ?_⟩⟩
          refine ⟨_, rfl, c, _, rfl, .inl (SqL.of M3.hc), _, _, rfl, rfl, by rw [List.length_map]; omega, c, _, _, .int y, rfl, rfl, SqL.of M3.hc, by rw [List.length_map]; exact hy, .inl ⟨_, rfl, ?_⟩⟩
          refine ⟨_, rfl, _, _, rfl, rfl, .inr ⟨by decide, by decide⟩, _, rfl, _, _, rfl, rfl, .inr ⟨by decide, by decide⟩, _, _, rfl, rfl, _, rfl, _, _, rfl, rfl, .inl ⟨by decide, by decide⟩, _, rfl, _, _, rfl, rfl, .inr ⟨big1, big2⟩, _, _, rfl, rfl, .inl ⟨_, rfl, _, _, rfl, rfl, (by show (2147483399 : Int) ≠ 0; decide), ?_⟩⟩
          refine ⟨_, rfl, _, _, rfl, rfl, .inr ⟨by decide, by decide⟩, _, rfl, _, _, rfl, rfl, .inl ⟨by decide, by decide⟩, _, _, rfl, rfl, .inl ⟨_, rfl, _, _, rfl, rfl, (by show (2147483647 : Int) ≠ 0; decide), _, _, rfl, rfl, ⟨by decide, by decide⟩, .inl ⟨_, rfl, _, rfl, _, _, rfl, rfl, by omega, ?_⟩⟩⟩
          exact k _ _ l' [] (n + 1) (Int.fmod_nonneg_of_pos _ q0) (Int.fmod_lt_of_pos _ q0) M3 (Int.le_refl _) b3 hl'
    · intro σ' H' Q1 Q2 hq h
      obtain ⟨v, e1, a, u, e2, e3, e4, h⟩ := h
      refine ⟨v, e1, a, u, e2, e3, e4, fun p hp => ?_⟩
      obtain ⟨d, e, d1, d2, d3, d4, b, e5, h⟩ := h p hp
      refine ⟨d, e, d1, d2, d3, d4, b, e5, ?_⟩
      cases b with
      | false => exact hq _ _ h
      | true =>
        obtain ⟨v, e1, a, u, e2, e3, p2, xs, i, z, f1, f2, f3, f4, f5, k2, e6, h⟩ := h
        exact ⟨v, e1, a, u, e2, e3, p2, xs, i, z, f1, f2, f3, f4, f5, k2, e6, hq _ _ h⟩
    · rintro σ' H' ⟨l', ls', rfl, M', bt, hl'⟩
      refine ⟨_, rfl, m, _, rfl, M'.getL, by decide, fun p hp => ⟨_, _, dp_list (SqL.of (same_new hp _ _ M'.hl)), dp_nil upd_same, shaped_ints _, shaped_ints [], _, rfl, ?_⟩⟩
      have M1 := M'.same (same_new (o := .lst []) hp)
      rw [eqv_ints]
      cases ls' with
      | nil =>
        refine iteF (iteF ⟨l', [], rfl, M1, bt.then (same_new hp), hl'⟩)
      | cons z ls' =>
        refine iteT ⟨_, rfl, m, _, rfl, M1.getL, l', _, 0, .int z, rfl, rfl, SqL.of M1.hl, atI_nat (j := 0) rfl, rfl, _, rfl, ?_⟩
        refine ite2 (fun hz => ?_) (fun hz => ?_)
        · refine ⟨_, rfl, m, _, rfl, M1.getL, 1, rfl, l', _, rfl, SqL.of M1.hl, fun t ht => ?_⟩
          rw [List.map_cons, cut_one]
          have M2 := M1.same (same_new (o := .lst (ls'.map V.int)) ht)
          have ct : c ≠ t := ne_of_none M1.hc ht
          have nb2 : ls'.length ≤ 63 := Nat.le_trans (Nat.le_succ _) M1.lb
          obtain ⟨dp, M3⟩ := M2.putL (l' := t) (ls' := ls') upd_same ct nb2
          have b1 := bt.then (same_new (o := .lst []) hp)
          refine ⟨_, rfl, m, _, rfl, dp, ⟨t, ls', rfl, M3, (b1.then (same_new ht)).at (.inl rfl) (by rw [M2.hm]; simp), .inr (b1.out t ht)⟩, ?_⟩
          show leftLen _ m < leftLen H' m
          rw [M3.len, M'.len]
          exact Nat.lt_succ_self _
        · exact ⟨l', z :: ls', rfl, M1, bt.then (same_new hp), hl'⟩
end
end K01
set_option Elab.async false
set_option linter.all false
set_option maxRecDepth 100000
set_option maxHeartbeats 4000000
namespace K01
open PySem L2 L2H DQ
/-! the program's own defs, as functions of data -/
def low (c : Nat) : Bool := decide (97 ≤ c) && decide (c ≤ 122)
def wordS (x : Str) : Bool := decide (1 ≤ x.length) && (decide (x.length ≤ 8) && x.cps.toList.all low)
def isWord : PyData → Bool | .str x => wordS x | _ => false
theorem lt_one (a b : Nat) : ([a] : List Nat) < [b] ↔ a < b := by
  constructor
  · intro h
    cases h with
    | rel h => exact h
    | cons h => cases h
  · intro h
    exact List.Lex.rel h
theorem le_a (c : Nat) : (!decide ((⟨#[c]⟩ : Str).cps.toList < ("a" : Str).cps.toList)) = decide (97 ≤ c) := by
  have e : ("a" : Str).cps.toList = [97] := by decide +kernel
  rw [e]
  show (!decide ([c] < [97])) = _
  rw [← decide_not]
  exact decide_eq_decide.mpr (by rw [lt_one]; omega)
theorem le_z (c : Nat) : (!decide (("z" : Str).cps.toList < (⟨#[c]⟩ : Str).cps.toList)) = decide (c ≤ 122) := by
  have e : ("z" : Str).cps.toList = [122] := by decide +kernel
  rw [e]
  show (!decide ([122] < [c])) = _
  rw [← decide_not]
  exact decide_eq_decide.mpr (by rw [lt_one]; omega)
structure TP (mg : Str → Option Value) : Prop where
  isi : mg "isinstance" = none
  str : mg "str" = none
  tuple : mg "tuple" = none
  len : mg "len" = none
  all : mg "all" = none
  zip : mg "zip" = none
  w8 : ∃ t, mg "LONGEST_WORD" = some (.int 8 t)
  m3 : ∃ t, mg "MOST_MARKS" = some (.int 3 t)
  b3 : ∃ t, mg "MOST_BRANCHES" = some (.int 3 t)
  n6 : ∃ t, mg "MOST_NODES" = some (.int 6 t)
  l3 : ∃ t, mg "MOST_LEVEL" = some (.int 3 t)
  ca : ∃ t, mg "CALL" = some (.str "call" t)
/-- a def of one argument that tells a truth of its data -/
def spB (φ : PyData → Bool) : Sp := fun vs H Q _ => ∃ (v : V) (d : PyData), vs = [v] ∧ Dq H v d ∧ ∀ H', Same H H' → Q (.bl (φ d)) H'
theorem bisi : bootBuiltins ("isinstance" : Str) = some (.builtin "isinstance") := by decide +kernel
theorem bstr : bootBuiltins ("str" : Str) = some (.type "str") := by decide +kernel
theorem btup : bootBuiltins ("tuple" : Str) = some (.type "tuple") := by decide +kernel
theorem ball : bootBuiltins ("all" : Str) = some (.builtin "all") := by decide +kernel
section
variable {P : Program} {w : World} {K : PySem.W.Frag} {mg : Str → Option Value} {base : Heap}
theorem scW : FnScope ["thing", "letter"] ["thing"] (defScope sWord) := ⟨rfl, rfl, rfl, by decide +kernel, rfl, by decide +kernel, by decide +kernel⟩
theorem ok_word {f : Addr} {fd : FuncData} (F : Fun K "is_word" "is_word" sWord f fd) (T : TP mg) : FnOk P w K mg base CX0 1 f fd ["thing"] (spB isWord) := by
  refine F.ok scW (fun vs H Q E h => ?_) (fun cdv A outer s H vs Q E hr h => ?_)
  · obtain ⟨v, d, rfl, _⟩ := h
    rfl
  · obtain ⟨v, d, rfl, hd, k⟩ := h
    obtain ⟨t8, g8⟩ := T.w8
    refine ⟨_, pss_cons (ps_if (PW.pt (pw_or (pt_not (pt_val (pe_callB call_isi (by rfl) T.isi bisi (pa_cons (pv 0) (pa_cons (pe_bltn (v := .ty "str") (by rfl) T.str bstr rfl) pa_nil)))))
        (pw_or1 (pt_not (pt_chain op_le op_le pe_int (pe_callB call_len_str (by rfl) T.len PySem.boot_len (pa_cons (pv 0) pa_nil)) (pe_glob (v := .int 8) (by rfl) g8 ⟨_, rfl⟩)))))) (pss_one (ps_ret pe_bl)) pss_nil)
      (pss_one (ps_ret (pe_callB (cr_all rfl) (by rfl) T.all ball (pa_cons (pe_lc (own := [("letter", 1)]) (g := gName 1) (tt := tYes) rfl scW.nd (pi_str (pv 0)) (blkOk_by (own := [("letter", 1)]) (N := ["thing", "letter"]) (sc := defScope sWord) (by decide +kernel))
        (fun _ _ _ _ _ => pg_name (i := 1) scW.nd rfl (Or.inl rfl)) (fun _ _ _ _ _ => pts_nil) (fun _ _ _ _ _ => pe_chain op_le_str op_le_str pe_str (pv 1) pe_str)) pa_nil)))), ?_⟩
    refine ⟨_, rfl, _, .ty "str", _, _, _, rfl, .ty _, hd.ty, kit_ty (ks d), _, rfl, ?_⟩
    cases hd with
    | str x hx =>
      refine iteF ⟨_, rfl, x, rfl, hx.1, _, _, rfl, rfl, _, rfl, ?_⟩
      by_cases h1 : 1 ≤ x.length
      · have e1 : decide ((1 : Int) ≤ (x.length : Int)) = true := decide_eq_true (by omega)
        rw [e1]
        refine iteT ⟨_, _, rfl, rfl, _, rfl, ?_⟩
        by_cases h8 : x.length ≤ 8
        · have e8 : decide ((x.length : Int) ≤ 8) = true := decide_eq_true (by omega)
          rw [e8]
          refine iteF ⟨_, rfl, x, rfl, fun D nD => ?_⟩
          refine lc_it walk_str (fun i H' => Same H H' ∧ H' D = some (.lst (((x.cps.toList.take i).map low).map V.bl))) ⟨same_new nD, upd_same⟩ (fun _ _ _ _ => trivial) ?_ ?_
          · rintro i y H1 H2 hi ⟨s1, e⟩ ⟨rfl, c, hc, rfl⟩
            refine ⟨rfl, ?_⟩
            unfold tYes
            try dsimp only
            rw [if_pos rfl]
            have hl : (((x.cps.toList.take i).map low).map V.bl).length < sizeLine := by
              rw [List.length_map, List.length_map, List.length_take]
              exact Nat.lt_of_le_of_lt (Nat.min_le_left _ _) (Nat.lt_of_lt_of_le hi hx.1)
            have tk : x.cps.toList.take (i + 1) = x.cps.toList.take i ++ [c] := by
              have hc' : x.cps.toList[i]? = some c := by rw [Array.getElem?_toList]; exact hc
              rw [List.take_add_one, hc']
              rfl
            refine ⟨_, rfl, _, _, rfl, rfl, _, rfl, ?_⟩
            rw [le_a]
            by_cases ha : 97 ≤ c
            · rw [decide_eq_true ha]
              refine iteT ⟨_, _, rfl, rfl, _, e, hl, fun b o z => ?_, ?_⟩
              · rw [upd_ne (ne_of_none z nD)]
                exact s1 b o z
              · rw [upd_same, tk, List.map_append, List.map_append, le_z]
                simp [low, ha]
            · rw [decide_eq_false ha]
              refine iteF ⟨_, e, hl, fun b o z => ?_, ?_⟩
              · rw [upd_ne (ne_of_none z nD)]
                exact s1 b o z
              · rw [upd_same, tk, List.map_append, List.map_append]
                simp [low, ha]
          · rintro H1 ⟨s1, e⟩
            have tk : x.cps.toList.take x.cps.size = x.cps.toList := List.take_of_length_le (by simp)
            rw [tk] at e
            refine ⟨_, _, rfl, SqL.of e, ?_⟩
            have z := k H1 s1
            have y : isWord (.str x) = (x.cps.toList.map low).all id := by
              show (decide (1 ≤ x.length) && (decide (x.length ≤ 8) && x.cps.toList.all low)) = _
              rw [decide_eq_true h1, decide_eq_true h8, List.all_map]
              rfl
            rw [y] at z
            exact z
        · have e8 : decide ((x.length : Int) ≤ 8) = false := decide_eq_false (by omega)
          rw [e8]
          have z := k H same_refl
          have y : isWord (.str x) = false := by
            show (decide (1 ≤ x.length) && (decide (x.length ≤ 8) && _)) = _
            rw [decide_eq_false h8, Bool.false_and, Bool.and_false]
          rw [y] at z
          exact iteT z
      · have e1 : decide ((1 : Int) ≤ (x.length : Int)) = false := decide_eq_false (by omega)
        rw [e1]
        have z := k H same_refl
        have y : isWord (.str x) = false := by
          show (decide (1 ≤ x.length) && _) = _
          rw [decide_eq_false h1, Bool.false_and]
        rw [y] at z
        exact iteF ⟨_, rfl, iteT z⟩
    | _ => exact iteT (k H same_refl)
end
end K01
set_option Elab.async false
set_option linter.all false
set_option maxRecDepth 100000
set_option maxHeartbeats 4000000
namespace K01
open PySem L2 L2H DQ RZ
def isPair : PyData → Bool | .tuple ds => decide (ds.length = 2) | _ => false
def isCallS : Option PyData → Bool | some (.str x) => decide (V.str x = V.str "call") | _ => false
def isCall : PyData → Bool | .tuple ds => decide (ds.length = 3) && isCallS ds[2]? | _ => false
def ltD : PyData → PyData → Bool | .str x, .str y => decide (x.cps.toList < y.cps.toList) | _, _ => false
def areMarks : PyData → Bool | .tuple ds => decide (ds.length ≤ 3) && (ds.all isWord && (ds.zip ds.tail).all fun p => ltD p.1 p.2) | _ => false
theorem vint {n m : Nat} : n = m ↔ V.int (n : Int) = V.int (m : Int) := ⟨fun e => by rw [e], fun e => Int.ofNat.inj (V.int.inj e)⟩
section
variable {P : Program} {w : World} {K : PySem.W.Frag} {mg : Str → Option Value} {base : Heap}
theorem scP : FnScope ["thing"] ["thing"] (defScope sPair) := ⟨rfl, rfl, rfl, by decide +kernel, rfl, by decide +kernel, by decide +kernel⟩
theorem ok_pair {f : Addr} {fd : FuncData} (F : Fun K "_is_pair" "_is_pair" sPair f fd) (T : TP mg) : FnOk P w K mg base CX0 1 f fd ["thing"] (spB isPair) := by
  refine F.ok scP (fun vs H Q E h => ?_) (fun cdv A outer s H vs Q E hr h => ?_)
  · obtain ⟨v, d, rfl, _⟩ := h
    rfl
  · obtain ⟨v, d, rfl, hd, k⟩ := h
    refine ⟨_, pss_one (ps_ret (pe_and (pe_callB call_isi (by rfl) T.isi bisi (pa_cons (pv 0) (pa_cons (pe_bltn (v := .ty "tuple") (by rfl) T.tuple btup rfl) pa_nil))) (pe_one (pe_cmpR op_eq (pe_callB call_len_seq (by rfl) T.len PySem.boot_len (pa_cons (pv 0) pa_nil)) pe_int (nomark _))))), ?_⟩
    refine ⟨_, rfl, _, .ty "tuple", _, _, _, rfl, .ty _, hd.ty, kit_ty (kt _), _, rfl, ?_⟩
    cases hd with
    | @tup ad xs ds e a =>
      refine iteT ⟨_, rfl, _, _, rfl, .inr (SqT.of e), rfl, ?_⟩
      have z := k H same_refl
      have y : isPair (.tuple ds) = decide (V.int (xs.length : Nat) = V.int 2) := decide_eq_decide.mpr (by rw [← a.len]; exact vint)
      rw [y] at z
      exact z
    | _ => exact iteF (k H same_refl)
theorem scC : FnScope ["thing"] ["thing"] (defScope sCall) := ⟨rfl, rfl, rfl, by decide +kernel, rfl, by decide +kernel, by decide +kernel⟩
theorem ok_call {f : Addr} {fd : FuncData} (F : Fun K "_is_call" "_is_call" sCall f fd) (T : TP mg) : FnOk P w K mg base CX0 1 f fd ["thing"] (spB isCall) := by
  refine F.ok scC (fun vs H Q E h => ?_) (fun cdv A outer s H vs Q E hr h => ?_)
  · obtain ⟨v, d, rfl, _⟩ := h
    rfl
  · obtain ⟨v, d, rfl, hd, k⟩ := h
    obtain ⟨tc, gc⟩ := T.ca
    refine ⟨_, pss_one (ps_ret (pe_and (pe_callB call_isi (by rfl) T.isi bisi (pa_cons (pv 0) (pa_cons (pe_bltn (v := .ty "tuple") (by rfl) T.tuple btup rfl) pa_nil))) (pe_and (pe_cmpR op_eq (pe_callB call_len_seq (by rfl) T.len PySem.boot_len (pa_cons (pv 0) pa_nil)) pe_int (nomark _))
      (pe_and (pe_callB call_isi (by rfl) T.isi bisi (pa_cons (pe_ix ix_tup (pv 0) pe_int (fun _ _ => rfl)) (pa_cons (pe_bltn (v := .ty "str") (by rfl) T.str bstr rfl) pa_nil))) (pe_one (pe_cmpR op_eq (pe_ix ix_tup (pv 0) pe_int (fun _ _ => rfl)) (pe_glob (v := .str "call") (by rfl) gc ⟨_, rfl⟩) (nomark _))))))), ?_⟩
    refine ⟨_, rfl, _, .ty "tuple", _, _, _, rfl, .ty _, hd.ty, kit_ty (kt _), _, rfl, ?_⟩
    cases hd with
    | @tup ad xs ds e a =>
      refine iteT ⟨_, rfl, _, _, rfl, .inr (SqT.of e), rfl, _, rfl, ?_⟩
      have z := k H same_refl
      by_cases h3 : ds.length = 3
      · have e3 : decide (V.int (xs.length : Nat) = V.int 3) = true := decide_eq_true (by rw [a.len, h3]; rfl)
        rw [e3]
        obtain ⟨x2, hx2⟩ : ∃ x2, ds[2]? = some x2 := ⟨ds[2], List.getElem?_eq_getElem (by omega)⟩
        obtain ⟨v2, hv2, q2⟩ := a.at hx2
        refine iteT ⟨_, rfl, ad, _, _, v2, rfl, rfl, SqT.of e, atI_nat (j := 2) hv2, _, .ty "str", _, _, _, rfl, .ty _, q2.ty, kit_ty (ks _), _, rfl, ?_⟩
        have y : isCall (.tuple ds) = isCallS (some x2) := by
          show (decide (ds.length = 3) && isCallS ds[2]?) = _
          rw [decide_eq_true h3, hx2, Bool.true_and]
        rw [y] at z
        cases q2 with
        | str x hx => exact iteT ⟨_, rfl, ad, _, _, .str x, rfl, rfl, SqT.of e, atI_nat (j := 2) hv2, rfl, z⟩
        | _ => exact iteF z
      · have e3 : decide (V.int (xs.length : Nat) = V.int 3) = false := decide_eq_false fun q => h3 (by rw [← a.len]; exact vint.mpr q)
        rw [e3]
        have y : isCall (.tuple ds) = false := by
          show (decide (ds.length = 3) && isCallS ds[2]?) = _
          rw [decide_eq_false h3, Bool.false_and]
        rw [y] at z
        exact iteF z
    | _ => exact iteF (k H same_refl)
theorem walk_zipT {K : PySem.W.Frag} {a b : Addr} {xs ys : List V} {n : Nat} (hn : n = min xs.length ys.length) : Walk (ItzT K a b) n (fun H => SqT K H a xs ∧ SqT K H b ys) (YPair (fun i => xs[i]?) (fun i => ys[i]?)) where
  goes := fun i H hi g => by
    have h1 : i < xs.length := by omega
    have h2 : i < ys.length := by omega
    exact ⟨xs, ys, xs[i], ys[i], g.1, g.2, List.getElem?_eq_getElem h1, List.getElem?_eq_getElem h2⟩
  stops := fun H g => ⟨xs, ys, g.1, g.2, by omega⟩
  yields := fun i H x H' hi g y => by
    obtain ⟨T, x, y, h1, h2, h3, h4, h5⟩ := y
    exact ⟨T, x, y, h1, h2, h3, h4 _ g.1, h5 _ g.2⟩
theorem sqt_same {K : PySem.W.Frag} {H H' : Hp} {a : Addr} {xs : List V} (h : SqT K H a xs) (s : Same H H') : SqT K H' a xs := by
  rcases h with (h | ⟨o, h⟩) | h
  · exact .inl (.inl (s _ _ h))
  · exact .inl (.inr ⟨o, s _ _ h⟩)
  · exact .inr h
theorem _root_.DQ.DqAll.tail {H : Hp} {vs : List V} {ds : List PyData} (h : DqAll H vs ds) : DqAll H vs.tail ds.tail := by
  cases h with
  | nil => exact .nil
  | cons _ t => exact t
theorem all_tail {ds : List PyData} (h : ds.all isWord = true) : ds.tail.all isWord = true := by
  cases ds with
  | nil => rfl
  | cons d ds => exact (Bool.and_eq_true_iff.mp h).2
/-- where all are words, the i-th value is a text -/
theorem strs_at {H : Hp} {vs : List V} {ds : List PyData} {i : Nat} {v : V} (a : DqAll H vs ds) (w : ds.all isWord = true) (hi : i < ds.length) (hv : vs[i]? = some v) : ∃ x, v = .str x ∧ ds[i]? = some (.str x) := by
  obtain ⟨u, hu, q⟩ := a.at (List.getElem?_eq_getElem hi)
  obtain rfl : u = v := Option.some.inj (hu.symm.trans hv)
  have wi : isWord ds[i] = true := List.all_eq_true.mp w _ (List.getElem_mem hi)
  cases e : ds[i] with
  | str x =>
    rw [e] at q
    cases q
    exact ⟨x, rfl, by rw [List.getElem?_eq_getElem hi, e]⟩
  | _ => rw [e] at wi; cases wi
theorem scM : FnScope ["thing", "least", "most", "word", "later"] ["thing", "least", "most"] (defScope sMarks) := ⟨rfl, rfl, rfl, by decide +kernel, rfl, by decide +kernel, by decide +kernel⟩
/-- are_words of a thing, from none to three -/
def spM (φ : PyData → Bool) : Sp := fun vs H Q _ => ∃ (v : V) (d : PyData), vs = [v, .int 0, .int 3] ∧ Dq H v d ∧ ∀ H', Same H H' → Q (.bl (φ d)) H'
theorem ok_marks {f fW : Addr} {fd fdW : FuncData} (F : Fun K "are_words" "are_words" sMarks f fd) (FW : Fun K "is_word" "is_word" sWord fW fdW) (bW : Binds K fdW ["thing"] []) (gW : mg "is_word" = some (.ref fW)) (T : TP mg) :
    FnOk P w K mg base CX0 3 f fd ["thing", "least", "most"] (spM areMarks) := by
  have GW : FnOk P w K mg base CX0 1 fW fdW ["thing"] (spB isWord) := ok_word FW T
  refine F.ok scM (fun vs H Q E h => ?_) (fun cdv A outer s H vs Q E hr h => ?_)
  · obtain ⟨v, d, rfl, _⟩ := h
    rfl
  · obtain ⟨v, d, rfl, hd, k⟩ := h
    refine ⟨_, pss_cons (ps_if (PW.pt (pw_or (pt_not (pt_val (pe_callB call_isi (by rfl) T.isi bisi (pa_cons (pv 0) (pa_cons (pe_bltn (v := .ty "tuple") (by rfl) T.tuple btup rfl) pa_nil))))) (pw_or1 (pt_not (pt_chain op_le op_le (pv 1) (pe_callB call_len_seq (by rfl) T.len PySem.boot_len (pa_cons (pv 0) pa_nil)) (pv 2)))))) (pss_one (ps_ret pe_bl)) pss_nil)
      (pss_cons (ps_if (pt_not (pt_val (pe_callB (cr_all rfl) (by rfl) T.all ball (pa_cons (pe_lc (own := [("word", 3)]) (g := gName 3) (tt := tYes) rfl scM.nd (pi_tup (pv 0)) (blkOk_by (own := [("word", 3)]) (N := ["thing", "least", "most", "word", "later"]) (sc := defScope sMarks) (by decide +kernel))
        (fun _ _ _ _ _ => pg_name (i := 3) scM.nd rfl (Or.inl rfl)) (fun _ _ _ _ _ => pts_nil) (fun _ _ _ _ _ => pe_call GW (hr.mono (by decide)) (by rfl) gW FW.kp bW .nil pass0 (pa_cons (pv 3) pa_nil))) pa_nil)))) (pss_one (ps_ret pe_bl)) pss_nil)
      (pss_one (ps_ret (pe_callB (cr_all rfl) (by rfl) T.all ball (pa_cons (pe_lc (own := [("word", 3), ("later", 4)]) (g := gTup K 2 (gCons (gName 3) (gCons (gName 4) gNil))) (tt := tYes) rfl scM.nd (pi_zipA (by rfl) T.zip (pa_cons (pv 0) (pa_cons (pe_slice sl_tupA (pv 0) (po_some pe_int) po_none) pa_nil)))
        (blkOk_by (own := [("word", 3), ("later", 4)]) (N := ["thing", "least", "most", "word", "later"]) (sc := defScope sMarks) (by decide +kernel))
        (fun _ _ _ _ _ => pg_tup rfl (pgs_cons (pg_name (i := 3) scM.nd rfl (Or.inl rfl)) (pgs_cons (pg_name (i := 4) scM.nd rfl (Or.inl rfl)) pgs_nil))) (fun _ _ _ _ _ => pts_nil) (fun _ _ _ _ _ => pe_cmpR op_lt_str (pv 3) (pv 4) (nomark _))) pa_nil))))), ?_⟩
    refine ⟨_, rfl, _, .ty "tuple", _, _, _, rfl, .ty _, hd.ty, kit_ty (kt _), _, rfl, ?_⟩
    cases hd with
    | @tup ad xs ds e a =>
      refine iteF ⟨_, rfl, _, rfl, _, _, rfl, .inr (SqT.of e), _, _, rfl, rfl, _, rfl, ?_⟩
      rw [decide_eq_true (show (0 : Int) ≤ (xs.length : Int) by omega)]
      refine iteT ⟨_, rfl, _, _, rfl, rfl, _, rfl, ?_⟩
      by_cases h3 : ds.length ≤ 3
      · have e3 : decide ((xs.length : Int) ≤ 3) = true := decide_eq_true (by rw [a.len]; omega)
        rw [e3]
        refine iteF ⟨_, rfl, ad, rfl, ⟨_, SqT.of e⟩, fun D nD => ?_⟩
        refine lc_it (walk_tup (xs := xs)) (fun i H' => Same H H' ∧ H' D = some (.lst (((ds.take i).map isWord).map V.bl))) ⟨same_new nD, upd_same⟩ (fun i H' _ p => SqT.of (p.1 _ _ e)) ?_ ?_
        · rintro i y H1 H2 hi ⟨s1, e1⟩ ⟨rfl, hx⟩
          refine ⟨rfl, ?_⟩
          unfold tYes
          try dsimp only
          rw [if_pos rfl]
          obtain ⟨di, hdi⟩ : ∃ di, ds[i]? = some di := ⟨ds[i]'(by rw [← a.len]; exact hi), List.getElem?_eq_getElem _⟩
          obtain ⟨v, hv, qv⟩ := a.at hdi
          obtain rfl : v = y := Option.some.inj (hv.symm.trans hx)
          refine ⟨_, rfl, v, di, rfl, qv.same s1, fun H3 s3 => ?_⟩
          have tk : ds.take (i + 1) = ds.take i ++ [di] := by rw [List.take_add_one, hdi]; rfl
          refine ⟨_, s3 _ _ e1, small1000 ?_, fun b o z => ?_, ?_⟩
          · rw [List.length_map, List.length_map, List.length_take]
            omega
          · rw [upd_ne (ne_of_none z nD)]
            exact s3 _ _ (s1 _ _ z)
          · rw [upd_same, tk, List.map_append, List.map_append]
            rfl
        rintro H1 ⟨s1, e1⟩
        have tk : ds.take xs.length = ds := List.take_of_length_le (by rw [a.len]; exact Nat.le_refl _)
        rw [tk] at e1
        refine ⟨_, _, rfl, SqL.of e1, _, rfl, ?_⟩
        have al : (ds.map isWord).all id = ds.all isWord := by rw [List.all_map]; rfl
        rw [al]
        cases aw : ds.all isWord with
        | false =>
          have z := k H1 s1
          have y : areMarks (.tuple ds) = false := by
            show (decide (ds.length ≤ 3) && (ds.all isWord && _)) = _
            rw [aw, Bool.false_and, Bool.and_false]
          rw [y] at z
          exact iteT z
        | true =>
        refine iteF ⟨_, rfl, _, rfl, 1, rfl, ad, xs, rfl, SqT.of (s1 _ _ e), fun wh => ?_, fun nw p np => ?_⟩
        · have x0 : xs = [] := by
            cases xs with
            | nil => rfl
            | cons x xs =>
              have z := wh.1
              have y : HT.sIx (x :: xs).length 0 (some ((1 : Nat) : Int)) = 0 := z
              rw [HT.sIx_nat, List.length_cons] at y
              omega
          have sq : SqT K H1 ad xs.tail := by rw [x0]; rw [x0] at e; exact SqT.of (s1 _ _ e)
          refine ⟨ad, ad, xs, xs.tail, rfl, .inr ⟨SqT.of (s1 _ _ e), sq, fun D2 nD2 => lc_it (walk_zipT (xs := xs) (ys := xs.tail) rfl) (fun i H' => Same H1 H' ∧ H' D2 = some (.lst ((((ds.zip ds.tail).take i).map fun p => ltD p.1 p.2).map V.bl))) ⟨same_new nD2, upd_same⟩ (fun i H' _ p => ⟨SqT.of (p.1 _ _ (s1 _ _ e)), sqt_same sq p.1⟩) ?_ ?_⟩⟩
          · rintro i vv H3 H4 hi ⟨s3, e3⟩ ⟨tt, x, y, rfl, ntt, rfl, hx, hy⟩
            refine ⟨tt, _, rfl, SqT.of upd_same, rfl, _, _, rfl, _, _, rfl, rfl, rfl, ?_⟩
            unfold tYes
            try dsimp only
            rw [if_pos rfl]
            have ix : i < ds.length := by
              have := (List.getElem?_eq_some_iff.mp hx).1
              rw [a.len] at this
              exact this
            have iy : i < ds.tail.length := by
              have := (List.getElem?_eq_some_iff.mp hy).1
              rw [List.length_tail, a.len] at this
              rw [List.length_tail]
              exact this
            obtain ⟨x1, rfl, dx⟩ := strs_at a aw ix hx
            obtain ⟨y1, rfl, dy⟩ := strs_at a.tail (all_tail aw) iy (by exact hy)
            have tk : (ds.zip ds.tail).take (i + 1) = (ds.zip ds.tail).take i ++ [(PyData.str x1, PyData.str y1)] := by
              rw [List.take_add_one, List.getElem?_zip_eq_some (z := (PyData.str x1, PyData.str y1)) |>.mpr ⟨dx, dy⟩]
              rfl
            refine ⟨_, rfl, _, rfl, _, _, rfl, rfl, _, same_new ntt _ _ e3, small1000 ?_, fun b o z => ?_, ?_⟩
            · rw [List.length_map, List.length_map, List.length_take]
              have : (ds.zip ds.tail).length ≤ 3 := by rw [List.length_zip]; omega
              omega
            · rw [upd_ne (ne_of_none z nD2)]
              exact same_new ntt _ _ (s3 _ _ z)
            · rw [upd_same, tk, List.map_append, List.map_append]
              rfl
          · rintro H3 ⟨s3, e3⟩
            have n0 : min xs.length xs.tail.length = (ds.zip ds.tail).length := by rw [List.length_zip, List.length_tail, List.length_tail, a.len]
            rw [n0, List.take_length] at e3
            refine ⟨_, _, rfl, SqL.of e3, ?_⟩
            have z := k H3 (same_trans s1 s3)
            have y : areMarks (.tuple ds) = ((ds.zip ds.tail).map fun p => ltD p.1 p.2).all id := by
              show (decide (ds.length ≤ 3) && (ds.all isWord && (ds.zip ds.tail).all fun p => ltD p.1 p.2)) = _
              rw [decide_eq_true h3, aw, List.all_map]
              rfl
            rw [y] at z
            exact z

        · have cu : cutV xs (some 1) none = xs.tail := by
            cases xs with
            | nil => exact absurd ⟨by rfl, rfl⟩ nw
            | cons x xs => exact cut_one x xs
          rw [cu]
          have s2 : Same H (upd H1 p (.tup xs.tail)) := same_trans s1 (same_new np)
          have sq : SqT K (upd H1 p (.tup xs.tail)) p xs.tail := SqT.of upd_same
          generalize upd H1 p (HO.tup xs.tail) = H2 at s2 sq ⊢
          refine ⟨ad, p, xs, xs.tail, rfl, .inr ⟨SqT.of (s2 _ _ e), sq, fun D2 nD2 => lc_it (walk_zipT (xs := xs) (ys := xs.tail) rfl) (fun i H' => Same H2 H' ∧ H' D2 = some (.lst ((((ds.zip ds.tail).take i).map fun p => ltD p.1 p.2).map V.bl))) ⟨same_new nD2, upd_same⟩ (fun i H' _ p => ⟨SqT.of (p.1 _ _ (s2 _ _ e)), sqt_same sq p.1⟩) ?_ ?_⟩⟩
          · rintro i vv H3 H4 hi ⟨s3, e3⟩ ⟨tt, x, y, rfl, ntt, rfl, hx, hy⟩
            refine ⟨tt, _, rfl, SqT.of upd_same, rfl, _, _, rfl, _, _, rfl, rfl, rfl, ?_⟩
            unfold tYes
            try dsimp only
            rw [if_pos rfl]
            have ix : i < ds.length := by
              have := (List.getElem?_eq_some_iff.mp hx).1
              rw [a.len] at this
              exact this
            have iy : i < ds.tail.length := by
              have := (List.getElem?_eq_some_iff.mp hy).1
              rw [List.length_tail, a.len] at this
              rw [List.length_tail]
              exact this
            obtain ⟨x1, rfl, dx⟩ := strs_at a aw ix hx
            obtain ⟨y1, rfl, dy⟩ := strs_at a.tail (all_tail aw) iy (by exact hy)
            have tk : (ds.zip ds.tail).take (i + 1) = (ds.zip ds.tail).take i ++ [(PyData.str x1, PyData.str y1)] := by
              rw [List.take_add_one, List.getElem?_zip_eq_some (z := (PyData.str x1, PyData.str y1)) |>.mpr ⟨dx, dy⟩]
              rfl
            refine ⟨_, rfl, _, rfl, _, _, rfl, rfl, _, same_new ntt _ _ e3, small1000 ?_, fun b o z => ?_, ?_⟩
            · rw [List.length_map, List.length_map, List.length_take]
              have : (ds.zip ds.tail).length ≤ 3 := by rw [List.length_zip]; omega
              omega
            · rw [upd_ne (ne_of_none z nD2)]
              exact same_new ntt _ _ (s3 _ _ z)
            · rw [upd_same, tk, List.map_append, List.map_append]
              rfl
          · rintro H3 ⟨s3, e3⟩
            have n0 : min xs.length xs.tail.length = (ds.zip ds.tail).length := by rw [List.length_zip, List.length_tail, List.length_tail, a.len]
            rw [n0, List.take_length] at e3
            refine ⟨_, _, rfl, SqL.of e3, ?_⟩
            have z := k H3 (same_trans s2 s3)
            have y : areMarks (.tuple ds) = ((ds.zip ds.tail).map fun p => ltD p.1 p.2).all id := by
              show (decide (ds.length ≤ 3) && (ds.all isWord && (ds.zip ds.tail).all fun p => ltD p.1 p.2)) = _
              rw [decide_eq_true h3, aw, List.all_map]
              rfl
            rw [y] at z
            exact z

      · have e3 : decide ((xs.length : Int) ≤ 3) = false := decide_eq_false (by rw [a.len]; omega)
        rw [e3]
        have z := k H same_refl
        have y : areMarks (.tuple ds) = false := by
          show (decide (ds.length ≤ 3) && _) = _
          rw [decide_eq_false h3, Bool.false_and]
        rw [y] at z
        exact iteT z
    | _ => exact iteT (k H same_refl)
end
end K01
set_option Elab.async false
set_option linter.all false
set_option maxRecDepth 100000
set_option maxHeartbeats 4000000
namespace K01
open PySem L2 L2H DQ RZ
def fewB : PyData → Bool | .tuple bs => decide (bs.length ≤ 3) | _ => false
def nodeB : Option PyData → Option PyData → Bool | some a, some b => areMarks a && fewB b | _, _ => false
def isNode (l : Int) (d : PyData) : Bool := (isPair d || (decide (0 < l) && isCall d)) && (match d with | .tuple ds => nodeB ds[0]? ds[1]? | _ => false)
def spNode : Sp := fun vs H Q _ => ∃ (v : V) (d : PyData) (l : Int), vs = [v, .int l] ∧ Dq H v d ∧ ∀ H', Same H H' → Q (.bl (isNode l d)) H'
theorem pair_or_call {l : Int} {d : PyData} (h : (isPair d || (decide (0 < l) && isCall d)) = true) : ∃ a b r, d = .tuple (a :: b :: r) := by
  cases d with
  | tuple ds =>
    have n : 2 ≤ ds.length := by
      rcases Bool.or_eq_true_iff.mp h with z | z
      · have y : ds.length = 2 := of_decide_eq_true z
        omega
      · have z2 := (Bool.and_eq_true_iff.mp z).2
        have y : ds.length = 3 := of_decide_eq_true (Bool.and_eq_true_iff.mp z2).1
        omega
    match ds, n with
    | a :: b :: r, _ => exact ⟨a, b, r, rfl⟩
  | _ => simp [isPair, isCall] at h
theorem le3 {H : Hp} {vs : List V} {bs : List PyData} (a : DqAll H vs bs) : bs.length ≤ 3 ↔ (vs.length : Int) ≤ 3 := by
  rw [← a.len]
  omega
section
variable {P : Program} {w : World} {K : PySem.W.Frag} {mg : Str → Option Value} {base : Heap}
/-- the program's small defs, as they stand -/
structure PF (K : PySem.W.Frag) (mg : Str → Option Value) (fW fP fC fM : Addr) (dW dP dC dM : FuncData) : Prop where
  W : Fun K "is_word" "is_word" sWord fW dW
  bW : Binds K dW ["thing"] []
  gW : mg "is_word" = some (.ref fW)
  P : Fun K "_is_pair" "_is_pair" sPair fP dP
  bP : Binds K dP ["thing"] []
  gP : mg "_is_pair" = some (.ref fP)
  C : Fun K "_is_call" "_is_call" sCall fC dC
  bC : Binds K dC ["thing"] []
  gC : mg "_is_call" = some (.ref fC)
  M : Fun K "are_words" "are_words" sMarks fM dM
  bM : Binds K dM ["thing", "least", "most"] []
  gM : mg "are_words" = some (.ref fM)
theorem scNd : FnScope ["thing", "level", "marks", "branches"] ["thing", "level"] (defScope sNode) := ⟨rfl, rfl, rfl, by decide +kernel, rfl, by decide +kernel, by decide +kernel⟩
theorem ok_node {f fW fP fC fM : Addr} {fd dW dP dC dM : FuncData} (F : Fun K "_is_node" "_is_node" sNode f fd) (PFs : PF K mg fW fP fC fM dW dP dC dM) (T : TP mg) : FnOk P w K mg base CX0 4 f fd ["thing", "level"] spNode := by
  have GP : FnOk P w K mg base CX0 1 fP dP ["thing"] (spB isPair) := ok_pair PFs.P T
  have GC : FnOk P w K mg base CX0 1 fC dC ["thing"] (spB isCall) := ok_call PFs.C T
  have GM : FnOk P w K mg base CX0 3 fM dM ["thing", "least", "most"] (spM areMarks) := ok_marks PFs.M PFs.W PFs.bW PFs.gW T
  refine F.ok scNd (fun vs H Q E h => ?_) (fun cdv A outer s H vs Q E hr h => ?_)
  · obtain ⟨v, d, l, rfl, _⟩ := h
    rfl
  · obtain ⟨v, d, l, rfl, hd, k⟩ := h
    obtain ⟨t3, g3⟩ := T.b3
    obtain ⟨tm, gm⟩ := T.m3
    refine ⟨_, pss_cons (ps_if (PW.pt (pw_and (pt_not (pt_val (pe_call GP (hr.mono (by decide)) (by rfl) PFs.gP PFs.P.kp PFs.bP .nil pass0 (pa_cons (pv 0) pa_nil))))
        (pw_and1 (pt_not (PW.pt (pw_and (pt_cmpR op_gt (pv 1) pe_int (nomark _)) (pw_and1 (pt_val (pe_call GC (hr.mono (by decide)) (by rfl) PFs.gC PFs.C.kp PFs.bC .nil pass0 (pa_cons (pv 0) pa_nil)))))))))) (pss_one (ps_ret pe_bl)) pss_nil)
      (pss_cons (ps_par rfl scNd.nd (i := 2) (j := 3) rfl rfl (by decide) rfl rfl (pa_cons (pe_ix ix_tup (pv 0) pe_int (fun _ _ => rfl)) (pa_cons (pe_ix ix_tup (pv 0) pe_int (fun _ _ => rfl)) pa_nil)) rfl)
      (pss_one (ps_ret (pe_and (pe_call GM hr (by rfl) PFs.gM PFs.M.kp PFs.bM .nil pass0 (pa_cons (pv 2) (pa_cons pe_int (pa_cons (pe_glob (v := .int 3) (by rfl) gm ⟨_, rfl⟩) pa_nil)))) (pe_and (pe_callB call_isi (by rfl) T.isi bisi (pa_cons (pv 3) (pa_cons (pe_bltn (v := .ty "tuple") (by rfl) T.tuple btup rfl) pa_nil))) (pe_one (pe_cmpR op_le (pe_callB call_len_seq (by rfl) T.len PySem.boot_len (pa_cons (pv 3) pa_nil)) (pe_glob (v := .int 3) (by rfl) g3 ⟨_, rfl⟩) (nomark _)))))))), ?_⟩
    have rest : ∀ H1, Same H H1 → (isPair d || (decide (0 < l) && isCall d)) = true → ∃ a b r va vb vr, d = .tuple (a :: b :: r) ∧ v = .ref vr ∧ (∃ vs, H1 vr = some (.tup (va :: vb :: vs))) ∧ Dq H1 va a ∧ Dq H1 vb b := by
      intro H1 s1 hh
      obtain ⟨a, b, r, rfl⟩ := pair_or_call hh
      have hd1 := hd.same s1
      cases hd1 with
      | tup e q =>
        cases q with
        | cons qa q =>
          cases q with
          | cons qb q => exact ⟨a, b, r, _, _, _, rfl, rfl, ⟨_, e⟩, qa, qb⟩
    refine ⟨_, rfl, v, d, rfl, hd, fun H1 s1 => ⟨_, rfl, ?_⟩⟩
    have no : (isPair d || (decide (0 < l) && isCall d)) = false → isNode l d = false := fun e => by unfold isNode; rw [e, Bool.false_and]
    cases hp : isPair d with
    | true =>
      have hc : (isPair d || (decide (0 < l) && isCall d)) = true := by rw [hp, Bool.true_or]
      refine iteF (iteF ?_)
      obtain ⟨a, b, r, va, vb, vr, rfl, rfl, ⟨vs, e⟩, qa, qb⟩ := rest H1 s1 hc
      refine ⟨_, rfl, vr, _, 0, va, rfl, rfl, SqT.of e, atI_nat (j := 0) rfl, _, rfl, vr, _, 1, vb, rfl, rfl, SqT.of e, atI_nat (j := 1) rfl, _, _, rfl, ?_⟩
      refine ⟨_, rfl, va, a, rfl, qa, fun K2 t2 => ⟨_, rfl, ?_⟩⟩
      have qb2 := qb.same t2
      have yes : isNode l (.tuple (a :: b :: r)) = (areMarks a && fewB b) := by
        unfold isNode
        rw [hc, Bool.true_and]
        rfl
      cases ma : areMarks a with
      | false =>
        have z := k K2 (same_trans s1 t2)
        rw [yes, ma, Bool.false_and] at z
        exact iteF z
      | true =>
        refine iteT ⟨_, rfl, _, .ty "tuple", _, _, _, rfl, .ty _, qb2.ty, kit_ty (kt _), _, rfl, ?_⟩
        have z := k K2 (same_trans s1 t2)
        rw [yes, ma, Bool.true_and] at z
        cases qb2 with
        | tup eb ab =>
          refine iteT ⟨_, rfl, _, _, rfl, .inr (SqT.of eb), _, _, rfl, rfl, ?_⟩
          have y : fewB (.tuple _) = decide ((_ : Int) ≤ 3) := decide_eq_decide.mpr (le3 ab)
          rw [y] at z
          exact z
        | _ => exact iteF z
    | false =>
      refine iteT ⟨_, rfl, _, _, rfl, rfl, _, rfl, ?_⟩
      by_cases h0 : 0 < l
      · rw [decide_eq_true h0]
        refine iteT ⟨_, rfl, v, d, rfl, hd.same s1, fun H2 s2 => ⟨_, rfl, ?_⟩⟩
        cases hcl : isCall d with
        | true =>
          have hc : (isPair d || (decide (0 < l) && isCall d)) = true := by rw [hcl, decide_eq_true h0, Bool.and_true, Bool.or_true]
          refine iteF ?_
          obtain ⟨a, b, r, va, vb, vr, rfl, rfl, ⟨vs, e⟩, qa, qb⟩ := rest H2 (same_trans s1 s2) hc
          refine ⟨_, rfl, vr, _, 0, va, rfl, rfl, SqT.of e, atI_nat (j := 0) rfl, _, rfl, vr, _, 1, vb, rfl, rfl, SqT.of e, atI_nat (j := 1) rfl, _, _, rfl, ?_⟩
          refine ⟨_, rfl, va, a, rfl, qa, fun K2 t2 => ⟨_, rfl, ?_⟩⟩
          have qb2 := qb.same t2
          have yes : isNode l (.tuple (a :: b :: r)) = (areMarks a && fewB b) := by
            unfold isNode
            rw [hc, Bool.true_and]
            rfl
          cases ma : areMarks a with
          | false =>
            have z := k K2 (same_trans (same_trans s1 s2) t2)
            rw [yes, ma, Bool.false_and] at z
            exact iteF z
          | true =>
            refine iteT ⟨_, rfl, _, .ty "tuple", _, _, _, rfl, .ty _, qb2.ty, kit_ty (kt _), _, rfl, ?_⟩
            have z := k K2 (same_trans (same_trans s1 s2) t2)
            rw [yes, ma, Bool.true_and] at z
            cases qb2 with
            | tup eb ab =>
              refine iteT ⟨_, rfl, _, _, rfl, .inr (SqT.of eb), _, _, rfl, rfl, ?_⟩
              have y : fewB (.tuple _) = decide ((_ : Int) ≤ 3) := decide_eq_decide.mpr (le3 ab)
              rw [y] at z
              exact z
            | _ => exact iteF z
        | false =>
          have z := k H2 (same_trans s1 s2)
          rw [no (by rw [hp, hcl, Bool.and_false, Bool.or_false])] at z
          exact iteT z
      · rw [decide_eq_false h0]
        have z := k H1 s1
        rw [no (by rw [hp, decide_eq_false h0, Bool.false_and, Bool.or_false])] at z
        exact iteF (iteT z)
end
end K01
set_option Elab.async false
set_option linter.all false
set_option maxRecDepth 100000
set_option maxHeartbeats 4000000
namespace K01
open PySem L2 L2H DQ RZ
def stepB (c : PyData → Option (Int × Int)) (acc : Option (Int × Int)) (b : PyData) : Option (Int × Int) :=
  match acc with
  | none => none
  | some xy => match b with
    | .tuple [.str u, t] => if wordS u = true then (match c t with | some pq => some (xy.1 + pq.1, xy.2 + pq.2) | none => none) else none
    | _ => none
def cntOf (c : PyData → Option (Int × Int)) : PyData → Option (Int × Int)
  | .tuple (_ :: .tuple bs :: r) => bs.foldl (stepB c) (some (1, (r.length : Int)))
  | _ => none
def cnt : Nat → PyData → Option (Int × Int)
  | 0, _ => none
  | n + 1, d => if isNode (3 - (n : Int)) d = true then cntOf (cnt n) d else none
theorem fold_none (c : PyData → Option (Int × Int)) : ∀ bs : List PyData, bs.foldl (stepB c) none = none
  | [] => rfl
  | b :: bs => fold_none c bs
theorem fold_stop {c : PyData → Option (Int × Int)} {bs : List PyData} {i : Nat} {b : PyData} {acc xy : Option (Int × Int)} (hb : bs[i]? = some b) (h : (bs.take i).foldl (stepB c) acc = xy) (hs : stepB c xy b = none) : bs.foldl (stepB c) acc = none := by
  have e : bs = bs.take i ++ b :: bs.drop (i + 1) := by
    have hi : i < bs.length := (List.getElem?_eq_some_iff.mp hb).1
    have eb : bs[i] = b := (List.getElem?_eq_some_iff.mp hb).2
    rw [← eb, ← List.drop_eq_getElem_cons hi, List.take_append_drop]
  rw [e, List.foldl_append, h, List.foldl_cons, hs]
  exact fold_none c _
/-- what _counts hands back -/
def CntV (H : Hp) (r : V) : Option (Int × Int) → Prop
  | none => r = .non
  | some xy => ∃ p, r = .ref p ∧ H p = some (.tup [.int xy.1, .int xy.2])
def spCnt (m : Nat) : Sp := fun vs H Q _ => ∃ (v : V) (d : PyData) (l : Int), vs = [v, .int l] ∧ l + (m : Int) = 4 ∧ Dq H v d ∧ ∀ r H', Same H H' → CntV H' r (cnt m d) → Q r H'
section
variable {P : Program} {w : World} {K : PySem.W.Frag} {mg : Str → Option Value} {base : Heap}
theorem scCt : FnScope ["thing", "level", "nodes", "calls", "branch", "below"] ["thing", "level"] (defScope sCount) := ⟨rfl, rfl, rfl, by decide +kernel, rfl, by decide +kernel, by decide +kernel⟩
theorem ok_counts {f fN fW fP fC fM : Addr} {fd dN dW dP dC dM : FuncData} (F : Fun K "_counts" "_counts" sCount f fd) (bF : Binds K fd ["thing", "level"] []) (gF : mg "_counts" = some (.ref f))
    (FN : Fun K "_is_node" "_is_node" sNode fN dN) (bN : Binds K dN ["thing", "level"] []) (gN : mg "_is_node" = some (.ref fN)) (PFs : PF K mg fW fP fC fM dW dP dC dM) (T : TP mg) :
    ∀ m, m ≤ 4 → FnOk P w K mg base CX0 (5 + m) f fd ["thing", "level"] (spCnt m) := by
  have GN : FnOk P w K mg base CX0 4 fN dN ["thing", "level"] spNode := ok_node FN PFs T
  have GP : FnOk P w K mg base CX0 1 fP dP ["thing"] (spB isPair) := ok_pair PFs.P T
  have GW : FnOk P w K mg base CX0 1 fW dW ["thing"] (spB isWord) := ok_word PFs.W T
  obtain ⟨tl, gl⟩ := T.l3
  intro m
  induction m with
  | zero =>
    intro _
    refine F.ok scCt (fun vs H Q E h => ?_) (fun cdv A outer s H vs Q E hr h => ?_)
    · obtain ⟨v, d, l, rfl, _⟩ := h
      rfl
    · obtain ⟨v, d, l, rfl, hl, hd, k⟩ := h
      refine ⟨_, pss_cons (ps_if (PW.pt (pw_or (pt_cmpR op_gt (pv 1) (pe_glob (v := .int 3) (by rfl) gl ⟨_, rfl⟩) (nomark _)) (pw_or1 (pt_not (pt_val (pe_call GN (hr.mono (by omega)) (by rfl) gN FN.kp bN .nil pass0 (pa_cons (pv 0) (pa_cons (pv 1) pa_nil)))))))) (pss_one (ps_ret pe_non)) pss_nil)
        (pss_cons ps_never (pss_cons ps_never (pss_one ps_never))), ?_⟩
      refine ⟨_, rfl, _, _, rfl, rfl, _, rfl, ?_⟩
      rw [decide_eq_true (show (3 : Int) < l by omega)]
      exact iteT (k .non H same_refl rfl)
  | succ n ih =>
    intro hm
    have GS : FnOk P w K mg base CX0 (5 + n) f fd ["thing", "level"] (spCnt n) := ih (by omega)
    refine F.ok (k := 5 + n) scCt (fun vs H Q E h => ?_) (fun cdv A outer s H vs Q E hr h => ?_)
    · obtain ⟨v, d, l, rfl, _⟩ := h
      rfl
    · obtain ⟨v, d, l, rfl, hl, hd, k⟩ := h
      refine ⟨_, pss_cons (ps_if (PW.pt (pw_or (pt_cmpR op_gt (pv 1) (pe_glob (v := .int 3) (by rfl) gl ⟨_, rfl⟩) (nomark _)) (pw_or1 (pt_not (pt_val (pe_call GN (hr.mono (by omega)) (by rfl) gN FN.kp bN .nil pass0 (pa_cons (pv 0) (pa_cons (pv 1) pa_nil)))))))) (pss_one (ps_ret pe_non)) pss_nil)
        (pss_cons (ps_par rfl scCt.nd (i := 2) (j := 3) rfl rfl (by decide) rfl rfl (pa_cons pe_int (pa_cons (pe_op op_sub (pe_callB call_len_seq (by rfl) T.len PySem.boot_len (pa_cons (pv 0) pa_nil)) pe_int) pa_nil)) rfl)
        (pss_cons (ps_for PassesOwn.never rfl (pi_tup (pe_ix ix_tup (pv 0) pe_int (fun _ _ => rfl))) (pg_name (i := 4) scCt.nd rfl (Or.inl rfl))
          (pss_cons (ps_if (PW.pt (pw_or (pt_not (pt_val (pe_call GP (hr.mono (by omega)) (by rfl) PFs.gP PFs.P.kp PFs.bP .nil pass0 (pa_cons (pv 4) pa_nil)))) (pw_or1 (pt_not (pt_val (pe_call GW (hr.mono (by omega)) (by rfl) PFs.gW PFs.W.kp PFs.bW .nil pass0 (pa_cons (pe_ix ix_tup (pv 4) pe_int (fun _ _ => rfl)) pa_nil))))))) (pss_one (ps_ret pe_non)) pss_nil)
          (pss_cons (ps_set (i := 5) scCt.nd rfl (Or.inl rfl) (pe_call GS hr (by rfl) gF F.kp bF .nil pass0 (pa_cons (pe_ix ix_tup (pv 4) pe_int (fun _ _ => rfl)) (pa_cons (pe_op op_add (pv 1) pe_int) pa_nil))))
          (pss_cons (ps_if (pt_cmpR op_isN (pv 5) pe_non (nomark _)) (pss_one (ps_ret pe_non)) pss_nil)
          (pss_cons (ps_aug (i := 2) scCt.nd rfl (.inl rfl) (pe_ix ix_tup (pv 5) pe_int (fun _ _ => rfl)) ip_add)
          (pss_one (ps_aug (i := 3) scCt.nd rfl (.inl rfl) (pe_ix ix_tup (pv 5) pe_int (fun _ _ => rfl)) ip_add)))))))
        (pss_one (ps_ret (pe_tup (pa_cons (pv 2) (pa_cons (pv 3) pa_nil))))))), ?_⟩
      have l3 : ¬ (3 : Int) < l := by omega
      have ll : l = 3 - (n : Int) := by omega
      refine ⟨_, rfl, _, _, rfl, rfl, _, rfl, ?_⟩
      rw [decide_eq_false l3]
      refine iteF ⟨_, rfl, _, rfl, v, d, l, rfl, hd, fun H1 s1 => ⟨_, rfl, ?_⟩⟩
      cases nd : isNode l d with
      | false =>
        have z : cnt (n + 1) d = none := by
          show (if isNode (3 - (n : Int)) d = true then _ else none) = none
          rw [← ll, nd]
          rfl
        exact iteT (k .non H1 s1 (by rw [z]; rfl))
      | true =>
        have hc : (isPair d || (decide (0 < l) && isCall d)) = true := (Bool.and_eq_true_iff.mp nd).1
        have hn := (Bool.and_eq_true_iff.mp nd).2
        obtain ⟨a, b, r, rfl⟩ := pair_or_call hc
        have hf : (areMarks a && fewB b) = true := hn
        have zc : cnt (n + 1) (.tuple (a :: b :: r)) = cntOf (cnt n) (.tuple (a :: b :: r)) := by
          show (if isNode (3 - (n : Int)) _ = true then _ else none) = _
          rw [← ll, nd]
          rfl
        rw [zc] at k
        have hd1 := hd.same s1
        cases hd1 with
        | @tup vr xs _ e q =>
        cases q with
        | @cons va _ _ _ qa q =>
        cases q with
        | @cons vb vs _ _ qb q =>
        have fb := (Bool.and_eq_true_iff.mp hf).2
        cases qb with
        | @tup pb ys bs eb ab =>
        have b3 : bs.length ≤ 3 := of_decide_eq_true fb
        refine iteF ⟨_, rfl, vr, _, rfl, .inr (SqT.of e), _, _, rfl, rfl, _, _, rfl, ?_⟩
        refine ⟨_, rfl, vr, _, 1, .ref pb, rfl, rfl, SqT.of e, atI_nat (j := 1) rfl, pb, rfl, ⟨_, SqT.of eb⟩, ?_⟩
        have rl : (((va :: V.ref pb :: vs).length : Nat) : Int) - 2 = (r.length : Int) := by
          rw [List.length_cons, List.length_cons, q.len]
          omega
        refine for_tup (K := K) (a := pb) (xs := ys) (fun i σ' H' => ∃ (x y : Int) (w4 w5 : Option V), σ' = [some (V.ref vr), some (V.int l), some (V.int x), some (V.int y), w4, w5] ∧ Same H1 H' ∧ (bs.take i).foldl (stepB (cnt n)) (some (1, (r.length : Int))) = some (x, y))
          ⟨1, (r.length : Int), none, none, ?_, same_refl, rfl⟩ (fun i σ' H' _ ⟨_, _, _, _, _, t, _⟩ => SqT.of (t _ _ eb)) ?_ ?_
        · rw [← rl]
          rfl
        · rintro i y0 σ' H' hi ⟨x, y, w4, w5, rfl, t, hx⟩
          have ib : i < bs.length := by
            have := (List.getElem?_eq_some_iff.mp hi).1
            rw [ab.len] at this
            exact this
          obtain ⟨bi, hbi⟩ : ∃ bi, bs[i]? = some bi := ⟨bs[i], List.getElem?_eq_getElem ib⟩
          obtain ⟨v0, hv0, qv⟩ := ab.at hbi
          obtain rfl : v0 = y0 := Option.some.inj (hv0.symm.trans hi)
          have stop : ∀ H'', Same H1 H'' → stepB (cnt n) (some (x, y)) bi = none → Q .non H'' := fun H'' s2 hs => k .non H'' (same_trans s1 s2) (by
            have z : cntOf (cnt n) (.tuple (a :: .tuple bs :: r)) = none := fold_stop hbi hx hs
            rw [z]
            rfl)
          refine ⟨_, rfl, v0, bi, rfl, qv.same t, fun H2 s2 => ⟨_, rfl, ?_⟩⟩
          cases hp : isPair bi with
          | false =>
            refine iteT (stop H2 (same_trans t s2) ?_)
            unfold stepB
            split
            · rfl
            · split
              · simp [isPair] at hp
              · rfl
          | true =>
            have qv2 := (qv.same t).same s2
            cases qv2 with
            | @tup p2 zs es e2 a2 =>
              have n2 : es.length = 2 := of_decide_eq_true hp
              match es, n2, a2 with
              | [u, tt], _, a2 =>
              cases a2 with
              | @cons vu _ _ _ qu a2 =>
              cases a2 with
              | @cons vt _ _ _ qt a2 =>
              cases a2
              refine iteF ⟨_, rfl, p2, _, 0, vu, rfl, rfl, SqT.of e2, atI_nat (j := 0) rfl, vu, u, rfl, qu, fun H3 s3 => ⟨_, rfl, ?_⟩⟩
              have t3 : Same H1 H3 := same_trans t (same_trans s2 s3)
              cases hw : isWord u with
              | false =>
                refine iteT (stop H3 t3 ?_)
                cases u with
                | str x0 =>
                  have hw' : wordS x0 = false := hw
                  simp [stepB, hw']
                | _ => rfl
              | true =>
                cases u with
                | str x0 =>
                  have hw' : wordS x0 = true := hw
                  refine iteF ⟨_, rfl, p2, _, 1, vt, rfl, rfl, SqT.of (s3 _ _ e2), atI_nat (j := 1) rfl, _, rfl, _, _, rfl, rfl, vt, tt, l + 1, rfl, by omega, qt.same s3, fun r5 H4 s4 cv => ?_⟩
                  have t4 : Same H1 H4 := same_trans t3 s4
                  have st : stepB (cnt n) (some (x, y)) (.tuple [.str x0, tt]) = (match cnt n tt with | some pq => some (x + pq.1, y + pq.2) | none => none) := by
                    simp [stepB, hw']
                  cases hcn : cnt n tt with
                  | none =>
                    rw [hcn] at cv st
                    obtain rfl : r5 = V.non := cv
                    exact ⟨_, rfl, rfl, _, rfl, iteT (stop H4 t4 st)⟩
                  | some pq =>
                    rw [hcn] at cv st
                    obtain ⟨p5, rfl, e5⟩ := cv
                    refine ⟨_, rfl, rfl, _, rfl, iteF ?_⟩
                    refine ⟨_, rfl, _, rfl, p5, _, 0, .int pq.1, rfl, rfl, SqT.of e5, atI_nat (j := 0) rfl, _, _, rfl, rfl, ?_⟩
                    refine ⟨_, rfl, _, rfl, p5, _, 1, .int pq.2, rfl, rfl, SqT.of e5, atI_nat (j := 1) rfl, _, _, rfl, rfl, ?_⟩
                    refine ⟨x + pq.1, y + pq.2, _, _, rfl, t4, ?_⟩
                    rw [List.take_add_one, hbi]
                    show ((bs.take i) ++ [PyData.tuple [.str x0, tt]]).foldl _ _ = _
                    rw [List.foldl_append, hx]
                    exact st
                | _ => cases hw
            | _ => cases hp
        · rintro σ' H' ⟨x, y, w4, w5, rfl, t, hx⟩
          have tk : bs.take ys.length = bs := List.take_of_length_le (by rw [ab.len]; exact Nat.le_refl _)
          rw [tk] at hx
          refine ⟨_, rfl, _, rfl, by show 2 ≤ sizeLine; decide, fun p np => ?_⟩
          have z : cntOf (cnt n) (.tuple (a :: .tuple bs :: r)) = some (x, y) := hx
          exact k (.ref p) _ (same_trans s1 (same_trans t (same_new np))) (by rw [z]; exact ⟨p, rfl, upd_same⟩)
        | _ => cases fb
end
end K01
set_option Elab.async false
set_option linter.all false
set_option maxRecDepth 100000
set_option maxHeartbeats 4000000
namespace K01
open PySem L2 L2H DQ RZ
def shape (c : Int) (d : PyData) : Bool := match cnt 4 d with | some xy => decide (xy.1 ≤ 6) && decide (V.int xy.2 = V.int c) | none => false
def spShape : Sp := fun vs H Q _ => ∃ (v : V) (d : PyData) (c : Int), vs = [v, .int c] ∧ Dq H v d ∧ ∀ H', Same H H' → Q (.bl (shape c d)) H'
section
variable {P : Program} {w : World} {K : PySem.W.Frag} {mg : Str → Option Value} {base : Heap}
theorem scSh : FnScope ["thing", "calls", "counts"] ["thing", "calls"] (defScope sShape) := ⟨rfl, rfl, rfl, by decide +kernel, rfl, by decide +kernel, by decide +kernel⟩
theorem ok_shape {f fc : Addr} {fd dc : FuncData} (F : Fun K "_is_shape" "_is_shape" sShape f fd) (FC : Fun K "_counts" "_counts" sCount fc dc) (bC : Binds K dc ["thing", "level"] []) (gC : mg "_counts" = some (.ref fc))
    (GC : FnOk P w K mg base CX0 9 fc dc ["thing", "level"] (spCnt 4)) (T : TP mg) : FnOk P w K mg base CX0 10 f fd ["thing", "calls"] spShape := by
  refine F.ok scSh (fun vs H Q E h => ?_) (fun cdv A outer s H vs Q E hr h => ?_)
  · obtain ⟨v, d, c, rfl, _⟩ := h
    rfl
  · obtain ⟨v, d, c, rfl, hd, k⟩ := h
    obtain ⟨t6, g6⟩ := T.n6
    refine ⟨_, pss_cons (ps_set (i := 2) scSh.nd rfl (Or.inl rfl) (pe_call GC hr (by rfl) gC FC.kp bC .nil pass0 (pa_cons (pv 0) (pa_cons pe_int pa_nil))))
      (pss_one (ps_ret (pe_and (pe_cmpR op_notN (pv 2) pe_non (nomark _)) (pe_and (pe_cmpR op_le (pe_ix ix_tup (pv 2) pe_int (fun _ _ => rfl)) (pe_glob (v := .int 6) (by rfl) g6 ⟨_, rfl⟩) (nomark _))
        (pe_one (pe_cmpR op_eq (pe_ix ix_tup (pv 2) pe_int (fun _ _ => rfl)) (pv 1) (nomark _))))))), ?_⟩
    refine ⟨_, rfl, v, d, 0, rfl, rfl, hd, fun r H1 s1 cv => ?_⟩
    have z := k H1 s1
    cases hc : cnt 4 d with
    | none =>
      rw [hc] at cv
      obtain rfl : r = V.non := cv
      have y : shape c d = false := by unfold shape; rw [hc]
      rw [y] at z
      exact ⟨_, rfl, rfl, _, rfl, iteF z⟩
    | some xy =>
      rw [hc] at cv
      obtain ⟨p, rfl, e⟩ := cv
      have y : shape c d = (decide (xy.1 ≤ 6) && decide (V.int xy.2 = V.int c)) := by unfold shape; rw [hc]
      rw [y] at z
      refine ⟨_, rfl, rfl, _, rfl, iteT ⟨_, rfl, p, _, 0, .int xy.1, rfl, rfl, SqT.of e, atI_nat (j := 0) rfl, _, _, rfl, rfl, _, rfl, ?_⟩⟩
      by_cases h6 : xy.1 ≤ 6
      · rw [decide_eq_true h6] at z ⊢
        exact iteT ⟨_, rfl, p, _, 1, .int xy.2, rfl, rfl, SqT.of e, atI_nat (j := 1) rfl, _, rfl, rfl, z⟩
      · rw [decide_eq_false h6] at z ⊢
        exact iteF z
theorem scTr : FnScope ["thing"] ["thing"] (defScope sTr) := ⟨rfl, rfl, rfl, by decide +kernel, rfl, by decide +kernel, by decide +kernel⟩
theorem ok_tr {f fs : Addr} {fd ds : FuncData} (F : Fun K "is_tree" "is_tree" sTr f fd) (FS : Fun K "_is_shape" "_is_shape" sShape fs ds) (bS : Binds K ds ["thing", "calls"] []) (gS : mg "_is_shape" = some (.ref fs))
    (GS : FnOk P w K mg base CX0 10 fs ds ["thing", "calls"] spShape) : FnOk P w K mg base CX0 11 f fd ["thing"] (spB (shape 0)) := by
  refine F.ok scTr (fun vs H Q E h => ?_) (fun cdv A outer s H vs Q E hr h => ?_)
  · obtain ⟨v, d, rfl, _⟩ := h
    rfl
  · obtain ⟨v, d, rfl, hd, k⟩ := h
    refine ⟨_, pss_one (ps_ret (pe_call GS hr (by rfl) gS FS.kp bS .nil pass0 (pa_cons (pv 0) (pa_cons pe_int pa_nil)))), ?_⟩
    exact ⟨_, rfl, v, d, 0, rfl, hd, k⟩
theorem scBo : FnScope ["thing"] ["thing"] (defScope sBo) := ⟨rfl, rfl, rfl, by decide +kernel, rfl, by decide +kernel, by decide +kernel⟩
theorem ok_bo {f fs : Addr} {fd ds : FuncData} (F : Fun K "is_body" "is_body" sBo f fd) (FS : Fun K "_is_shape" "_is_shape" sShape fs ds) (bS : Binds K ds ["thing", "calls"] []) (gS : mg "_is_shape" = some (.ref fs))
    (GS : FnOk P w K mg base CX0 10 fs ds ["thing", "calls"] spShape) : FnOk P w K mg base CX0 11 f fd ["thing"] (spB (shape 1)) := by
  refine F.ok scBo (fun vs H Q E h => ?_) (fun cdv A outer s H vs Q E hr h => ?_)
  · obtain ⟨v, d, rfl, _⟩ := h
    rfl
  · obtain ⟨v, d, rfl, hd, k⟩ := h
    refine ⟨_, pss_one (ps_ret (pe_call GS hr (by rfl) gS FS.kp bS .nil pass0 (pa_cons (pv 0) (pa_cons pe_int pa_nil)))), ?_⟩
    exact ⟨_, rfl, v, d, 1, rfl, hd, k⟩
end
end K01
set_option Elab.async false
set_option linter.all false
set_option maxRecDepth 100000
set_option maxHeartbeats 4000000
namespace K01
open PySem L2 L2H DQ RZ
theorem bset : bootBuiltins ("set" : Str) = some (.type "set") := by decide +kernel
theorem blist : bootBuiltins ("list" : Str) = some (.type "list") := by decide +kernel
theorem bsorted : bootBuiltins ("sorted" : Str) = some (.builtin "sorted") := by decide +kernel
theorem brepr : bootBuiltins ("repr" : Str) = some (.builtin "repr") := by decide +kernel
def OkD (d : PyData) : Prop := d.showable = true ∧ d.depth ≤ 60 ∧ d.shown.length ≤ sizeLine
inductive Within : PyData → PyData → Prop
  | self (d : PyData) : Within d d
  | tup {x y : PyData} {ds : List PyData} : y ∈ ds → Within x y → Within x (.tuple ds)
  | lst {x y : PyData} {ds : List PyData} : y ∈ ds → Within x y → Within x (.list ds)
def OkT (d : PyData) : Prop := ∀ x, Within x d → OkD x
theorem OkT.self {d : PyData} (h : OkT d) : OkD d := h d (.self d)
theorem OkT.tup {x : PyData} {ds : List PyData} (h : OkT (.tuple ds)) (hx : x ∈ ds) : OkT x := fun y w => h y (.tup hx w)
section
variable {P : Program} {w : World} {K : PySem.W.Frag} {mg : Str → Option Value} {base : Heap}
theorem cr_setP {X : Cx} (hP : X.prog = P) (hw : X.w = w) (hK : X.K = K) (hc : X.calm = true) : CallR X (.type "set") (SX.rSetTx P w K) := by
  subst hP hw hK
  exact SX.cr_setTx hc
theorem cr_sortP {X : Cx} (hP : X.prog = P) (hw : X.w = w) (hc : X.calm = true) : CallR X (.builtin "sorted") (SX.rSortTx P w) := by
  subst hP hw
  exact SX.cr_sortTx hc
end
end K01
set_option Elab.async false
set_option linter.all false
set_option maxRecDepth 100000
set_option maxHeartbeats 4000000
/-! slices and sums of tuples that are tracked -/
namespace K01
open PySem L2 L2H DQ RZ
def rSlF : V → Option Int → Option Int → Hp → VK → Prop := fun x lo hi H Q => ∃ a xs, x = .ref a ∧ H a = some (.tup xs) ∧ ∀ p H', Same H H' → H' p = some (.tup (cutV xs lo hi)) → Q (.ref p) H'
theorem sl_tupF {X : Cx} : SlR X rSlF := by
  intro pins s σ H x v vl vu lo hi sl Q I rx hs pl pu h
  obtain ⟨a, xs, rfl, sq, g⟩ := h
  refine sl_tupA pins s σ H _ v vl vu lo hi sl Q I rx hs pl pu ⟨a, xs, rfl, SqT.of sq, fun wh => g a H same_refl ?_, fun _ p np => g p _ (same_new np) upd_same⟩
  have z : cutV xs lo hi = xs := by
    unfold cutV
    rw [wh.1, wh.2, List.drop_zero, Nat.sub_zero, List.take_length]
  rw [z]
  exact sq
def rCatF : R2 := fun x y H Q => ∃ a b xs ys, x = .ref a ∧ y = .ref b ∧ H a = some (.tup xs) ∧ H b = some (.tup ys) ∧ xs.length + ys.length ≤ sizeLine ∧ ∀ p H', Same H H' → H' p = some (.tup (xs ++ ys)) → Q (.ref p) H'
theorem op_catF {X : Cx} : OpR X (binaryOp .Add) rCatF := by
  intro pins s σ H x y v u Q I rx ry h
  obtain ⟨a, b, xs, ys, rfl, rfl, ha, hb, hz, g⟩ := h
  refine op_catA pins s σ H _ _ v u Q I rx ry ⟨a, b, xs, ys, rfl, rfl, SqT.of ha, SqT.of hb, hz, fun hx => g b H same_refl ?_, fun _ hy => g a H same_refl ?_, fun _ _ p np => g p _ (same_new np) upd_same⟩
  · rw [hx]
    exact hb
  · rw [hy, List.append_nil]
    exact ha
theorem cut_to (xs : List V) {j : Nat} : cutV xs none (some (j : Int)) = xs.take j := by
  unfold cutV
  rw [HT.sIx_nat, HT.sIx_none, List.drop_zero, Nat.sub_zero]
  by_cases h : j ≤ xs.length
  · rw [Nat.min_eq_left h]
  · rw [Nat.min_eq_right (by omega), List.take_length, List.take_of_length_le (by omega)]
theorem cut_from (xs : List V) {j : Nat} : cutV xs (some (j : Int)) none = xs.drop j := by
  unfold cutV
  rw [HT.sIx_nat, HT.sIx_none]
  by_cases h : j ≤ xs.length
  · rw [Nat.min_eq_left h]
    exact List.take_of_length_le (by rw [List.length_drop]; exact Nat.le_refl _)
  · rw [Nat.min_eq_right (by omega), List.drop_of_length_le (Nat.le_refl _), List.drop_of_length_le (by omega)]
    exact List.take_nil
theorem cut_at (xs : List V) {j : Nat} (h : j < xs.length) : cutV xs (some (j : Int)) (some ((j : Int) + 1)) = (xs.drop j).take 1 := by
  unfold cutV
  have e : ((j : Int) + 1) = ((j + 1 : Nat) : Int) := by omega
  rw [e, HT.sIx_nat, HT.sIx_nat, Nat.min_eq_left (by omega), Nat.min_eq_left (by omega)]
  congr 1
  omega
end K01
set_option Elab.async false
set_option linter.all false
set_option maxRecDepth 100000
set_option maxHeartbeats 4000000
namespace K01
open PySem L2 L2H DQ RZ
/-! a bound of how long repr of such data is -/
mutual
def sz : PyData → Nat
  | .none => 5
  | .bool _ => 5
  | .int _ => 1921
  | .str x => 10 * x.length + 2
  | .list xs => szAll xs + 4
  | .tuple xs => szAll xs + 4
  | .dict _ => 2
def szAll : List PyData → Nat
  | [] => 0
  | x :: xs => sz x + 2 + szAll xs
end
mutual
/-- ints of at most N, texts of signs, dicts that are empty -/
def gd (N : Nat) : PyData → Bool
  | .none => true
  | .bool _ => true
  | .int i => decide (i.natAbs ≤ N)
  | .str x => PyData.strOk x
  | .list xs => gdAll N xs
  | .tuple xs => gdAll N xs
  | .dict kvs => kvs.isEmpty
def gdAll (N : Nat) : List PyData → Bool
  | [] => true
  | x :: xs => gd N x && gdAll N xs
end
theorem gdAll_iff {N : Nat} : ∀ {xs : List PyData}, gdAll N xs = true ↔ ∀ x ∈ xs, gd N x = true
  | [] => by simp [gdAll]
  | x :: xs => by
    simp only [gdAll, Bool.and_eq_true, List.mem_cons, gdAll_iff (xs := xs)]
    constructor
    · rintro ⟨h1, h2⟩ y (rfl | hy)
      · exact h1
      · exact h2 y hy
    · intro h
      exact ⟨h x (.inl rfl), fun y hy => h y (.inr hy)⟩
theorem sz_mem : ∀ {xs : List PyData} {x : PyData}, x ∈ xs → sz x + 2 ≤ szAll xs
  | y :: xs, x, h => by
    rcases List.mem_cons.mp h with rfl | h
    · simp only [szAll]
      omega
    · have := sz_mem h
      simp only [szAll]
      omega
theorem dp_mem : ∀ {xs : List PyData} {x : PyData}, x ∈ xs → x.depth ≤ PyData.depthAll xs
  | y :: xs, x, h => by
    simp only [PyData.depthAll]
    rcases List.mem_cons.mp h with rfl | h
    · omega
    · have := dp_mem h
      omega
theorem within_le {N : Nat} {x d : PyData} (w : Within x d) : gd N d = true → gd N x = true ∧ sz x ≤ sz d ∧ x.depth ≤ d.depth := by
  induction w with
  | self => exact fun h => ⟨h, Nat.le_refl _, Nat.le_refl _⟩
  | tup hy _ ih =>
    intro h
    simp only [gd] at h
    obtain ⟨a, b, c⟩ := ih (gdAll_iff.mp h _ hy)
    have z1 := sz_mem hy
    have z2 := dp_mem hy
    simp only [sz, PyData.depth]
    exact ⟨a, by omega, by omega⟩
  | lst hy _ ih =>
    intro h
    simp only [gd] at h
    obtain ⟨a, b, c⟩ := ih (gdAll_iff.mp h _ hy)
    have z1 := sz_mem hy
    have z2 := dp_mem hy
    simp only [sz, PyData.depth]
    exact ⟨a, by omega, by omega⟩
theorem from_le : ∀ (ts : List Str) (k : Nat) (acc : Str), (textFrom k acc ts).length ≤ acc.length + piled ts
  | [], k, acc => by
    show acc.length ≤ _
    omega
  | t :: ts, k, acc => by
    have ih := from_le ts (k + 1) (acc ++ (if k > 0 then ", " else "" : String) ++ t)
    rw [strLen_append, strLen_append] at ih
    have e : ((if k > 0 then ", " else "" : String) : Str).length ≤ 2 := by
      split
      · exact (by decide +kernel : ((", " : String) : Str).length ≤ 2)
      · exact (by decide +kernel : (("" : String) : Str).length ≤ 2)
    rw [piled_cons]
    show (textFrom (k + 1) (acc ++ (if k > 0 then ", " else "" : String) ++ t) ts).length ≤ _
    omega
theorem join_le (ts : List Str) : (Str.join ", " ts).length ≤ piled ts := by
  by_cases h : ts = []
  · subst h
    exact (by decide +kernel : (Str.join ", " ([] : List Str)).length ≤ 0)
  · have := join_length_add ts h
    omega
theorem log_le {i : Int} {N : Nat} (h : i.natAbs ≤ N) (hN : N ≤ 10 ^ 40) : i.natAbs.log2 < 1920 := by
  by_cases z : i.natAbs = 0
  · rw [z]
    decide
  · refine (Nat.log2_lt z).mpr (Nat.lt_of_le_of_lt (Nat.le_trans h hN) ?_)
    exact Nat.lt_of_lt_of_le (by decide +kernel : 10 ^ 40 < 2 ^ 200) (Nat.pow_le_pow_right (by decide) (by decide))
mutual
theorem shown_le {N : Nat} (hN : N ≤ 10 ^ 40) : ∀ (d : PyData), gd N d = true → d.showable = true ∧ d.shown.length ≤ sz d
  | .none, _ => ⟨rfl, by decide +kernel⟩
  | .bool b, _ => ⟨rfl, by cases b <;> decide +kernel⟩
  | .int i, h => by
    have z := log_le (of_decide_eq_true (by simpa [gd] using h)) hN
    refine ⟨decide_eq_true z, ?_⟩
    have y := PyProof.Rows.int_text_len_1921 z
    simpa [PyData.shown, sz] using y
  | .str x, h => by
    refine ⟨rfl, ?_⟩
    simp only [PyData.shown, sz]
    have h1 : PyData.strOk x = true := by simpa [gd] using h
    refine StrLaws.reprText_len x fun c hc => ?_
    have z : x.cps.all (fun c => decide (c < 0x110000)) = true := h1
    rw [← Array.all_toList] at z
    have y := of_decide_eq_true (List.all_eq_true.mp z c hc)
    exact Nat.lt_of_lt_of_le y (by decide)
  | .list xs, h => by
    have h' : gdAll N xs = true := by simpa [gd] using h
    obtain ⟨a, b⟩ := shownAll_le hN xs h'
    refine ⟨a, ?_⟩
    simp only [PyData.shown, sz]
    unfold listText
    rw [strLen_append]
    have z := from_le (PyData.shownAll xs) 0 "["
    have e1 : (("[" : String) : Str).length = 1 := by decide +kernel
    have e2 : (("]" : String) : Str).length = 1 := by decide +kernel
    omega
  | .tuple xs, h => by
    have h' : gdAll N xs = true := by simpa [gd] using h
    obtain ⟨a, b⟩ := shownAll_le hN xs h'
    refine ⟨a, ?_⟩
    simp only [PyData.shown, sz]
    unfold tupleText
    rw [strLen_append, strLen_append]
    have z := join_le (PyData.shownAll xs)
    have e1 : (("(" : String) : Str).length = 1 := by decide +kernel
    have e2 : ((if (PyData.shownAll xs).length == 1 then ",)" else ")" : String) : Str).length ≤ 2 := by
      split
      · exact (by decide +kernel : ((",)" : String) : Str).length ≤ 2)
      · exact (by decide +kernel : ((")" : String) : Str).length ≤ 2)
    omega
  | .dict kvs, h => by
    have h' : kvs.isEmpty = true := by simpa [gd] using h
    cases kvs with
    | nil => exact ⟨rfl, by decide +kernel⟩
    | cons a b => cases h'
theorem shownAll_le {N : Nat} (hN : N ≤ 10 ^ 40) : ∀ (xs : List PyData), gdAll N xs = true → PyData.showableAll xs = true ∧ piled (PyData.shownAll xs) ≤ szAll xs
  | [], _ => ⟨rfl, Nat.le_refl _⟩
  | x :: xs, h => by
    have h' := Bool.and_eq_true_iff.mp (by simpa [gdAll] using h)
    obtain ⟨a1, b1⟩ := shown_le hN x h'.1
    obtain ⟨a2, b2⟩ := shownAll_le hN xs h'.2
    refine ⟨?_, ?_⟩
    · simp only [PyData.showableAll, a1, a2, Bool.and_self]
    · simp only [PyData.shownAll, szAll]
      rw [piled_cons]
      omega
end
theorem okT_of {N : Nat} {d : PyData} (hN : N ≤ 10 ^ 40) (h : gd N d = true) (hs : sz d ≤ 1000000) (hd : d.depth ≤ 60) : OkT d := fun x w => by
  obtain ⟨a, b, c⟩ := within_le w h
  obtain ⟨e, f⟩ := shown_le hN x a
  refine ⟨e, Nat.le_trans c hd, Nat.le_trans f (Nat.le_trans b (Nat.le_trans hs (by decide)))⟩
theorem szAll_app : ∀ xs ys : List PyData, szAll (xs ++ ys) = szAll xs + szAll ys
  | [], ys => by simp [szAll]
  | x :: xs, ys => by
    simp only [List.cons_append, szAll, szAll_app xs ys]
    omega
theorem gdAll_app {N : Nat} : ∀ xs ys : List PyData, gdAll N (xs ++ ys) = (gdAll N xs && gdAll N ys)
  | [], ys => by simp [gdAll]
  | x :: xs, ys => by simp only [List.cons_append, gdAll, gdAll_app xs ys, Bool.and_assoc]
theorem depthAll_app : ∀ xs ys : List PyData, PyData.depthAll (xs ++ ys) = max (PyData.depthAll xs) (PyData.depthAll ys)
  | [], ys => by simp [PyData.depthAll]
  | x :: xs, ys => by
    simp only [List.cons_append, PyData.depthAll, depthAll_app xs ys]
    omega
end K01
set_option Elab.async false
set_option linter.all false
set_option maxRecDepth 100000
set_option maxHeartbeats 4000000
namespace K01
open PySem L2 L2H DQ RZ
/-- all but the state of the draws -/
def fr (H : Hp) (m l : Addr) : Hp := fun b => if b = m ∨ b = l then none else H b
theorem fr_same {H : Hp} {m l : Addr} : Same (fr H m l) H := fun b o e => by
  unfold fr at e
  split at e
  · cases e
  · exact e
theorem fr_some {H : Hp} {m l b : Addr} {o : HO} (h : H b = some o) (hm : b ≠ m) (hl : b ≠ l) : fr H m l b = some o := by
  unfold fr
  rw [if_neg fun z => z.elim hm hl]
  exact h
theorem fr_of {H : Hp} {m l b : Addr} {o : HO} (h : fr H m l b = some o) : b ≠ m ∧ b ≠ l ∧ H b = some o := by
  unfold fr at h
  split at h
  · cases h
  · rename_i z
    exact ⟨fun e => z (.inl e), fun e => z (.inr e), h⟩
/-- all but the state of the draws stands, and what was there is there -/
def Fs (H : Hp) (m l : Addr) (H' : Hp) (l' : Addr) : Prop := Same (fr H m l) (fr H' m l') ∧ ∀ b, H' b = none → H b = none
theorem Fs.refl {H : Hp} {m l : Addr} : Fs H m l H l := ⟨same_refl, fun _ h => h⟩
theorem Fs.trans {H H' H'' : Hp} {m l l' l'' : Addr} (x : Fs H m l H' l') (y : Fs H' m l' H'' l'') : Fs H m l H'' l'' := ⟨same_trans x.1 y.1, fun b h => x.2 b (y.2 b h)⟩
theorem Fs.new {H : Hp} {m l : Addr} {H' : Hp} (x : Same H H') (y : Same (fr H m l) (fr H' m l)) : Fs H m l H' l := ⟨y, fun b h => same_out x h⟩
theorem But.fr {H H' : Hp} {m l l' : Addr} (x : But H H' m l) (h : l' = l ∨ H l' = none) : Fs H m l H' l' := by
  refine ⟨fun b o e => ?_, x.out⟩
  obtain ⟨h1, h2, h3⟩ := fr_of e
  refine fr_some (x.kp b o h3 h1 h2) h1 fun z => ?_
  rcases h with y | y
  · exact h2 (z.trans y)
  · rw [← z, h3] at y
    cases y
theorem MAt.fresh {H : Hp} {m c l p : Addr} {cs ls : List Int} {n : Int} {o : HO} (M : MAt H m c l cs ls n) (hp : H p = none) : MAt (upd H p o) m c l cs ls n ∧ Same (fr H m l) (fr (upd H p o) m l) ∧ fr (upd H p o) m l p = some o := by
  refine ⟨M.same (same_new hp), fun b u e => ?_, fr_some upd_same (ne_of_none M.hm hp).symm (ne_of_none M.hl hp).symm⟩
  obtain ⟨h1, h2, h3⟩ := fr_of e
  exact fr_some (same_new hp _ _ h3) h1 h2
/-- a number below many; the state again -/
def spNx : Sp := fun vs H Q _ => ∃ (m c l : Addr) (many : Int) (cs ls : List Int) (n : Int), vs = [.ref m, .int many] ∧ MAt H m c l cs ls n ∧ 0 < many ∧ many < 1000000 ∧ n + 1 ≤ 1000000000 ∧
  ∀ r H' l' ls' n', 0 ≤ r → r < many → MAt H' m c l' cs ls' n' → n' ≤ n + 1 → Fs H m l H' l' → Q (.int r) H'
theorem nx_of {vs : List V} {H : Hp} {Q : VK} {E : XK} (h : spNx vs H Q E) : spNext vs H Q E := by
  obtain ⟨m, c, l, many, cs, ls, n, rfl, M, h1, h2, h3, k⟩ := h
  exact ⟨m, c, l, many, cs, ls, n, rfl, M, h1, h2, h3, fun r H' l' ls' n' r0 r1 M' nn bt hl => k r H' l' ls' n' r0 r1 M' nn (bt.fr hl)⟩
/-- a def that draws data: of k draws at most; what is told of the data -/
def spDr (k : Int) (Φ : PyData → Prop) : Sp := fun vs H Q _ => ∃ (m c l : Addr) (cs ls : List Int) (n : Int), vs = [.ref m] ∧ MAt H m c l cs ls n ∧ n + k ≤ 1000000000 ∧
  ∀ r d H' l' ls' n', MAt H' m c l' cs ls' n' → n' ≤ n + k → Fs H m l H' l' → Dq (fr H' m l') r d → Φ d → Q r H'
def OddD (d : PyData) : Prop := gd (10 ^ 30) d = true ∧ sz d ≤ 5000 ∧ d.depth ≤ 3
instance (d : PyData) : Decidable (OddD d) := by
  unfold OddD
  infer_instance
/-- things of a list that is drawn from -/
inductive DqL (H : Hp) (Φ : PyData → Prop) : List V → Prop
  | nil : DqL H Φ []
  | cons {v : V} {vs : List V} {d : PyData} : Dq H v d → Φ d → DqL H Φ vs → DqL H Φ (v :: vs)
theorem DqL.at {H : Hp} {Φ : PyData → Prop} : ∀ {vs : List V} {i : Nat}, DqL H Φ vs → i < vs.length → ∃ v d, vs[i]? = some v ∧ Dq H v d ∧ Φ d
  | _ :: _, 0, .cons h p _, _ => ⟨_, _, rfl, h, p⟩
  | _ :: _, i + 1, .cons _ _ t, hi => t.at (i := i) (Nat.lt_of_succ_lt_succ hi)
theorem DqL.same {H H' : Hp} {Φ : PyData → Prop} (s : Same H H') : ∀ {vs : List V}, DqL H Φ vs → DqL H' Φ vs
  | _, .nil => .nil
  | _, .cons h p t => .cons (h.same s) p (t.same s)
theorem DqL.app {H : Hp} {Φ : PyData → Prop} : ∀ {vs ws : List V}, DqL H Φ vs → DqL H Φ ws → DqL H Φ (vs ++ ws)
  | _, _, .nil, b => b
  | _, _, .cons h p t, b => .cons h p (t.app b)
/-- the same state of the draws, all else stands -/
structure Gw (m c l : Addr) (cs ls : List Int) (n : Int) (H H' : Hp) : Prop where
  mat : MAt H' m c l cs ls n
  sm : Fs H m l H' l
theorem Gw.new {m c l p : Addr} {cs ls : List Int} {n : Int} {H H' : Hp} {o : HO} (G : Gw m c l cs ls n H H') (hp : H' p = none) : Gw m c l cs ls n H (upd H' p o) ∧ Same (fr H' m l) (fr (upd H' p o) m l) ∧ fr (upd H' p o) m l p = some o := by
  obtain ⟨a, b, d⟩ := G.mat.fresh (o := o) hp
  exact ⟨⟨a, G.sm.trans (.new (same_new hp) b)⟩, b, d⟩
theorem odd_str {x : Str} (h1 : PyData.strOk x = true) (h2 : x.length ≤ 10) : OddD (.str x) := by
  refine ⟨?_, ?_, Nat.zero_le _⟩
  · simp only [gd, h1]
  · simp only [sz]
    omega
theorem dq_str {H : Hp} {x : Str} (h1 : PyData.strOk x = true) (h2 : x.length ≤ 10) : Dq H (.str x) (.str x) := .str x ⟨Nat.le_trans h2 (by decide), h1⟩
section
variable {P : Program} {w : World} {K : PySem.W.Frag} {mg : Str → Option Value} {base : Heap}
theorem scOd : FnScope ["m", "some"] ["m"] (defScope sOdd) := ⟨rfl, rfl, rfl, by decide +kernel, rfl, by decide +kernel, by decide +kernel⟩
theorem ok_odd {f fN : Addr} {fd dN : FuncData} (F : Fun K "_law_odd" "_law_odd" sOdd f fd) (FN : Fun K "_law_next" "_law_next" sNext fN dN) (bN : Binds K dN ["m", "many"] []) (gN : mg "_law_next" = some (.ref fN)) (T : TxtB mg) :
    FnOk P w K mg base CX0 3 f fd ["m"] (spDr 1 OddD) := by
  have GN : FnOk P w K mg base CX0 1 fN dN ["m", "many"] spNx := (ok_next FN T).imp fun _ _ _ _ => nx_of
  refine F.ok scOd (fun vs H Q E h => ?_) (fun cdv A outer s H vs Q E hr h => ?_)
  · obtain ⟨m, c, l, cs, ls, n, rfl, _⟩ := h
    rfl
  · obtain ⟨m, c, l, cs, ls, n, rfl, M, hn, k⟩ := h
    refine ⟨_, pss_cons (ps_set (i := 1) scOd.nd rfl (Or.inl rfl) (pe_lst (pa_cons pe_non (pa_cons pe_int (pa_cons pe_int (pa_cons pe_int (pa_cons pe_int (pa_cons (pe_un un_neg pe_int) (pa_cons pe_int (pa_cons (pe_un un_neg pe_int) (pa_cons pe_bl (pa_cons pe_bl
        (pa_cons pe_str (pa_cons pe_str (pa_cons pe_str (pa_cons pe_str (pa_cons pe_str (pa_cons pe_str (pa_cons (pe_tup pa_nil) (pa_cons (pe_tup (pa_cons (pe_tup pa_nil) pa_nil)) pa_nil))))))))))))))))))))
      (pss_cons (ps_set (i := 1) scOd.nd rfl (Or.inl rfl) (pe_op op_cat (pv 1) (pe_lst (pa_cons (pe_tup (pa_cons pe_str (pa_cons pe_int pa_nil))) (pa_cons (pe_lst pa_nil) (pa_cons pe_dnewK (pa_cons (pe_op op_pow pe_int pe_int)
          (pa_cons (pe_tup (pa_cons (pe_tup pa_nil) (pa_cons (pe_tup pa_nil) pa_nil))) (pa_cons (pe_tup (pa_cons (pe_tup pa_nil) (pa_cons (pe_tup pa_nil) (pa_cons pe_str pa_nil)))) (pa_cons pe_str (pa_cons (pe_tup (pa_cons pe_non pa_nil)) (pa_cons (pe_tup (pa_cons pe_int pa_nil))
          (pa_cons (pe_tup (pa_cons pe_int (pa_cons pe_int pa_nil))) (pa_cons (pe_tup (pa_cons (pe_tup (pa_cons pe_str pa_nil)) (pa_cons (pe_tup pa_nil) pa_nil))) pa_nil))))))))))))))
      (pss_one (ps_ret (pe_ix ix_list (pv 1) (pe_call GN (hr.mono (by decide)) (by rfl) gN FN.kp bN .nil pass0 (pa_cons (pv 0) (pa_cons pe_int pa_nil))) (fun _ _ => rfl))))), ?_⟩
    refine ⟨_, rfl, _, rfl, Nat.zero_le _, fun p1 n1 => ⟨Nat.zero_le _, fun p2 n2 => ⟨by show 1 ≤ sizeLine; decide, fun p3 n3 => ⟨by show 18 ≤ sizeLine; decide, fun q1 m1 => ?_⟩⟩⟩⟩
    have G0 : Gw m c l cs ls n H H := ⟨M, .refl⟩
    obtain ⟨G1, t1, e1⟩ := G0.new (o := .tup []) n1
    obtain ⟨G2, t2, e2⟩ := G1.new (o := .tup []) n2
    obtain ⟨G3, t3, e3⟩ := G2.new (o := .tup [.ref p2]) n3
    obtain ⟨G4, t4, e4⟩ := G3.new (o := .lst _) m1
    have L1 := DqL.same t4 (H := fr _ m l) (Φ := OddD) (vs := [.non, .int 0, .int 1, .int 2, .int 3, .int (-1), .int 41, .int (-10), .bl true, .bl false, .str "", .str "a", .str "call", .str "never", .str "needed", .str "e", .ref p1, .ref p3])
      (.cons .non (by decide +kernel) (.cons (.int 0) (by decide +kernel) (.cons (.int 1) (by decide +kernel) (.cons (.int 2) (by decide +kernel) (.cons (.int 3) (by decide +kernel) (.cons (.int (-1)) (by decide +kernel) (.cons (.int 41) (by decide +kernel) (.cons (.int (-10)) (by decide +kernel)
      (.cons (.bl true) (by decide +kernel) (.cons (.bl false) (by decide +kernel) (.cons (dq_str (by decide +kernel) (by decide +kernel)) (odd_str (by decide +kernel) (by decide +kernel)) (.cons (dq_str (by decide +kernel) (by decide +kernel)) (odd_str (by decide +kernel) (by decide +kernel))
      (.cons (dq_str (by decide +kernel) (by decide +kernel)) (odd_str (by decide +kernel) (by decide +kernel)) (.cons (dq_str (by decide +kernel) (by decide +kernel)) (odd_str (by decide +kernel) (by decide +kernel)) (.cons (dq_str (by decide +kernel) (by decide +kernel)) (odd_str (by decide +kernel) (by decide +kernel))
      (.cons (dq_str (by decide +kernel) (by decide +kernel)) (odd_str (by decide +kernel) (by decide +kernel)) (.cons (.tup (t3 _ _ (t2 _ _ e1)) .nil) (by decide +kernel) (.cons (.tup e3 (.cons (.tup (t3 _ _ e2) .nil) .nil)) (by decide +kernel) .nil))))))))))))))))))
    generalize upd (upd (upd (upd H p1 (HO.tup [])) p2 (HO.tup [])) p3 (HO.tup [V.ref p2])) q1 (HO.lst _) = H4 at G4 L1 e4
    clear e1 e2 e3 t1 t2 t3 t4 G1 G2 G3
    refine ⟨_, rfl, by show 2 ≤ sizeLine; decide, fun a1 n1 => ⟨Nat.zero_le _, fun a2 n2 => fun a3 n3 => ⟨_, _, rfl, rfl, ⟨by decide, by decide, by decide⟩, ?_⟩⟩⟩
    refine ⟨Nat.zero_le _, fun a4 n4 => ⟨Nat.zero_le _, fun a5 n5 => ⟨by show 2 ≤ sizeLine; decide, fun a6 n6 => ⟨Nat.zero_le _, fun a7 n7 => ⟨Nat.zero_le _, fun a8 n8 => ⟨by show 3 ≤ sizeLine; decide, fun a9 n9 => ?_⟩⟩⟩⟩⟩⟩
    refine ⟨by show 1 ≤ sizeLine; decide, fun b1 k1 => ⟨by show 1 ≤ sizeLine; decide, fun b2 k2 => ⟨by show 2 ≤ sizeLine; decide, fun b3 k3 => ⟨by show 1 ≤ sizeLine; decide, fun b4 k4 => ⟨Nat.zero_le _, fun b5 k5 => ⟨by show 2 ≤ sizeLine; decide, fun b6 k6 => ?_⟩⟩⟩⟩⟩⟩
    refine ⟨by show 11 ≤ sizeLine; decide, fun q2 m2 => ?_⟩
    obtain ⟨F1, t1, f1⟩ := G4.new (o := .tup [.str "a", .int 0]) n1
    obtain ⟨F2, t2, f2⟩ := F1.new (o := .lst []) n2
    obtain ⟨F3, t3, f3⟩ := F2.new (o := .dK []) n3
    obtain ⟨F4, t4, f4⟩ := F3.new (o := .tup []) n4
    obtain ⟨F5, t5, f5⟩ := F4.new (o := .tup []) n5
    obtain ⟨F6, t6, f6⟩ := F5.new (o := .tup [.ref a4, .ref a5]) n6
    obtain ⟨F7, t7, f7⟩ := F6.new (o := .tup []) n7
    obtain ⟨F8, t8, f8⟩ := F7.new (o := .tup []) n8
    obtain ⟨F9, t9, f9⟩ := F8.new (o := .tup [.ref a7, .ref a8, .str "call"]) n9
    obtain ⟨E1, u1, g1⟩ := F9.new (o := .tup [.non]) k1
    obtain ⟨E2, u2, g2⟩ := E1.new (o := .tup [.int 0]) k2
    obtain ⟨E3, u3, g3⟩ := E2.new (o := .tup [.int 0, .int 0]) k3
    obtain ⟨E4, u4, g4⟩ := E3.new (o := .tup [.str "a"]) k4
    obtain ⟨E5, u5, g5⟩ := E4.new (o := .tup []) k5
    obtain ⟨E6, u6, g6⟩ := E5.new (o := .tup [.ref b4, .ref b5]) k6
    obtain ⟨E7, u7, g7⟩ := E6.new (o := .lst _) m2
    have v6 := u7
    have v5 := same_trans u6 v6
    have v4 := same_trans u5 v5
    have v3 := same_trans u4 v4
    have v2 := same_trans u3 v3
    have v1 := same_trans u2 v2
    have s9 := same_trans u1 v1
    have s8 := same_trans t9 s9
    have s7 := same_trans t8 s8
    have s6 := same_trans t7 s7
    have s5 := same_trans t6 s6
    have s4 := same_trans t5 s5
    have s3 := same_trans t4 s4
    have s2 := same_trans t3 s3
    have s1 := same_trans t2 s2
    have s0 := same_trans t1 s1
    have da : ∀ {G : Hp}, Dq G (.str "a") (.str "a") := dq_str (by decide +kernel) (by decide +kernel)
    have dc : ∀ {G : Hp}, Dq G (.str "call") (.str "call") := dq_str (by decide +kernel) (by decide +kernel)
    have d1 : ∀ {G : Hp}, Dq G (.str "a1") (.str "a1") := dq_str (by decide +kernel) (by decide +kernel)
    have L2 : DqL (fr _ m l) OddD [.ref a1, .ref a2, .ref a3, .int (10 ^ (30 : Int).toNat), .ref a6, .ref a9, .str "a1", .ref b1, .ref b2, .ref b3, .ref b6] :=
      .cons (.tup (s1 _ _ f1) (.cons da (.cons (.int 0) .nil))) (by decide +kernel) (.cons (.lst (s2 _ _ f2) .nil) (by decide +kernel) (.cons (.dic (s3 _ _ f3)) (by decide +kernel) (.cons (.int _) (by decide +kernel)
      (.cons (.tup (s6 _ _ f6) (.cons (.tup (s4 _ _ f4) .nil) (.cons (.tup (s5 _ _ f5) .nil) .nil))) (by decide +kernel) (.cons (.tup (s9 _ _ f9) (.cons (.tup (s7 _ _ f7) .nil) (.cons (.tup (s8 _ _ f8) .nil) (.cons dc .nil)))) (by decide +kernel)
      (.cons d1 (by decide +kernel) (.cons (.tup (v1 _ _ g1) (.cons .non .nil)) (by decide +kernel) (.cons (.tup (v2 _ _ g2) (.cons (.int 0) .nil)) (by decide +kernel) (.cons (.tup (v3 _ _ g3) (.cons (.int 0) (.cons (.int 0) .nil))) (by decide +kernel)
      (.cons (.tup (v6 _ _ g6) (.cons (.tup (v4 _ _ g4) (.cons da .nil)) (.cons (.tup (v5 _ _ g5) .nil) .nil))) (by decide +kernel) .nil))))))))))
    have L := (L1.same s0).app L2
    refine ⟨q1, q2, _, _, rfl, rfl, (fr_of (s0 _ _ e4)).2.2, (fr_of g7).2.2, by show 18 + 11 ≤ sizeLine; decide, fun q3 m3 => ?_⟩
    obtain ⟨E8, u8, g8⟩ := E7.new (o := .lst _) m3
    have L' := L.same u8
    refine ⟨_, rfl, _, rfl, m, c, l, 29, cs, ls, n, rfl, E8.mat, by decide, by decide, hn, fun r H' l' ls' n' r0 r1 M' nn sm => ?_⟩
    obtain ⟨v, d, hv, dv, dΦ⟩ := (L'.same sm.1).at (i := r.toNat) (by show r.toNat < 29; omega)
    refine ⟨q3, _, r, v, rfl, rfl, SqL.of (fr_of (sm.1 _ _ g8)).2.2, ?_, k v d H' l' ls' n' M' nn (E8.sm.trans sm) dv dΦ⟩
    have z := atI_nat hv
    rw [Int.toNat_of_nonneg r0] at z
    exact z
end
end K01
set_option Elab.async false
set_option linter.all false
set_option maxRecDepth 100000
set_option maxHeartbeats 4000000
namespace K01
open PySem L2 L2H DQ RZ
/-- the marks that the law draws from -/
def abc3 : List Str := ["a", "b", "c"]
def efS (u : Str) : Prop := u = "e" ∨ u = "f"
def restC (c : Nat) (r : List PyData) : Prop := (r = [] ∧ c = 0) ∨ (r = [.str "call"] ∧ c = 1)
mutual
/-- a tree of texts and tuples: at most k levels below its root, n nodes, c calls -/
inductive Tc : Nat → Nat → Nat → PyData → Prop
  | mk {k n c n0 c0 c1 : Nat} {ms : List Str} {bs r : List PyData} : ms.Sublist abc3 → bs.length ≤ 3 → restC c0 r → TcB k n0 c1 bs → n = n0 + 1 → c = c1 + c0 → Tc k n c (.tuple (.tuple (ms.map PyData.str) :: .tuple bs :: r))
/-- branches, the nodes below them at most k - 1 levels high -/
inductive TcB : Nat → Nat → Nat → List PyData → Prop
  | nil {k : Nat} : TcB k 0 0 []
  | cons {k n c n' c' N C : Nat} {u : Str} {t : PyData} {bs : List PyData} : efS u → Tc k n c t → TcB (k + 1) n' c' bs → N = n + n' → C = c + c' → TcB (k + 1) N C (.tuple [.str u, t] :: bs)
end
theorem TcB.app : ∀ {k n c n' c' : Nat} {bs es : List PyData}, TcB k n c bs → TcB k n' c' es → TcB k (n + n') (c + c') (bs ++ es)
  | k, _, _, n', c', _, es, .nil, h => by
    rw [Nat.zero_add, Nat.zero_add]
    exact h
  | _, _, _, _, _, _, _, .cons hu ht hb e1 e2, h => .cons hu ht (hb.app h) (by omega) (by omega)
mutual
theorem Tc.mono : ∀ {k n c : Nat} {d : PyData}, Tc k n c d → Tc (k + 1) n c d
  | _, _, _, _, .mk h1 h2 h3 h4 e1 e2 => .mk h1 h2 h3 h4.mono e1 e2
theorem TcB.mono : ∀ {k n c : Nat} {bs : List PyData}, TcB k n c bs → TcB (k + 1) n c bs
  | _, _, _, _, .nil => .nil
  | _, _, _, _, .cons hu ht hb e1 e2 => .cons hu ht.mono hb.mono e1 e2
end
theorem TcB.take : ∀ {k n c : Nat} {bs : List PyData} (j : Nat), TcB k n c bs → ∃ n1 c1 n2 c2, TcB k n1 c1 (bs.take j) ∧ TcB k n2 c2 (bs.drop j) ∧ n = n1 + n2 ∧ c = c1 + c2
  | _, n, c, _, 0, h => ⟨0, 0, n, c, .nil, h, by omega, by omega⟩
  | _, _, _, _, j + 1, .nil => ⟨0, 0, 0, 0, .nil, .nil, rfl, rfl⟩
  | _, _, _, _, j + 1, .cons hu ht hb e1 e2 => by
    obtain ⟨n1, c1, n2, c2, a, b, d1, d2⟩ := hb.take j
    exact ⟨_, _, n2, c2, .cons hu ht a rfl rfl, b, by omega, by omega⟩
theorem TcB.at : ∀ {k n c : Nat} {bs : List PyData} {j : Nat} {b : PyData}, TcB k n c bs → bs[j]? = some b → ∃ k' u t n1 c1, k = k' + 1 ∧ b = .tuple [.str u, t] ∧ efS u ∧ Tc k' n1 c1 t
  | _, _, _, _, _, _, .nil, h => by simp at h
  | _, _, _, _, 0, _, .cons hu ht _ _ _, h => by
    cases h
    exact ⟨_, _, _, _, _, rfl, rfl, hu, ht⟩
  | _, _, _, _, j + 1, _, .cons _ _ hb _ _, h => hb.at (j := j) h
theorem Tc.pos : ∀ {k n c : Nat} {d : PyData}, Tc k n c d → 1 ≤ n
  | _, _, _, _, .mk _ _ _ _ e1 _ => by omega
def smS (x : Str) : Prop := PyData.strOk x = true ∧ x.length = 1
instance (x : Str) : Decidable (smS x) := by
  unfold smS
  infer_instance
theorem abc_sm {x : Str} (h : x ∈ abc3) : smS x := by
  simp only [abc3, List.mem_cons, List.not_mem_nil, or_false] at h
  rcases h with rfl | rfl | rfl <;> decide +kernel
theorem ef_sm {u : Str} (h : efS u) : smS u := by
  rcases h with rfl | rfl <;> decide +kernel
theorem sub_sm {ms : List Str} (h : ms.Sublist abc3) : ∀ x ∈ ms, smS x := fun x hx => abc_sm (h.subset hx)
theorem sub_len {ms : List Str} (h : ms.Sublist abc3) : ms.length ≤ 3 := h.length_le
/-- how many draws at most -/
def dn : Nat → Int
  | 0 => 10
  | k + 1 => 10 + 3 * (4 + dn k)
def spTr (k : Nat) : Sp := fun vs H Q _ => ∃ (m c l : Addr) (cs ls : List Int) (n size : Int), vs = [.ref m, .int size, .int (k : Int)] ∧ MAt H m c l cs ls n ∧ n + dn k ≤ 1000000000 ∧ 1 ≤ size ∧ size ≤ 1000 ∧
  ∀ r d q H' l' ls' n', MAt H' m c l' cs ls' n' → n' ≤ n + dn k → Fs H m l H' l' → Dq (fr H' m l') r d → Tc k q 0 d → (q : Int) ≤ size → Q r H'
theorem MAt.at {H : Hp} {m c l D : Addr} {cs ls : List Int} {n : Int} {o : HO} (M : MAt H m c l cs ls n) (hm : D ≠ m) (hc : D ≠ c) (hl : D ≠ l) : MAt (upd H D o) m c l cs ls n :=
  ⟨by rw [upd_ne hm.symm]; exact M.hm, by rw [upd_ne hc.symm]; exact M.hc, by rw [upd_ne hl.symm]; exact M.hl, M.ne, M.n0, M.nb, M.cb, M.lb⟩
/-- a list that is written while numbers are drawn -/
structure Dl (H : Hp) (m c l : Addr) (cs : List Int) (n : Int) (k : Int) (D : Addr) (xs : List V) (H' : Hp) (l' : Addr) (ls' : List Int) (n' : Int) : Prop where
  mat : MAt H' m c l' cs ls' n'
  le : n' ≤ n + k
  sm : Fs H m l H' l'
  dd : fr H' m l' D = some (.lst xs)
theorem Dl.next {H H' H6 : Hp} {m c l l' l6 D : Addr} {cs ls' ls6 : List Int} {n k n' n6 j k' : Int} {xs : List V} (d : Dl H m c l cs n k D xs H' l' ls' n') (M : MAt H6 m c l6 cs ls6 n6) (h : n6 ≤ n' + j) (s : Fs H' m l' H6 l6) (hk : k + j ≤ k') : Dl H m c l cs n k' D xs H6 l6 ls6 n6 :=
  ⟨M, by have := d.le; omega, d.sm.trans s, s.1 _ _ d.dd⟩
theorem Dl.put {H H' : Hp} {m c l l' D : Addr} {cs ls' : List Int} {n k n' : Int} {xs ys : List V} (d : Dl H m c l cs n k D xs H' l' ls' n') (hD : H D = none) (hm : D ≠ m) (hc : D ≠ c) : Dl H m c l cs n k D ys (upd H' D (.lst ys)) l' ls' n' := by
  obtain ⟨h1, h2, h3⟩ := fr_of d.dd
  refine ⟨d.mat.at h1 hc h2, d.le, ⟨fun b o e => ?_, fun b hb => ?_⟩, fr_some upd_same h1 h2⟩
  rotate_left
  · refine d.sm.2 b ?_
    by_cases z : b = D
    · rw [z, upd_same] at hb
      cases hb
    · rw [upd_ne z] at hb
      exact hb
  have nb : b ≠ D := fun z => by
    have y := (fr_of e).2.2
    rw [z, hD] at y
    cases y
  obtain ⟨g1, g2, g3⟩ := fr_of (d.sm.1 _ _ e)
  exact fr_some (by rw [upd_ne nb]; exact g3) g1 g2
theorem dn_pos : ∀ j, 0 ≤ dn j
  | 0 => by decide
  | j + 1 => by
    have := dn_pos j
    show 0 ≤ 10 + 3 * (4 + dn j)
    omega
def leftOf (σ : L2.St) : Nat := match σ[5]? with | some (some (V.int n)) => n.toNat | _ => 0
mutual
def tupO : PyData → Bool
  | .str _ => true
  | .tuple ds => tupA ds
  | _ => false
def tupA : List PyData → Bool
  | [] => true
  | d :: ds => tupO d && tupA ds
end
mutual
theorem _root_.DQ.Dq.tups {H H' : Hp} (s : ∀ b xs, H b = some (.tup xs) → H' b = some (.tup xs)) : ∀ {v : V} {d : PyData}, Dq H v d → tupO d = true → Dq H' v d
  | _, _, .non, h => by cases h
  | _, _, .bl b, h => by cases h
  | _, _, .int i, h => by cases h
  | _, _, .str x hx, _ => .str x hx
  | _, _, .lst _ _, h => by cases h
  | _, _, .tup e a, h => .tup (s _ _ e) (a.tups s (by simpa [tupO] using h))
  | _, _, .dic _, h => by cases h
theorem _root_.DQ.DqAll.tups {H H' : Hp} (s : ∀ b xs, H b = some (.tup xs) → H' b = some (.tup xs)) : ∀ {vs : List V} {ds : List PyData}, DqAll H vs ds → tupA ds = true → DqAll H' vs ds
  | _, _, .nil, _ => .nil
  | _, _, .cons a b, h => by
    have h' := Bool.and_eq_true_iff.mp (by simpa [tupA] using h)
    exact .cons (a.tups s h'.1) (b.tups s h'.2)
end
theorem tupA_iff : ∀ {ds : List PyData}, tupA ds = true ↔ ∀ d ∈ ds, tupO d = true
  | [] => by simp [tupA]
  | d :: ds => by
    simp only [tupA, Bool.and_eq_true, List.mem_cons, tupA_iff (ds := ds)]
    constructor
    · rintro ⟨h1, h2⟩ y (rfl | hy)
      · exact h1
      · exact h2 y hy
    · intro h
      exact ⟨h d (.inl rfl), fun y hy => h y (.inr hy)⟩
theorem tup_strs (ms : List Str) : tupA (ms.map PyData.str) = true := tupA_iff.mpr fun d hd => by
  obtain ⟨x, _, rfl⟩ := List.mem_map.mp hd
  rfl
mutual
theorem Tc.tup : ∀ {k n c : Nat} {d : PyData}, Tc k n c d → tupO d = true
  | _, _, _, _, .mk _ _ hr hb _ _ => by
    have z := hb.tup
    rcases hr with ⟨rfl, _⟩ | ⟨rfl, _⟩
    · simp only [tupO, tupA, tup_strs, z, Bool.and_self]
    · simp only [tupO, tupA, tup_strs, z, Bool.and_self]
theorem TcB.tup : ∀ {k n c : Nat} {bs : List PyData}, TcB k n c bs → tupA bs = true
  | _, _, _, _, .nil => rfl
  | _, _, _, _, .cons _ ht hb _ _ => by simp only [tupO, tupA, ht.tup, hb.tup, Bool.and_self]
end
theorem abc_at (y : V) (i : Nat) (h : [V.str "a", V.str "b", V.str "c"][i]? = some y) : ∃ x, y = V.str x ∧ abc3[i]? = some x := by
  have z : (abc3.map V.str)[i]? = some y := h
  rw [List.getElem?_map] at z
  obtain ⟨x, hx, e⟩ := Option.map_eq_some_iff.mp z
  exact ⟨x, e.symm, hx⟩
theorem dq_marks {H : Hp} {ms : List Str} (h : ms.Sublist abc3) : DqAll H (ms.map V.str) (ms.map PyData.str) :=
  DqAll.strs ms fun x hx => ⟨by rw [(sub_sm h x hx).2]; decide, (sub_sm h x hx).1⟩
section
variable {P : Program} {w : World} {K : PySem.W.Frag} {mg : Str → Option Value} {base : Heap}
theorem scTe : FnScope ["m", "size", "deep", "marks", "one", "left", "branches", "part", "below"] ["m", "size", "deep"] (defScope sTree) := ⟨rfl, rfl, rfl, by decide +kernel, rfl, by decide +kernel, by decide +kernel⟩
theorem ok_tree {f fN : Addr} {fd dN : FuncData} (F : Fun K "_law_tree" "_law_tree" sTree f fd) (bF : Binds K fd ["m", "size", "deep"] []) (gF : mg "_law_tree" = some (.ref f)) (FN : Fun K "_law_next" "_law_next" sNext fN dN) (bN : Binds K dN ["m", "many"] []) (gN : mg "_law_next" = some (.ref fN)) (T : TxtB mg) (tT : mg "tuple" = none) :
    ∀ k, k ≤ 4 → FnOk P w K mg base CX0 (3 + k) f fd ["m", "size", "deep"] (spTr k) := by
  have GN : FnOk P w K mg base CX0 1 fN dN ["m", "many"] spNx := (ok_next FN T).imp fun _ _ _ _ => nx_of
  have bi : bootBuiltins ("int" : Str) = some (.type "int") := by decide +kernel
  intro k
  induction k with
  | zero =>
    intro _
    refine F.ok (k := 2) scTe (fun vs H Q E h => ?_) (fun cdv A outer s H vs Q E hr h => ?_)
    · obtain ⟨m, c, l, cs, ls, n, size, rfl, _⟩ := h
      rfl
    · obtain ⟨m, c, l, cs, ls, n, size, rfl, M, hn, sz1, sz9, kk⟩ := h
      refine ⟨_, pss_cons (ps_set (i := 3) scTe.nd rfl (Or.inl rfl) (pe_callTy call_tuple_of (by rfl) tT btup (pa_cons (pe_lc (own := [("one", 4)]) (g := gName 4) rfl scTe.nd (pi_tup (pe_tup (pa_cons pe_str (pa_cons pe_str (pa_cons pe_str pa_nil))))) (blkOk_by (own := [("one", 4)]) (N := ["m", "size", "deep", "marks", "one", "left", "branches", "part", "below"]) (sc := defScope sTree) (by decide +kernel))
          (fun _ _ _ _ _ => pg_name (i := 4) scTe.nd rfl (Or.inl rfl)) (fun _ _ _ _ _ => pts_one (pt_cmpR op_eq (pe_call GN (hr.mono (by omega)) (by rfl) gN FN.kp bN .nil pass0 (pa_cons (pv 0) (pa_cons pe_int pa_nil))) pe_int (by rfl))) (fun _ _ _ _ _ => pv 4)) pa_nil)))
        (pss_cons (ps_par rfl scTe.nd (i := 5) (j := 6) rfl rfl (by decide) rfl rfl (pa_cons (pe_op op_sub (pv 1) pe_int) (pa_cons (pe_lst pa_nil) pa_nil)) rfl)
        (pss_cons (ps_while PassesOwn.never (PW.pt (pw_and (pt_cmpR op_gt (pv 5) pe_int (by rfl)) (pw_and (pt_cmpR op_gt (pv 2) pe_int (by rfl)) (pw_and (pt_cmpR op_lt (pe_callB call_len_seq (by rfl) T.len PySem.boot_len (pa_cons (pv 6) pa_nil)) pe_int (by rfl))
            (pw_and1 (pt_cmpR op_gt (pe_call GN (hr.mono (by omega)) (by rfl) gN FN.kp bN .nil pass0 (pa_cons (pv 0) (pa_cons pe_int pa_nil))) pe_int (by rfl)))))))
          (pss_cons ps_never (pss_cons ps_never (pss_cons ps_never (pss_one ps_never)))))
        (pss_one (ps_ret (pe_tup (pa_cons (pv 3) (pa_cons (pe_callTy call_tuple_of (by rfl) tT btup (pa_cons (pv 6) pa_nil)) pa_nil))))))), ?_⟩
      refine ⟨by show 3 ≤ sizeLine; decide, fun p0 np0 => ⟨p0, rfl, ⟨_, SqT.of upd_same⟩, fun D nD => ?_⟩⟩
      have G0 : Gw m c l cs ls n H H := ⟨M, .refl⟩
      obtain ⟨G1, t1, e1⟩ := G0.new (o := .tup [.str "a", .str "b", .str "c"]) np0
      obtain ⟨G2, t2, e2⟩ := G1.new (o := .lst []) nD
      have hD0 : H D = none := same_out (same_new (o := .tup [.str "a", .str "b", .str "c"]) np0) nD
      have Dm : D ≠ m := (ne_of_none M.hm hD0).symm
      have Dc : D ≠ c := (ne_of_none M.hc hD0).symm
      have sm1 : ∀ y (i : Nat), [V.str "a", V.str "b", V.str "c"][i]? = some y → ∃ x, y = V.str x ∧ abc3[i]? = some x := abc_at
      refine lc_it (walk_tup (xs := [.str "a", .str "b", .str "c"])) (fun i H' => ∃ (l' : Addr) (ls' : List Int) (n' : Int) (ys : List Str), Dl H m c l cs n i D (ys.map V.str) H' l' ls' n' ∧ fr H' m l' p0 = some (.tup [.str "a", .str "b", .str "c"]) ∧ ys.Sublist (abc3.take i))
        ⟨l, ls, n, [], ⟨G2.mat, by omega, G2.sm, e2⟩, t2 _ _ e1, List.nil_sublist _⟩ (fun i H' _ ⟨_, _, _, _, _, e, _⟩ => SqT.of (fr_of e).2.2) ?_ ?_
      · rintro i y H5 H6 hi ⟨l', ls', n', ys, d, e, hy⟩ ⟨rfl, hx⟩
        have i3 : i < 3 := hi
        have dk : (10 : Int) ≤ dn 0 := Int.le_refl _
        refine ⟨rfl, _, rfl, m, c, l', 5, cs, ls', n', rfl, d.mat, by decide, by decide, by have := d.le; omega, fun r H7 l7 ls7 n7 r0 r1 M7 nn s7 => ⟨rfl, _, rfl, ?_⟩⟩
        have d7 : Dl H m c l cs n ((i + 1 : Nat) : Int) D (ys.map V.str) H7 l7 ls7 n7 := d.next M7 nn s7 (by omega)
        obtain ⟨x, rfl, hsx⟩ := sm1 y i hx
        have tk : abc3.take (i + 1) = abc3.take i ++ [x] := by rw [List.take_add_one, hsx]; rfl
        have ly : ys.length ≤ 3 := (hy.trans (List.take_sublist _ _)).length_le
        refine ite2 (fun _ => ?_) (fun _ => ?_)
        · have ld : ((ys.map V.str)).length < sizeLine := small1000 (by rw [List.length_map]; omega)
          refine ⟨_, rfl, _, (fr_of d7.dd).2.2, ld, l7, ls7, n7, ys ++ [x], ?_, ?_, ?_⟩
          · have z := d7.put (ys := (ys ++ [x]).map V.str) hD0 Dm Dc
            rw [List.map_append] at z ⊢
            exact z
          · obtain ⟨g1, g2, g3⟩ := fr_of (s7.1 _ _ e)
            have pD : p0 ≠ D := ne_of_none (upd_same (H := H) (a := p0) (o := .tup [.str "a", .str "b", .str "c"])) nD
            exact fr_some (by rw [upd_ne pD]; exact g3) g1 g2
          · rw [tk]
            exact hy.append (List.Sublist.refl _)
        · exact ⟨l7, ls7, n7, ys, d7, s7.1 _ _ e, by rw [tk]; exact hy.trans (List.sublist_append_left _ _)⟩
      rintro H5 ⟨l5, ls5, n5, ms, d5, e5, hms0⟩
      have hms : ms.Sublist abc3 := hms0
      refine ⟨D, _, rfl, .inl ⟨SqL.of (fr_of d5.dd).2.2, fun p1 np1 => ?_⟩⟩
      refine ⟨_, rfl, _, _, rfl, rfl, Nat.zero_le _, fun br nbr => ⟨_, _, rfl, ?_⟩⟩
      have G5 : Gw m c l5 cs ls5 n5 H5 H5 := ⟨d5.mat, .refl⟩
      obtain ⟨G6, t6, e6⟩ := G5.new (o := .tup (ms.map V.str)) np1
      obtain ⟨G7, t7, e7⟩ := G6.new (o := .lst []) nbr
      have hb0 : H br = none := d5.sm.2 _ (G6.sm.2 _ nbr)
      refine while_by (fun σ' H' => σ' = [some (V.ref m), some (V.int size), some (V.int ((0 : Nat) : Int)), some (V.ref p1), none, some (V.int (size - 1)), some (V.ref br), none, none] ∧ H' = upd (upd H5 p1 (.tup (ms.map V.str))) br (.lst [])) (fun _ _ => 0) ⟨rfl, rfl⟩ ?_ ?_
      · rintro σ' H' ⟨rfl, rfl⟩
        have fin : ∀ p2 p3, upd (upd H5 p1 (.tup (ms.map V.str))) br (.lst []) p2 = none → upd (upd (upd H5 p1 (.tup (ms.map V.str))) br (.lst [])) p2 (.tup []) p3 = none → Q (.ref p3) (upd (upd (upd (upd H5 p1 (.tup (ms.map V.str))) br (.lst [])) p2 (.tup [])) p3 (.tup [.ref p1, .ref p2])) := fun p2 p3 np2 np3 => by
          obtain ⟨GA, tA, eA⟩ := G7.new (o := .tup []) np2
          obtain ⟨GB, tB, eB⟩ := GA.new (o := .tup [.ref p1, .ref p2]) np3
          have h5 : n5 ≤ n + 3 := d5.le
          refine kk (.ref p3) _ _ _ _ _ _ GB.mat (by show n5 ≤ n + 10; omega) (d5.sm.trans GB.sm) (.tup eB (.cons (.tup (tB _ _ (tA _ _ (t7 _ _ e6))) (dq_marks hms)) (.cons (.tup (tB _ _ eA) .nil) .nil))) (.mk hms (Nat.zero_le _) (.inl ⟨rfl, rfl⟩) .nil rfl rfl) (by omega)
        refine ⟨_, rfl, _, _, rfl, rfl, _, rfl, ?_⟩
        refine ite2 (fun _ => ?_) (fun _ => ?_)
        · refine ⟨_, rfl, _, _, rfl, rfl, _, rfl, ?_⟩
          refine iteF (iteF ?_)
          exact ⟨_, rfl, _, rfl, br, _, rfl, .inl ⟨SqL.of (fr_of e7).2.2, fun p2 np2 => ⟨by show 2 ≤ sizeLine; decide, fun p3 np3 => fin p2 p3 np2 np3⟩⟩⟩
        · exact iteF ⟨_, rfl, _, rfl, br, _, rfl, .inl ⟨SqL.of (fr_of e7).2.2, fun p2 np2 => ⟨by show 2 ≤ sizeLine; decide, fun p3 np3 => fin p2 p3 np2 np3⟩⟩⟩
      · intro σ' H' Q1 Q2 hq h
        obtain ⟨v, e1, i, j, e2, e3, b, e4, h⟩ := h
        refine ⟨v, e1, i, j, e2, e3, b, e4, ?_⟩
        cases b with
        | false => exact hq _ _ h
        | true =>
        obtain ⟨v, e1, i, j, e2, e3, b, e4, h⟩ := h
        refine ⟨v, e1, i, j, e2, e3, b, e4, ?_⟩
        cases b with
        | false => exact hq _ _ h
        | true =>
        obtain ⟨v, e1, p, ys, e2, sq, i, j, e3, e4, b, e5, h⟩ := h
        refine ⟨v, e1, p, ys, e2, sq, i, j, e3, e4, b, e5, ?_⟩
        cases b with
        | false => exact hq _ _ h
        | true =>
        obtain ⟨v, e1, m, c, l, many, cs, ls, n, e2, M, h1, h2, h3, kk⟩ := h
        refine ⟨v, e1, m, c, l, many, cs, ls, n, e2, M, h1, h2, h3, fun r H' l' ls' n' r0 r1 M' nn s => ?_⟩
        obtain ⟨i, j, f1, f2, b, f3, q⟩ := kk r H' l' ls' n' r0 r1 M' nn s
        exact ⟨i, j, f1, f2, b, f3, hq _ _ q⟩
  | succ k ih =>
    intro hk
    have GS : FnOk P w K mg base CX0 (3 + k) f fd ["m", "size", "deep"] (spTr k) := ih (by omega)
    refine F.ok (k := 3 + k) scTe (fun vs H Q E h => ?_) (fun cdv A outer s H vs Q E hr h => ?_)
    · obtain ⟨m, c, l, cs, ls, n, size, rfl, _⟩ := h
      rfl
    · obtain ⟨m, c, l, cs, ls, n, size, rfl, M, hn, sz1, sz9, kk⟩ := h
      refine ⟨_, pss_cons (ps_set (i := 3) scTe.nd rfl (Or.inl rfl) (pe_callTy call_tuple_of (by rfl) tT btup (pa_cons (pe_lc (own := [("one", 4)]) (g := gName 4) rfl scTe.nd (pi_tup (pe_tup (pa_cons pe_str (pa_cons pe_str (pa_cons pe_str pa_nil))))) (blkOk_by (own := [("one", 4)]) (N := ["m", "size", "deep", "marks", "one", "left", "branches", "part", "below"]) (sc := defScope sTree) (by decide +kernel))
          (fun _ _ _ _ _ => pg_name (i := 4) scTe.nd rfl (Or.inl rfl)) (fun _ _ _ _ _ => pts_one (pt_cmpR op_eq (pe_call GN (hr.mono (by omega)) (by rfl) gN FN.kp bN .nil pass0 (pa_cons (pv 0) (pa_cons pe_int pa_nil))) pe_int (by rfl))) (fun _ _ _ _ _ => pv 4)) pa_nil)))
        (pss_cons (ps_par rfl scTe.nd (i := 5) (j := 6) rfl rfl (by decide) rfl rfl (pa_cons (pe_op op_sub (pv 1) pe_int) (pa_cons (pe_lst pa_nil) pa_nil)) rfl)
        (pss_cons (ps_while PassesOwn.never (PW.pt (pw_and (pt_cmpR op_gt (pv 5) pe_int (by rfl)) (pw_and (pt_cmpR op_gt (pv 2) pe_int (by rfl)) (pw_and (pt_cmpR op_lt (pe_callB call_len_seq (by rfl) T.len PySem.boot_len (pa_cons (pv 6) pa_nil)) pe_int (by rfl))
            (pw_and1 (pt_cmpR op_gt (pe_call GN (hr.mono (by omega)) (by rfl) gN FN.kp bN .nil pass0 (pa_cons (pv 0) (pa_cons pe_int pa_nil))) pe_int (by rfl)))))))
          (pss_cons (ps_set (i := 7) scTe.nd rfl (Or.inl rfl) (pe_op op_add pe_int (pe_call GN (hr.mono (by omega)) (by rfl) gN FN.kp bN .nil pass0 (pa_cons (pv 0) (pa_cons (pv 5) pa_nil)))))
          (pss_cons (ps_set (i := 8) scTe.nd rfl (Or.inl rfl) (pe_call GS hr (by rfl) gF F.kp bF .nil pass0 (pa_cons (pv 0) (pa_cons (pv 7) (pa_cons (pe_op op_sub (pv 2) pe_int) pa_nil)))))
          (pss_cons (ps_expr (pe_bm PySem.F.plainAttrs_list PySem.F.slot_list_append PySem.F.type_list_append mt_append (pv 6) (pa_cons (pe_tup (pa_cons (pe_ix ix_list (pe_lst (pa_cons pe_str (pa_cons pe_str pa_nil))) (pe_callTy call_int1 (by rfl) T.int bi (pa_cons (pe_cmpR op_eq (pe_call GN (hr.mono (by omega)) (by rfl) gN FN.kp bN .nil pass0 (pa_cons (pv 0) (pa_cons pe_int pa_nil))) pe_int (by rfl)) pa_nil)) (fun _ _ => rfl))
              (pa_cons (pv 8) pa_nil))) pa_nil)))
          (pss_one (ps_set (i := 5) scTe.nd rfl (Or.inl rfl) (pe_op op_sub (pv 5) (pv 7))))))))
        (pss_one (ps_ret (pe_tup (pa_cons (pv 3) (pa_cons (pe_callTy call_tuple_of (by rfl) tT btup (pa_cons (pv 6) pa_nil)) pa_nil))))))), ?_⟩
      refine ⟨by show 3 ≤ sizeLine; decide, fun p0 np0 => ⟨p0, rfl, ⟨_, SqT.of upd_same⟩, fun D nD => ?_⟩⟩
      have G0 : Gw m c l cs ls n H H := ⟨M, .refl⟩
      obtain ⟨G1, t1, e1⟩ := G0.new (o := .tup [.str "a", .str "b", .str "c"]) np0
      obtain ⟨G2, t2, e2⟩ := G1.new (o := .lst []) nD
      have hD0 : H D = none := same_out (same_new (o := .tup [.str "a", .str "b", .str "c"]) np0) nD
      have Dm : D ≠ m := (ne_of_none M.hm hD0).symm
      have Dc : D ≠ c := (ne_of_none M.hc hD0).symm
      have sm1 : ∀ y (i : Nat), [V.str "a", V.str "b", V.str "c"][i]? = some y → ∃ x, y = V.str x ∧ abc3[i]? = some x := abc_at
      refine lc_it (walk_tup (xs := [.str "a", .str "b", .str "c"])) (fun i H' => ∃ (l' : Addr) (ls' : List Int) (n' : Int) (ys : List Str), Dl H m c l cs n i D (ys.map V.str) H' l' ls' n' ∧ fr H' m l' p0 = some (.tup [.str "a", .str "b", .str "c"]) ∧ ys.Sublist (abc3.take i))
        ⟨l, ls, n, [], ⟨G2.mat, by omega, G2.sm, e2⟩, t2 _ _ e1, List.nil_sublist _⟩ (fun i H' _ ⟨_, _, _, _, _, e, _⟩ => SqT.of (fr_of e).2.2) ?_ ?_
      · rintro i y H5 H6 hi ⟨l', ls', n', ys, d, e, hy⟩ ⟨rfl, hx⟩
        have i3 : i < 3 := hi
        have dk : (10 : Int) ≤ dn (k + 1) := by
          have : ∀ j, 0 ≤ dn j := fun j => by induction j with | zero => decide | succ j ih => show 0 ≤ 10 + 3 * (4 + dn j); omega
          have := this k
          show 10 ≤ 10 + 3 * (4 + dn k)
          omega
        refine ⟨rfl, _, rfl, m, c, l', 5, cs, ls', n', rfl, d.mat, by decide, by decide, by have := d.le; omega, fun r H7 l7 ls7 n7 r0 r1 M7 nn s7 => ⟨rfl, _, rfl, ?_⟩⟩
        have d7 : Dl H m c l cs n ((i + 1 : Nat) : Int) D (ys.map V.str) H7 l7 ls7 n7 := d.next M7 nn s7 (by omega)
        obtain ⟨x, rfl, hsx⟩ := sm1 y i hx
        have tk : abc3.take (i + 1) = abc3.take i ++ [x] := by rw [List.take_add_one, hsx]; rfl
        have ly : ys.length ≤ 3 := (hy.trans (List.take_sublist _ _)).length_le
        refine ite2 (fun _ => ?_) (fun _ => ?_)
        · have ld : ((ys.map V.str)).length < sizeLine := small1000 (by rw [List.length_map]; omega)
          refine ⟨_, rfl, _, (fr_of d7.dd).2.2, ld, l7, ls7, n7, ys ++ [x], ?_, ?_, ?_⟩
          · have z := d7.put (ys := (ys ++ [x]).map V.str) hD0 Dm Dc
            rw [List.map_append] at z ⊢
            exact z
          · obtain ⟨g1, g2, g3⟩ := fr_of (s7.1 _ _ e)
            have pD : p0 ≠ D := ne_of_none (upd_same (H := H) (a := p0) (o := .tup [.str "a", .str "b", .str "c"])) nD
            exact fr_some (by rw [upd_ne pD]; exact g3) g1 g2
          · rw [tk]
            exact hy.append (List.Sublist.refl _)
        · exact ⟨l7, ls7, n7, ys, d7, s7.1 _ _ e, by rw [tk]; exact hy.trans (List.sublist_append_left _ _)⟩
      rintro H5 ⟨l5, ls5, n5, ms, d5, e5, hms0⟩
      have hms : ms.Sublist abc3 := hms0
      refine ⟨D, _, rfl, .inl ⟨SqL.of (fr_of d5.dd).2.2, fun p1 np1 => ?_⟩⟩
      refine ⟨_, rfl, _, _, rfl, rfl, Nat.zero_le _, fun br nbr => ⟨_, _, rfl, ?_⟩⟩
      have G5 : Gw m c l5 cs ls5 n5 H5 H5 := ⟨d5.mat, .refl⟩
      obtain ⟨G6, t6, e6⟩ := G5.new (o := .tup (ms.map V.str)) np1
      obtain ⟨G7, t7, e7⟩ := G6.new (o := .lst []) nbr
      have hb0 : H br = none := d5.sm.2 _ (G6.sm.2 _ nbr)
      have brm : br ≠ m := (ne_of_none M.hm hb0).symm
      have brc : br ≠ c := (ne_of_none M.hc hb0).symm
      have dp := dn_pos k
      refine while_by (fun σ' H' => ∃ (left : Int) (l' : Addr) (ls' : List Int) (n' : Int) (vs : List V) (bs : List PyData) (nb : Nat) (w4 w7 w8 : Option V), σ' = [some (V.ref m), some (V.int size), some (V.int ((k + 1 : Nat) : Int)), some (V.ref p1), w4, some (V.int left), some (V.ref br), w7, w8] ∧
        Dl H m c l cs n (3 + (bs.length : Int) * (4 + dn k)) br vs H' l' ls' n' ∧ fr H' m l' p1 = some (.tup (ms.map V.str)) ∧ DqAll (fr H' m l') vs bs ∧ bs.length ≤ 3 ∧ TcB (k + 1) nb 0 bs ∧ left ≤ 1000 ∧ 0 ≤ left ∧ (nb : Int) + 1 + left ≤ size) (fun σ' _ => leftOf σ')
        ⟨_, l5, ls5, n5, [], [], 0, _, _, _, rfl, ⟨G7.mat, by have h5 : n5 ≤ n + 3 := d5.le; rw [List.length_nil]; omega, d5.sm.trans G7.sm, e7⟩, t7 _ _ e6, .nil, by decide, .nil, by omega, by omega, by omega⟩ ?_ ?_
      · rintro σ' H' ⟨left, l', ls', n', vs, bs, nb, w4, w7, w8, rfl, d, eM, qd, b3, hbs, l1000, l0, lsz⟩
        have jn : (0 : Int) ≤ (bs.length : Int) * (4 + dn k) := Int.mul_nonneg (by omega) (by omega)
        have j3 : (bs.length : Int) * (4 + dn k) ≤ 3 * (4 + dn k) := Int.mul_le_mul_of_nonneg_right (by omega) (by omega)
        have hn' : n + (10 + 3 * (4 + dn k)) ≤ 1000000000 := hn
        have nle := d.le
        have vb : vs.length = bs.length := qd.len
        refine ⟨_, rfl, _, _, rfl, rfl, _, rfl, ?_⟩
        by_cases hl : ¬ 0 < left
        · rw [decide_eq_false hl]
          refine iteF ?_
          have dE : Dl H m c l cs n (4 + (bs.length : Int) * (4 + dn k)) br vs H' l' ls' n' := ⟨d.mat, by omega, d.sm, d.dd⟩
          have qE := qd
          refine ⟨_, rfl, _, rfl, br, _, rfl, .inl ⟨SqL.of (fr_of dE.dd).2.2, fun p2 np2 => ⟨by show 2 ≤ sizeLine; decide, fun p3 np3 => ?_⟩⟩⟩
          have GE : Gw m c _ cs _ _ _ _ := ⟨dE.mat, .refl⟩
          obtain ⟨GA, tA, eA⟩ := GE.new (o := .tup vs) np2
          obtain ⟨GB, tB, eB⟩ := GA.new (o := .tup [.ref p1, .ref p2]) np3
          refine kk (.ref p3) _ _ _ _ _ _ GB.mat ?_ (dE.sm.trans GB.sm) (.tup eB (.cons (.tup (tB _ _ (tA _ _ eM)) (dq_marks hms)) (.cons (.tup (tB _ _ eA) ((qE.same tA).same tB)) .nil))) (.mk hms b3 (.inl ⟨rfl, rfl⟩) hbs rfl rfl) (by omega)
          have := dE.le
          have := dn_pos k
          show _ ≤ n + (10 + 3 * (4 + dn k))
          have j3 : (bs.length : Int) * (4 + dn k) ≤ 3 * (4 + dn k) := Int.mul_le_mul_of_nonneg_right (by omega) (by omega)
          omega
        have hl' := Classical.not_not.mp hl
        rw [decide_eq_true hl']
        refine iteT ⟨_, rfl, _, _, rfl, rfl, _, rfl, ?_⟩
        rw [decide_eq_true (show (0 : Int) < ((k + 1 : Nat) : Int) by omega)]
        refine iteT ⟨_, rfl, br, _, rfl, .inl (SqL.of (fr_of d.dd).2.2), _, _, rfl, rfl, _, rfl, ?_⟩
        by_cases hb3 : ¬ (vs.length : Int) < 3
        · rw [decide_eq_false hb3]
          refine iteF ?_
          have dE : Dl H m c l cs n (4 + (bs.length : Int) * (4 + dn k)) br vs H' l' ls' n' := ⟨d.mat, by omega, d.sm, d.dd⟩
          have qE := qd
          refine ⟨_, rfl, _, rfl, br, _, rfl, .inl ⟨SqL.of (fr_of dE.dd).2.2, fun p2 np2 => ⟨by show 2 ≤ sizeLine; decide, fun p3 np3 => ?_⟩⟩⟩
          have GE : Gw m c _ cs _ _ _ _ := ⟨dE.mat, .refl⟩
          obtain ⟨GA, tA, eA⟩ := GE.new (o := .tup vs) np2
          obtain ⟨GB, tB, eB⟩ := GA.new (o := .tup [.ref p1, .ref p2]) np3
          refine kk (.ref p3) _ _ _ _ _ _ GB.mat ?_ (dE.sm.trans GB.sm) (.tup eB (.cons (.tup (tB _ _ (tA _ _ eM)) (dq_marks hms)) (.cons (.tup (tB _ _ eA) ((qE.same tA).same tB)) .nil))) (.mk hms b3 (.inl ⟨rfl, rfl⟩) hbs rfl rfl) (by omega)
          have := dE.le
          have := dn_pos k
          show _ ≤ n + (10 + 3 * (4 + dn k))
          have j3 : (bs.length : Int) * (4 + dn k) ≤ 3 * (4 + dn k) := Int.mul_le_mul_of_nonneg_right (by omega) (by omega)
          omega
        have hb3' := Classical.not_not.mp hb3
        rw [decide_eq_true hb3']
        refine iteT ⟨_, rfl, m, c, l', 3, cs, ls', n', rfl, d.mat, by decide, by decide, by omega, fun r H6 l6 ls6 n6 r0 r1 M6 nn s6 => ⟨_, _, rfl, rfl, _, rfl, ?_⟩⟩
        have d6 : Dl H m c l cs n (4 + (bs.length : Int) * (4 + dn k)) br vs H6 l6 ls6 n6 := d.next M6 nn s6 (by omega)
        have eM6 := s6.1 _ _ eM
        have qd6 := qd.same s6.1
        by_cases hr0 : ¬ 0 < r
        · rw [decide_eq_false hr0]
          refine iteF ?_
          have dE := d6
          have qE := qd6
          have eM := eM6
          refine ⟨_, rfl, _, rfl, br, _, rfl, .inl ⟨SqL.of (fr_of dE.dd).2.2, fun p2 np2 => ⟨by show 2 ≤ sizeLine; decide, fun p3 np3 => ?_⟩⟩⟩
          have GE : Gw m c _ cs _ _ _ _ := ⟨dE.mat, .refl⟩
          obtain ⟨GA, tA, eA⟩ := GE.new (o := .tup vs) np2
          obtain ⟨GB, tB, eB⟩ := GA.new (o := .tup [.ref p1, .ref p2]) np3
          refine kk (.ref p3) _ _ _ _ _ _ GB.mat ?_ (dE.sm.trans GB.sm) (.tup eB (.cons (.tup (tB _ _ (tA _ _ eM)) (dq_marks hms)) (.cons (.tup (tB _ _ eA) ((qE.same tA).same tB)) .nil))) (.mk hms b3 (.inl ⟨rfl, rfl⟩) hbs rfl rfl) (by omega)
          have := dE.le
          have := dn_pos k
          show _ ≤ n + (10 + 3 * (4 + dn k))
          have j3 : (bs.length : Int) * (4 + dn k) ≤ 3 * (4 + dn k) := Int.mul_le_mul_of_nonneg_right (by omega) (by omega)
          omega
        rw [decide_eq_true (Classical.not_not.mp hr0)]
        have eK : ((bs.length : Int) + 1) * (4 + dn k) = (bs.length : Int) * (4 + dn k) + (4 + dn k) := by rw [Int.add_mul, Int.one_mul]
        have nle6 := d6.le
        have j2 : (bs.length : Int) * (4 + dn k) ≤ 2 * (4 + dn k) := Int.mul_le_mul_of_nonneg_right (by omega) (by omega)
        refine iteT ⟨_, rfl, _, rfl, m, c, l6, left, cs, ls6, n6, rfl, M6, hl', by omega, by omega, fun r7 H7 l7 ls7 n7 r70 r71 M7 nn7 s7 => ⟨_, _, rfl, rfl, ?_⟩⟩
        have d7 : Dl H m c l cs n (5 + (bs.length : Int) * (4 + dn k)) br vs H7 l7 ls7 n7 := d6.next M7 nn7 s7 (by omega)
        have nle7 := d7.le
        refine ⟨_, rfl, _, rfl, _, rfl, _, _, rfl, rfl, m, c, l7, cs, ls7, n7, 1 + r7, ?_, M7, by omega, by omega, by omega, fun r8 d8 qn8 H8 l8 ls8 n8 M8 nn8 s8 q8 t8 hq8 => ?_⟩
        · show [V.ref m, V.int (1 + r7), V.int (((k + 1 : Nat) : Int) - 1)] = _
          rw [show ((k + 1 : Nat) : Int) - 1 = (k : Int) by omega]
        have e8 : Dl H m c l cs n (5 + dn k + (bs.length : Int) * (4 + dn k)) br vs H8 l8 ls8 n8 := d7.next M8 nn8 s8 (by omega)
        have nle8 := e8.le
        have eM8 := s8.1 _ _ (s7.1 _ _ eM6)
        have qd8 := (qd6.same s7.1).same s8.1
        refine ⟨_, rfl, .inl ⟨rfl, _, SqL.of (fr_of e8.dd).2.2⟩, by show 2 ≤ sizeLine; decide, fun pl npl => ?_⟩
        have G8 : Gw m c l8 cs ls8 n8 H8 H8 := ⟨M8, .refl⟩
        obtain ⟨G9, t9, e9⟩ := G8.new (o := .lst [.str "e", .str "f"]) npl
        refine ⟨_, rfl, m, c, l8, 4, cs, ls8, n8, rfl, G9.mat, by decide, by decide, by omega, fun r9 H9 l9 ls9 n9 r90 r91 M9 nn9 s9 => ⟨rfl, .inr ⟨_, rfl, ?_⟩⟩⟩
        have d9 : Dl H m c l cs n (6 + dn k + (bs.length : Int) * (4 + dn k)) br vs H9 l9 ls9 n9 := e8.next M9 nn9 (G9.sm.trans s9) (by omega)
        have hx : ∃ u : Str, atI [V.str "e", V.str "f"] (if decide (V.int r9 = V.int 0) = true then 1 else 0) = some (V.str u) ∧ efS u := by
          cases decide (V.int r9 = V.int 0) with
          | true => exact ⟨"f", atI_nat (j := 1) rfl, .inr rfl⟩
          | false => exact ⟨"e", atI_nat (j := 0) rfl, .inl rfl⟩
        obtain ⟨u, hu, hfu⟩ := hx
        have hsu := ef_sm hfu
        have sA : Same (fr H8 m l8) (fr H9 m l9) := same_trans t9 s9.1
        refine ⟨pl, _, _, .str u, rfl, rfl, SqL.of (fr_of (s9.1 _ _ e9)).2.2, hu, _, rfl, by show 2 ≤ sizeLine; decide, fun pt npt => ?_⟩
        have GA : Gw m c l9 cs ls9 n9 H9 H9 := ⟨M9, .refl⟩
        obtain ⟨GB, tB, eB⟩ := GA.new (o := .tup [.str u, r8]) npt
        have dA : Dl H m c l cs n (6 + dn k + (bs.length : Int) * (4 + dn k)) br vs (upd H9 pt (.tup [.str u, r8])) l9 ls9 n9 := d9.next GB.mat (j := 0) (by omega) GB.sm (by omega)
        refine ⟨br, _, .ref pt, rfl, rfl, (fr_of dA.dd).2.2, small1000 (by omega), ?_⟩
        have dB := dA.put (ys := vs ++ [.ref pt]) hb0 brm brc
        have tA9 : TcB (k + 1) (nb + qn8) 0 (bs ++ [.tuple [.str u, d8]]) := hbs.app (.cons hfu t8 .nil rfl rfl)
        have kt : ∀ b xs, fr (upd H9 pt (.tup [.str u, r8])) m l9 b = some (.tup xs) → fr (upd (upd H9 pt (.tup [.str u, r8])) br (.lst (vs ++ [.ref pt]))) m l9 b = some (.tup xs) := fun b xs z => by
          obtain ⟨h1, h2, h3⟩ := fr_of z
          refine fr_some ?_ h1 h2
          rw [upd_ne fun y => by rw [y, dA.dd] at z; cases z]
          exact h3
        refine ⟨_, rfl, _, rfl, _, _, rfl, rfl, ⟨_, l9, ls9, n9, vs ++ [.ref pt], bs ++ [.tuple [.str u, d8]], nb + qn8, _, _, _, rfl, ⟨dB.mat, ?_, dB.sm, dB.dd⟩, kt _ _ (tB _ _ (sA _ _ eM8)), ?_, ?_, tA9, ?_, ?_, ?_⟩, ?_⟩
        · have := dB.le
          rw [List.length_append, List.length_singleton]
          have ec : (((bs.length + 1 : Nat) : Int)) * (4 + dn k) = ((bs.length : Int) + 1) * (4 + dn k) := by rw [Int.natCast_add]; rfl
          rw [ec, eK]
          omega
        · have qAll : DqAll (fr (upd H9 pt (.tup [.str u, r8])) m l9) (vs ++ [.ref pt]) (bs ++ [.tuple [.str u, d8]]) :=
            ((qd8.same sA).same tB).app (.cons (.tup eB (.cons (.str u ⟨by rw [hsu.2]; decide, hsu.1⟩) (.cons ((q8.same sA).same tB) .nil))) .nil)
          exact qAll.tups kt tA9.tup
        · rw [List.length_append, List.length_singleton]
          omega
        · omega
        · omega
        · omega
        · show (left - (1 + r7)).toNat < left.toNat
          omega
      · intro σ' H' Q1 Q2 hq h
        obtain ⟨v, e1, i, j, e2, e3, b, e4, h⟩ := h
        refine ⟨v, e1, i, j, e2, e3, b, e4, ?_⟩
        cases b with
        | false => exact hq _ _ h
        | true =>
        obtain ⟨v, e1, i, j, e2, e3, b, e4, h⟩ := h
        refine ⟨v, e1, i, j, e2, e3, b, e4, ?_⟩
        cases b with
        | false => exact hq _ _ h
        | true =>
        obtain ⟨v, e1, p, ys, e2, sq, i, j, e3, e4, b, e5, h⟩ := h
        refine ⟨v, e1, p, ys, e2, sq, i, j, e3, e4, b, e5, ?_⟩
        cases b with
        | false => exact hq _ _ h
        | true =>
        obtain ⟨v, e1, m, c, l, many, cs, ls, n, e2, M, h1, h2, h3, kk⟩ := h
        refine ⟨v, e1, m, c, l, many, cs, ls, n, e2, M, h1, h2, h3, fun r H' l' ls' n' r0 r1 M' nn s => ?_⟩
        obtain ⟨i, j, f1, f2, b, f3, q⟩ := kk r H' l' ls' n' r0 r1 M' nn s
        exact ⟨i, j, f1, f2, b, f3, hq _ _ q⟩
end
end K01
set_option Elab.async false
set_option linter.all false
set_option maxRecDepth 100000
set_option maxHeartbeats 4000000
/-! t[::-1] of a tuple -/
namespace RT
open PySem PySem.Spec PyProof.Rows L2 HT
section
variable {prog : Program} {w : World} {A : Around} {E : Value → Shared → Prop} {s : Shared}
theorem applied_rev {sl : Addr} {u : Tok} {n : Nat} {Q : Int × Int × Nat → Shared → Prop} (hs : s.heap.IsSliceOf sl .none .none (.int (-1) u)) (h : Q ((n : Int) - 1, -1, n) s) :
    wpAny (model prog w) A (Builtin.Slice.sliceApplied (.ref sl) (pure (n : Int))) Q E s := by
  obtain ⟨os, hos, hcs, hds⟩ := id hs
  unfold Builtin.Slice.sliceApplied Builtin.Slice.sliceFields
  refine wpAny_bind (wpAny_bind (wpAny_field hos hds (x := .none) rfl (wpAny_bind (wpAny_field hos hds (x := .none) rfl (wpAny_bind (wpAny_field hos hds (x := .int (-1) u) rfl (wpAny_pure ?_)))))))
  refine wpAny_bind (slicePart_int ?_)
  show wpAny _ _ (if ((-1 : Int) == 0) = true then _ else _) _ _ s
  rw [if_neg (by decide)]
  refine wpAny_bind (slicePart_none (wpAny_bind (slicePart_none (wpAny_bind (wpAny_pure ?_)))))
  have e : Builtin.Slice.sliceAdjust none none (-1) (n : Int) = ((n : Int) - 1, -1) := by
    unfold Builtin.Slice.sliceAdjust
    simp
  show wpAny _ _ (match Builtin.Slice.sliceAdjust none none (-1) (n : Int) with | (lo, hi) => pure (lo, (-1 : Int), Builtin.Slice.slicePlaces lo hi (-1))) _ _ s
  rw [e]
  show wpAny _ _ (pure ((n : Int) - 1, (-1 : Int), Builtin.Slice.slicePlaces ((n : Int) - 1) (-1) (-1))) _ _ s
  have p : Builtin.Slice.slicePlaces ((n : Int) - 1) (-1) (-1) = n := by
    unfold Builtin.Slice.slicePlaces
    simp
    omega
  rw [p]
  exact wpAny_pure h
theorem fm_congr {α β : Type} {f g : α → Option β} : ∀ {l : List α}, (∀ x ∈ l, f x = g x) → l.filterMap f = l.filterMap g
  | [], _ => rfl
  | x :: l, h => by
    rw [List.filterMap_cons, List.filterMap_cons, h x (List.mem_cons_self ..), fm_congr fun y hy => h y (List.mem_cons_of_mem _ hy)]
theorem pick_rev (xs : Array Value) : ((List.range xs.size).filterMap fun (m : Nat) => xs[((xs.size : Int) - 1 + (m : Int) * -1).toNat]?).toArray = xs.toList.reverse.toArray := by
  congr 1
  have z := pick_run xs.toList.reverse.toArray 0 xs.size
  rw [List.filterMap_map] at z
  rw [List.drop_zero, List.take_of_length_le (by simp)] at z
  refine Eq.trans (fm_congr fun m hm => ?_) z
  have hm' : m < xs.size := List.mem_range.mp hm
  have e : ((xs.size : Int) - 1 + (m : Int) * -1).toNat = xs.size - 1 - m := by omega
  rw [e]
  show _ = (xs.toList.reverse.toArray)[0 + m]?
  have e2 : (xs.toList.reverse.toArray)[m]? = xs.toList.reverse[m]? := by
    rw [← Array.getElem?_toList]
  rw [Nat.zero_add, e2, List.getElem?_reverse (by simpa using hm'), Array.length_toList, Array.getElem?_toList]
theorem getItem_rev {t sl : Addr} {items : Array Value} {u : Tok} {Q : Value → Shared → Prop} (ht : IsTup s.heap t items) (hs : s.heap.IsSliceOf sl .none .none (.int (-1) u)) (hsz : items.size ≤ sizeLine)
    (h : Q (.ref s.heap.objs.size) { s with heap := s.heap.push { cls := .type "tuple", data := .seq items.toList.reverse.toArray } }) : wpAny (model prog w) A (getItem (.ref t) (.ref sl)) Q E s := by
  obtain ⟨os, hos, hcs, hds⟩ := id hs
  have ts : s.TypeIs (.ref sl) "slice" := ⟨os, hos, hcs⟩
  unfold getItem
  try with_reducible refine wpAny_holding ?_
  first | refine wpAny_bind (wpAny_pure ?_) | skip
  refine wpAny_bind (wpAny_sequenceKey ht.typeIs (by decide) ?_)
  refine wpAny_bind (wpAny_callSpecial?_slot (name := Str.ofString "__getitem__") ht.typeIs PyProof.Rows.slot_tuple_getitem (wpAny_call_entry PyProof.Rows.slot_tuple_getitem ht.typeIs entry_tuple_getitem ?_ (args_tuple_getitem _ _)))
  show wpAny _ _ (Builtin.Tuple.tupleItemsOf (.ref t) >>= _) _ _ s
  refine wpAny_bind (tupleItemsOf_ ht (wpAny_bind (wpAny_typeOf ts ?_)))
  rw [if_pos (by decide)]
  refine wpAny_bind (applied_rev hs ?_)
  have no : ¬ ((((items.size : Int) - 1) == 0 && (-1 : Int) == 1 && items.size == items.size) = true) := by simp
  show wpAny _ _ (if (((items.size : Int) - 1) == 0 && (-1 : Int) == 1 && items.size == items.size) = true then _ else _) _ _ s
  rw [if_neg no, pick_rev]
  have ok : sizeOk (.seq items.toList.reverse.toArray) := by
    show items.toList.reverse.toArray.size ≤ sizeLine
    simpa using hsz
  first
    | exact wpAny_bind (m := Builtin.Tuple.tupleExact _) (wpAny_newObj_type (wpAny_pure ⟨_, rfl, wpAny_pure h⟩) ok)
    | exact wpAny_bind (m := Builtin.Tuple.tupleExact _) (wpAny_newObj_type (wpAny_bind (wpAny_pure (wpAny_pure ⟨_, rfl, wpAny_pure h⟩))) ok)
    | exact wpAny_bind (wpAny_bind (m := Builtin.Tuple.tupleExact _) (wpAny_newObj_type (wpAny_pure (wpAny_pure ⟨_, rfl, wpAny_pure h⟩)) ok))
    | exact wpAny_bind (wpAny_bind (m := Builtin.Tuple.tupleExact _) (wpAny_newObj_type (wpAny_pure ⟨_, rfl, wpAny_pure h⟩) ok))
end
section
variable {X : Cx}
def tRevT (te : TE) : TE := fun σ H Q => te σ H fun x H1 => ∃ a xs, x = .ref a ∧ H1 a = some (.tup xs) ∧ ∀ p, H1 p = none → Q (.ref p) (upd H1 p (.tup xs.reverse))
theorem pe_revT {e : Expr} {te : TE} {k : Nat} {p1 p2 p3 pos : Pos} (he : PE X e te) : PE X (.Subscript e (.Slice none none (some (.UnaryOp .USub (.Constant (.int 1) k p1) p2)) p3) pos) (tRevT te) := by
  refine ⟨fun pins s σ H Q I h => Subscript_ (thn (he.run pins s σ H _ I h) fun v s1 ⟨x, H1, I1, r1, a, xs, ex, hx, q⟩ => ?_)⟩
  subst ex
  cases r1
  have st : PO X (some (.UnaryOp .USub (.Constant (.int 1) k p1) p2)) (tPart (tUn (rU fun i => .int (-i)) (tC (.int 1)))) := po_some (pe_un un_neg pe_int)
  refine wpAny_Slice (thn (po_none.run pins s1 σ H1 (fun o H2 => o = none ∧ H2 = H1) I1 ⟨rfl, rfl⟩) fun vl s2 ⟨l, H2, I2, pl, el, e2⟩ => ?_)
  subst el e2
  refine thn (po_none.run pins s2 σ H2 (fun o H3 => o = none ∧ H3 = H2) I2 ⟨rfl, rfl⟩) fun vu s3 ⟨u, H3, I3, pu, eu, e3⟩ => ?_
  subst eu e3
  refine thn (st.run pins s3 σ H3 (fun o H4 => o = some (-1) ∧ H4 = H3) I3 ⟨1, rfl, -1, rfl, rfl, rfl⟩) fun vs s4 ⟨o, H4, I4, ps, eo, e4⟩ => ?_
  subst eo e4
  have I5 : Inv X pins σ H4 { s4 with heap := s4.heap.push { cls := .type "slice", data := .fields #[vl, vu, vs] } } := I4.kept (t' := s4.toks) fun b ob q => Heap.get?_push_of_some _ q
  obtain ⟨its, r, ht, hz⟩ := I5.tuple (SqT.of (K := X.K) hx)
  show wpAny (model X.prog X.w) X.A (subscriptTail e (.Slice none none (some (.UnaryOp .USub (.Constant (.int 1) k p1) p2)) p3) (.ref a) (.ref s4.heap.objs.size)) (EP X pins σ Q) X.xe { s4 with heap := s4.heap.push { cls := .type "slice", data := .fields #[vl, vu, vs] } }
  cases pl
  cases pu
  cases ps
  refine tail_any (ops := [.ref a, .ref s4.heap.objs.size]) ht.typeIs (PyProof.Rows.slot_tuple_getitem.lookup) ?_ (by with_unfolding_all rfl)
  refine getItem_rev ht (Heap.IsSliceOf.new _ _ _ _) (by rw [List.size_toArray, ← r.length]; exact hz) ?_
  refine ⟨.ref _, _, I5.laid (t' := s4.toks) (o := .tup xs.reverse) (fun b ob q => Heap.get?_push_of_some _ q) (Nat.le_refl _) ?_, rfl, q _ (I5.hok.fresh (Nat.le_refl _))⟩
  exact ⟨by rw [List.length_reverse]; exact hz, its.reverse, r.reverse, ⟨_, Heap.get?_push_size _ rfl, rfl, _, rfl⟩⟩
end
end RT
set_option Elab.async false
set_option linter.all false
set_option maxRecDepth 100000
set_option maxHeartbeats 4000000
namespace K01
open PySem L2 L2H DQ RZ
theorem Gw.grow {m c l : Addr} {cs ls : List Int} {n : Int} {H H' H'' : Hp} (G : Gw m c l cs ls n H H') (s : Same H' H'') : Gw m c l cs ls n H H'' ∧ Same (fr H' m l) (fr H'' m l) := by
  have y : Same (fr H' m l) (fr H'' m l) := fun b o e => by
    obtain ⟨h1, h2, h3⟩ := fr_of e
    exact fr_some (s _ _ h3) h1 h2
  exact ⟨⟨G.mat.same s, G.sm.trans (.new s y)⟩, y⟩
theorem Gw.tupAt {m c l p : Addr} {cs ls : List Int} {n : Int} {H H' : Hp} {xs : List V} (G : Gw m c l cs ls n H H') (e : H' p = some (.tup xs)) : fr H' m l p = some (.tup xs) :=
  fr_some e (ne_of e G.mat.hm (by intro z; cases z)) (ne_of e G.mat.hl (by intro z; cases z))
/-- what bending does to data: bounds -/
def Bnt (N n : Nat) (d d' : PyData) : Prop := gd (N + 10) d' = true ∧ sz d' ≤ 2 * sz d + 6000 ∧ d'.depth ≤ n + 3
mutual
theorem gd_mono {N M : Nat} (h : N ≤ M) : ∀ d : PyData, gd N d = true → gd M d = true
  | .none, _ => rfl
  | .bool _, _ => rfl
  | .int i, z => by
    have y : i.natAbs ≤ N := of_decide_eq_true (by simpa [gd] using z)
    simp only [gd]
    exact decide_eq_true (Nat.le_trans y h)
  | .str _, z => by simpa [gd] using z
  | .list xs, z => by
    simp only [gd] at z ⊢
    exact gdAll_mono h xs z
  | .tuple xs, z => by
    simp only [gd] at z ⊢
    exact gdAll_mono h xs z
  | .dict _, z => by simpa [gd] using z
theorem gdAll_mono {N M : Nat} (h : N ≤ M) : ∀ ds : List PyData, gdAll N ds = true → gdAll M ds = true
  | [], _ => rfl
  | d :: ds, z => by
    have z' := Bool.and_eq_true_iff.mp (by simpa [gdAll] using z)
    simp only [gdAll, gd_mono h d z'.1, gdAll_mono h ds z'.2, Bool.and_self]
end
theorem bnt_odd {N n : Nat} (hN : 10 ^ 30 ≤ N) {d d' : PyData} (h : OddD d') : Bnt N n d d' := by
  obtain ⟨h1, h2, h3⟩ := h
  exact ⟨gd_mono (by omega) _ h1, by omega, by omega⟩
theorem szAll_len : ∀ ds : List PyData, 2 * ds.length ≤ szAll ds
  | [] => Nat.le_refl _
  | d :: ds => by
    have := szAll_len ds
    simp only [szAll, List.length_cons]
    omega
theorem szAll_split (ds : List PyData) (j : Nat) : szAll (ds.take j) + szAll (ds.drop j) = szAll ds := by
  rw [← szAll_app, List.take_append_drop]
theorem szAll_rev : ∀ ds : List PyData, szAll ds.reverse = szAll ds
  | [] => rfl
  | d :: ds => by
    rw [List.reverse_cons, szAll_app, szAll_rev ds]
    simp only [szAll]
    omega
theorem dp_all {ds : List PyData} {k : Nat} : PyData.depthAll ds ≤ k ↔ ∀ d ∈ ds, d.depth ≤ k := by
  induction ds with
  | nil => simp [PyData.depthAll]
  | cons d ds ih =>
    simp only [PyData.depthAll, List.mem_cons, forall_eq_or_imp, ← ih]
    omega
theorem drop_at {ds : List PyData} {j : Nat} {e : PyData} (h : ds[j]? = some e) : ds.drop j = e :: ds.drop (j + 1) := by
  obtain ⟨h1, h2⟩ := List.getElem?_eq_some_iff.mp h
  rw [← h2, ← List.drop_eq_getElem_cons h1]
section
variable {N n : Nat} {ds : List PyData} (hg : gdAll N ds = true) (hd : PyData.depthAll ds + 1 + 1 ≤ n)
include hg hd
theorem bnt_cut (j : Nat) : Bnt N n (.tuple ds) (.tuple (ds.take j ++ ds.drop (j + 1))) := by
  have h := gdAll_iff.mp hg
  have hk := dp_all.mp (Nat.le_refl (PyData.depthAll ds))
  have mem : ∀ x ∈ ds.take j ++ ds.drop (j + 1), x ∈ ds := fun x hx => (List.mem_append.mp hx).elim List.mem_of_mem_take List.mem_of_mem_drop
  refine ⟨?_, ?_, ?_⟩
  · simp only [gd]
    exact gdAll_iff.mpr fun x hx => gd_mono (by omega) _ (h x (mem x hx))
  · have z := szAll_split ds j
    have z2 := szAll_split (ds.drop j) 1
    rw [List.drop_drop] at z2
    simp only [sz, szAll_app]
    omega
  · have : PyData.depthAll (ds.take j ++ ds.drop (j + 1)) ≤ PyData.depthAll ds := dp_all.mpr fun x hx => hk x (mem x hx)
    simp only [PyData.depth]
    omega
theorem bnt_twice (j : Nat) : Bnt N n (.tuple ds) (.tuple (ds ++ (ds.drop j).take 1)) := by
  have h := gdAll_iff.mp hg
  have hk := dp_all.mp (Nat.le_refl (PyData.depthAll ds))
  have mem : ∀ x ∈ ds ++ (ds.drop j).take 1, x ∈ ds := fun x hx => (List.mem_append.mp hx).elim id fun y => List.mem_of_mem_drop (List.mem_of_mem_take y)
  refine ⟨?_, ?_, ?_⟩
  · simp only [gd]
    exact gdAll_iff.mpr fun x hx => gd_mono (by omega) _ (h x (mem x hx))
  · have z := szAll_split ds j
    have z2 := szAll_split (ds.drop j) 1
    simp only [sz, szAll_app]
    omega
  · have : PyData.depthAll (ds ++ (ds.drop j).take 1) ≤ PyData.depthAll ds := dp_all.mpr fun x hx => hk x (mem x hx)
    simp only [PyData.depth]
    omega
theorem bnt_list : Bnt N n (.tuple ds) (.list ds) := by
  refine ⟨?_, ?_, ?_⟩
  · simp only [gd]
    exact gdAll_mono (by omega) _ hg
  · simp only [sz]
    omega
  · simp only [PyData.depth]
    omega
theorem bnt_rev : Bnt N n (.tuple ds) (.tuple ds.reverse) := by
  have h := gdAll_iff.mp hg
  have hk := dp_all.mp (Nat.le_refl (PyData.depthAll ds))
  refine ⟨?_, ?_, ?_⟩
  · simp only [gd]
    exact gdAll_iff.mpr fun x hx => gd_mono (by omega) _ (h x (List.mem_reverse.mp hx))
  · simp only [sz, szAll_rev]
    omega
  · have : PyData.depthAll ds.reverse ≤ PyData.depthAll ds := dp_all.mpr fun x hx => hk x (List.mem_reverse.mp hx)
    simp only [PyData.depth]
    omega
theorem bnt_put (j : Nat) {o : PyData} (hN : 10 ^ 30 ≤ N) (ho : OddD o) : Bnt N n (.tuple ds) (.tuple (ds.take j ++ [o] ++ ds.drop j)) := by
  have h := gdAll_iff.mp hg
  have hk := dp_all.mp (Nat.le_refl (PyData.depthAll ds))
  obtain ⟨h1, h2, h3⟩ := ho
  have mem : ∀ x ∈ ds.take j ++ [o] ++ ds.drop j, x ∈ ds ∨ x = o := fun x hx => by
    rcases List.mem_append.mp hx with hx | hx
    · rcases List.mem_append.mp hx with hx | hx
      · exact .inl (List.mem_of_mem_take hx)
      · exact .inr (List.mem_singleton.mp hx)
    · exact .inl (List.mem_of_mem_drop hx)
  refine ⟨?_, ?_, ?_⟩
  · simp only [gd]
    refine gdAll_iff.mpr fun x hx => ?_
    rcases mem x hx with z | rfl
    · exact gd_mono (by omega) _ (h x z)
    · exact gd_mono (by omega) _ h1
  · have z := szAll_split ds j
    simp only [sz, szAll_app, szAll]
    omega
  · have : PyData.depthAll (ds.take j ++ [o] ++ ds.drop j) ≤ max (PyData.depthAll ds) 3 := dp_all.mpr fun x hx => by
      rcases mem x hx with z | rfl
      · have := hk x z
        omega
      · omega
    simp only [PyData.depth]
    omega
theorem bnt_in {j : Nat} {e o : PyData} (he : ds[j]? = some e) (ho : Bnt N (n - 1) e o) : Bnt N n (.tuple ds) (.tuple (ds.take j ++ [o] ++ ds.drop (j + 1))) := by
  have h := gdAll_iff.mp hg
  have hk := dp_all.mp (Nat.le_refl (PyData.depthAll ds))
  obtain ⟨h1, h2, h3⟩ := ho
  have mem : ∀ x ∈ ds.take j ++ [o] ++ ds.drop (j + 1), x ∈ ds ∨ x = o := fun x hx => by
    rcases List.mem_append.mp hx with hx | hx
    · rcases List.mem_append.mp hx with hx | hx
      · exact .inl (List.mem_of_mem_take hx)
      · exact .inr (List.mem_singleton.mp hx)
    · exact .inl (List.mem_of_mem_drop hx)
  refine ⟨?_, ?_, ?_⟩
  · simp only [gd]
    refine gdAll_iff.mpr fun x hx => ?_
    rcases mem x hx with z | rfl
    · exact gd_mono (by omega) _ (h x z)
    · exact h1
  · have z := szAll_split ds j
    rw [drop_at he] at z
    simp only [szAll] at z
    simp only [sz, szAll_app, szAll]
    omega
  · have : PyData.depthAll (ds.take j ++ [o] ++ ds.drop (j + 1)) ≤ n + 2 := dp_all.mpr fun x hx => by
      rcases mem x hx with z | rfl
      · have := hk x z
        omega
      · omega
    simp only [PyData.depth]
    omega
end
theorem ok_app {x y : Str} (hx : PyData.strOk x = true) (hy : PyData.strOk y = true) : PyData.strOk (x ++ y) = true := by
  have e : ((x ++ y : Str).cps) = x.cps ++ y.cps := rfl
  unfold PyData.strOk at *
  rw [e]
  simp only [Array.all_append, Bool.and_eq_true]
  exact ⟨hx, hy⟩
theorem ok_sub {x y : Str} (hx : PyData.strOk x = true) (h : ∀ c ∈ y.cps.toList, c ∈ x.cps.toList) : PyData.strOk y = true := by
  unfold PyData.strOk at *
  rw [← Array.all_toList] at hx ⊢
  exact List.all_eq_true.mpr fun c hc => List.all_eq_true.mp hx c (h c hc)
theorem ok_cut {x : Str} {lo hi : Option Int} (hx : PyData.strOk x = true) : PyData.strOk (cutS x lo hi) = true := by
  refine ok_sub hx fun c hc => ?_
  have hc' : c ∈ (x.cps.toList.drop (HT.sIx x.length 0 lo)).take (HT.sIx x.length x.length hi - HT.sIx x.length 0 lo) := hc
  exact List.mem_of_mem_drop (List.mem_of_mem_take hc')
theorem bnt_str {N n : Nat} {x y : Str} (ok : PyData.strOk y = true) (hl : y.length ≤ 2 * x.length + 10) : Bnt N n (.str x) (.str y) := by
  refine ⟨?_, ?_, Nat.zero_le _⟩
  · simpa [gd] using ok
  · simp only [sz]
    omega
theorem bnt_int {N n : Nat} {i j : Int} (h : gd N (.int i) = true) (hj : j.natAbs ≤ 10) : Bnt N n (.int i) (.int (i + j)) := by
  have y : i.natAbs ≤ N := of_decide_eq_true (by simpa [gd] using h)
  refine ⟨?_, ?_, Nat.zero_le _⟩
  · simp only [gd]
    exact decide_eq_true (by omega)
  · simp only [sz]
    omega
end K01
set_option Elab.async false
set_option linter.all false
set_option maxRecDepth 100000
set_option maxHeartbeats 4000000
namespace K01
open PySem L2 L2H DQ RZ
/-- _law_bent: data of depth below n; the same with something otherwise -/
def spBe (N n : Nat) : Sp := fun vs H Q _ => ∃ (m c l : Addr) (cs ls : List Int) (k : Int) (v : V) (d : PyData), vs = [.ref m, v] ∧ MAt H m c l cs ls k ∧ k + 10 * (n : Int) ≤ 1000000000 ∧ Dq (fr H m l) v d ∧ gd N d = true ∧ sz d ≤ 400000 ∧ d.depth + 1 ≤ n ∧
  ∀ r d' H' l' ls' k', MAt H' m c l' cs ls' k' → k' ≤ k + 10 * (n : Int) → Fs H m l H' l' → Dq (fr H' m l') r d' → Bnt N n d d' → Q r H'
section
variable {P : Program} {w : World} {K : PySem.W.Frag} {mg : Str → Option Value} {base : Heap}
theorem scBe : FnScope ["m", "thing", "at", "pick"] ["m", "thing"] (defScope sBent) := ⟨rfl, rfl, rfl, by decide +kernel, rfl, by decide +kernel, by decide +kernel⟩
theorem ok_bent {f fN fO : Addr} {fd dN dO : FuncData} (F : Fun K "_law_bent" "_law_bent" sBent f fd) (bF : Binds K fd ["m", "thing"] []) (gF : mg "_law_bent" = some (.ref f)) (FN : Fun K "_law_next" "_law_next" sNext fN dN) (bN : Binds K dN ["m", "many"] []) (gN : mg "_law_next" = some (.ref fN))
    (FO : Fun K "_law_odd" "_law_odd" sOdd fO dO) (bO : Binds K dO ["m"] []) (gO : mg "_law_odd" = some (.ref fO)) (T : TxtB mg) (TT : TP mg) (tB : mg "bool" = none) {N : Nat} (hN : 10 ^ 30 ≤ N) : ∀ n, n ≤ 40 → FnOk P w K mg base CX0 (4 + n) f fd ["m", "thing"] (spBe N n) := by
  have GN : FnOk P w K mg base CX0 1 fN dN ["m", "many"] spNx := (ok_next FN T).imp fun _ _ _ _ => nx_of
  have GO : FnOk P w K mg base CX0 3 fO dO ["m"] (spDr 1 OddD) := ok_odd FO FN bN gN T
  have bb : bootBuiltins ("bool" : Str) = some (.type "bool") := by decide +kernel
  have bi : bootBuiltins ("int" : Str) = some (.type "int") := by decide +kernel
  intro n
  induction n with
  | zero =>
    intro _
    refine ⟨fun vs H Q E h => ?_, fun A outer s H args us vs Q E hr he hb hv h => ?_⟩
    · obtain ⟨m, c, l, cs, ls, k, v, d, rfl, _⟩ := h
      rfl
    · obtain ⟨m, c, l, cs, ls, k, v, d, rfl, _, _, _, _, _, h0, _⟩ := h
      omega
  | succ n ih =>
    intro hk
    have GS : FnOk P w K mg base CX0 (4 + n) f fd ["m", "thing"] (spBe N n) := ih (by omega)
    refine F.ok (k := 4 + n) scBe (fun vs H Q E h => ?_) (fun cdv A outer s H vs Q E hr h => ?_)
    · obtain ⟨m, c, l, cs, ls, k, v, d, rfl, _⟩ := h
      rfl
    · have hu1 : (A.deeper (PyProof.Rows.envOfC "_law_bent" (defScope sBent) s.heap.objs.size f cdv)).units < cLine := by have := hr.un; omega
      refine ⟨_, pss_cons (ps_if (PW.pt (pw_and (pt_val (pe_callB call_isi (by rfl) TT.isi bisi (pa_cons (pv 1) (pa_cons (pe_bltn (v := .ty "str") (by rfl) TT.str bstr rfl) pa_nil)))) (pw_and1 (pt_cmpR op_eq (pe_call GN (hr.mono (by omega)) (by rfl) gN FN.kp bN .nil pass0 (pa_cons (pv 0) (pa_cons pe_int pa_nil))) pe_int (by rfl)))))
          (pss_one (ps_ret (pe_ix ix_list (pe_lst (pa_cons (pe_op op_add_str (pv 1) pe_str) (pa_cons (pe_slice sl_str (pv 1) (po_some pe_int) po_none) (pa_cons (pe_op op_add_str (pv 1) pe_str) (pa_cons (pe_op op_add_str (pv 1) pe_str) (pa_cons (pe_op NI.op_dbl (pv 1) pe_int) (pa_cons (pe_op op_add_str (pv 1) pe_str) pa_nil)))))))
            (pe_call GN (hr.mono (by omega)) (by rfl) gN FN.kp bN .nil pass0 (pa_cons (pv 0) (pa_cons pe_int pa_nil))) (fun _ _ => rfl)))) pss_nil)
        (pss_cons (ps_if (PW.pt (pw_and (pt_val (pe_callB call_isi (by rfl) TT.isi bisi (pa_cons (pv 1) (pa_cons (pe_bltn (v := .ty "int") (by rfl) T.int bi rfl) pa_nil)))) (pw_and (pt_not (pt_val (pe_callB call_isi (by rfl) TT.isi bisi (pa_cons (pv 1) (pa_cons (pe_bltn (v := .ty "bool") (by rfl) tB bb rfl) pa_nil)))))
            (pw_and1 (pt_cmpR op_eq (pe_call GN (hr.mono (by omega)) (by rfl) gN FN.kp bN .nil pass0 (pa_cons (pv 0) (pa_cons pe_int pa_nil))) pe_int (by rfl))))))
          (pss_one (ps_ret (pe_op op_add (pv 1) (pe_ix ix_list (pe_lst (pa_cons pe_int (pa_cons (pe_un un_neg pe_int) (pa_cons pe_int (pa_cons (pe_un un_neg pe_int) (pa_cons pe_int (pa_cons (pe_un un_neg pe_int) pa_nil)))))))
            (pe_call GN (hr.mono (by omega)) (by rfl) gN FN.kp bN .nil pass0 (pa_cons (pv 0) (pa_cons pe_int pa_nil))) (fun _ _ => rfl))))) pss_nil)
        (pss_cons (ps_if (PW.pt (pw_or (pt_not (pt_val (pe_callB call_isi (by rfl) TT.isi bisi (pa_cons (pv 1) (pa_cons (pe_bltn (v := .ty "tuple") (by rfl) TT.tuple btup rfl) pa_nil))))) (pw_or (pt_cmpR (NI.op_eqNilT hu1) (pv 1) (pe_tup pa_nil) (by rfl))
            (pw_or1 (pt_cmpR op_eq (pe_call GN (hr.mono (by omega)) (by rfl) gN FN.kp bN .nil pass0 (pa_cons (pv 0) (pa_cons pe_int pa_nil))) pe_int (by rfl))))))
          (pss_one (ps_ret (pe_call GO (hr.mono (by omega)) (by rfl) gO FO.kp bO .nil pass0 (pa_cons (pv 0) pa_nil)))) pss_nil)
        (pss_cons (ps_par rfl scBe.nd (i := 2) (j := 3) rfl rfl (by decide) rfl rfl (pa_cons (pe_call GN (hr.mono (by omega)) (by rfl) gN FN.kp bN .nil pass0 (pa_cons (pv 0) (pa_cons (pe_callB call_len_seq (by rfl) T.len PySem.boot_len (pa_cons (pv 1) pa_nil)) pa_nil)))
            (pa_cons (pe_call GN (hr.mono (by omega)) (by rfl) gN FN.kp bN .nil pass0 (pa_cons (pv 0) (pa_cons pe_int pa_nil))) pa_nil)) rfl)
        (pss_cons (ps_if (pt_cmpR op_eq (pv 3) pe_int (by rfl)) (pss_one (ps_ret (pe_op op_catF (pe_slice sl_tupF (pv 1) po_none (po_some (pv 2))) (pe_slice sl_tupF (pv 1) (po_some (pe_op op_add (pv 2) pe_int)) po_none)))) pss_nil)
        (pss_cons (ps_if (pt_cmpR op_eq (pv 3) pe_int (by rfl)) (pss_one (ps_ret (pe_op op_catF (pv 1) (pe_slice sl_tupF (pv 1) (po_some (pv 2)) (po_some (pe_op op_add (pv 2) pe_int)))))) pss_nil)
        (pss_cons (ps_if (pt_cmpR op_eq (pv 3) pe_int (by rfl)) (pss_one (ps_ret (pe_callTy call_list_of (by rfl) T.list blist (pa_cons (pv 1) pa_nil)))) pss_nil)
        (pss_cons (ps_if (pt_cmpR op_eq (pv 3) pe_int (by rfl)) (pss_one (ps_ret (pe_op op_catF (pe_op op_catF (pe_slice sl_tupF (pv 1) po_none (po_some (pv 2))) (pe_tup (pa_cons (pe_call GO (hr.mono (by omega)) (by rfl) gO FO.kp bO .nil pass0 (pa_cons (pv 0) pa_nil)) pa_nil))) (pe_slice sl_tupF (pv 1) (po_some (pv 2)) po_none)))) pss_nil)
        (pss_cons (ps_if (pt_cmpR op_eq (pv 3) pe_int (by rfl)) (pss_one (ps_ret (RT.pe_revT (pv 1)))) pss_nil)
        (pss_one (ps_ret (pe_op op_catF (pe_op op_catF (pe_slice sl_tupF (pv 1) po_none (po_some (pv 2))) (pe_tup (pa_cons (pe_call GS hr (by rfl) gF F.kp bF .nil pass0 (pa_cons (pv 0) (pa_cons (pe_ix ix_tup (pv 1) (pv 2) (fun _ _ => rfl)) pa_nil))) pa_nil))) (pe_slice sl_tupF (pv 1) (po_some (pe_op op_add (pv 2) pe_int)) po_none)))))))))))), ?_⟩
      obtain ⟨m, c, l, cs, ls, k0, v, d, rfl, M, hn, hd, hg, hz, hdp, k⟩ := h
      have odd : ∀ H1 l1 ls1 k1, MAt H1 m c l1 cs ls1 k1 → k1 ≤ k0 + 5 → Fs H m l H1 l1 → spDr 1 OddD [V.ref m] H1 Q (fun _ _ _ => False) := fun H1 l1 ls1 k1 M1 h1 s1 =>
        ⟨m, c, l1, cs, ls1, k1, rfl, M1, by omega, fun r d' H' l' ls' k' M' hk' s' hq' ho => k r d' H' l' ls' k' M' (by omega) (s1.trans s') hq' (bnt_odd hN ho)⟩
      have hdF : ∀ {H1 l1}, Fs H m l H1 l1 → Dq H1 v d := fun s => (hd.same s.1).same fr_same
      refine ⟨_, rfl, _, .ty "str", _, _, _, rfl, .ty _, (hdF .refl).ty, kit_ty (ks d), _, rfl, ?_⟩
      cases d with
      | none => 
        refine iteF (iteF ⟨_, rfl, _, .ty "int", _, _, _, rfl, .ty _, (hdF .refl).ty, kit_ty (ki _), _, rfl, iteF (iteF ⟨_, rfl, _, .ty "tuple", _, _, _, rfl, .ty _, (hdF .refl).ty, kit_ty (kt _), _, rfl, iteT (iteT ⟨_, rfl, odd H l ls k0 M (by omega) .refl⟩)⟩)⟩)
      | bool b =>
        refine iteF (iteF ⟨_, rfl, _, .ty "int", _, _, _, rfl, .ty _, (hdF .refl).ty, kit_ty (ki _), _, rfl, iteT ⟨_, rfl, _, .ty "bool", _, _, _, rfl, .ty _, (hdF .refl).ty, kit_ty (kb _), _, rfl, iteF (iteF ⟨_, rfl, _, .ty "tuple", _, _, _, rfl, .ty _, (hdF .refl).ty, kit_ty (kt _), _, rfl, iteT (iteT ⟨_, rfl, odd H l ls k0 M (by omega) .refl⟩)⟩)⟩⟩)
      | list xs =>
        refine iteF (iteF ⟨_, rfl, _, .ty "int", _, _, _, rfl, .ty _, (hdF .refl).ty, kit_ty (ki _), _, rfl, iteF (iteF ⟨_, rfl, _, .ty "tuple", _, _, _, rfl, .ty _, (hdF .refl).ty, kit_ty (kt _), _, rfl, iteT (iteT ⟨_, rfl, odd H l ls k0 M (by omega) .refl⟩)⟩)⟩)
      | dict xs =>
        refine iteF (iteF ⟨_, rfl, _, .ty "int", _, _, _, rfl, .ty _, (hdF .refl).ty, kit_ty (ki _), _, rfl, iteF (iteF ⟨_, rfl, _, .ty "tuple", _, _, _, rfl, .ty _, (hdF .refl).ty, kit_ty (kt _), _, rfl, iteT (iteT ⟨_, rfl, odd H l ls k0 M (by omega) .refl⟩)⟩)⟩)
      | int i =>
        refine iteF (iteF ⟨_, rfl, _, .ty "int", _, _, _, rfl, .ty _, (hdF .refl).ty, kit_ty (ki _), _, rfl, iteT ⟨_, rfl, _, .ty "bool", _, _, _, rfl, .ty _, (hdF .refl).ty, kit_ty (kb _), _, rfl, iteT ?_⟩⟩)
        refine ⟨_, rfl, m, c, l, 2, cs, ls, k0, rfl, M, by decide, by decide, by omega, fun r H1 l1 ls1 k1 r0 r1 M1 nn1 s1 => ⟨rfl, _, rfl, ?_⟩⟩
        refine ite2 (fun _ => ?_) (fun _ => ?_)
        · have ev : v = V.int i := by cases hd; rfl
          subst ev
          refine ⟨_, rfl, _, rfl, _, rfl, _, rfl, by show 6 ≤ sizeLine; decide, fun pl npl => ?_⟩
          have G1 : Gw m c l1 cs ls1 k1 H1 H1 := ⟨M1, .refl⟩
          obtain ⟨G2, t2, e2⟩ := G1.new (o := .lst [.int 1, .int (-1), .int 2, .int (-2), .int 10, .int (-10)]) npl
          refine ⟨_, rfl, m, c, l1, 6, cs, ls1, k1, rfl, G2.mat, by decide, by decide, by omega, fun r2 H2 l2 ls2 k2 r20 r21 M2 nn2 s2 => ?_⟩
          obtain ⟨j, hj, hj10⟩ : ∃ j : Int, atI [V.int 1, V.int (-1), V.int 2, V.int (-2), V.int 10, V.int (-10)] r2 = some (V.int j) ∧ j.natAbs ≤ 10 := by
            obtain ⟨u, hu⟩ : ∃ u : Nat, r2 = (u : Int) := ⟨r2.toNat, by omega⟩
            subst hu
            have h6 : u < 6 := by omega
            match u, h6 with
            | 0, _ => exact ⟨_, atI_nat (j := 0) rfl, by decide⟩
            | 1, _ => exact ⟨_, atI_nat (j := 1) rfl, by decide⟩
            | 2, _ => exact ⟨_, atI_nat (j := 2) rfl, by decide⟩
            | 3, _ => exact ⟨_, atI_nat (j := 3) rfl, by decide⟩
            | 4, _ => exact ⟨_, atI_nat (j := 4) rfl, by decide⟩
            | 5, _ => exact ⟨_, atI_nat (j := 5) rfl, by decide⟩
          refine ⟨pl, _, r2, _, rfl, rfl, SqL.of (fr_of (s2.1 _ _ e2)).2.2, hj, _, _, rfl, rfl, ?_⟩
          exact k _ (.int (i + j)) H2 l2 ls2 k2 M2 (by omega) (s1.trans (G2.sm.trans s2)) (.int _) (bnt_int hg hj10)
        · refine ⟨_, rfl, _, .ty "tuple", _, _, _, rfl, .ty _, (hdF s1).ty, kit_ty (kt _), _, rfl, iteT (iteT ⟨_, rfl, odd H1 l1 ls1 k1 M1 (by omega) s1⟩)⟩
      | str x =>
        refine iteT ⟨_, rfl, m, c, l, 2, cs, ls, k0, rfl, M, by decide, by decide, by omega, fun r H1 l1 ls1 k1 r0 r1 M1 nn1 s1 => ⟨rfl, _, rfl, ?_⟩⟩
        refine ite2 (fun _ => ?_) (fun _ => ?_)
        · have ev : v = V.str x ∧ x.length ≤ sizeLine := by
            cases hd with
            | str _ hx => exact ⟨rfl, hx.1⟩
          obtain ⟨ev, _⟩ := ev
          subst ev
          have okx : PyData.strOk x = true := by simpa [gd] using hg
          have hx : x.length ≤ 40000 := by
            simp only [sz] at hz
            omega
          have app : ∀ y : Str, y.length = 1 → (x ++ y).length = x.length + 1 := fun y hy => by rw [strLen_append, hy]
          have l1' : ∀ y : Str, y.length = 1 → x.length + y.length ≤ sizeLine := fun y hy => by
            rw [hy]
            exact Nat.le_trans (show x.length + 1 ≤ 40001 by omega) (by decide)
          refine ⟨_, rfl, _, _, rfl, rfl, l1' _ (by decide +kernel), _, rfl, 1, rfl, x, rfl, Nat.le_trans hx (by decide), _, rfl, _, _, rfl, rfl, l1' _ (by decide +kernel), _, rfl, _, _, rfl, rfl, l1' _ (by decide +kernel), _, rfl, x, rfl, rfl, by omega, fun y hy1 hy2 => ?_⟩
          refine ⟨_, rfl, _, _, rfl, rfl, l1' _ (by decide +kernel), by show 6 ≤ sizeLine; decide, fun pl npl => ?_⟩
          have G1 : Gw m c l1 cs ls1 k1 H1 H1 := ⟨M1, .refl⟩
          obtain ⟨G2, t2, e2⟩ := G1.new (o := .lst [.str (x ++ "b"), .str (cutS x (some 1) none), .str (x ++ "A"), .str (x ++ " "), .str y, .str (x ++ "1")]) npl
          refine ⟨_, rfl, m, c, l1, 6, cs, ls1, k1, rfl, G2.mat, by decide, by decide, by omega, fun r2 H2 l2 ls2 k2 r20 r21 M2 nn2 s2 => ?_⟩
          obtain ⟨z, hj, okz, hzl⟩ : ∃ z : Str, atI [V.str (x ++ "b"), V.str (cutS x (some 1) none), V.str (x ++ "A"), V.str (x ++ " "), V.str y, V.str (x ++ "1")] r2 = some (V.str z) ∧ PyData.strOk z = true ∧ z.length ≤ 2 * x.length + 10 := by
            obtain ⟨u, hu⟩ : ∃ u : Nat, r2 = (u : Int) := ⟨r2.toNat, by omega⟩
            subst hu
            have h6 : u < 6 := by omega
            match u, h6 with
            | 0, _ => exact ⟨_, atI_nat (j := 0) rfl, ok_app okx (by decide +kernel), by rw [app _ (by decide +kernel)]; omega⟩
            | 1, _ => exact ⟨_, atI_nat (j := 1) rfl, ok_cut okx, by have := cutS_length x (some 1) none; omega⟩
            | 2, _ => exact ⟨_, atI_nat (j := 2) rfl, ok_app okx (by decide +kernel), by rw [app _ (by decide +kernel)]; omega⟩
            | 3, _ => exact ⟨_, atI_nat (j := 3) rfl, ok_app okx (by decide +kernel), by rw [app _ (by decide +kernel)]; omega⟩
            | 4, _ => exact ⟨_, atI_nat (j := 4) rfl, ok_sub okx hy2, by omega⟩
            | 5, _ => exact ⟨_, atI_nat (j := 5) rfl, ok_app okx (by decide +kernel), by rw [app _ (by decide +kernel)]; omega⟩
          refine ⟨pl, _, r2, _, rfl, rfl, SqL.of (fr_of (s2.1 _ _ e2)).2.2, hj, ?_⟩
          exact k _ (.str z) H2 l2 ls2 k2 M2 (by omega) (s1.trans (G2.sm.trans s2)) (.str z ⟨Nat.le_trans (show z.length ≤ 80010 by omega) (by decide), okz⟩) (bnt_str okz hzl)
        · refine ⟨_, rfl, _, .ty "int", _, _, _, rfl, .ty _, (hdF s1).ty, kit_ty (ki _), _, rfl, iteF (iteF ⟨_, rfl, _, .ty "tuple", _, _, _, rfl, .ty _, (hdF s1).ty, kit_ty (kt _), _, rfl, iteT (iteT ⟨_, rfl, odd H1 l1 ls1 k1 M1 (by omega) s1⟩)⟩)⟩
      | tuple ds =>
        have hcs : ∃ ad xs, v = .ref ad ∧ fr H m l ad = some (.tup xs) ∧ DqAll (fr H m l) xs ds := by
          cases hd with
          | tup e a => exact ⟨_, _, rfl, e, a⟩
        obtain ⟨ad, xs, rfl, e, a⟩ := hcs
        have hgA : gdAll N ds = true := by simpa [gd] using hg
        have hdA : PyData.depthAll ds + 1 + 1 ≤ n + 1 := hdp
        have hlen : ds.length ≤ 200000 := by
          have := szAll_len ds
          simp only [sz] at hz
          omega
        have xl : xs.length = ds.length := a.len
        refine iteF (iteF ⟨_, rfl, _, .ty "int", _, _, _, rfl, .ty _, (hdF .refl).ty, kit_ty (ki _), _, rfl, iteF (iteF ⟨_, rfl, _, .ty "tuple", _, _, _, rfl, .ty _, (hdF .refl).ty, kit_ty (kt _), _, rfl, iteF ?_⟩)⟩)
        refine ⟨_, rfl, Nat.zero_le _, fun p np => ⟨ad, p, xs, rfl, rfl, SqT.of (same_new np _ _ (fr_of e).2.2), SqT.of upd_same, _, rfl, ?_⟩⟩
        have G0 : Gw m c l cs ls k0 H H := ⟨M, .refl⟩
        obtain ⟨G1, t1, _⟩ := G0.new (o := .tup []) np
        generalize upd H p (HO.tup []) = H1 at G1 t1
        by_cases he : xs = []
        · subst he
          exact iteT (iteT ⟨_, rfl, odd H1 l ls k0 G1.mat (by omega) G1.sm⟩)
        have hpos : 0 < xs.length := List.length_pos_iff.mpr he
        have hne : xs.isEmpty = false := by cases xs with | nil => exact absurd rfl he | cons _ _ => rfl
        rw [show id xs.isEmpty = false from hne]
        refine iteF ⟨_, rfl, m, c, l, 6, cs, ls, k0, rfl, G1.mat, by decide, by decide, by omega, fun r H2 l2 ls2 k2 r0 r1 M2 nn2 s2 => ⟨rfl, _, rfl, ?_⟩⟩
        refine ite2 (fun _ => ⟨_, rfl, odd H2 l2 ls2 k2 M2 (by omega) (G1.sm.trans s2)⟩) (fun _ => ?_)
        have e2 := s2.1 _ _ (t1 _ _ e)
        refine ⟨_, rfl, _, rfl, ad, _, rfl, .inr (SqT.of (fr_of e2).2.2), m, c, l2, _, cs, ls2, k2, rfl, M2, by omega, by omega, by omega, fun ia H3 l3 ls3 k3 ia0 ia1 M3 nn3 s3 => ?_⟩
        refine ⟨_, rfl, m, c, l3, 11, cs, ls3, k3, rfl, M3, by decide, by decide, by omega, fun pick H4 l4 ls4 k4 pk0 pk1 M4 nn4 s4 => ⟨_, _, rfl, ?_⟩⟩
        obtain ⟨j, rfl⟩ : ∃ j : Nat, ia = (j : Int) := ⟨ia.toNat, by omega⟩
        have hj : j < ds.length := by omega
        have F4 : Fs H m l H4 l4 := G1.sm.trans (s2.trans (s3.trans s4))
        have e4 : fr H4 m l4 ad = some (.tup xs) := s4.1 _ _ (s3.1 _ _ e2)
        have a4 : DqAll (fr H4 m l4) xs ds := a.same F4.1
        have G4 : Gw m c l4 cs ls4 k4 H4 H4 := ⟨M4, .refl⟩
        clear e2 s2 s3 s4 M2 M3
        have big : ∀ q : Nat, q ≤ 3 → ds.length + q ≤ sizeLine := fun q hq => Nat.le_trans (show ds.length + q ≤ 200003 by omega) (by decide)
        have fin : ∀ r d' H5, Same H4 H5 → Dq (fr H5 m l4) r d' → Bnt N (n + 1) (.tuple ds) d' → Q r H5 := fun r d' H5 s5 q5 b5 =>
          k r d' H5 l4 ls4 k4 (M4.same s5) (by omega) (F4.trans (G4.grow s5).1.sm) q5 b5
        refine ⟨_, rfl, rfl, _, rfl, ite2 (fun _ => ?_) (fun _ => ?_)⟩
        · refine ⟨_, rfl, _, rfl, j, rfl, ad, xs, rfl, (fr_of e4).2.2, fun p1 H5 s5 e5 => ?_⟩
          refine ⟨_, rfl, _, rfl, _, _, rfl, rfl, _, rfl, ad, xs, rfl, s5 _ _ (fr_of e4).2.2, fun p2 H6 s6 e6 => ?_⟩
          rw [cut_to] at e5
          rw [show ((j : Int) + 1) = ((j + 1 : Nat) : Int) by omega, cut_from] at e6
          refine ⟨p1, p2, _, _, rfl, rfl, s6 _ _ e5, e6, by rw [List.length_take, List.length_drop]; have := big 0 (by omega); omega, fun p3 H7 s7 e7 => ?_⟩
          have s47 := same_trans s5 (same_trans s6 s7)
          obtain ⟨G7, t7⟩ := G4.grow s47
          exact fin _ _ H7 s47 (.tup (G7.tupAt e7) (((a4.take j).app (a4.drop (j + 1))).same t7)) (bnt_cut hgA hdA j)
        refine ⟨_, rfl, rfl, _, rfl, ite2 (fun _ => ?_) (fun _ => ?_)⟩
        · refine ⟨_, rfl, _, rfl, _, rfl, j, rfl, _, rfl, _, _, rfl, rfl, _, rfl, ad, xs, rfl, (fr_of e4).2.2, fun p2 H6 s6 e6 => ?_⟩
          rw [cut_at xs (by omega)] at e6
          refine ⟨ad, p2, _, _, rfl, rfl, s6 _ _ (fr_of e4).2.2, e6, by rw [List.length_take]; have := big 1 (by omega); omega, fun p3 H7 s7 e7 => ?_⟩
          have s47 := same_trans s6 s7
          obtain ⟨G7, t7⟩ := G4.grow s47
          exact fin _ _ H7 s47 (.tup (G7.tupAt e7) ((a4.app ((a4.drop j).take 1)).same t7)) (bnt_twice hgA hdA j)
        refine ⟨_, rfl, rfl, _, rfl, ite2 (fun _ => ?_) (fun _ => ?_)⟩
        · refine ⟨_, rfl, ad, _, rfl, .inr (SqT.of (fr_of e4).2.2), fun p3 np3 => ?_⟩
          obtain ⟨G7, t7, e7⟩ := G4.new (o := .lst xs) np3
          exact fin _ _ _ (same_new np3) (.lst e7 (a4.same t7)) (bnt_list hgA hdA)
        refine ⟨_, rfl, rfl, _, rfl, ite2 (fun _ => ?_) (fun _ => ?_)⟩
        · refine ⟨_, rfl, _, rfl, j, rfl, ad, xs, rfl, (fr_of e4).2.2, fun p1 H5 s5 e5 => ?_⟩
          rw [cut_to] at e5
          obtain ⟨G5, t5⟩ := G4.grow s5
          refine ⟨_, rfl, m, c, l4, cs, ls4, k4, rfl, G5.mat, by omega, fun ro od H6 l6 ls6 k6 M6 nn6 s6 q6 ho => ?_⟩
          refine ⟨by show 1 ≤ sizeLine; decide, fun p2 np2 => ?_⟩
          have G6 : Gw m c l6 cs ls6 k6 H6 H6 := ⟨M6, .refl⟩
          obtain ⟨G7, t7, e7⟩ := G6.new (o := .tup [ro]) np2
          generalize upd H6 p2 (HO.tup [ro]) = H7 at G7 t7 e7
          have e5' := t7 _ _ (s6.1 _ _ (G5.tupAt e5))
          have e4' := t7 _ _ (s6.1 _ _ (t5 _ _ e4))
          have a7 := ((a4.same t5).same s6.1).same t7
          refine ⟨p1, p2, _, _, rfl, rfl, (fr_of e5').2.2, (fr_of e7).2.2, by rw [List.length_take]; have := big 1 (by omega); show _ + 1 ≤ _; omega, fun p3 H8 s8 e8 => ?_⟩
          refine ⟨_, rfl, _, rfl, j, rfl, ad, xs, rfl, s8 _ _ (fr_of e4').2.2, fun p4 H9 s9 e9 => ?_⟩
          rw [cut_from] at e9
          refine ⟨p3, p4, _, _, rfl, rfl, s9 _ _ e8, e9, by rw [List.length_append, List.length_take, List.length_drop]; have := big 1 (by omega); show _ + 1 + _ ≤ _; omega, fun p5 Ha sa ea => ?_⟩
          obtain ⟨Ga, ta⟩ := G7.grow (same_trans s8 (same_trans s9 sa))
          exact k _ _ Ha l6 ls6 k6 Ga.mat (by omega) (F4.trans (G5.sm.trans (s6.trans Ga.sm))) (.tup (Ga.tupAt ea) ((((a7.take j).app (.cons (q6.same t7) .nil)).app (a7.drop j)).same ta)) (bnt_put hgA hdA j hN ho)
        refine ⟨_, rfl, rfl, _, rfl, ite2 (fun _ => ?_) (fun _ => ?_)⟩
        · refine ⟨_, rfl, ad, xs, rfl, (fr_of e4).2.2, fun p3 np3 => ?_⟩
          obtain ⟨G7, t7, e7⟩ := G4.new (o := .tup xs.reverse) np3
          exact fin _ _ _ (same_new np3) (.tup e7 (a4.rev.same t7)) (bnt_rev hgA hdA)
        · refine ⟨_, rfl, _, rfl, j, rfl, ad, xs, rfl, (fr_of e4).2.2, fun p1 H5 s5 e5 => ?_⟩
          rw [cut_to] at e5
          obtain ⟨G5, t5⟩ := G4.grow s5
          obtain ⟨ve, hve, qe⟩ := (a4.same t5).at (List.getElem?_eq_getElem hj)
          have hej : ds[j]? = some ds[j] := List.getElem?_eq_getElem hj
          have memj : ds[j] ∈ ds := List.getElem_mem hj
          have gj := gdAll_iff.mp hgA _ memj
          have zj := sz_mem memj
          have dj := dp_mem memj
          generalize ds[j] = dj0 at qe hej gj zj dj
          have szj : sz dj0 ≤ 400000 := by
            simp only [sz] at hz
            omega
          refine ⟨_, rfl, _, rfl, _, rfl, ad, xs, (j : Int), ve, rfl, rfl, SqT.of (fr_of (t5 _ _ e4)).2.2, atI_nat hve, ?_⟩
          refine ⟨m, c, l4, cs, ls4, k4, ve, dj0, rfl, G5.mat, by omega, qe, gj, szj, by omega, fun ro od H6 l6 ls6 k6 M6 nn6 s6 q6 ho => ?_⟩
          refine ⟨by show 1 ≤ sizeLine; decide, fun p2 np2 => ?_⟩
          have G6 : Gw m c l6 cs ls6 k6 H6 H6 := ⟨M6, .refl⟩
          obtain ⟨G7, t7, e7⟩ := G6.new (o := .tup [ro]) np2
          generalize upd H6 p2 (HO.tup [ro]) = H7 at G7 t7 e7
          have e5' := t7 _ _ (s6.1 _ _ (G5.tupAt e5))
          have e4' := t7 _ _ (s6.1 _ _ (t5 _ _ e4))
          have a7 := ((a4.same t5).same s6.1).same t7
          refine ⟨p1, p2, _, _, rfl, rfl, (fr_of e5').2.2, (fr_of e7).2.2, by rw [List.length_take]; have := big 1 (by omega); show _ + 1 ≤ _; omega, fun p3 H8 s8 e8 => ?_⟩
          refine ⟨_, rfl, _, rfl, _, _, rfl, rfl, _, rfl, ad, xs, rfl, s8 _ _ (fr_of e4').2.2, fun p4 H9 s9 e9 => ?_⟩
          rw [show ((j : Int) + 1) = ((j + 1 : Nat) : Int) by omega, cut_from] at e9
          refine ⟨p3, p4, _, _, rfl, rfl, s9 _ _ e8, e9, by rw [List.length_append, List.length_take, List.length_drop]; have := big 1 (by omega); show _ + 1 + _ ≤ _; omega, fun p5 Ha sa ea => ?_⟩
          obtain ⟨Ga, ta⟩ := G7.grow (same_trans s8 (same_trans s9 sa))
          exact k _ _ Ha l6 ls6 k6 Ga.mat (by omega) (F4.trans (G5.sm.trans (s6.trans Ga.sm))) (.tup (Ga.tupAt ea) ((((a7.take j).app (.cons (q6.same t7) .nil)).app (a7.drop (j + 1))).same ta)) (bnt_in hgA hdA hej ho)
end
end K01
set_option Elab.async false
set_option linter.all false
set_option maxRecDepth 100000
set_option maxHeartbeats 4000000
/-! readings hand on what is wanted: monotone -/
namespace MO
open PySem L2
def MonoE (te : TE) : Prop := ∀ (σ : L2.St) (H : Hp) (Q Q' : VK), (∀ v H1, Q v H1 → Q' v H1) → te σ H Q → te σ H Q'
def MonoA (ta : TA) : Prop := ∀ (σ : L2.St) (H : Hp) (Q Q' : List V → Hp → Prop), (∀ v H1, Q v H1 → Q' v H1) → ta σ H Q → ta σ H Q'
def MonoT (tt : TT) : Prop := ∀ (σ : L2.St) (H : Hp) (Q Q' : Bool → Hp → Prop), (∀ b H1, Q b H1 → Q' b H1) → tt σ H Q → tt σ H Q'
def MonoR (r : R2) : Prop := ∀ (x y : V) (H : Hp) (Q Q' : VK), (∀ v H1, Q v H1 → Q' v H1) → r x y H Q → r x y H Q'
def MonoC (r : List V → Hp → VK → Prop) : Prop := ∀ (vs : List V) (H : Hp) (Q Q' : VK), (∀ v H1, Q v H1 → Q' v H1) → r vs H Q → r vs H Q'
theorem mo_var {i : Nat} : MonoE (tVar i) := fun σ H Q Q' h ⟨v, e, q⟩ => ⟨v, e, h _ _ q⟩
theorem mo_c {v : V} : MonoE (tC v) := fun σ H Q Q' h q => h _ _ q
theorem mo_nil : MonoA tNil := fun σ H Q Q' h q => h _ _ q
theorem mo_cons {te : TE} {ta : TA} (a : MonoE te) (b : MonoA ta) : MonoA (tCons te ta) := fun σ H Q Q' h q => a σ H _ _ (fun v H1 q1 => b σ H1 _ _ (fun vs H2 q2 => h _ _ q2) q1) q
theorem mo_tup {ta : TA} (a : MonoA ta) : MonoE (tTup ta) := fun σ H Q Q' h q => a σ H _ _ (fun vs H1 q1 => ⟨q1.1, fun p np => h _ _ (q1.2 p np)⟩) q
theorem mo_lst {ta : TA} (a : MonoA ta) : MonoE (tLst ta) := fun σ H Q Q' h q => a σ H _ _ (fun vs H1 q1 => ⟨q1.1, fun p np => h _ _ (q1.2 p np)⟩) q
theorem mo_op {r : R2} {ta tb : TE} (hr : MonoR r) (a : MonoE ta) (b : MonoE tb) : MonoE (tOp r ta tb) := fun σ H Q Q' h q => a σ H _ _ (fun v H1 q1 => b σ H1 _ _ (fun u H2 q2 => hr _ _ _ _ _ h q2) q1) q
theorem mo_test {te : TE} (a : MonoE te) : MonoT (tTest te) := fun σ H Q Q' h q => a σ H _ _ (fun v H1 ⟨k, e, q1⟩ => ⟨k, e, h _ _ q1⟩) q
theorem mo_and {t u : TT} (a : MonoT t) (b : MonoT u) : MonoT (tAnd t u) := fun σ H Q Q' h q => a σ H _ _ (fun c H1 q1 => by
  cases c with
  | true =>
    rw [if_pos rfl] at q1 ⊢
    exact b σ H1 _ _ h q1
  | false => exact h _ _ q1) q
theorem mo_or {t u : TT} (a : MonoT t) (b : MonoT u) : MonoT (tOr t u) := fun σ H Q Q' h q => a σ H _ _ (fun c H1 q1 => by
  cases c with
  | true => exact h _ _ q1
  | false => exact b σ H1 _ _ h q1) q
theorem mo_if {t : TT} {ta tb : TE} (a : MonoT t) (b : MonoE ta) (c : MonoE tb) : MonoE (tIf t ta tb) := fun σ H Q Q' h q => a σ H _ _ (fun k H1 q1 => by
  cases k with
  | true =>
    rw [if_pos rfl] at q1 ⊢
    exact b σ H1 _ _ h q1
  | false => exact c σ H1 _ _ h q1) q
theorem mr_ix {K : PySem.W.Frag} : MonoR (rIxT K) := fun x y H Q Q' h ⟨p, xs, i, v, e1, e2, e3, e4, q⟩ => ⟨p, xs, i, v, e1, e2, e3, e4, h _ _ q⟩
theorem mr_nilT {K : PySem.W.Frag} {f : Bool → Bool} : MonoR (NI.rNilT K f) := fun x y H Q Q' h ⟨a, b, xs, e1, e2, e3, e4, q⟩ => ⟨a, b, xs, e1, e2, e3, e4, h _ _ q⟩
theorem mr_i0 {g : Int → Int → V} : MonoR (rI0 g) := fun x y H Q Q' h ⟨i, j, e1, e2, q⟩ => ⟨i, j, e1, e2, h _ _ q⟩
theorem mc_nx (E : XK) : ∀ (vs : List V) (H : Hp) (Q Q' : VK), (∀ v H1, Q v H1 → Q' v H1) → K01.spNx vs H Q E → K01.spNx vs H Q' E := fun vs H Q Q' h ⟨m, c, l, many, cs, ls, n, e, M, h1, h2, h3, k⟩ =>
  ⟨m, c, l, many, cs, ls, n, e, M, h1, h2, h3, fun r H' l' ls' n' r0 r1 M' nn s => h _ _ (k r H' l' ls' n' r0 r1 M' nn s)⟩
end MO
namespace MO
open PySem L2
theorem mo_cb {r : List V → Hp → VK → Prop} {ta : TA} (hr : MonoC r) (a : MonoA ta) : MonoE (tCB r ta) := fun σ H Q Q' h q => a σ H _ _ (fun vs H1 q1 => hr _ _ _ _ h q1) q
theorem mo_call {sp : Sp} {dvs : List V} {E : XK} {ta : TA} (hr : ∀ vs H Q Q', (∀ v H1, Q v H1 → Q' v H1) → sp vs H Q E → sp vs H Q' E) (a : MonoA ta) : MonoE (tCall sp dvs E ta) := fun σ H Q Q' h q => a σ H _ _ (fun vs H1 q1 => hr _ _ _ _ h q1) q
theorem mc_len {K : PySem.W.Frag} : MonoC (fun xs H Q => ∃ p ys, xs = [.ref p] ∧ (SqL K H p ys ∨ SqT K H p ys) ∧ Q (.int ys.length) H) := fun vs H Q Q' h ⟨p, ys, e, s, q⟩ => ⟨p, ys, e, s, h _ _ q⟩
end MO
set_option Elab.async false
set_option linter.all false
set_option maxRecDepth 100000
set_option maxHeartbeats 4000000
namespace K01
open PySem L2 L2H DQ RZ
/-- a pair: a tree that is no call, n nodes, c calls -/
def Tp (k n c : Nat) (d : PyData) : Prop := ∃ (ms : List Str) (bs : List PyData) (n0 : Nat), d = .tuple [.tuple (ms.map PyData.str), .tuple bs] ∧ ms.Sublist abc3 ∧ bs.length ≤ 3 ∧ TcB k n0 c bs ∧ n = n0 + 1
theorem Tp.tc {k n c : Nat} {d : PyData} (h : Tp k n c d) : Tc k n c d := by
  obtain ⟨ms, bs, n0, rfl, h1, h2, h3, h4⟩ := h
  exact .mk h1 h2 (.inl ⟨rfl, rfl⟩) h3 h4 rfl
theorem Tc.tp {k n : Nat} {d : PyData} (h : Tc k n 0 d) : Tp k n 0 d := by
  cases h with
  | @mk _ _ _ n0 c0 c1 ms bs r h1 h2 h3 h4 e1 e2 =>
    rcases h3 with ⟨rfl, rfl⟩ | ⟨rfl, rfl⟩
    · obtain rfl : c1 = 0 := by omega
      exact ⟨ms, bs, n0, rfl, h1, h2, h4, e1⟩
    · omega
theorem tp_tup {ms : List Str} {bs : List PyData} (h : tupA bs = true) : tupO (.tuple [.tuple (ms.map PyData.str), .tuple bs]) = true := by
  simp only [tupO, tupA, tup_strs, h, Bool.and_self]
/-- the way down: what stands above, level by level; o nodes beside the way -/
inductive Spn (H : Hp) : List V → Nat → Nat → Prop
  | nil : Spn H [] 3 0
  | snoc {es : List V} {k o a b o' : Nat} {e : Addr} {v : V} {j : Nat} {ms : List Str} {bs : List PyData} {u : Str} {t : PyData} : Spn H es (k + 1) o → H e = some (.tup [v, .int (j : Int)]) → Dq H v (.tuple [.tuple (ms.map PyData.str), .tuple bs]) → tupA bs = true →
      ms.Sublist abc3 → bs.length ≤ 3 → bs[j]? = some (.tuple [.str u, t]) → efS u → TcB (k + 1) a 0 (bs.take j) → TcB (k + 1) b 0 (bs.drop (j + 1)) → o' = o + 1 + a + b → Spn H (es ++ [.ref e]) k o'
theorem Spn.keep {H H' : Hp} (s : ∀ b xs, H b = some (.tup xs) → H' b = some (.tup xs)) {es : List V} {k o : Nat} (h : Spn H es k o) : Spn H' es k o := by
  induction h with
  | nil => exact .nil
  | snoc h h1 h2 ht h3 h4 h5 h6 h7 h8 h9 ih => exact .snoc ih (s _ _ h1) (h2.tups s (tp_tup ht)) ht h3 h4 h5 h6 h7 h8 h9
theorem Spn.same {H H' : Hp} (s : Same H H') {es : List V} {k o : Nat} (h : Spn H es k o) : Spn H' es k o := h.keep fun b xs e => s _ _ e
theorem TcB.cut {k n c : Nat} {bs : List PyData} {j : Nat} (h : TcB k n c bs) (hj : j < bs.length) : ∃ k' u t n1 c1 a ca b cb, k = k' + 1 ∧ bs[j]? = some (.tuple [.str u, t]) ∧ efS u ∧ Tc k' n1 c1 t ∧ TcB k a ca (bs.take j) ∧ TcB k b cb (bs.drop (j + 1)) ∧ n = a + n1 + b ∧ c = ca + c1 + cb := by
  obtain ⟨n1, c1, n2, c2, hA, hB, e1, e2⟩ := h.take j
  have hd : bs.drop j = bs[j] :: bs.drop (j + 1) := List.drop_eq_getElem_cons hj
  rw [hd] at hB
  have hb : bs[j]? = some bs[j] := List.getElem?_eq_getElem hj
  generalize bs[j] = x at hB hb
  cases hB with
  | @cons k n c n' c' N C u t r hu ht hr f1 f2 => exact ⟨k, u, t, n, c, n1, c1, n', c', rfl, hb, hu, ht, hA, hr, by omega, by omega⟩
/-- trees of at most one level below the root -/
def spT1 : Sp := fun vs H Q _ => ∃ (m c l : Addr) (cs ls : List Int) (n e : Int), vs = [.ref m, .int 2, .int e] ∧ (e = 0 ∨ e = 1) ∧ MAt H m c l cs ls n ∧ n + 52 ≤ 1000000000 ∧
  ∀ r d q H' l' ls' n', MAt H' m c l' cs ls' n' → n' ≤ n + 52 → Fs H m l H' l' → Dq (fr H' m l') r d → Tc 1 q 0 d → (q : Int) ≤ 2 → Q r H'
theorem t1_or {vs : List V} {H : Hp} {Q : VK} {E : XK} (h : spT1 vs H Q E) : spTr 0 vs H Q E ∨ spTr 1 vs H Q E := by
  obtain ⟨m, c, l, cs, ls, n, e, rfl, he, M, hn, k⟩ := h
  have d0 : dn 0 = 10 := by decide
  have d1 : dn 1 = 52 := by decide
  rcases he with rfl | rfl
  · exact .inl ⟨m, c, l, cs, ls, n, 2, rfl, M, by omega, by decide, by decide, fun r d q H' l' ls' n' M' nn s q' t hq => k r d q H' l' ls' n' M' (by omega) s q' t.mono hq⟩
  · exact .inr ⟨m, c, l, cs, ls, n, 2, rfl, M, by omega, by decide, by decide, fun r d q H' l' ls' n' M' nn s q' t hq => k r d q H' l' ls' n' M' (by omega) s q' t hq⟩
theorem dq_tup {H : Hp} {v : V} {ds : List PyData} (h : Dq H v (.tuple ds)) : ∃ p xs, v = .ref p ∧ H p = some (.tup xs) ∧ DqAll H xs ds := by
  cases h with
  | tup e a => exact ⟨_, _, rfl, e, a⟩
theorem dq_pair {H : Hp} {v : V} {a b : PyData} (h : Dq H v (.tuple [a, b])) : ∃ p va vb, v = .ref p ∧ H p = some (.tup [va, vb]) ∧ Dq H va a ∧ Dq H vb b := by
  obtain ⟨p, xs, rfl, e, a⟩ := dq_tup h
  cases a with
  | cons qa q =>
  cases q with
  | cons qb q =>
  cases q
  exact ⟨p, _, _, rfl, e, qa, qb⟩
theorem dq_node {H : Hp} {v : V} {A B : List PyData} (h : Dq H v (.tuple [.tuple A, .tuple B])) : ∃ p va pb xs, v = .ref p ∧ H p = some (.tup [va, .ref pb]) ∧ Dq H va (.tuple A) ∧ H pb = some (.tup xs) ∧ DqAll H xs B := by
  obtain ⟨p, va, vb, rfl, e, qa, qb⟩ := dq_pair h
  obtain ⟨pb, xs, rfl, e2, a⟩ := dq_tup qb
  exact ⟨p, va, pb, xs, rfl, e, qa, e2, a⟩
def lenAt (H : Hp) (p : Addr) : Nat := match H p with | some (.lst xs) => xs.length | _ => 0
theorem gw_put {H : Hp} {m l D : Addr} {xs ys : List V} (h : fr H m l D = some (.lst xs)) : ∀ b zs, fr H m l b = some (.tup zs) → fr (upd H D (.lst ys)) m l b = some (.tup zs) := fun b zs z => by
  obtain ⟨h1, h2, h3⟩ := fr_of z
  refine fr_some ?_ h1 h2
  rw [upd_ne fun y => by rw [y, h] at z; cases z]
  exact h3
/-- a drawn body -/
def spBy : Sp := fun vs H Q _ => ∃ (m c l : Addr) (cs ls : List Int) (n size : Int), vs = [.ref m, .int size] ∧ MAt H m c l cs ls n ∧ n + 700 ≤ 1000000000 ∧ 2 ≤ size ∧ size ≤ 1000 ∧
  ∀ r d q H' l' ls' n', MAt H' m c l' cs ls' n' → n' ≤ n + 700 → Fs H m l H' l' → Dq (fr H' m l') r d → Tp 3 q 1 d → (q : Int) ≤ size + 1 → Q r H'
abbrev nBy : List Str := ["m", "size", "tree", "spine", "call", "at", "word", "above"]
theorem drop_atV {es : List V} {j : Nat} {e : V} (h : es[j]? = some e) : es.drop j = e :: es.drop (j + 1) := by
  obtain ⟨h1, h2⟩ := List.getElem?_eq_some_iff.mp h
  rw [← h2, ← List.drop_eq_getElem_cons h1]
section
variable {P : Program} {w : World} {K : PySem.W.Frag} {mg : Str → Option Value} {base : Heap}
theorem scBy : FnScope nBy ["m", "size"] (defScope sBody) := ⟨rfl, rfl, rfl, by decide +kernel, rfl, by decide +kernel, by decide +kernel⟩
theorem ok_body {f fN fT : Addr} {fd dN dT : FuncData} (F : Fun K "_law_body" "_law_body" sBody f fd) (FN : Fun K "_law_next" "_law_next" sNext fN dN) (bN : Binds K dN ["m", "many"] []) (gN : mg "_law_next" = some (.ref fN))
    (FT : Fun K "_law_tree" "_law_tree" sTree fT dT) (bT : Binds K dT ["m", "size", "deep"] []) (gT : mg "_law_tree" = some (.ref fT)) (T : TxtB mg) (tT : mg "tuple" = none) : FnOk P w K mg base CX0 7 f fd ["m", "size"] spBy := by
  have GN : FnOk P w K mg base CX0 1 fN dN ["m", "many"] spNx := (ok_next FN T).imp fun _ _ _ _ => nx_of
  have GT : FnOk P w K mg base CX0 6 fT dT ["m", "size", "deep"] (spTr 3) := ok_tree FT bT gT FN bN gN T tT 3 (by decide)
  have GA : FnOk P w K mg base CX0 3 fT dT ["m", "size", "deep"] (spTr 0) := ok_tree FT bT gT FN bN gN T tT 0 (by decide)
  have GB : FnOk P w K mg base CX0 4 fT dT ["m", "size", "deep"] (spTr 1) := ok_tree FT bT gT FN bN gN T tT 1 (by decide)
  have G1 : FnOk P w K mg base CX0 4 fT dT ["m", "size", "deep"] spT1 := ⟨fun vs H Q E h => (t1_or h).elim (GA.len vs H Q E) (GB.len vs H Q E), fun A outer s H args us vs Q E hr he hb hv h => (t1_or h).elim (GA.run A outer s H args us vs Q E (hr.mono (by decide)) he hb hv) (GB.run A outer s H args us vs Q E hr he hb hv)⟩
  have bi : bootBuiltins ("int" : Str) = some (.type "int") := by decide +kernel
  refine F.ok (k := 6) scBy (fun vs H Q E h => ?_) (fun cdv A outer s H vs Q E hr h => ?_)
  · obtain ⟨m, c, l, cs, ls, n, size, rfl, _⟩ := h
    rfl
  · obtain ⟨m, c, l, cs, ls, n, size, rfl, M, hn, sz2, sz9, kk⟩ := h
    have hu1 : (A.deeper (PyProof.Rows.envOfC "_law_body" (defScope sBody) s.heap.objs.size f cdv)).units < cLine := by have := hr.un; omega
    refine ⟨_, pss_cons (ps_set (i := 2) scBy.nd rfl (Or.inl rfl) (pe_call GT hr (by rfl) gT FT.kp bT .nil pass0 (pa_cons (pv 0) (pa_cons (pe_op op_sub (pv 1) pe_int) (pa_cons pe_int pa_nil)))))
      (pss_cons (ps_par rfl scBy.nd (i := 3) (j := 4) rfl rfl (by decide) rfl rfl (pa_cons (pe_lst pa_nil) (pa_cons (pe_op op_catF (pe_call G1 (hr.mono (by decide)) (by rfl) gT FT.kp bT .nil pass0 (pa_cons (pv 0) (pa_cons pe_int (pa_cons (pe_callTy call_int1 (by rfl) T.int bi (pa_cons (pe_cmpR op_eq (pe_call GN (hr.mono (by decide)) (by rfl) gN FN.kp bN .nil pass0 (pa_cons (pv 0) (pa_cons pe_int pa_nil))) pe_int (by rfl)) pa_nil)) pa_nil))))
          (pe_tup (pa_cons pe_str pa_nil))) pa_nil)) rfl)
      (pss_cons (ps_while PassesOwn.never (PW.pt (pw_and (pt_cmpR (NI.op_neNilT hu1) (pe_ix ix_tup (pv 2) pe_int (fun _ _ => rfl)) (pe_tup pa_nil) (by rfl)) (pw_and (pt_cmpR op_lt (pe_callB call_len_seq (by rfl) T.len PySem.boot_len (pa_cons (pv 3) pa_nil)) (pe_ifExp (pt_cmpR (NI.op_eqNilT hu1) (pe_ix ix_tup (pv 4) pe_int (fun _ _ => rfl)) (pe_tup pa_nil) (by rfl)) pe_int pe_int) (by rfl))
          (pw_and1 (pt_cmpR op_gt (pe_call GN (hr.mono (by decide)) (by rfl) gN FN.kp bN .nil pass0 (pa_cons (pv 0) (pa_cons pe_int pa_nil))) pe_int (by rfl))))))
        (pss_cons (ps_set (i := 5) scBy.nd rfl (Or.inl rfl) (pe_call GN (hr.mono (by decide)) (by rfl) gN FN.kp bN .nil pass0 (pa_cons (pv 0) (pa_cons (pe_callB call_len_seq (by rfl) T.len PySem.boot_len (pa_cons (pe_ix ix_tup (pv 2) pe_int (fun _ _ => rfl)) pa_nil)) pa_nil))))
        (pss_cons (ps_expr (pe_bm PySem.F.plainAttrs_list PySem.F.slot_list_append PySem.F.type_list_append mt_append (pv 3) (pa_cons (pe_tup (pa_cons (pv 2) (pa_cons (pv 5) pa_nil))) pa_nil)))
        (pss_one (ps_set (i := 2) scBy.nd rfl (Or.inl rfl) (pe_ix ix_tup (pe_ix ix_tup (pe_ix ix_tup (pv 2) pe_int (fun _ _ => rfl)) (pv 5) (fun _ _ => rfl)) pe_int (fun _ _ => rfl)))))))
      (pss_cons (ps_set (i := 6) scBy.nd rfl (Or.inl rfl) (pe_ix ix_list (pe_lst (pa_cons pe_str (pa_cons pe_str pa_nil))) (pe_callTy call_int1 (by rfl) T.int bi (pa_cons (pe_cmpR op_eq (pe_call GN (hr.mono (by decide)) (by rfl) gN FN.kp bN .nil pass0 (pa_cons (pv 0) (pa_cons pe_int pa_nil))) pe_int (by rfl)) pa_nil)) (fun _ _ => rfl)))
      (pss_cons (ps_set (i := 2) scBy.nd rfl (Or.inl rfl) (pe_tup (pa_cons (pe_ix ix_tup (pv 2) pe_int (fun _ _ => rfl)) (pa_cons (pe_op op_catF (pe_slice sl_tupF (pe_ix ix_tup (pv 2) pe_int (fun _ _ => rfl)) po_none (po_some pe_int)) (pe_tup (pa_cons (pe_tup (pa_cons (pv 6) (pa_cons (pv 4) pa_nil))) pa_nil))) pa_nil))))
      (pss_cons (ps_for PassesOwn.never rfl (pi_list (pe_revL (pv 3))) (pg_tup (n := 2) rfl (pgs_cons (pg_name (i := 7) scBy.nd rfl (Or.inl rfl)) (pgs_cons (pg_name (i := 5) scBy.nd rfl (Or.inl rfl)) pgs_nil)))
        (pss_one (ps_set (i := 2) scBy.nd rfl (Or.inl rfl) (pe_tup (pa_cons (pe_ix ix_tup (pv 7) pe_int (fun _ _ => rfl)) (pa_cons (pe_op op_catF (pe_op op_catF (pe_slice sl_tupF (pe_ix ix_tup (pv 7) pe_int (fun _ _ => rfl)) po_none (po_some (pv 5)))
            (pe_tup (pa_cons (pe_tup (pa_cons (pe_ix ix_tup (pe_ix ix_tup (pe_ix ix_tup (pv 7) pe_int (fun _ _ => rfl)) (pv 5) (fun _ _ => rfl)) pe_int (fun _ _ => rfl)) (pa_cons (pv 2) pa_nil))) pa_nil))) (pe_slice sl_tupF (pe_ix ix_tup (pv 7) pe_int (fun _ _ => rfl)) (po_some (pe_op op_add (pv 5) pe_int)) po_none)) pa_nil))))))
      (pss_one (ps_ret (pv 2)))))))), ?_⟩
    have d3 : dn 3 = 556 := by decide
    refine ⟨_, rfl, _, rfl, _, _, rfl, rfl, m, c, l, cs, ls, n, size - 1, rfl, M, by omega, by omega, by omega, fun vt dt nt H1 l1 ls1 n1 M1 nn1 s1 q1 t1 ht1 => ?_⟩
    refine ⟨Nat.zero_le _, fun sp nsp => ?_⟩
    have G1 : Gw m c l1 cs ls1 n1 H1 H1 := ⟨M1, .refl⟩
    obtain ⟨G2, u2, e2⟩ := G1.new (o := .lst []) nsp
    have q2 := q1.same u2
    have sp0 : H sp = none := s1.2 _ nsp
    have F2 := s1.trans G2.sm
    generalize upd H1 sp (HO.lst []) = H2 at G2 u2 e2 q2 F2
    have M2 := G2.mat
    clear G1 G2 u2 q1 s1 nsp
    refine ⟨_, rfl, _, rfl, m, c, l1, 4, cs, ls1, n1, rfl, M2, by decide, by decide, by omega, fun rb H3 l3 ls3 n3 rb0 rb1 M3 nn3 s3 => ⟨rfl, .inr ⟨_, rfl, ?_⟩⟩⟩
    refine ⟨m, c, l3, cs, ls3, n3, _, rfl, by split <;> simp, M3, by omega, fun vc0 dc0 nc H4 l4 ls4 n4 M4 nn4 s4 q4 t4 hc4 => ?_⟩
    refine ⟨by show 1 ≤ sizeLine; decide, fun pk npk => ?_⟩
    obtain ⟨msC, bsC, nbC, rfl, hmC, lbC, tbC, enC⟩ := t4.tp
    obtain ⟨pc, xc, rfl, ec, ac⟩ := dq_tup q4
    have G4 : Gw m c l4 cs ls4 n4 H4 H4 := ⟨M4, .refl⟩
    obtain ⟨G5, u5, e5⟩ := G4.new (o := .tup [.str "call"]) npk
    refine ⟨pc, pk, _, _, rfl, rfl, (fr_of (u5 _ _ ec)).2.2, upd_same, by rw [ac.len]; show 2 + 1 ≤ sizeLine; decide, fun vcA H6 s6 e6 => ⟨_, _, rfl, ?_⟩⟩
    obtain ⟨G6, u6⟩ := G5.grow s6
    have dcall : Dq (fr H6 m l4) (.ref vcA) (.tuple (.tuple (msC.map PyData.str) :: .tuple bsC :: [.str "call"])) :=
      .tup (G6.tupAt e6) (((ac.same u5).same u6).app (.cons (.str _ ⟨by decide +kernel, by decide +kernel⟩) .nil))
    have tcall : ∀ k, (bsC = [] ∨ 1 ≤ k) → Tc k nc 1 (.tuple (.tuple (msC.map PyData.str) :: .tuple bsC :: [.str "call"])) := fun k hk => by
      have zero : bsC = [] → Tc 0 nc 1 (.tuple (.tuple (msC.map PyData.str) :: .tuple bsC :: [.str "call"])) := fun z => by
        subst z
        cases tbC
        exact .mk hmC (Nat.zero_le _) (.inr ⟨rfl, rfl⟩) .nil enC rfl
      have one : Tc 1 nc 1 (.tuple (.tuple (msC.map PyData.str) :: .tuple bsC :: [.str "call"])) := .mk hmC lbC (.inr ⟨rfl, rfl⟩) tbC enC rfl
      have up : ∀ {a b d : _} (j : Nat), Tc a b 1 d → Tc (a + j) b 1 d := fun j h => by
        induction j with
        | zero => exact h
        | succ j ih => exact ih.mono
      rcases hk with z | z
      · have := up k (zero z)
        rwa [Nat.zero_add] at this
      · have := up (k - 1) one
        rwa [show 1 + (k - 1) = k by omega] at this
    have F6 : Fs H m l H6 l4 := F2.trans (s3.trans (s4.trans (G5.sm.trans (.new s6 u6))))
    have e6s : fr H6 m l4 sp = some (.lst []) := u6 _ _ (u5 _ _ (s4.1 _ _ (s3.1 _ _ e2)))
    have q6 : Dq (fr H6 m l4) vt dt := ((((q2.same s3.1).same s4.1).same u5).same u6)
    have spm : sp ≠ m := (ne_of_none M.hm sp0).symm
    have spc : sp ≠ c := (ne_of_none M.hc sp0).symm
    obtain ⟨dC, hdC⟩ : ∃ dC, dC = PyData.tuple (.tuple (msC.map PyData.str) :: .tuple bsC :: [.str "call"]) := ⟨_, rfl⟩
    rw [← hdC] at dcall
    have tcall' := tcall
    rw [← hdC] at tcall'
    have M6 := G6.mat
    have n4' : n4 ≤ n + 609 := by omega
    clear tcall G4 G5 G6 u5 u6 s6 e6 e5 ac ec M4 q4 t4 s4 s3 M3 e2 q2 F2 M2
    let lim : Nat := if bsC = [] then 2 else 1
    refine while_by (fun σ' H' => ∃ (vt : V) (dt : PyData) (k o nt : Nat) (es : List V) (l' : Addr) (ls' : List Int) (n' : Int) (w5 : Option V), σ' = [some (V.ref m), some (V.int size), some vt, some (V.ref sp), some (V.ref vcA), w5, none, none] ∧
        Dl H m c l cs n (609 + 2 * (es.length : Int)) sp es H' l' ls' n' ∧ Dq (fr H' m l') vt dt ∧ Tp k nt 0 dt ∧ Spn (fr H' m l') es k o ∧ es.length + k = 3 ∧ (o : Int) + nt ≤ size - 1 ∧ Dq (fr H' m l') (.ref vcA) dC ∧ es.length ≤ lim)
      (fun _ H' => 3 - lenAt H' sp) ⟨vt, dt, 3, 0, nt, [], l4, ls4, n4, _, rfl, ⟨M6, by rw [List.length_nil]; omega, F6, e6s⟩, q6, t1.tp, .nil, rfl, by omega, dcall, Nat.zero_le _⟩ ?_ ?_
    · rintro σ' H' ⟨vt, dt, k, o, nt, es, l', ls', n', w5, rfl, d, qt, tp, spn, ek, osz, qc, elim⟩
      have lim2 : lim ≤ 2 := by show (if bsC = [] then 2 else 1) ≤ 2; split <;> decide
      have dle := d.le
      obtain ⟨ms, bs, nb, rfl, hms, lb, tb, en⟩ := tp
      obtain ⟨pt, va, pb, xb, rfl, ept, qa, epb, ab⟩ := dq_node qt
      refine ⟨_, rfl, pt, _, 1, .ref pb, rfl, rfl, SqT.of (fr_of ept).2.2, atI_nat (j := 1) rfl, Nat.zero_le _, fun p np => ⟨pb, p, xb, rfl, rfl, SqT.of (same_new np _ _ (fr_of epb).2.2), SqT.of upd_same, _, rfl, ?_⟩⟩
      have Gx : Gw m c l' cs ls' n' H' H' := ⟨d.mat, .refl⟩
      obtain ⟨Gy, ty, _⟩ := Gx.new (o := .tup []) np
      have d1 : Dl H m c l cs n (609 + 2 * (es.length : Int)) sp es (upd H' p (.tup [])) l' ls' n' := d.next Gy.mat (j := 0) (by omega) Gy.sm (by omega)
      have ept1 := ty _ _ ept
      have epb1 := ty _ _ epb
      have ab1 := ab.same ty
      have qa1 := qa.same ty
      have spn1 := spn.same ty
      have qc1 := qc.same ty
      generalize upd H' p (HO.tup []) = H1 at d1 ept1 epb1 ab1 qa1 spn1 qc1
      clear Gx Gy ty np
      by_cases hx : xb = []
      · rw [show (not xb.isEmpty) = false by rw [hx]; rfl]
        refine iteF ?_
        have dE : Dl H m c l cs n (610 + 2 * (es.length : Int)) sp es H1 l' ls' n' := d1.next d1.mat (j := 0) (by omega) .refl (by omega)
        have eptE := ept1
        have epbE := epb1
        have abE := ab1
        have qaE := qa1
        have spnE := spn1
        have qcE := qc1
        have dleE := dE.le
        refine ⟨by show 2 ≤ sizeLine; decide, fun pl npl => ?_⟩
        have GE : Gw m c _ cs _ _ _ _ := ⟨dE.mat, .refl⟩
        obtain ⟨GF, tF, eF⟩ := GE.new (o := .lst [.str "e", .str "f"]) npl
        refine ⟨_, rfl, m, c, _, 4, cs, _, _, rfl, GF.mat, by decide, by decide, by omega, fun r9 H9 l9 ls9 n9 r90 r91 M9 nn9 s9 => ⟨rfl, .inr ⟨_, rfl, ?_⟩⟩⟩
        have hx : ∃ u : Str, atI [V.str "e", V.str "f"] (if decide (V.int r9 = V.int 0) = true then 1 else 0) = some (V.str u) ∧ efS u := by
          cases decide (V.int r9 = V.int 0) with
          | true => exact ⟨"f", atI_nat (j := 1) rfl, .inr rfl⟩
          | false => exact ⟨"e", atI_nat (j := 0) rfl, .inl rfl⟩
        obtain ⟨u, hu, hfu⟩ := hx
        have hsu := ef_sm hfu
        have sA := same_trans tF s9.1
        have F9 : Fs H m l H9 l9 := dE.sm.trans (GF.sm.trans s9)
        have ept9 := sA _ _ eptE
        have epb9 := sA _ _ epbE
        refine ⟨pl, _, _, .str u, rfl, rfl, SqL.of (fr_of (s9.1 _ _ eF)).2.2, hu, ?_⟩
        refine ⟨_, rfl, pt, _, 0, va, rfl, rfl, SqT.of (fr_of ept9).2.2, atI_nat (j := 0) rfl, _, rfl, pt, _, 1, .ref pb, rfl, rfl, SqT.of (fr_of ept9).2.2, atI_nat (j := 1) rfl, 2, rfl, pb, xb, rfl, (fr_of epb9).2.2, fun p1 Ha sa ea => ?_⟩
        rw [show (2 : Int) = ((2 : Nat) : Int) from rfl, cut_to] at ea
        have G9 : Gw m c l9 cs ls9 n9 H9 H9 := ⟨M9, .refl⟩
        obtain ⟨Ga, ta⟩ := G9.grow sa
        have ea' := Ga.tupAt ea
        refine ⟨_, rfl, _, rfl, by show 2 ≤ sizeLine; decide, fun p2 np2 => ⟨by show 1 ≤ sizeLine; decide, fun p3 np3 => ?_⟩⟩
        obtain ⟨Gb, tb2, eb2⟩ := Ga.new (o := .tup [.str u, .ref vcA]) np2
        obtain ⟨Gc, tc3, ec3⟩ := Gb.new (o := .tup [.ref p2]) np3
        refine ⟨p1, p3, _, _, rfl, rfl, (fr_of (tc3 _ _ (tb2 _ _ ea'))).2.2, upd_same, by rw [List.length_take]; exact Nat.le_trans (Nat.add_le_add_right (Nat.min_le_left _ _) _) (show 2 + 1 ≤ sizeLine by decide), fun p4 Hb sb eb => ⟨by show 2 ≤ sizeLine; decide, fun p5 np5 => ?_⟩⟩
        obtain ⟨Gd, td⟩ := Gc.grow sb
        obtain ⟨Gf, tf, ef⟩ := Gd.new (o := .tup [va, .ref p4]) np5
        have c9 : Same (fr H9 m l9) (fr (upd Hb p5 (.tup [va, .ref p4])) m l9) := same_trans ta (same_trans tb2 (same_trans tc3 (same_trans td tf)))
        have cE := same_trans sA c9
        have e4f := tf _ _ (Gd.tupAt eb)
        have e2f := tf _ _ (td _ _ (tc3 _ _ eb2))
        obtain ⟨n1, c1, n2, c2, tB1, tB2, eN, eC⟩ := tb.take 2
        obtain ⟨k', rfl⟩ : ∃ k', k = k' + 1 := ⟨k - 1, by omega⟩
        have tcl : Tc k' nc 1 dC := tcall' k' (by
          by_cases z : bsC = []
          · exact .inl z
          · have e1 : lim = 1 := if_neg z
            exact .inr (by omega))
        have dNew : Dq (fr (upd Hb p5 (.tup [va, .ref p4])) m l9) (.ref p5) (.tuple [.tuple (ms.map PyData.str), .tuple (bs.take 2 ++ [.tuple [.str u, dC]])]) :=
          .tup ef (.cons (qaE.same cE) (.cons (.tup e4f (((abE.take 2).same cE).app (.cons (.tup e2f (.cons (.str u ⟨by rw [hsu.2]; decide, hsu.1⟩) (.cons (qcE.same cE) .nil))) .nil))) .nil))
        have tNew : Tp (k' + 1) (n1 + nc + 1) 1 (.tuple [.tuple (ms.map PyData.str), .tuple (bs.take 2 ++ [.tuple [.str u, dC]])]) :=
          ⟨ms, _, n1 + nc, rfl, hms, by rw [List.length_append, List.length_take]; show _ + 1 ≤ 3; omega, by
            have z := tB1.app (.cons hfu tcl .nil rfl rfl)
            rw [show c1 + (1 + 0) = 1 by omega] at z
            exact z, rfl⟩
        have spn9 := spnE.same cE
        have sp9 := cE _ _ dE.dd
        have FL : Fs H m l (upd Hb p5 (.tup [va, .ref p4])) l9 := F9.trans (Ga.sm.trans ⟨same_trans tb2 (same_trans tc3 (same_trans td tf)), fun b z => same_out (same_trans (same_new np2) (same_trans (same_new np3) (same_trans sb (same_new np5)))) z⟩)
        have ML := Gf.mat
        have szN : (o : Int) + ((n1 + nc + 1 : Nat) : Int) ≤ size + 1 := by omega
        generalize PyData.tuple [.tuple (ms.map PyData.str), .tuple (bs.take 2 ++ [.tuple [.str u, dC]])] = dtN at dNew tNew
        generalize upd Hb p5 (HO.tup [va, .ref p4]) = HL0 at dNew spn9 sp9 FL ML
        refine ⟨_, rfl, sp, es, rfl, SqL.of (fr_of sp9).2.2, fun pr npr => ?_⟩
        have GL0 : Gw m c l9 cs ls9 n9 HL0 HL0 := ⟨ML, .refl⟩
        obtain ⟨GL, tL, eL⟩ := GL0.new (o := .lst es.reverse) npr
        have FL2 := FL.trans GL.sm
        have MLL := GL.mat
        generalize upd HL0 pr (HO.lst es.reverse) = HL at GL tL eL FL2 MLL
        refine ⟨pr, rfl, ⟨_, SqL.of (fr_of eL).2.2⟩, for_list (xs := es.reverse) (fun i σ' H' => ∃ (es' : List V) (k o nt : Nat) (vt : V) (dt : PyData) (w5 w7 : Option V), es.reverse.drop i = es'.reverse ∧ σ' = [some (V.ref m), some (V.int size), some vt, some (V.ref sp), some (V.ref vcA), w5, some (V.str u), w7] ∧
            Gw m c l9 cs ls9 n9 HL H' ∧ Dq (fr H' m l9) vt dt ∧ Tp k nt 1 dt ∧ Spn (fr H' m l9) es' k o ∧ es'.length + k = 3 ∧ (o : Int) + nt ≤ size + 1)
          ⟨es, k' + 1, o, n1 + nc + 1, .ref p5, dtN, _, _, rfl, rfl, ⟨MLL, .refl⟩, dNew.same tL, tNew, spn9.same tL, ek, szN⟩ (fun i σ H _ ⟨_, _, _, _, _, _, _, _, _, _, G, _⟩ => SqL.of (fr_of (G.sm.1 _ _ eL)).2.2) ?_ ?_⟩
        · rintro i x σ' H' hix ⟨es', k, o, nt, vt, dt, w5, w7, hdr, rfl, G, qt, tp, spn, ek, osz⟩
          cases spn with
          | nil =>
            rw [List.reverse_nil] at hdr
            have := List.drop_eq_nil_iff.mp hdr
            have := (List.getElem?_eq_some_iff.mp hix).1
            omega
          | @snoc es0 _ o0 a b _ e v j ms bs uu tt sp0 h1 h2 h2t h3 h4 h5 h6 h7 h8 h9 =>
          have hx : x = V.ref e ∧ es.reverse.drop (i + 1) = es0.reverse := by
            rw [List.reverse_append, List.reverse_singleton, List.singleton_append, drop_atV hix] at hdr
            exact List.cons.inj hdr
          obtain ⟨rfl, hdr'⟩ := hx
          obtain ⟨pt, va, pb, xb, rfl, ept, qa, epb, ab⟩ := dq_node h2
          obtain ⟨vj, hvj, qj⟩ := ab.at h5
          obtain ⟨pj, vu, vtt, rfl, epj, qu, qtt⟩ := dq_pair qj
          have lx : xb.length ≤ 3 := by rw [ab.len]; exact h4
          refine ⟨e, _, rfl, SqT.of (fr_of h1).2.2, rfl, _, _, rfl, _, _, rfl, rfl, ?_⟩
          have ixA : ∀ {H5 : Hp}, Same H' H5 → SqT K H5 pt [va, .ref pb] := fun s => SqT.of (s _ _ (fr_of ept).2.2)
          refine ⟨_, rfl, pt, _, 0, va, rfl, rfl, SqT.of (fr_of ept).2.2, atI_nat (j := 0) rfl, _, rfl, pt, _, 1, .ref pb, rfl, rfl, SqT.of (fr_of ept).2.2, atI_nat (j := 1) rfl, _, rfl, j, rfl, pb, xb, rfl, (fr_of epb).2.2, fun p1 H5 s5 e5 => ?_⟩
          rw [cut_to] at e5
          obtain ⟨G5, t5⟩ := G.grow s5
          refine ⟨_, rfl, pt, _, 1, .ref pb, rfl, rfl, SqT.of (fr_of (t5 _ _ ept)).2.2, atI_nat (j := 1) rfl, _, rfl, pb, xb, (j : Int), .ref pj, rfl, rfl, SqT.of (fr_of (t5 _ _ epb)).2.2, atI_nat hvj, pj, _, 0, vu, rfl, rfl, SqT.of (fr_of (t5 _ _ epj)).2.2, atI_nat (j := 0) rfl, _, rfl, by show 2 ≤ sizeLine; decide, fun p2 np2 => ⟨by show 1 ≤ sizeLine; decide, fun p3 np3 => ?_⟩⟩
          obtain ⟨G6, t6, e6⟩ := G5.new (o := .tup [vu, vt]) np2
          obtain ⟨G7, t7, e7⟩ := G6.new (o := .tup [.ref p2]) np3
          refine ⟨p1, p3, _, _, rfl, rfl, (fr_of (t7 _ _ (t6 _ _ (G5.tupAt e5)))).2.2, upd_same, by rw [List.length_take]; exact Nat.le_trans (show min j xb.length + 1 ≤ 4 by omega) (by decide), fun p4 H8 s8 e8 => ?_⟩
          obtain ⟨G8, t8⟩ := G7.grow s8
          have t48 := same_trans t5 (same_trans t6 (same_trans t7 t8))
          refine ⟨_, rfl, pt, _, 1, .ref pb, rfl, rfl, SqT.of (fr_of (t48 _ _ ept)).2.2, atI_nat (j := 1) rfl, _, rfl, _, _, rfl, rfl, _, rfl, pb, xb, rfl, (fr_of (t48 _ _ epb)).2.2, fun p5 H9 s9 e9 => ?_⟩
          rw [show ((j : Int) + 1) = ((j + 1 : Nat) : Int) by omega, cut_from] at e9
          obtain ⟨G9, t9⟩ := G8.grow s9
          refine ⟨p4, p5, _, _, rfl, rfl, s9 _ _ e8, e9, by rw [List.length_append, List.length_take, List.length_drop]; exact Nat.le_trans (show min j xb.length + 1 + (xb.length - (j + 1)) ≤ 7 by omega) (by decide), fun p6 Ha sa ea => ⟨by show 2 ≤ sizeLine; decide, fun p7 np7 => ?_⟩⟩
          obtain ⟨Ga, ta⟩ := G9.grow sa
          obtain ⟨Gb, tb, eb⟩ := Ga.new (o := .tup [va, .ref p6]) np7
          have tab := same_trans t9 (same_trans ta tb)
          have tall := same_trans t48 tab
          have e2f := (same_trans t7 (same_trans t8 tab)) _ _ e6
          have dN : Dq (fr (upd Ha p7 (.tup [va, .ref p6])) m l9) (.ref p7) (.tuple [.tuple (ms.map PyData.str), .tuple (bs.take j ++ [.tuple [.str uu, dt]] ++ bs.drop (j + 1))]) :=
            .tup eb (.cons (qa.same tall) (.cons (.tup (tb _ _ (Ga.tupAt ea)) (((((ab.take j).same tall).app (.cons (.tup e2f (.cons (qu.same tall) (.cons (qt.same tall) .nil))) .nil)).app ((ab.drop (j + 1)).same tall)))) .nil))
          refine ⟨es0, k + 1, o0, _, .ref p7, _, _, _, hdr', rfl, Gb, dN, ⟨ms, _, a + nt + b, rfl, h3, ?_, ?_, rfl⟩, sp0.same tall, ?_, ?_⟩
          · have hj := (List.getElem?_eq_some_iff.mp h5).1
            rw [List.length_append, List.length_append, List.length_take, List.length_drop]
            show _ + 1 + _ ≤ 3
            omega
          · have z := (h7.app (.cons h6 tp.tc .nil rfl rfl)).app h8
            rw [show 0 + (1 + 0) + 0 = 1 by omega, show a + (nt + 0) + b = a + nt + b by omega] at z
            exact z
          · rw [List.length_append, List.length_singleton] at ek
            omega
          · omega
        · rintro σ' H' ⟨es', k, o, nt, vt, dt, w5, w7, hdr, rfl, G, qt, tp, spn, ek, osz⟩
          rw [List.drop_length] at hdr
          obtain rfl : es' = [] := List.reverse_eq_nil_iff.mp hdr.symm
          obtain rfl : k = 3 := by simpa using ek
          exact ⟨_, rfl, kk vt dt nt H' l9 ls9 n9 G.mat (by omega) (FL2.trans G.sm) qt tp (by omega)⟩
      have xpos : 0 < xb.length := List.length_pos_iff.mpr hx
      rw [show (not xb.isEmpty) = true by cases xb with | nil => exact absurd rfl hx | cons _ _ => rfl]
      rw [hdC] at qc1
      obtain ⟨vcA', xc, evc, ec, ac⟩ := dq_tup qc1
      obtain rfl : vcA = vcA' := V.ref.inj evc
      have hc1 : ∃ cb xcb, xc[1]? = some (.ref cb) ∧ fr H1 m l' cb = some (.tup xcb) ∧ (xcb = [] ↔ bsC = []) := by
        obtain ⟨u, hu, qu⟩ := ac.at (i := 1) rfl
        obtain ⟨cb, xcb, rfl, e, a⟩ := dq_tup qu
        refine ⟨cb, xcb, hu, e, ?_⟩
        constructor
        · intro z
          have := a.len
          rw [z] at this
          exact List.length_eq_zero_iff.mp this.symm
        · intro z
          have := a.len
          rw [z] at this
          exact List.length_eq_zero_iff.mp this
      obtain ⟨cb, xcb, hcb, ecb, iffC⟩ := hc1
      rw [← hdC] at qc1
      refine iteT ⟨_, rfl, sp, es, rfl, .inl (SqL.of (fr_of d1.dd).2.2), _, rfl, vcA, xc, 1, .ref cb, rfl, rfl, SqT.of (fr_of ec).2.2, atI_nat (j := 1) hcb, Nat.zero_le _, fun p np => ⟨cb, p, xcb, rfl, rfl, SqT.of (same_new np _ _ (fr_of ecb).2.2), SqT.of upd_same, _, rfl, ?_⟩⟩
      have Gx : Gw m c l' cs ls' n' H1 H1 := ⟨d1.mat, .refl⟩
      obtain ⟨Gy, ty, _⟩ := Gx.new (o := .tup []) np
      have d2 : Dl H m c l cs n (609 + 2 * (es.length : Int)) sp es (upd H1 p (.tup [])) l' ls' n' := d1.next Gy.mat (j := 0) (by omega) Gy.sm (by omega)
      have ept2 := ty _ _ ept1
      have epb2 := ty _ _ epb1
      have ab2 := ab1.same ty
      have qa2 := qa1.same ty
      have spn2 := spn1.same ty
      have qc2 := qc1.same ty
      generalize upd H1 p (HO.tup []) = H2 at d2 ept2 epb2 ab2 qa2 spn2 qc2
      clear Gx Gy ty np d1 ept1 epb1 ab1 qa1 spn1 qc1 ec ac ecb hcb evc
      have hl : (if xcb = [] then (2 : Int) else 1) = (lim : Int) := by
        show _ = (((if bsC = [] then 2 else 1 : Nat)) : Int)
        by_cases z : xcb = []
        · rw [if_pos z, if_pos (iffC.mp z)]
          rfl
        · rw [if_neg z, if_neg fun y => z (iffC.mpr y)]
          rfl
      have test2 : ∀ {A B : Prop}, (decide ((es.length : Int) < (lim : Int)) = true → A) → (decide ((es.length : Int) < (lim : Int)) = false → B) → if decide ((es.length : Int) < (lim : Int)) = true then A else B := fun a b => by
        cases hd : decide ((es.length : Int) < (lim : Int)) with
        | true => exact iteT (a hd)
        | false => exact iteF (b hd)
      have pick : ∀ {σ : L2.St} {H : Hp} {Q : VK}, Q (V.int (lim : Int)) H → (if id xcb.isEmpty = true then tC (V.int 2) σ H Q else tC (V.int 1) σ H Q) := fun {σ H Q} h => by
        rw [← hl] at h
        cases xcb with
        | nil => exact iteT h
        | cons a b => exact iteF h
      refine pick ⟨_, _, rfl, rfl, _, rfl, ?_⟩
      refine test2 (fun hd => ?_) (fun hd => ?_)
      rotate_left
      · have dE : Dl H m c l cs n (610 + 2 * (es.length : Int)) sp es H2 l' ls' n' := d2.next d2.mat (j := 0) (by omega) .refl (by omega)
        have eptE := ept2
        have epbE := epb2
        have abE := ab2
        have qaE := qa2
        have spnE := spn2
        have qcE := qc2
        have dleE := dE.le
        refine ⟨by show 2 ≤ sizeLine; decide, fun pl npl => ?_⟩
        have GE : Gw m c _ cs _ _ _ _ := ⟨dE.mat, .refl⟩
        obtain ⟨GF, tF, eF⟩ := GE.new (o := .lst [.str "e", .str "f"]) npl
        refine ⟨_, rfl, m, c, _, 4, cs, _, _, rfl, GF.mat, by decide, by decide, by omega, fun r9 H9 l9 ls9 n9 r90 r91 M9 nn9 s9 => ⟨rfl, .inr ⟨_, rfl, ?_⟩⟩⟩
        have hx : ∃ u : Str, atI [V.str "e", V.str "f"] (if decide (V.int r9 = V.int 0) = true then 1 else 0) = some (V.str u) ∧ efS u := by
          cases decide (V.int r9 = V.int 0) with
          | true => exact ⟨"f", atI_nat (j := 1) rfl, .inr rfl⟩
          | false => exact ⟨"e", atI_nat (j := 0) rfl, .inl rfl⟩
        obtain ⟨u, hu, hfu⟩ := hx
        have hsu := ef_sm hfu
        have sA := same_trans tF s9.1
        have F9 : Fs H m l H9 l9 := dE.sm.trans (GF.sm.trans s9)
        have ept9 := sA _ _ eptE
        have epb9 := sA _ _ epbE
        refine ⟨pl, _, _, .str u, rfl, rfl, SqL.of (fr_of (s9.1 _ _ eF)).2.2, hu, ?_⟩
        refine ⟨_, rfl, pt, _, 0, va, rfl, rfl, SqT.of (fr_of ept9).2.2, atI_nat (j := 0) rfl, _, rfl, pt, _, 1, .ref pb, rfl, rfl, SqT.of (fr_of ept9).2.2, atI_nat (j := 1) rfl, 2, rfl, pb, xb, rfl, (fr_of epb9).2.2, fun p1 Ha sa ea => ?_⟩
        rw [show (2 : Int) = ((2 : Nat) : Int) from rfl, cut_to] at ea
        have G9 : Gw m c l9 cs ls9 n9 H9 H9 := ⟨M9, .refl⟩
        obtain ⟨Ga, ta⟩ := G9.grow sa
        have ea' := Ga.tupAt ea
        refine ⟨_, rfl, _, rfl, by show 2 ≤ sizeLine; decide, fun p2 np2 => ⟨by show 1 ≤ sizeLine; decide, fun p3 np3 => ?_⟩⟩
        obtain ⟨Gb, tb2, eb2⟩ := Ga.new (o := .tup [.str u, .ref vcA]) np2
        obtain ⟨Gc, tc3, ec3⟩ := Gb.new (o := .tup [.ref p2]) np3
        refine ⟨p1, p3, _, _, rfl, rfl, (fr_of (tc3 _ _ (tb2 _ _ ea'))).2.2, upd_same, by rw [List.length_take]; exact Nat.le_trans (Nat.add_le_add_right (Nat.min_le_left _ _) _) (show 2 + 1 ≤ sizeLine by decide), fun p4 Hb sb eb => ⟨by show 2 ≤ sizeLine; decide, fun p5 np5 => ?_⟩⟩
        obtain ⟨Gd, td⟩ := Gc.grow sb
        obtain ⟨Gf, tf, ef⟩ := Gd.new (o := .tup [va, .ref p4]) np5
        have c9 : Same (fr H9 m l9) (fr (upd Hb p5 (.tup [va, .ref p4])) m l9) := same_trans ta (same_trans tb2 (same_trans tc3 (same_trans td tf)))
        have cE := same_trans sA c9
        have e4f := tf _ _ (Gd.tupAt eb)
        have e2f := tf _ _ (td _ _ (tc3 _ _ eb2))
        obtain ⟨n1, c1, n2, c2, tB1, tB2, eN, eC⟩ := tb.take 2
        obtain ⟨k', rfl⟩ : ∃ k', k = k' + 1 := ⟨k - 1, by omega⟩
        have tcl : Tc k' nc 1 dC := tcall' k' (by
          by_cases z : bsC = []
          · exact .inl z
          · have e1 : lim = 1 := if_neg z
            exact .inr (by omega))
        have dNew : Dq (fr (upd Hb p5 (.tup [va, .ref p4])) m l9) (.ref p5) (.tuple [.tuple (ms.map PyData.str), .tuple (bs.take 2 ++ [.tuple [.str u, dC]])]) :=
          .tup ef (.cons (qaE.same cE) (.cons (.tup e4f (((abE.take 2).same cE).app (.cons (.tup e2f (.cons (.str u ⟨by rw [hsu.2]; decide, hsu.1⟩) (.cons (qcE.same cE) .nil))) .nil))) .nil))
        have tNew : Tp (k' + 1) (n1 + nc + 1) 1 (.tuple [.tuple (ms.map PyData.str), .tuple (bs.take 2 ++ [.tuple [.str u, dC]])]) :=
          ⟨ms, _, n1 + nc, rfl, hms, by rw [List.length_append, List.length_take]; show _ + 1 ≤ 3; omega, by
            have z := tB1.app (.cons hfu tcl .nil rfl rfl)
            rw [show c1 + (1 + 0) = 1 by omega] at z
            exact z, rfl⟩
        have spn9 := spnE.same cE
        have sp9 := cE _ _ dE.dd
        have FL : Fs H m l (upd Hb p5 (.tup [va, .ref p4])) l9 := F9.trans (Ga.sm.trans ⟨same_trans tb2 (same_trans tc3 (same_trans td tf)), fun b z => same_out (same_trans (same_new np2) (same_trans (same_new np3) (same_trans sb (same_new np5)))) z⟩)
        have ML := Gf.mat
        have szN : (o : Int) + ((n1 + nc + 1 : Nat) : Int) ≤ size + 1 := by omega
        generalize PyData.tuple [.tuple (ms.map PyData.str), .tuple (bs.take 2 ++ [.tuple [.str u, dC]])] = dtN at dNew tNew
        generalize upd Hb p5 (HO.tup [va, .ref p4]) = HL0 at dNew spn9 sp9 FL ML
        refine ⟨_, rfl, sp, es, rfl, SqL.of (fr_of sp9).2.2, fun pr npr => ?_⟩
        have GL0 : Gw m c l9 cs ls9 n9 HL0 HL0 := ⟨ML, .refl⟩
        obtain ⟨GL, tL, eL⟩ := GL0.new (o := .lst es.reverse) npr
        have FL2 := FL.trans GL.sm
        have MLL := GL.mat
        generalize upd HL0 pr (HO.lst es.reverse) = HL at GL tL eL FL2 MLL
        refine ⟨pr, rfl, ⟨_, SqL.of (fr_of eL).2.2⟩, for_list (xs := es.reverse) (fun i σ' H' => ∃ (es' : List V) (k o nt : Nat) (vt : V) (dt : PyData) (w5 w7 : Option V), es.reverse.drop i = es'.reverse ∧ σ' = [some (V.ref m), some (V.int size), some vt, some (V.ref sp), some (V.ref vcA), w5, some (V.str u), w7] ∧
            Gw m c l9 cs ls9 n9 HL H' ∧ Dq (fr H' m l9) vt dt ∧ Tp k nt 1 dt ∧ Spn (fr H' m l9) es' k o ∧ es'.length + k = 3 ∧ (o : Int) + nt ≤ size + 1)
          ⟨es, k' + 1, o, n1 + nc + 1, .ref p5, dtN, _, _, rfl, rfl, ⟨MLL, .refl⟩, dNew.same tL, tNew, spn9.same tL, ek, szN⟩ (fun i σ H _ ⟨_, _, _, _, _, _, _, _, _, _, G, _⟩ => SqL.of (fr_of (G.sm.1 _ _ eL)).2.2) ?_ ?_⟩
        · rintro i x σ' H' hix ⟨es', k, o, nt, vt, dt, w5, w7, hdr, rfl, G, qt, tp, spn, ek, osz⟩
          cases spn with
          | nil =>
            rw [List.reverse_nil] at hdr
            have := List.drop_eq_nil_iff.mp hdr
            have := (List.getElem?_eq_some_iff.mp hix).1
            omega
          | @snoc es0 _ o0 a b _ e v j ms bs uu tt sp0 h1 h2 h2t h3 h4 h5 h6 h7 h8 h9 =>
          have hx : x = V.ref e ∧ es.reverse.drop (i + 1) = es0.reverse := by
            rw [List.reverse_append, List.reverse_singleton, List.singleton_append, drop_atV hix] at hdr
            exact List.cons.inj hdr
          obtain ⟨rfl, hdr'⟩ := hx
          obtain ⟨pt, va, pb, xb, rfl, ept, qa, epb, ab⟩ := dq_node h2
          obtain ⟨vj, hvj, qj⟩ := ab.at h5
          obtain ⟨pj, vu, vtt, rfl, epj, qu, qtt⟩ := dq_pair qj
          have lx : xb.length ≤ 3 := by rw [ab.len]; exact h4
          refine ⟨e, _, rfl, SqT.of (fr_of h1).2.2, rfl, _, _, rfl, _, _, rfl, rfl, ?_⟩
          have ixA : ∀ {H5 : Hp}, Same H' H5 → SqT K H5 pt [va, .ref pb] := fun s => SqT.of (s _ _ (fr_of ept).2.2)
          refine ⟨_, rfl, pt, _, 0, va, rfl, rfl, SqT.of (fr_of ept).2.2, atI_nat (j := 0) rfl, _, rfl, pt, _, 1, .ref pb, rfl, rfl, SqT.of (fr_of ept).2.2, atI_nat (j := 1) rfl, _, rfl, j, rfl, pb, xb, rfl, (fr_of epb).2.2, fun p1 H5 s5 e5 => ?_⟩
          rw [cut_to] at e5
          obtain ⟨G5, t5⟩ := G.grow s5
          refine ⟨_, rfl, pt, _, 1, .ref pb, rfl, rfl, SqT.of (fr_of (t5 _ _ ept)).2.2, atI_nat (j := 1) rfl, _, rfl, pb, xb, (j : Int), .ref pj, rfl, rfl, SqT.of (fr_of (t5 _ _ epb)).2.2, atI_nat hvj, pj, _, 0, vu, rfl, rfl, SqT.of (fr_of (t5 _ _ epj)).2.2, atI_nat (j := 0) rfl, _, rfl, by show 2 ≤ sizeLine; decide, fun p2 np2 => ⟨by show 1 ≤ sizeLine; decide, fun p3 np3 => ?_⟩⟩
          obtain ⟨G6, t6, e6⟩ := G5.new (o := .tup [vu, vt]) np2
          obtain ⟨G7, t7, e7⟩ := G6.new (o := .tup [.ref p2]) np3
          refine ⟨p1, p3, _, _, rfl, rfl, (fr_of (t7 _ _ (t6 _ _ (G5.tupAt e5)))).2.2, upd_same, by rw [List.length_take]; exact Nat.le_trans (show min j xb.length + 1 ≤ 4 by omega) (by decide), fun p4 H8 s8 e8 => ?_⟩
          obtain ⟨G8, t8⟩ := G7.grow s8
          have t48 := same_trans t5 (same_trans t6 (same_trans t7 t8))
          refine ⟨_, rfl, pt, _, 1, .ref pb, rfl, rfl, SqT.of (fr_of (t48 _ _ ept)).2.2, atI_nat (j := 1) rfl, _, rfl, _, _, rfl, rfl, _, rfl, pb, xb, rfl, (fr_of (t48 _ _ epb)).2.2, fun p5 H9 s9 e9 => ?_⟩
          rw [show ((j : Int) + 1) = ((j + 1 : Nat) : Int) by omega, cut_from] at e9
          obtain ⟨G9, t9⟩ := G8.grow s9
          refine ⟨p4, p5, _, _, rfl, rfl, s9 _ _ e8, e9, by rw [List.length_append, List.length_take, List.length_drop]; exact Nat.le_trans (show min j xb.length + 1 + (xb.length - (j + 1)) ≤ 7 by omega) (by decide), fun p6 Ha sa ea => ⟨by show 2 ≤ sizeLine; decide, fun p7 np7 => ?_⟩⟩
          obtain ⟨Ga, ta⟩ := G9.grow sa
          obtain ⟨Gb, tb, eb⟩ := Ga.new (o := .tup [va, .ref p6]) np7
          have tab := same_trans t9 (same_trans ta tb)
          have tall := same_trans t48 tab
          have e2f := (same_trans t7 (same_trans t8 tab)) _ _ e6
          have dN : Dq (fr (upd Ha p7 (.tup [va, .ref p6])) m l9) (.ref p7) (.tuple [.tuple (ms.map PyData.str), .tuple (bs.take j ++ [.tuple [.str uu, dt]] ++ bs.drop (j + 1))]) :=
            .tup eb (.cons (qa.same tall) (.cons (.tup (tb _ _ (Ga.tupAt ea)) (((((ab.take j).same tall).app (.cons (.tup e2f (.cons (qu.same tall) (.cons (qt.same tall) .nil))) .nil)).app ((ab.drop (j + 1)).same tall)))) .nil))
          refine ⟨es0, k + 1, o0, _, .ref p7, _, _, _, hdr', rfl, Gb, dN, ⟨ms, _, a + nt + b, rfl, h3, ?_, ?_, rfl⟩, sp0.same tall, ?_, ?_⟩
          · have hj := (List.getElem?_eq_some_iff.mp h5).1
            rw [List.length_append, List.length_append, List.length_take, List.length_drop]
            show _ + 1 + _ ≤ 3
            omega
          · have z := (h7.app (.cons h6 tp.tc .nil rfl rfl)).app h8
            rw [show 0 + (1 + 0) + 0 = 1 by omega, show a + (nt + 0) + b = a + nt + b by omega] at z
            exact z
          · rw [List.length_append, List.length_singleton] at ek
            omega
          · omega
        · rintro σ' H' ⟨es', k, o, nt, vt, dt, w5, w7, hdr, rfl, G, qt, tp, spn, ek, osz⟩
          rw [List.drop_length] at hdr
          obtain rfl : es' = [] := List.reverse_eq_nil_iff.mp hdr.symm
          obtain rfl : k = 3 := by simpa using ek
          exact ⟨_, rfl, kk vt dt nt H' l9 ls9 n9 G.mat (by omega) (FL2.trans G.sm) qt tp (by omega)⟩
      have hlt : es.length < lim := by
        have := of_decide_eq_true hd
        omega
      refine ⟨_, rfl, m, c, l', 3, cs, ls', n', rfl, d2.mat, by decide, by decide, by omega, fun r3 H3 l3 ls3 n3 r30 r31 M3 nn3 s3 => ⟨_, _, rfl, rfl, _, rfl, ?_⟩⟩
      have d3' : Dl H m c l cs n (610 + 2 * (es.length : Int)) sp es H3 l3 ls3 n3 := d2.next M3 nn3 s3 (by omega)
      have ept3 := s3.1 _ _ ept2
      have epb3 := s3.1 _ _ epb2
      have ab3 := ab2.same s3.1
      have qa3 := qa2.same s3.1
      have spn3 := spn2.same s3.1
      have qc3 := qc2.same s3.1
      refine ite2 (fun _ => ?_) (fun _ => ?_)
      rotate_left
      · have dE := d3'
        have eptE := ept3
        have epbE := epb3
        have abE := ab3
        have qaE := qa3
        have spnE := spn3
        have qcE := qc3
        have dleE := dE.le
        refine ⟨by show 2 ≤ sizeLine; decide, fun pl npl => ?_⟩
        have GE : Gw m c _ cs _ _ _ _ := ⟨dE.mat, .refl⟩
        obtain ⟨GF, tF, eF⟩ := GE.new (o := .lst [.str "e", .str "f"]) npl
        refine ⟨_, rfl, m, c, _, 4, cs, _, _, rfl, GF.mat, by decide, by decide, by omega, fun r9 H9 l9 ls9 n9 r90 r91 M9 nn9 s9 => ⟨rfl, .inr ⟨_, rfl, ?_⟩⟩⟩
        have hx : ∃ u : Str, atI [V.str "e", V.str "f"] (if decide (V.int r9 = V.int 0) = true then 1 else 0) = some (V.str u) ∧ efS u := by
          cases decide (V.int r9 = V.int 0) with
          | true => exact ⟨"f", atI_nat (j := 1) rfl, .inr rfl⟩
          | false => exact ⟨"e", atI_nat (j := 0) rfl, .inl rfl⟩
        obtain ⟨u, hu, hfu⟩ := hx
        have hsu := ef_sm hfu
        have sA := same_trans tF s9.1
        have F9 : Fs H m l H9 l9 := dE.sm.trans (GF.sm.trans s9)
        have ept9 := sA _ _ eptE
        have epb9 := sA _ _ epbE
        refine ⟨pl, _, _, .str u, rfl, rfl, SqL.of (fr_of (s9.1 _ _ eF)).2.2, hu, ?_⟩
        refine ⟨_, rfl, pt, _, 0, va, rfl, rfl, SqT.of (fr_of ept9).2.2, atI_nat (j := 0) rfl, _, rfl, pt, _, 1, .ref pb, rfl, rfl, SqT.of (fr_of ept9).2.2, atI_nat (j := 1) rfl, 2, rfl, pb, xb, rfl, (fr_of epb9).2.2, fun p1 Ha sa ea => ?_⟩
        rw [show (2 : Int) = ((2 : Nat) : Int) from rfl, cut_to] at ea
        have G9 : Gw m c l9 cs ls9 n9 H9 H9 := ⟨M9, .refl⟩
        obtain ⟨Ga, ta⟩ := G9.grow sa
        have ea' := Ga.tupAt ea
        refine ⟨_, rfl, _, rfl, by show 2 ≤ sizeLine; decide, fun p2 np2 => ⟨by show 1 ≤ sizeLine; decide, fun p3 np3 => ?_⟩⟩
        obtain ⟨Gb, tb2, eb2⟩ := Ga.new (o := .tup [.str u, .ref vcA]) np2
        obtain ⟨Gc, tc3, ec3⟩ := Gb.new (o := .tup [.ref p2]) np3
        refine ⟨p1, p3, _, _, rfl, rfl, (fr_of (tc3 _ _ (tb2 _ _ ea'))).2.2, upd_same, by rw [List.length_take]; exact Nat.le_trans (Nat.add_le_add_right (Nat.min_le_left _ _) _) (show 2 + 1 ≤ sizeLine by decide), fun p4 Hb sb eb => ⟨by show 2 ≤ sizeLine; decide, fun p5 np5 => ?_⟩⟩
        obtain ⟨Gd, td⟩ := Gc.grow sb
        obtain ⟨Gf, tf, ef⟩ := Gd.new (o := .tup [va, .ref p4]) np5
        have c9 : Same (fr H9 m l9) (fr (upd Hb p5 (.tup [va, .ref p4])) m l9) := same_trans ta (same_trans tb2 (same_trans tc3 (same_trans td tf)))
        have cE := same_trans sA c9
        have e4f := tf _ _ (Gd.tupAt eb)
        have e2f := tf _ _ (td _ _ (tc3 _ _ eb2))
        obtain ⟨n1, c1, n2, c2, tB1, tB2, eN, eC⟩ := tb.take 2
        obtain ⟨k', rfl⟩ : ∃ k', k = k' + 1 := ⟨k - 1, by omega⟩
        have tcl : Tc k' nc 1 dC := tcall' k' (by
          by_cases z : bsC = []
          · exact .inl z
          · have e1 : lim = 1 := if_neg z
            exact .inr (by omega))
        have dNew : Dq (fr (upd Hb p5 (.tup [va, .ref p4])) m l9) (.ref p5) (.tuple [.tuple (ms.map PyData.str), .tuple (bs.take 2 ++ [.tuple [.str u, dC]])]) :=
          .tup ef (.cons (qaE.same cE) (.cons (.tup e4f (((abE.take 2).same cE).app (.cons (.tup e2f (.cons (.str u ⟨by rw [hsu.2]; decide, hsu.1⟩) (.cons (qcE.same cE) .nil))) .nil))) .nil))
        have tNew : Tp (k' + 1) (n1 + nc + 1) 1 (.tuple [.tuple (ms.map PyData.str), .tuple (bs.take 2 ++ [.tuple [.str u, dC]])]) :=
          ⟨ms, _, n1 + nc, rfl, hms, by rw [List.length_append, List.length_take]; show _ + 1 ≤ 3; omega, by
            have z := tB1.app (.cons hfu tcl .nil rfl rfl)
            rw [show c1 + (1 + 0) = 1 by omega] at z
            exact z, rfl⟩
        have spn9 := spnE.same cE
        have sp9 := cE _ _ dE.dd
        have FL : Fs H m l (upd Hb p5 (.tup [va, .ref p4])) l9 := F9.trans (Ga.sm.trans ⟨same_trans tb2 (same_trans tc3 (same_trans td tf)), fun b z => same_out (same_trans (same_new np2) (same_trans (same_new np3) (same_trans sb (same_new np5)))) z⟩)
        have ML := Gf.mat
        have szN : (o : Int) + ((n1 + nc + 1 : Nat) : Int) ≤ size + 1 := by omega
        generalize PyData.tuple [.tuple (ms.map PyData.str), .tuple (bs.take 2 ++ [.tuple [.str u, dC]])] = dtN at dNew tNew
        generalize upd Hb p5 (HO.tup [va, .ref p4]) = HL0 at dNew spn9 sp9 FL ML
        refine ⟨_, rfl, sp, es, rfl, SqL.of (fr_of sp9).2.2, fun pr npr => ?_⟩
        have GL0 : Gw m c l9 cs ls9 n9 HL0 HL0 := ⟨ML, .refl⟩
        obtain ⟨GL, tL, eL⟩ := GL0.new (o := .lst es.reverse) npr
        have FL2 := FL.trans GL.sm
        have MLL := GL.mat
        generalize upd HL0 pr (HO.lst es.reverse) = HL at GL tL eL FL2 MLL
        refine ⟨pr, rfl, ⟨_, SqL.of (fr_of eL).2.2⟩, for_list (xs := es.reverse) (fun i σ' H' => ∃ (es' : List V) (k o nt : Nat) (vt : V) (dt : PyData) (w5 w7 : Option V), es.reverse.drop i = es'.reverse ∧ σ' = [some (V.ref m), some (V.int size), some vt, some (V.ref sp), some (V.ref vcA), w5, some (V.str u), w7] ∧
            Gw m c l9 cs ls9 n9 HL H' ∧ Dq (fr H' m l9) vt dt ∧ Tp k nt 1 dt ∧ Spn (fr H' m l9) es' k o ∧ es'.length + k = 3 ∧ (o : Int) + nt ≤ size + 1)
          ⟨es, k' + 1, o, n1 + nc + 1, .ref p5, dtN, _, _, rfl, rfl, ⟨MLL, .refl⟩, dNew.same tL, tNew, spn9.same tL, ek, szN⟩ (fun i σ H _ ⟨_, _, _, _, _, _, _, _, _, _, G, _⟩ => SqL.of (fr_of (G.sm.1 _ _ eL)).2.2) ?_ ?_⟩
        · rintro i x σ' H' hix ⟨es', k, o, nt, vt, dt, w5, w7, hdr, rfl, G, qt, tp, spn, ek, osz⟩
          cases spn with
          | nil =>
            rw [List.reverse_nil] at hdr
            have := List.drop_eq_nil_iff.mp hdr
            have := (List.getElem?_eq_some_iff.mp hix).1
            omega
          | @snoc es0 _ o0 a b _ e v j ms bs uu tt sp0 h1 h2 h2t h3 h4 h5 h6 h7 h8 h9 =>
          have hx : x = V.ref e ∧ es.reverse.drop (i + 1) = es0.reverse := by
            rw [List.reverse_append, List.reverse_singleton, List.singleton_append, drop_atV hix] at hdr
            exact List.cons.inj hdr
          obtain ⟨rfl, hdr'⟩ := hx
          obtain ⟨pt, va, pb, xb, rfl, ept, qa, epb, ab⟩ := dq_node h2
          obtain ⟨vj, hvj, qj⟩ := ab.at h5
          obtain ⟨pj, vu, vtt, rfl, epj, qu, qtt⟩ := dq_pair qj
          have lx : xb.length ≤ 3 := by rw [ab.len]; exact h4
          refine ⟨e, _, rfl, SqT.of (fr_of h1).2.2, rfl, _, _, rfl, _, _, rfl, rfl, ?_⟩
          have ixA : ∀ {H5 : Hp}, Same H' H5 → SqT K H5 pt [va, .ref pb] := fun s => SqT.of (s _ _ (fr_of ept).2.2)
          refine ⟨_, rfl, pt, _, 0, va, rfl, rfl, SqT.of (fr_of ept).2.2, atI_nat (j := 0) rfl, _, rfl, pt, _, 1, .ref pb, rfl, rfl, SqT.of (fr_of ept).2.2, atI_nat (j := 1) rfl, _, rfl, j, rfl, pb, xb, rfl, (fr_of epb).2.2, fun p1 H5 s5 e5 => ?_⟩
          rw [cut_to] at e5
          obtain ⟨G5, t5⟩ := G.grow s5
          refine ⟨_, rfl, pt, _, 1, .ref pb, rfl, rfl, SqT.of (fr_of (t5 _ _ ept)).2.2, atI_nat (j := 1) rfl, _, rfl, pb, xb, (j : Int), .ref pj, rfl, rfl, SqT.of (fr_of (t5 _ _ epb)).2.2, atI_nat hvj, pj, _, 0, vu, rfl, rfl, SqT.of (fr_of (t5 _ _ epj)).2.2, atI_nat (j := 0) rfl, _, rfl, by show 2 ≤ sizeLine; decide, fun p2 np2 => ⟨by show 1 ≤ sizeLine; decide, fun p3 np3 => ?_⟩⟩
          obtain ⟨G6, t6, e6⟩ := G5.new (o := .tup [vu, vt]) np2
          obtain ⟨G7, t7, e7⟩ := G6.new (o := .tup [.ref p2]) np3
          refine ⟨p1, p3, _, _, rfl, rfl, (fr_of (t7 _ _ (t6 _ _ (G5.tupAt e5)))).2.2, upd_same, by rw [List.length_take]; exact Nat.le_trans (show min j xb.length + 1 ≤ 4 by omega) (by decide), fun p4 H8 s8 e8 => ?_⟩
          obtain ⟨G8, t8⟩ := G7.grow s8
          have t48 := same_trans t5 (same_trans t6 (same_trans t7 t8))
          refine ⟨_, rfl, pt, _, 1, .ref pb, rfl, rfl, SqT.of (fr_of (t48 _ _ ept)).2.2, atI_nat (j := 1) rfl, _, rfl, _, _, rfl, rfl, _, rfl, pb, xb, rfl, (fr_of (t48 _ _ epb)).2.2, fun p5 H9 s9 e9 => ?_⟩
          rw [show ((j : Int) + 1) = ((j + 1 : Nat) : Int) by omega, cut_from] at e9
          obtain ⟨G9, t9⟩ := G8.grow s9
          refine ⟨p4, p5, _, _, rfl, rfl, s9 _ _ e8, e9, by rw [List.length_append, List.length_take, List.length_drop]; exact Nat.le_trans (show min j xb.length + 1 + (xb.length - (j + 1)) ≤ 7 by omega) (by decide), fun p6 Ha sa ea => ⟨by show 2 ≤ sizeLine; decide, fun p7 np7 => ?_⟩⟩
          obtain ⟨Ga, ta⟩ := G9.grow sa
          obtain ⟨Gb, tb, eb⟩ := Ga.new (o := .tup [va, .ref p6]) np7
          have tab := same_trans t9 (same_trans ta tb)
          have tall := same_trans t48 tab
          have e2f := (same_trans t7 (same_trans t8 tab)) _ _ e6
          have dN : Dq (fr (upd Ha p7 (.tup [va, .ref p6])) m l9) (.ref p7) (.tuple [.tuple (ms.map PyData.str), .tuple (bs.take j ++ [.tuple [.str uu, dt]] ++ bs.drop (j + 1))]) :=
            .tup eb (.cons (qa.same tall) (.cons (.tup (tb _ _ (Ga.tupAt ea)) (((((ab.take j).same tall).app (.cons (.tup e2f (.cons (qu.same tall) (.cons (qt.same tall) .nil))) .nil)).app ((ab.drop (j + 1)).same tall)))) .nil))
          refine ⟨es0, k + 1, o0, _, .ref p7, _, _, _, hdr', rfl, Gb, dN, ⟨ms, _, a + nt + b, rfl, h3, ?_, ?_, rfl⟩, sp0.same tall, ?_, ?_⟩
          · have hj := (List.getElem?_eq_some_iff.mp h5).1
            rw [List.length_append, List.length_append, List.length_take, List.length_drop]
            show _ + 1 + _ ≤ 3
            omega
          · have z := (h7.app (.cons h6 tp.tc .nil rfl rfl)).app h8
            rw [show 0 + (1 + 0) + 0 = 1 by omega, show a + (nt + 0) + b = a + nt + b by omega] at z
            exact z
          · rw [List.length_append, List.length_singleton] at ek
            omega
          · omega
        · rintro σ' H' ⟨es', k, o, nt, vt, dt, w5, w7, hdr, rfl, G, qt, tp, spn, ek, osz⟩
          rw [List.drop_length] at hdr
          obtain rfl : es' = [] := List.reverse_eq_nil_iff.mp hdr.symm
          obtain rfl : k = 3 := by simpa using ek
          exact ⟨_, rfl, kk vt dt nt H' l9 ls9 n9 G.mat (by omega) (FL2.trans G.sm) qt tp (by omega)⟩
      have d3le := d3'.le
      have lx : xb.length ≤ 3 := by rw [ab.len]; exact lb
      refine ⟨_, rfl, _, rfl, pt, _, 1, .ref pb, rfl, rfl, SqT.of (fr_of ept3).2.2, atI_nat (j := 1) rfl, pb, xb, rfl, .inr (SqT.of (fr_of epb3).2.2), m, c, l3, _, cs, ls3, n3, rfl, M3, by omega, by omega, by omega, fun ia H4 l4 ls4 n4 ia0 ia1 M4 nn4 s4 => ?_⟩
      obtain ⟨j, rfl⟩ : ∃ j : Nat, ia = (j : Int) := ⟨ia.toNat, by omega⟩
      have hj : j < bs.length := by rw [← ab.len]; omega
      obtain ⟨k', u, t, nt', ct', ja, ca, jb, cb', rfl, hbj, hfu, ttj, tbA, tbB, eN, eC⟩ := tb.cut hj
      obtain rfl : ct' = 0 := by omega
      obtain rfl : ca = 0 := by omega
      obtain rfl : cb' = 0 := by omega
      have d4 : Dl H m c l cs n (611 + 2 * (es.length : Int)) sp es H4 l4 ls4 n4 := d3'.next M4 nn4 s4 (by omega)
      have ept4 := s4.1 _ _ ept3
      have epb4 := s4.1 _ _ epb3
      have ab4 := ab3.same s4.1
      have qa4 := qa3.same s4.1
      have spn4 := spn3.same s4.1
      have qc4 := qc3.same s4.1
      have G4 : Gw m c l4 cs ls4 n4 H4 H4 := ⟨M4, .refl⟩
      refine ⟨_, rfl, .inl ⟨rfl, _, SqL.of (fr_of d4.dd).2.2⟩, _, rfl, _, rfl, by show 2 ≤ sizeLine; decide, fun pe npe => ?_⟩
      obtain ⟨G5, t5, e5⟩ := G4.new (o := .tup [.ref pt, .int (j : Int)]) npe
      have d5 : Dl H m c l cs n (611 + 2 * (es.length : Int)) sp es (upd H4 pe (.tup [.ref pt, .int (j : Int)])) l4 ls4 n4 := d4.next G5.mat (j := 0) (by omega) G5.sm (by omega)
      refine ⟨sp, _, .ref pe, rfl, rfl, (fr_of d5.dd).2.2, small1000 (by omega), ?_⟩
      have d6 := d5.put (ys := es ++ [.ref pe]) sp0 spm spc
      have kt := gw_put (m := m) (l := l4) (ys := es ++ [.ref pe]) d5.dd
      have ept6 := kt _ _ (t5 _ _ ept4)
      have epb6 := kt _ _ (t5 _ _ epb4)
      have e6 := kt _ _ e5
      have tupB := tb.tup
      have qt6 : Dq (fr (upd (upd H4 pe (.tup [.ref pt, .int (j : Int)])) sp (.lst (es ++ [.ref pe]))) m l4) (.ref pt) (.tuple [.tuple (ms.map PyData.str), .tuple bs]) :=
        (Dq.tup (t5 _ _ ept4) (.cons (qa4.same t5) (.cons (.tup (t5 _ _ epb4) (ab4.same t5)) .nil))).tups kt (tp_tup tupB)
      have spn6 := (spn4.same t5).keep kt
      have qc6 : Dq (fr (upd (upd H4 pe (.tup [.ref pt, .int (j : Int)])) sp (.lst (es ++ [.ref pe]))) m l4) (.ref vcA) dC := (qc4.same t5).tups kt (tcall' 1 (.inr (Nat.le_refl _))).tup
      generalize upd (upd H4 pe (HO.tup [V.ref pt, V.int (j : Int)])) sp (HO.lst (es ++ [.ref pe])) = H6 at d6 ept6 epb6 e6 qt6 spn6 qc6
      obtain ⟨p6, va6, pb6, xb6, ep6, ept7, qa7, epb7, ab7⟩ := dq_node qt6
      obtain rfl : pt = p6 := V.ref.inj ep6
      rw [ept6] at ept7
      cases ept7
      rw [epb6] at epb7
      cases epb7
      obtain ⟨vj, hvj, qj⟩ := ab7.at hbj
      obtain ⟨pj, vu, vtt, rfl, epj, qu, qtt⟩ := dq_pair qj
      refine ⟨_, rfl, pt, _, 1, .ref pb, rfl, rfl, SqT.of (fr_of ept6).2.2, atI_nat (j := 1) rfl, _, rfl, pb, xb, (j : Int), .ref pj, rfl, rfl, SqT.of (fr_of epb6).2.2, atI_nat hvj, pj, _, 1, vtt, rfl, rfl, SqT.of (fr_of epj).2.2, atI_nat (j := 1) rfl, ?_⟩
      refine ⟨⟨vtt, t, k', _, nt', es ++ [.ref pe], l4, ls4, n4, _, rfl, ⟨d6.mat, ?_, d6.sm, d6.dd⟩, qtt, ttj.tp, .snoc spn6 e6 qt6 tupB hms lb hbj hfu tbA tbB rfl, ?_, ?_, qc6, ?_⟩, ?_⟩
      · have := d6.le
        rw [List.length_append, List.length_singleton]
        omega
      · rw [List.length_append, List.length_singleton]
        omega
      · omega
      · rw [List.length_append, List.length_singleton]
        omega
      · show 3 - lenAt H6 sp < 3 - lenAt H' sp
        have e1 : lenAt H6 sp = (es ++ [V.ref pe]).length := by unfold lenAt; rw [(fr_of d6.dd).2.2]
        have e2 : lenAt H' sp = es.length := by unfold lenAt; rw [(fr_of d.dd).2.2]
        rw [e1, e2, List.length_append, List.length_singleton]
        omega
    · exact MO.mo_and (MO.mo_test (MO.mo_op MO.mr_nilT (MO.mo_op MO.mr_ix MO.mo_var MO.mo_c) (MO.mo_tup MO.mo_nil)))
        (MO.mo_and (MO.mo_test (MO.mo_op MO.mr_i0 (MO.mo_cb MO.mc_len (MO.mo_cons MO.mo_var MO.mo_nil)) (MO.mo_if (MO.mo_test (MO.mo_op MO.mr_nilT (MO.mo_op MO.mr_ix MO.mo_var MO.mo_c) (MO.mo_tup MO.mo_nil))) MO.mo_c MO.mo_c)))
          (MO.mo_test (MO.mo_op MO.mr_i0 (MO.mo_call (MO.mc_nx _) (MO.mo_cons MO.mo_var (MO.mo_cons MO.mo_c MO.mo_nil))) MO.mo_c)))
end
end K01
set_option Elab.async false
set_option linter.all false
set_option maxRecDepth 100000
set_option maxHeartbeats 4000000
/-! A def of one argument, called where it is known that no repr is under way. -/
namespace L2H
open PySem PySem.Spec PyProof.Rows L2
def FnG (P : Program) (w : World) (K : PySem.W.Frag) (mg : Str → Option Value) (base : Heap) (k : Nat) (f : Addr) (fd : FuncData) (x : Str) (sp : Sp) : Prop :=
  ∀ (A : Around) (outer : List Env) (s : Shared) (H : Hp) (u : Value) (v : V) (Q : VK) (E : XK), Room k A → A.guards = some [] → Env0 P w K mg base A outer s H → BindsTo s fd ⟨[u], []⟩ [(x, u)] → RelV v u → sp [v] H Q E →
    codeAny (model P w) A (.call (.ref f) ⟨[u], []⟩) (CR CX0 outer P w H s Q E) s
section
variable {P : Program} {w : World} {K : PySem.W.Frag} {mg : Str → Option Value} {base : Heap} {x name : Str} {st : Stmt} {f : Addr} {fd : FuncData} {N : List Str} {k : Nat} {sp : Sp}
theorem fnG_of (F : Fun K name name st f fd) (S : FnScope N [x] (defScope st))
    (body : ∀ (cdv : Value) (A : Around) (outer : List Env) (s : Shared) (H : Hp) (v : V) (Q : VK) (E : XK), Room k (A.deeper (envOfC name (defScope st) s.heap.objs.size f cdv)) → A.guards = some [] → sp [v] H Q E →
      ∃ t, PSs (cxOf CX0 P w K mg base N name (defScope st) f cdv A outer s H E).nox (defBody st) t ∧ t { nx := fun _ H' => Q .non H', rt := Q } (start N [v]) H) :
    FnG P w K mg base (k + 1) f fd x sp := by
  obtain ⟨oc, od, kV, doc, pm, an, cdv, ct, osl, rfl, lk, hcd⟩ := F.ex
  intro A outer s H u v Q E hr hg e0 hb ru hsp
  have KX : K.In s.heap := e0.mod.kin.keeps fun b o z => (e0.bs b o z).1
  have lim : s.heap.NoLimit := e0.mod.nolimit.keeps fun b o z => (e0.bs b o z).1
  have kinds : ∀ y ∈ [(x, u)], (defScope st).names.lookup y.1 = some .local ∨ ((defScope st).names.lookup y.1 = some .cell ∧ ((cellsFrom (s.heap.objs.size + 1) (defScope st).names []).lookup y.1).isSome = true) := fun y hy => by
    rcases List.mem_cons.mp hy with rfl | z
    · rcases S.par x (List.mem_cons_self ..) with q | q
      · exact .inl q
      · exact .inr ⟨q, PySem.W.cellsFrom_some _ _ _ (.inl q)⟩
    · cases z
  refine codeAny_call_function hr.depth (KX _ _ lk) rfl S.co S.gen rfl (PySem.W.codeRec_of KX hcd) (hb _ _ _ _ ?_)
  refine wpAny_newFunctionEnv_cells S.kind kinds fun env he s1 y => ?_
  subst he
  refine ⟨lim.keeps y.toInCall.keep, codeAny_func ?_⟩
  obtain ⟨t, ht, hq⟩ := body cdv A outer s H v Q E (hr.deeper _) hg hsp
  have I : Inv (cxOf CX0 P w K mg base N name (defScope st) f cdv A outer s H E) [] (start N [v]) H s1 := inv_start (ps := [x]) (us := [u]) S hr.hd e0 rfl (.cons ru .nil) y
  refine wpAny_mono (ht.nox.run [] s1 (start N [v]) H _ I hq) (fun fl s' hs => ?_) fun _ _ z => z
  cases fl with
  | ret u' =>
    obtain ⟨v', σ', H', J, rv, q⟩ := hs
    exact ⟨v', H', J.os, J.bare, J.base, J.hok, rv, q⟩
  | next =>
    obtain ⟨σ', H', J, q⟩ := hs
    exact ⟨V.non, H', J.os, J.bare, J.base, J.hok, rfl, q⟩
  | brk =>
    obtain ⟨_, _, _, q⟩ := hs
    exact q.elim
  | cont =>
    obtain ⟨_, _, _, q⟩ := hs
    exact q.elim
end
section
variable {X : Cx} {k : Nat} {f : Addr} {fd : FuncData} {sp : Sp} {x y : Str} {p pos : Pos} {e : Expr} {t : TA}
theorem pe_callG (F : FnG X.prog X.w X.K X.mg X.base k f fd y sp) (hr : Room k X.A) (gd : X.A.guards = some []) (hg : Gl X x) (hm : X.mg x = some (.ref f)) (hk : PySem.W.keepIn X.K (.ref f) = true) (hb : Binds X.K fd [y] [])
    (hx : Passes CX0 X fun _ _ _ => False) (ha : PA X [e] t) (hdb : (x == ("__debug__" : Str)) = false := by decide) (he : starEach [e] X.env = (false, eval e X.env) :: starEach [] X.env := by rfl) (hpl : (backTo pos (starEach [] X.env)).any (·.1) = false := by rfl) :
    PE X (.Call (.Name x p) [e] [] pos) (fun σ H Q => t σ H fun vs H1 => ∃ v, vs = [v] ∧ sp [v] H1 Q fun _ _ _ => False) := by
  refine ⟨fun pins s σ H Q I h => ?_⟩
  refine wpAny_Call_Name_kw (ld_glob I hg hm ?_ hdb)
  refine PySem.W.callWith_K (h₀ := X.base) I.ok.mod.kin hk (thn (ha.run pos pins s σ H _ I h) fun us s1 ⟨vs, H1, I1, r, v, ev, q⟩ => ⟨I1.kIn, ?_⟩) he hpl
  subst ev
  obtain ⟨u, rfl, ru⟩ := vals1 r
  have bt := hb s1 [u] I1.kIn rfl
  refine wpAny_call (codeAny_mono (F X.A X.stack s1 H1 u v Q (fun _ _ _ => False) hr gd I1.env0 bt ru q) fun r s' hq => ?_)
  cases r with
  | error e => exact hx pins σ H1 s1 e s' I1 hq
  | ok fl =>
    cases fl with
    | ret u => exact I1.after hq
    | next => exact False.elim hq
    | brk => exact False.elim hq
    | cont => exact False.elim hq
end
end L2H
set_option Elab.async false
set_option linter.all false
set_option maxRecDepth 100000
set_option maxHeartbeats 4000000
/-! an own error that keeps a field: raised; its field read where it is caught -/
namespace XH
open PySem PySem.W PySem.Calls PyProof.Rows L2
theorem relO_one {v : V} {v' : Value} (r : RelV v v') (f g : Str) : RelO (List.lookup g [(f, v)]) (if g = f then some v' else none) := by
  by_cases hw : g = f
  · subst hw
    rw [if_pos rfl]
    have q : List.lookup g [(g, v)] = some v := by simp [List.lookup]
    rw [q]
    exact r
  · rw [if_neg hw]
    have qw : (g == f) = false := by simpa using hw
    have q2 : List.lookup g [(f, v)] = none := by simp [List.lookup, qw]
    rw [q2]
    trivial
/-- C(e), to be raised: its own dict d is new and holds the field -/
def tXp (C : Addr) (f : Str) (te : TE) : L2.St → Hp → XK → Prop := fun σ H Q => te σ H fun v H1 => ∀ d, H1 d = none → Q (.ref C) (some d) (upd H1 d (.xd [(f, v)]))
/-- what a class says, so that its errors are raised and read -/
structure ExR (K : Frag) (C : Addr) (f : Str) : Prop where
  ga : findIn K (.ref C) "__getattribute__" = some (some (.builtin "BaseException.__getattribute__"))
  gg : findIn K (.ref C) "__getattr__" = some none
  nf : findIn K (.ref C) f = some none
  exC : subIn K (.ref C) (.type "BaseException") = some true
  tyC : typeIn K (.ref C) = some (.type "type")
  hdC : hasDictIn K C = true
section
variable {X : Cx} {C fI : Addr} {fd : FuncData} {f qn : Str} {B newId initId : String} {bmB : List Value}
theorem pmk_xp {x : Str} {e : Expr} {te : TE} {p pos : Pos} (T : ExT X.prog X.K X.mg C fI fd f qn B newId initId bmB) (R : ExR X.K C f) (dp : X.A.depth + 1 < recursionLimit) (gC : X.mg x = some (.ref C)) (kC : keepIn X.K (.ref C) = true) (hg : Gl X x) (he : PE X e te)
    (hs : starEach [e] X.env = (false, eval e X.env) :: starEach [] X.env := by rfl) (hdb : (x == ("__debug__" : Str)) = false := by decide) :
    PMk X (.Call (.Name x p) [e] [] pos) (tXp C f te) := by
  intro pins s σ H Q I h
  refine wpAny_Call_Name_kw (ld_glob I hg gC ?_ hdb)
  refine callWith_K (h₀ := X.base) I.ok.mod.kin kC ?_ hs (by rfl)
  rw [hs]
  show wpAny _ _ (spliced ((false, eval e X.env) :: backTo pos (starEach [] X.env))) _ _ s
  refine spliced_cons (thn (he.run pins s σ H _ I h) fun u s1 ⟨v, H1, I1, r1, q1⟩ => ?_)
  refine spliced_nil ⟨I1.kIn, ?_⟩
  show wpAny _ _ (call (.ref C) [u]) _ _ _
  have g1 := (inv_glob I1).1
  have g2 := (inv_glob I1).2
  have g3 := I1.nolimit
  obtain ⟨hp, g, dr, tk, os⟩ := s1
  refine made_pos T I1.kIn g1 g2 g3 dp fun h' tk' e dx m => ?_
  show MkP X pins σ Q (.ref e) ⟨h', g, dr, tk', os⟩
  obtain ⟨kp, eb, db, ne, ⟨t1, ob⟩, ns⟩ := m
  obtain ⟨G, g1, g2⟩ := restrict h' fun b => decide (b ≠ e)
  have gk : ∀ b, b ≠ e → G.get? b = h'.get? b := fun b hb => g1 b (decide_eq_true hb)
  have ge : G.get? e = none := g2 e (decide_eq_false fun z => z rfl)
  have gs : ∀ b o, G.get? b = some o → h'.get? b = some o := fun b o z => by
    by_cases hb : b = e
    · rw [hb, ge] at z
      cases z
    · rw [← gk b hb]
      exact z
  have old : ∀ b o, hp.get? b = some o → G.get? b = some o := fun b o z => by
    rw [gk b (Nat.ne_of_lt (Nat.lt_of_lt_of_le (Heap.lt_size z) eb))]
    exact kp b o z
  have od : ObjOk X.prog X.w (upd H1 dx (.xd [(f, v)])) G dx (.xd [(f, v)]) :=
    ⟨_, ns.at (fun o z => (gk dx ne).trans z), fun g => relO_one r1 f g⟩
  have J : Inv X pins σ (upd H1 dx (.xd [(f, v)])) ⟨G, g, dr, tk', os⟩ := I1.laid (t' := tk') old db od
  have hn : (upd H1 dx (HO.xd [(f, v)])) e = none := by
    rw [upd_ne (Ne.symm ne)]
    exact I1.hok.fresh eb
  exact ⟨e, _, _, ⟨G, g, dr, tk', os⟩, _, .ref C, some dx, rfl, J, gs, ge, ob, ⟨rfl, rfl⟩, rfl, rfl, hn, rfl, I1.bare, raises_own R.exC R.tyC, q1 dx (I1.hok.fresh db)⟩
/-- n.f, n the exception that the suite holds -/
def tByX (C : Addr) (f : Str) (a : Addr) (cls : Value) (d : Option Addr) (te : TE) : TE := fun σ H Q => te σ H fun x H1 => x = .ref a ∧ cls = .ref C ∧ ∃ (dd : Addr) (v : V), d = some dd ∧ H1 dd = some (.xd [(f, v)]) ∧ Q v H1
theorem pe_byX {a : Addr} {oe : Obj} {cls : Value} {d : Option Addr} {pn : List (Addr × Obj)} {e : Expr} {te : TE} {pos : Pos} (R : ExR X.K C f) (hz : Zc cls d oe) (hf : ∃ vs, oe.data = .fields vs) (he : PE (X.suite a ((a, oe) :: pn)) e te)
    (hb : attributeBase e f X.env (eval e X.env) = eval e X.env := by rfl) :
    PE (X.suite a ((a, oe) :: pn)) (.Attribute e f pos) (tByX C f a cls d te) := by
  refine ⟨fun pins s σ H Q I h => ?_⟩
  refine attr_of hb (thn (he.run pins s σ H _ I h) fun u s1 hh => ?_)
  obtain ⟨x, H1, I1, rx, ex, ec, dd, v, ed, ea, q⟩ := hh
  subst ex
  obtain rfl : u = Value.ref a := rx
  subst ec
  subst ed
  obtain ⟨ha, _⟩ := I1.pin (a, oe) (List.mem_append_left _ List.mem_cons_self)
  obtain ⟨vs, hd⟩ := hf
  have hx : ObjOk X.prog X.w H1 s1.heap dd (.xd [(f, v)]) := I1.hok dd _ ea
  obtain ⟨mA, hns, hr⟩ := hx
  obtain ⟨od, ho, hl⟩ := lookIn_ns hns
  have l : List.lookup f [(f, v)] = some v := by simp [List.lookup]
  obtain ⟨u, hu, ru⟩ := RelO.some_of (v := v) (o := mA f) (by rw [← l]; exact hr f)
  have J : PySem.W.InstAt s1.heap a oe C (some od) := ⟨ha, hz.1, by unfold PySem.W.notCls; rw [hd] <;> rfl, by rw [hz.2]; exact ho⟩
  exact HandSPX.exc_get I1.kIn J R.ga R.gg R.exC (PySem.W.findObj_own R.hdC R.nf rfl (by rw [hl, hu])) (handed_of ru) ⟨v, H1, I1.tok _, ru, q⟩
end
end XH
set_option Elab.async false
set_option linter.all false
set_option maxRecDepth 100000
set_option maxHeartbeats 4000000
/-! enumerate of a tuple; of a list or a tuple -/
namespace EnT
open PySem PySem.Spec PyProof.Rows L2
theorem meets_new1 {v : Value} {o : Obj} {H : Heap → Prop} (B : Begins v o H) :
    Meets (Builtin.«enumerate.__new__» ⟨[.type "enumerate", v], []⟩) (fun _ R s => H s.heap ∧
      R (.ok (.ret (.ref (s.heap.push o).objs.size))) { s with heap := (s.heap.push o).push { cls := .type "enumerate", data := .fields #[.none, .bool false, .ref s.heap.objs.size, rawInt 0, .none, .none] } }) :=
  .of_wp fun prog w A R s h => by
    obtain ⟨hp, g, d, tk, os⟩ := s; obtain ⟨h1, h⟩ := h
    have hsub := sub_enumerate
    have q1 : ∀ {A' : Around} {E : Value → Shared → Prop} {Q : Value → Shared → Prop}, Q (.ref hp.objs.size) ⟨hp.push o, g, d, tk, os⟩ → wpAny (model prog w) A' (pyIter v) Q E ⟨hp, g, d, tk, os⟩ :=
      fun q => B.iter prog w _ _ ⟨hp, g, d, tk, os⟩ _ h1 q
    wp_walk using q1
    refine wpAny_stack_any fun st => wpAny_pure ?_
    split
    · rename_i c _ _ _ _ _
      cases (c == Value.type "enumerate")
      · wp_walk using q1
        exact ⟨_, rfl, h⟩
      · wp_walk using q1
        exact ⟨_, rfl, h⟩
    · wp_walk using q1
      exact ⟨_, rfl, h⟩
section
variable {prog : Program} {w : World} {A : Around} {E : Value → Shared → Prop} {s : Shared}
theorem begins1 {v : Value} {o : Obj} {H : Heap → Prop} {Q : Value → Shared → Prop} (B : Begins v o H) (h1 : H s.heap)
    (h : ∀ h', IsEnum h' (s.heap.objs.size + 1) s.heap.objs.size 0 .none → h'.get? s.heap.objs.size = some o → h'.objs.size = s.heap.objs.size + 2 →
      (∀ b o, s.heap.get? b = some o → h'.get? b = some o) → Q (.ref (s.heap.objs.size + 1)) { s with heap := h' }) :
    wpAny (model prog w) A (call (.type "enumerate") [v]) Q E s := by
  refine callType_new F.called_enumerate (by decide) (F.typeCall_enumerate_1 _) (F.newCall_enumerate_1 _) (fun obj => F.args_object_init_2 obj _) F.entry_enumerate_new (meets_new1 B) ⟨h1, ?_⟩
  have hz : (s.heap.push o).objs.size = s.heap.objs.size + 1 := Heap.size_push ..
  show _ ∧ _
  rw [hz]
  have he : IsEnum ((s.heap.push o).push { cls := .type "enumerate", data := .fields #[.none, .bool false, .ref s.heap.objs.size, rawInt 0, .none, .none] }) (s.heap.objs.size + 1) s.heap.objs.size 0 .none := by
    have := Heap.get?_push_size (s.heap.push o) (o := { cls := .type "enumerate", data := .fields #[.none, .bool false, .ref s.heap.objs.size, rawInt 0, .none, .none] }) rfl
    rw [hz] at this; exact this
  refine ⟨⟨_, he, rfl⟩, h _ he (Heap.get?_push_of_some _ (Heap.get?_push_size _ B.free)) (by rw [Heap.size_push, hz]) fun b o x => Heap.get?_push_of_some _ (Heap.get?_push_of_some _ x)⟩
end
theorem enum_endT {prog : Program} {w : World} {A : Around} {E : Value → Shared → Prop} {s : Shared} {e it tt : Addr} {n i : Nat} {items : Array Value} {old : Value} {Q : Option Value → Shared → Prop} (hh : A.handled = none)
    (he : IsEnum s.heap e it (n : Int) old) (hit : s.heap.IsTupleIter it tt i) (ht : s.heap.IsTuple tt items) (hx : items[i]? = none)
    (hQ : ∀ h', Heap.ExtBut it s.heap h' → Q none { s with heap := h' }) : wpAny (model prog w) A (pyNext (.ref e)) Q E s := by
  have hT : s.TypeIs (.ref e) "enumerate" := ⟨_, he, rfl⟩
  unfold pyNext
  refine wpAny_bind (wpAny_attempt (wpAny_callSpecial?_slot (name := Str.ofString "__next__") hT F.slot_enumerate_next
    (wpAny_call_entry F.slot_enumerate_next hT F.entry_enumerate_next ?_ (F.args_enumerate_next_1 _))))
  show wpAny _ _ (field (.ref e) 2 >>= _) _ _ _
  refine wpAny_bind (wpAny_field he rfl (x := .ref it) rfl ?_)
  refine wpAny_bind (wpAny_nextOf_tuple_end (by rw [show A.in1.handled = A.handled from rfl]; exact hh) hit ht hx fun h' x he' hx' => ?_)
  obtain ⟨o, ho, hc⟩ := hx'
  refine wpAny_bind (wpAny_isInstance (T := "StopIteration") (b := true) ⟨o, ho, hc⟩ isSubtype_stop ?_)
  exact wpAny_pure (hQ _ he')
/-- the tuple at a, each item in a new pair -/
def IteT (K : PySem.W.Frag) (a : Addr) : It :=
  ⟨fun i H => ∃ (xs : List V) (x : V), SqT K H a xs ∧ xs[i]? = some x, fun i H v H' => ∃ T x, v = .ref T ∧ H T = none ∧ H' = upd H T (.tup [.int (i : Nat), x]) ∧ ∀ xs, SqT K H a xs → xs[i]? = some x, fun i H => ∃ xs : List V, SqT K H a xs ∧ xs.length ≤ i⟩
theorem turn_enumT {P : Program} {w : World} {K : PySem.W.Frag} {elts : List Expr} {kk : Nat} {tpos : Pos} (a e it : Addr) (hai : a ≠ it) (hae : a ≠ e) :
    Turn P w K (.Tuple elts kk tpos) (IteT K a) [e, it] e (fun i h => (∃ old, IsEnum h e it ((i : Nat) : Int) old) ∧ h.IsTupleIter it a i ∧ e ≠ it) where
  mem := by simp
  obj := fun i h st b hb => by
    obtain ⟨⟨old, he⟩, ⟨o, ho, hc, hd⟩, _⟩ := st
    have e' : b = e ∨ b = it := by simpa using hb
    rcases e' with z | z
    · rw [z]; exact ⟨_, he, fun v q => nomatch q⟩
    · rw [z]; exact ⟨o, ho, fun v q => by rw [hd] at q; cases q⟩
  keep := fun i h h' st k => let ⟨⟨old, he⟩, hi, hne⟩ := st; ⟨⟨old, k e (by simp) _ he⟩, hi.at fun o q => k it (by simp) o q, hne⟩
  item := by
    intro X hP hw hK hc i pins s σ H E I hf st hg
    subst hP hw hK
    obtain ⟨⟨old, he⟩, hit, hne⟩ := st
    obtain ⟨xs, x, hq, hx⟩ := hg
    obtain ⟨its, rv, p, hz⟩ := I.tuple hq
    have p : s.heap.IsTuple a its.toArray := p
    obtain ⟨u, hu, ru⟩ := rv.get hx
    have hel : e < s.heap.objs.size := Heap.lt_size he
    have hil : it < s.heap.objs.size := by obtain ⟨_, q, _⟩ := hit; exact Heap.lt_size q
    have hlt : i < its.toArray.size := by
      have := (List.getElem?_eq_some_iff.mp hu).1
      simpa using this
    refine wpAny_pyNext_enum_itemC (Draws.tuple (by rw [show X.A.in1.handled = X.A.handled from rfl]; exact I.ok.hd hc) it a hai its.toArray) he ⟨hit, p⟩ hlt hne (fun z => ?_) fun x' h' tk hP ho hst' hT hsz hk => ?_
    · rcases List.mem_cons.mp z with z | z
      · exact hne z
      · exact hae (List.mem_singleton.mp z).symm
    have hxu : x' = u := by
      have y : its[i]? = some x' := by simpa using hP
      rw [hu] at y
      exact (Option.some.inj y).symm
    subst hxu
    obtain ⟨hit', _⟩ := hst'
    refine ⟨_, rfl, wpAny_letOwnedTupleGo_enum (s := { s with heap := h', toks := tk + 1 }) ho fun h'' he' sb => ?_⟩
    have hT2 : h''.get? s.heap.objs.size = some { cls := .type "tuple", data := .seq #[.int i tk, x'] } := (sb.2 _ (Nat.ne_of_gt hel)).trans hT
    have new : ObjOk X.prog X.w (upd H s.heap.objs.size (.tup [.int (i : Nat), x])) h'' s.heap.objs.size (.tup [.int (i : Nat), x]) :=
      ⟨by show 2 ≤ sizeLine; decide, [.int i tk, x'], .cons ⟨_, rfl⟩ (.cons ru .nil), ⟨_, hT2, rfl, _, rfl⟩⟩
    have I1 : Inv X pins σ (upd H s.heap.objs.size (.tup [.int (i : Nat), x])) { s with heap := h'', toks := tk + 1 } :=
      I.turnedNew (ch := [e, it]) (fun b ob hb q => (sb.2 b (fun z => hb (by simp [z]))).trans (hk b ob (fun z => hb (by simp [z])) (fun z => hb (by simp [z])) q)) hf (Nat.le_refl _) new
    refine ⟨.ref s.heap.objs.size, _, I1, rfl, ⟨_, x, rfl, I.hok.fresh (Nat.le_refl _), rfl, fun ys hy => by rw [I.tuple_inj hy hq]; exact hx⟩, ⟨⟨x', ?_⟩, hit'.at fun o q => (sb.2 it (Ne.symm hne)).trans q, hne⟩, fun b hb => ?_⟩
    · have e1 : ((i + 1 : Nat) : Int) = (i : Int) + 1 := by omega
      rw [e1]; exact he'
    · have hb' : b < s.heap.objs.size := by
        have e' : b = e ∨ b = it := by simpa using hb
        rcases e' with z | z
        · rw [z]; exact hel
        · rw [z]; exact hil
      rw [upd_ne (Nat.ne_of_lt hb')]
      exact (hf b hb).1
  done := by
    intro X hP hw hK hc i pins s σ H E I hf st hg
    subst hP hw hK
    obtain ⟨⟨old, he⟩, hit, hne⟩ := st
    obtain ⟨xs, hq, hx⟩ := hg
    obtain ⟨its, rv, p, hz⟩ := I.tuple hq
    have p : s.heap.IsTuple a its.toArray := p
    obtain ⟨f0, f1, f2, f3, f4, f5⟩ := hf it (by simp)
    have hl := rv.length
    exact enum_endT (I.ok.hd hc) he hit p (by simp; omega) fun h' eb => ⟨rfl, I.turned (t' := s.toks) (fun b o hb q => eb b o hb q) f0 f1 f3 f4 f5⟩
  self := fun A i s Q E st h => let ⟨⟨_, he⟩, _⟩ := st; wpAny_pyIter_enum he h
/-- enumerate(v), v a list or a tuple -/
def iEnumA (K : PySem.W.Frag) (ta : TA) : TI := fun σ H R => ta σ H fun vs H1 => ∃ a xs, vs = [.ref a] ∧ ((SqL K H1 a xs ∧ R (Ite K a) H1) ∨ (SqT K H1 a xs ∧ R (IteT K a) H1))
theorem pi_enumA {X : Cx} {e : Expr} {ta : TA} {p pos tpos : Pos} {elts : List Expr} {kk : Nat} (hg : Gl X "enumerate") (hm : X.mg "enumerate" = none) (ha : PA X [e] ta) (hs : starEach [e] X.env = [(false, eval e X.env)] := by rfl) :
    PI X (.Tuple elts kk tpos) (.Call (.Name "enumerate" p) [e] [] pos) (iEnumA X.K ta) := by
  refine ⟨fun pins s σ H R I h => ?_⟩
  refine Call_ (ld_blt I hg hm boot_enumerate (PyProof.Rows.callWith_type1 (thn (ha.run pos pins s σ H _ I h) fun us s1 ⟨vs, H1, I1, r1, q1⟩ => ?_) hs rfl))
  obtain ⟨a, xs, ex, q⟩ := q1
  subst ex
  cases r1 with
  | cons r rr =>
    cases rr
    cases r
    have e' : ∀ b ∈ [s1.heap.objs.size + 1, s1.heap.objs.size], s1.heap.objs.size ≤ b := fun b hb => by
      have : b = s1.heap.objs.size + 1 ∨ b = s1.heap.objs.size := by simpa using hb
      rcases this with z | z
      · rw [z]; exact Nat.le_add_right _ _
      · rw [z]; exact Nat.le_refl _
    rcases q with ⟨hq, q⟩ | ⟨hq, q⟩
    · obtain ⟨its, rv, p', hz⟩ := I1.list hq
      refine call_enumerate_list p'.isList fun h' he hit hsz hk => wpAny_pyIter_enum he ?_
      have I2 : Inv X pins σ H1 { s1 with heap := h' } := I1.kept (t' := s1.toks) hk
      exact ⟨s1.heap.objs.size + 1, [s1.heap.objs.size + 1, s1.heap.objs.size], _, _, H1, rfl, I2, turn_enum a (s1.heap.objs.size + 1) s1.heap.objs.size, ⟨⟨.none, he⟩, hit, Nat.succ_ne_self _⟩, fun b hb => I1.fpOk (e' b hb) (I1.hok.fresh (e' b hb)), q⟩
    · obtain ⟨its, rv, p', hz⟩ := I1.tuple hq
      have p2 : s1.heap.IsTuple a its.toArray := p'
      have lt : a < s1.heap.objs.size := by obtain ⟨_, z, _⟩ := p2; exact Heap.lt_size z
      refine begins1 (begins_tuple a its.toArray) p2 fun h' he ho hsz hk => wpAny_pyIter_enum he ?_
      have I2 : Inv X pins σ H1 { s1 with heap := h' } := I1.kept (t' := s1.toks) hk
      exact ⟨s1.heap.objs.size + 1, [s1.heap.objs.size + 1, s1.heap.objs.size], _, _, H1, rfl, I2, turn_enumT a (s1.heap.objs.size + 1) s1.heap.objs.size (Nat.ne_of_lt lt) (Nat.ne_of_lt (Nat.lt_succ_of_lt lt)), ⟨⟨.none, he⟩, ⟨_, ho, rfl, rfl⟩, Nat.succ_ne_self _⟩, fun b hb => I1.fpOk (e' b hb) (I1.hok.fresh (e' b hb)), q⟩
/-- the pairs of a tuple's items -/
theorem walk_enumT {K : PySem.W.Frag} {a : Addr} {xs : List V} : Walk (IteT K a) xs.length (fun H => SqT K H a xs) (YPair (fun i => some (.int (i : Nat))) (fun i => xs[i]?)) where
  goes := fun i H hi q => ⟨xs, xs[i], q, by simp [hi]⟩
  stops := fun H q => ⟨xs, q, Nat.le_refl _⟩
  yields := fun i H x H' hi q y => by
    obtain ⟨T, u, rfl, n, rfl, h⟩ := y
    exact ⟨T, _, u, rfl, n, rfl, rfl, h xs q⟩
end EnT
set_option Elab.async false
set_option linter.all false
set_option maxRecDepth 100000
set_option maxHeartbeats 4000000
/-! several clauses, each of them with the exception's name -/
namespace TrA
open PySem PySem.Spec PyProof.Rows L2
abbrev Suite := Addr → Value → Option Addr → TS
def endsAs (i : Nat) (D : Ends) : Ends := { nx := fun σ' H' => D.nx (σ'.set i none) H', rt := D.rt, bk := fun σ' H' => D.bk (σ'.set i none) H', ct := fun σ' H' => D.ct (σ'.set i none) H' }
/-- what the clauses wish of an exception, one behind the other -/
def wManyAs (K : PySem.W.Frag) (i : Nat) (Wout : WX) (D : Ends) : List (Value × Suite) → WX
  | [] => Wout
  | (c, ts) :: r => fun cls d σ H => ∃ b, PySem.W.exmOne K cls c = some b ∧ (b = true → ∀ a, H a = none → ts a cls d (endsAs i D) (σ.set i (some (.ref a))) H) ∧ (b = false → wManyAs K i Wout D r cls d σ H)
inductive HdAs (X : Cx) (n : Str) : List ExceptHandler → List (Value × Suite) → Prop
  | nil : HdAs X n [] []
  | cons {x : Str} {c : Value} {ts : Suite} {b₀ : Stmt} {suite : List Stmt} {np pos' : Pos} {hds : List ExceptHandler} {l : List (Value × Suite)} (hc : Names X x c)
      (hsu : ∀ (a : Addr) (oe : Obj) (cls : Value) (d : Option Addr) (pn : List (Addr × Obj)), Zc cls d oe → (∃ vs, oe.data = .fields vs) → PSs (X.suite a ((a, oe) :: pn)) (b₀ :: suite) (ts a cls d)) (r : HdAs X n hds l) :
      HdAs X n (.ExceptHandler (some (.Name x np)) (some n) (b₀ :: suite) pos' :: hds) ((c, ts) :: l)
section
variable {X : Cx} {n : Str} {i : Nat} {body : List Stmt} {h₀ : ExceptHandler} {hds : List ExceptHandler} {l : List (Value × Suite)} {pos : Pos} {tb : WX → TS} {Wout : WX}
theorem ps_tries (hs : X.stack = X.env :: X.outer) (hf : X.env.frame = some X.env.locals) (hN : X.N.Nodup) (hi : X.N[i]? = some n) (hln : X.env.kindOf n = some .local) (tk : Takes X Wout)
    (hb : ∀ (W : WX) (pn : List (Addr × Obj)) (xe : Value → Shared → Prop), Takes (X.tr pn xe) W → PassesOwn (model X.prog X.w) X.A X.env xe → PSs (X.tr pn xe) body (tb W))
    (hh : HdAs X n (h₀ :: hds) l) : PS X (.Try body (h₀ :: hds) [] [] pos) (fun D σ H => tb (wManyAs X.K i Wout D l) D σ H) := by
  refine ⟨fun pins s σ H D I h => ?_⟩
  have ok := I.ok
  have hloc : Loc X.env.scope n := .inl hln
  have hfr : X.A.frames = some (X.env :: X.outer) := by rw [ok.frames, hs]
  refine wpAny_Try_except ?_
  refine wpAny_mono ((hb (wManyAs X.K i Wout D l) (X.pn ++ pins) (fun e s₁ => wpAny (model X.prog X.w) X.A (noteFrame e X.env) (fun _ s₂ => wpAny (model X.prog X.w) X.A (setFlight e none) (fun _ s₃ =>
    wpAny (model X.prog X.w) X.A (handleBy e X.env (h₀ :: hds)) (SP X pins D) X.xe s₃) X.xe s₂) X.xe s₁) (fun u s' xx => ?_) PassesOwn.looking).run [] s σ H D (I.toTry _) h) (fun f s1 hsp => ?_) (fun e s1 he => he)
  · -- the catch
    obtain ⟨a, B, sI, pins', σ', H', cls, d, rfl, J', nb, up, sky, na, os, ag, w⟩ := xx
    have J : Inv X pins σ' H' sI := J'.ofTry ok
    have sky' : Sky B (X.env :: X.outer) a (Zc cls d) X.env.locals s'.heap := by rw [← hs]; exact sky
    show wpAny (model X.prog X.w) X.A (noteFrame (.ref a) X.env) _ _ _
    refine Sky.land Zc.steady hfr hf sky' fun h3 fl3 up3 => ?_
    have J3 : Inv X pins σ' H' { s' with heap := h3 } := J.landed nb fl3.1 (up.trans up3) os ag
    obtain ⟨oe3, vs3, he3, hz3, hd3⟩ := fl3.there
    have notFr : ∀ {h : Heap} {o : Obj} {vs : Array Value}, h.FunFrames B (X.env :: X.outer) → h.get? a = some o → o.data = .fields vs → a ∉ frs (X.env :: X.outer) := fun {h o vs} ff e dd hm => by
      obtain ⟨_, o', e', hnf⟩ := ff.mem hm
      rw [e] at e'; cases e'
      exact hnf _ dd
    have nfr := notFr fl3.2.2.1 he3 hd3
    have nL : a ≠ X.env.locals := fun z => nfr (List.mem_filterMap.mpr ⟨X.env, List.mem_cons_self, by rw [hf, z]⟩)
    have nF : a ∉ X.fs := fun hm => by
      obtain ⟨e, he, q⟩ := List.mem_filterMap.mp hm
      exact nfr (List.mem_filterMap.mpr ⟨e, List.mem_cons_of_mem _ he, q⟩)
    have S3 := J3.suite he3 hd3 na nL nF
    have go : ∀ {hds' : List ExceptHandler} {l' : List (Value × (Addr → Value → Option Addr → TS))}, HdAs X n hds' l' → wManyAs X.K i Wout D l' cls d σ' H' →
        wpAny (model X.prog X.w) X.A (handleBy (.ref a) X.env hds') (SP X pins D) X.xe { s' with heap := h3 } := by
      intro hds' l' hk
      induction hk with
      | nil =>
        intro w
        refine wpAny_handleBy_nil ?_
        obtain ⟨k1, k2, k3, oe, vs, T, oT, ts', he, hz, hd, h1, hr⟩ := id fl3
        unfold PySem.passOn
        refine wpAny_bind (wpAny_field he hd h1 ?_)
        rw [if_neg (show ¬ ((Value.ref T == Value.none) = true) from by simp)]
        have fin : wpAny (model X.prog X.w) X.A (setFlight (.ref a) X.env.frame) (fun _ s4 => wpAny (model X.prog X.w) X.A (throw (.ref a) : Sem Flow) (SP X pins D) X.xe s4) X.xe { s' with heap := h3 } := by
          rw [hf]
          refine HandSPX.setFlight_upZ fl3 fun h4 hh4 up4 => wpAny_throw (tk _ _ ?_)
          exact ⟨a, B, sI, pins, σ', H', cls, d, rfl, J, nb, (up.trans up3).trans up4, .inr (.inr (by rw [hs]; exact hh4)), na, os, ag, w⟩
        first
          | exact wpAny_bind (wpAny_pure (wpAny_bind fin))
          | exact wpAny_bind fin
      | @cons x c ts b₀ suite np pos' hds2 l2 hc hsu r ih =>
        intro w
        obtain ⟨b, hb1, hyes, hno⟩ := w
        refine wpAny_handleBy_cons (codeAny_handlers_test ?_) (by intro q; cases q)
        have LT : PySem.W.Looks (model X.prog X.w) h3 (typeOf (.ref a)) cls := fun A Q E s k q => wpAny_typeOf_ref (k _ _ he3) (by rw [hz3.1]; exact q)
        have LM := PySem.W.exm_one (M := model X.prog X.w) (J3.kIn) LT hb1
        have test : ∀ {Q : Value → Shared → Prop} {E : Value → Shared → Prop}, Q c { s' with heap := h3 } → wpAny (model X.prog X.w) (X.A.mark (some (.ref a))) (eval (.Name x np) X.env) Q E { s' with heap := h3 } := fun {Q E} q => by
          obtain ⟨hg, hdbg, hm | ⟨hm, hv, hnn⟩⟩ := hc
          · exact ld_glob (X := X.suite a ((a, oe3) :: (X.pn ++ pins))) S3 hg hm q hdbg
          · exact ld_blt (X := X.suite a ((a, oe3) :: (X.pn ++ pins))) S3 hg hm hv q hnn hdbg
        refine test (LM.here ?_)
        cases b with
        | true =>
          refine codeAny_handlers_suite_as ?_
          refine HandSPX.lands_againZ fl3 fun h4 fl4 up4 => ?_
          have J4 : Inv X pins σ' H' { s' with heap := h4 } := J.landed nb fl4.1 ((up.trans up3).trans up4) os ag
          obtain ⟨oe4, vs4, he4, hz4, hd4⟩ := fl4.there
          have S4 := J4.suite he4 hd4 na nL nF
          refine store_ok (X := X.suite a ((a, oe4) :: (X.pn ++ pins))) (v := .ref a) S4 hN hi hloc rfl (fun s5 S5 => ?_) (.inr hln)
          refine wpAny_mono ((hsu a oe4 cls d (X.pn ++ pins) hz4 ⟨_, hd4⟩).run [] s5 _ H' _ S5 (hyes rfl a na)) (fun f s6 hsp => ?_) (fun _ _ z => False.elim z)
          have end_ : ∀ {σ6 : L2.St} {H6 : Hp} {Q : Shared → Prop}, Inv (X.suite a ((a, oe4) :: (X.pn ++ pins))) [] σ6 H6 s6 → (∀ s7, Inv X pins (σ6.set i none) H6 s7 → Q s7) →
              wpAny (model X.prog X.w) X.A (do bindName X.env n .none; unbindBehindTheSuite X.env n pos') (fun _ s7 => Q s7) X.xe s6 := fun {σ6 H6 Q} S6 hq => gone_ok (S6.unsuite ok) hN hi hln hq
          cases f with
          | next =>
            obtain ⟨σ6, H6, S6, q6⟩ := hsp
            exact end_ S6 fun s7 J7 => ⟨_, _, J7, q6⟩
          | brk =>
            obtain ⟨σ6, H6, S6, q6⟩ := hsp
            exact end_ S6 fun s7 J7 => ⟨_, _, J7, q6⟩
          | cont =>
            obtain ⟨σ6, H6, S6, q6⟩ := hsp
            exact end_ S6 fun s7 J7 => ⟨_, _, J7, q6⟩
          | ret u =>
            obtain ⟨v6, σ6, H6, S6, r6, q6⟩ := hsp
            exact end_ S6 fun s7 J7 => ⟨_, _, _, J7, r6, q6⟩
        | false =>
          show wpAny _ X.A (handleBy (.ref a) X.env hds2) _ _ _
          exact ih (hno rfl)
    exact go hh w
  · cases f with
    | next =>
      obtain ⟨σ', H', J', q⟩ := hsp
      exact wpAny_execs_nil ⟨σ', H', J'.ofTry ok, q⟩
    | brk =>
      obtain ⟨σ', H', J', q⟩ := hsp
      exact ⟨σ', H', J'.ofTry ok, q⟩
    | cont =>
      obtain ⟨σ', H', J', q⟩ := hsp
      exact ⟨σ', H', J'.ofTry ok, q⟩
    | ret u =>
      obtain ⟨v, σ', H', J', r, q⟩ := hsp
      exact ⟨v, σ', H', J'.ofTry ok, r, q⟩
end
end TrA
set_option Elab.async false
set_option linter.all false
set_option maxRecDepth 100000
set_option maxHeartbeats 4000000
namespace RU
open PySem L2 L2H DQ K01
abbrev sRI : Stmt := inClass sRules 0
abbrev sREq : Stmt := inClass sRules 1
abbrev sWE : Stmt := inClass sRules 2
abbrev sWS : Stmt := inClass sRules 3
abbrev sOE : Stmt := inClass sRules 4
abbrev sOS : Stmt := inClass sRules 5
def isSeq : PyData → Bool | .list _ => true | .tuple _ => true | _ => false
def itemsD : PyData → List PyData | .list xs => xs | .tuple xs => xs | _ => []
def isRow (d : PyData) (lo hi : Int) : Bool := isSeq d && (decide (lo ≤ ((itemsD d).length : Int)) && decide (((itemsD d).length : Int) ≤ hi))
theorem kl (d : PyData) : kitB (tyN d) "list" = some (match d with | .list _ => true | _ => false) := by
  cases d
  · exact (by decide +kernel : kitB "NoneType" "list" = some false)
  · exact (by decide +kernel : kitB "bool" "list" = some false)
  · exact (by decide +kernel : kitB "int" "list" = some false)
  · exact (by decide +kernel : kitB "str" "list" = some false)
  · exact (by decide +kernel : kitB "list" "list" = some true)
  · exact (by decide +kernel : kitB "tuple" "list" = some false)
  · exact (by decide +kernel : kitB "dict" "list" = some false)
theorem kit_seq {K : PySem.W.Frag} (d : PyData) : PySem.W.kitAny K (.type (tyN d)) [.type "list", .type "tuple"] = some (isSeq d) := by
  refine kitAny_cons (kit_ty (kl d)) (fun h => kitAny_cons (kit_ty (kt d)) (fun h2 => ?_) fun h2 => ?_) fun h => ?_
  · cases d <;> first | rfl | exact Bool.noConfusion h2 | exact Bool.noConfusion h
  · cases d <;> first | rfl | exact Bool.noConfusion h2
  · cases d <;> first | rfl | exact Bool.noConfusion h
/-- data, or the empty tuple of the text -/
def Rw (K : PySem.W.Frag) (H : Hp) (v : V) (d : PyData) : Prop := Dq H v d ∨ ∃ (p : Addr) (ds : List PyData) (xs : List V), d = .tuple ds ∧ v = .ref p ∧ SqT K H p xs ∧ DqAll H xs ds
theorem sqT_same {K : PySem.W.Frag} {H H' : Hp} {a : Addr} {xs : List V} (h : SqT K H a xs) (s : Same H H') : SqT K H' a xs := sqt_same h s
theorem sqT_ty {K : PySem.W.Frag} {H : Hp} {a : Addr} {xs : List V} (h : SqT K H a xs) : TyX K H (.ref a) (.type "tuple") := by
  rcases h with h | ⟨o, its, n, e, c, _⟩
  · rcases h with h | ⟨o, h⟩
    · exact .base (.tup h)
    · exact .fTuple h
  · exact .kTuple e c
theorem Rw.same {K : PySem.W.Frag} {H H' : Hp} {v : V} {d : PyData} (h : Rw K H v d) (s : Same H H') : Rw K H' v d := h.elim (fun h => .inl (h.same s)) fun ⟨p, ds, xs, e1, e2, h1, h2⟩ => .inr ⟨p, ds, xs, e1, e2, sqt_same h1 s, h2.same s⟩
theorem Rw.ty {K : PySem.W.Frag} {H : Hp} {v : V} {d : PyData} (h : Rw K H v d) : TyX K H v (.type (tyN d)) := by
  rcases h with h | ⟨p, ds, xs, rfl, rfl, h, _⟩
  · exact h.ty
  · exact sqT_ty h
/-- its items, where it is a list or a tuple -/
theorem Rw.seq {K : PySem.W.Frag} {H : Hp} {v : V} {d : PyData} (h : Rw K H v d) (hs : isSeq d = true) : ∃ p xs, v = .ref p ∧ (SqL K H p xs ∨ SqT K H p xs) ∧ DqAll H xs (itemsD d) := by
  rcases h with h | ⟨p, ds, xs, rfl, rfl, h, a⟩
  · cases h with
    | lst e a => exact ⟨_, _, rfl, .inl (SqL.of e), a⟩
    | tup e a => exact ⟨_, _, rfl, .inr (SqT.of e), a⟩
    | _ => cases hs
  · exact ⟨p, xs, rfl, .inr h, a⟩
def spRow (K : PySem.W.Frag) : Sp := fun vs H Q _ => ∃ (v : V) (d : PyData) (lo hi : Int), vs = [v, .int lo, .int hi] ∧ Rw K H v d ∧ ∀ H', Same H H' → Q (.bl (isRow d lo hi)) H'
def numB (d : PyData) (many : Int) : Bool := match d with | .int i => decide (0 ≤ i) && decide (i < many) | _ => false
def spNum : Sp := fun vs H Q _ => ∃ (v : V) (d : PyData) (many : Int), vs = [v, .int many] ∧ Dq H v d ∧ ∀ H', Same H H' → Q (.bl (numB d many)) H'
def spWo (K : PySem.W.Frag) : Sp := fun vs H Q _ => ∃ (p : Addr) (j : Nat) (xs : List V) (ds : List PyData), vs = [.ref p, .int (j : Int)] ∧ SqT K H p xs ∧ DqAll H xs ds ∧ ds.length ≤ 100 ∧ ∀ p' xs' H', Same H H' → SqT K H' p' xs' → DqAll H' xs' (ds.take j ++ ds.drop (j + 1)) → Q (.ref p') H'
structure TR (mg : Str → Option Value) : Prop where
  isi : mg "isinstance" = none
  len : mg "len" = none
  list : mg "list" = none
  tuple : mg "tuple" = none
  int : mg "int" = none
  bool : mg "bool" = none
  enum : mg "enumerate" = none
theorem bintT : bootBuiltins ("int" : Str) = some (.type "int") := by decide +kernel
theorem bboolT : bootBuiltins ("bool" : Str) = some (.type "bool") := by decide +kernel
section
variable {P : Program} {w : World} {K : PySem.W.Frag} {mg : Str → Option Value} {base : Heap}
theorem scRow : FnScope ["thing", "least", "most"] ["thing", "least", "most"] (defScope sRow) := ⟨rfl, rfl, rfl, by decide +kernel, rfl, by decide +kernel, by decide +kernel⟩
theorem ok_row {f : Addr} {fd : FuncData} (F : Fun K "_is_row" "_is_row" sRow f fd) (T : TR mg) : FnOk P w K mg base CX0 1 f fd ["thing", "least", "most"] (spRow K) := by
  refine F.ok scRow (fun vs H Q E h => ?_) (fun cdv A outer s H vs Q E hr h => ?_)
  · obtain ⟨v, d, lo, hi, rfl, _⟩ := h
    rfl
  · obtain ⟨v, d, lo, hi, rfl, hd, k⟩ := h
    refine ⟨_, pss_one (ps_ret (pe_and (pe_callB call_isiT (by rfl) T.isi bisi (pa_cons (pv 0) (pa_cons (pe_tup (pa_cons (pe_bltn (v := .ty "list") (by rfl) T.list blist rfl) (pa_cons (pe_bltn (v := .ty "tuple") (by rfl) T.tuple btup rfl) pa_nil))) pa_nil)))
      (pe_one (pe_chain op_le op_le (pv 1) (pe_callB call_len_seq (by rfl) T.len PySem.boot_len (pa_cons (pv 0) pa_nil)) (pv 2))))), ?_⟩
    refine ⟨_, rfl, by show 2 ≤ sizeLine; decide, fun p np => ?_⟩
    have s1 := same_new (o := .tup [.ty "list", .ty "tuple"]) np
    have hd1 := hd.same s1
    refine ⟨v, p, _, _, [.type "list", .type "tuple"], isSeq d, rfl, upd_same, .cons (.ty _) (.cons (.ty _) .nil), hd1.ty, kit_seq d, _, rfl, ?_⟩
    cases hs : isSeq d with
    | false =>
      refine iteF ?_
      have z := k _ s1
      unfold isRow at z
      rw [hs] at z
      exact z
    | true =>
      obtain ⟨q, xs, rfl, hq, a⟩ := hd1.seq hs
      have z := k _ s1
      unfold isRow at z
      rw [hs, Bool.true_and, ← a.len] at z
      refine iteT ⟨_, rfl, _, rfl, q, xs, rfl, hq, _, _, rfl, rfl, _, rfl, ?_⟩
      cases h1 : decide (lo ≤ (xs.length : Int)) with
      | false =>
        rw [h1] at z
        exact iteF z
      | true =>
        rw [h1] at z
        exact iteT ⟨_, rfl, _, _, rfl, rfl, z⟩
end
end RU
set_option Elab.async false
set_option linter.all false
set_option maxRecDepth 100000
set_option maxHeartbeats 4000000
namespace RU
open PySem L2 L2H DQ K01
/-- slices and sums of tuples, wherever they stand -/
def rSlG (K : PySem.W.Frag) : V → Option Int → Option Int → Hp → VK → Prop := fun x lo hi H Q => ∃ a xs, x = .ref a ∧ SqT K H a xs ∧ ∀ p H', Same H H' → SqT K H' p (cutV xs lo hi) → Q (.ref p) H'
theorem sl_tupG {X : Cx} : SlR X (rSlG X.K) := by
  intro pins s σ H x v vl vu lo hi sl Q I rx hs pl pu h
  obtain ⟨a, xs, rfl, sq, g⟩ := h
  refine sl_tupA pins s σ H _ v vl vu lo hi sl Q I rx hs pl pu ⟨a, xs, rfl, sq, fun wh => g a H same_refl ?_, fun _ p np => g p _ (same_new np) (SqT.of upd_same)⟩
  have z : cutV xs lo hi = xs := by
    unfold cutV
    rw [wh.1, wh.2, List.drop_zero, Nat.sub_zero, List.take_length]
  rw [z]
  exact sq
def rCatG (K : PySem.W.Frag) : R2 := fun x y H Q => ∃ a b xs ys, x = .ref a ∧ y = .ref b ∧ SqT K H a xs ∧ SqT K H b ys ∧ xs.length + ys.length ≤ sizeLine ∧ ∀ p H', Same H H' → SqT K H' p (xs ++ ys) → Q (.ref p) H'
theorem op_catG {X : Cx} : OpR X (binaryOp .Add) (rCatG X.K) := by
  intro pins s σ H x y v u Q I rx ry h
  obtain ⟨a, b, xs, ys, rfl, rfl, ha, hb, hz, g⟩ := h
  refine op_catA pins s σ H _ _ v u Q I rx ry ⟨a, b, xs, ys, rfl, rfl, ha, hb, hz, fun hx => g b H same_refl ?_, fun _ hy => g a H same_refl ?_, fun _ _ p np => g p _ (same_new np) (SqT.of upd_same)⟩
  · rw [hx]
    exact hb
  · rw [hy, List.append_nil]
    exact ha
section
variable {P : Program} {w : World} {K : PySem.W.Frag} {mg : Str → Option Value} {base : Heap}
theorem scNum : FnScope ["thing", "many"] ["thing", "many"] (defScope sNum) := ⟨rfl, rfl, rfl, by decide +kernel, rfl, by decide +kernel, by decide +kernel⟩
theorem ok_num {f : Addr} {fd : FuncData} (F : Fun K "is_number" "is_number" sNum f fd) (T : TR mg) : FnOk P w K mg base CX0 1 f fd ["thing", "many"] spNum := by
  refine F.ok scNum (fun vs H Q E h => ?_) (fun cdv A outer s H vs Q E hr h => ?_)
  · obtain ⟨v, d, many, rfl, _⟩ := h
    rfl
  · obtain ⟨v, d, many, rfl, hd, k⟩ := h
    refine ⟨_, pss_one (ps_ret (pe_and (pe_callB call_isi (by rfl) T.isi bisi (pa_cons (pv 0) (pa_cons (pe_bltn (v := .ty "int") (by rfl) T.int bintT rfl) pa_nil)))
      (pe_and (pe_not (pe_callB call_isi (by rfl) T.isi bisi (pa_cons (pv 0) (pa_cons (pe_bltn (v := .ty "bool") (by rfl) T.bool bboolT rfl) pa_nil))))
      (pe_one (pe_chain op_le op_lt pe_int (pv 0) (pv 1)))))), ?_⟩
    have z := k H same_refl
    refine ⟨_, rfl, _, .ty "int", _, _, _, rfl, .ty _, hd.ty, kit_ty (ki d), _, rfl, ?_⟩
    cases hd with
    | int i =>
      refine iteT ⟨_, rfl, _, .ty "bool", _, _, _, rfl, .ty _, (Dq.int (H := H) i).ty, kit_ty (kb _), _, rfl, _, rfl, iteT ?_⟩
      refine ⟨_, rfl, _, _, rfl, rfl, _, rfl, ?_⟩
      replace z : Q (V.bl (decide (0 ≤ i) && decide (i < many))) H := z
      cases h1 : decide (0 ≤ i) with
      | false =>
        rw [h1] at z
        exact iteF z
      | true =>
        rw [h1] at z
        exact iteT ⟨_, rfl, _, _, rfl, rfl, z⟩
    | bl b => exact iteT ⟨_, rfl, _, .ty "bool", _, _, _, rfl, .ty _, (Dq.bl (H := H) b).ty, kit_ty (kb _), _, rfl, _, rfl, iteF z⟩
    | _ => exact iteF z
end
end RU
set_option Elab.async false
set_option linter.all false
set_option maxRecDepth 100000
set_option maxHeartbeats 4000000
namespace RU
open PySem L2 L2H DQ K01 EnT
open XH hiding same_refl same_trans same_new
/-! data stays where only instances are written -/
def KpI (H H' : Hp) : Prop := ∀ b o, H b = some o → (∀ C dx fs, o ≠ .ins C dx fs) → H' b = some o
theorem KpI.of {H H' : Hp} (s : Same H H') : KpI H H' := fun b o e _ => s _ _ e
theorem KpI.trans {H H' H'' : Hp} (a : KpI H H') (b : KpI H' H'') : KpI H H'' := fun x o e n => b x o (a x o e n) n
theorem KpI.put {H : Hp} {a C dx : Addr} {fs : List (Str × V)} {o : HO} (h : H a = some (.ins C dx fs)) : KpI H (upd H a o) := fun b u e n => by
  rw [upd_ne fun z => by rw [z, h] at e; exact n _ _ _ (Option.some.inj e).symm]
  exact e
mutual
theorem _root_.DQ.Dq.ins {H H' : Hp} (s : KpI H H') : ∀ {v : V} {d : PyData}, Dq H v d → Dq H' v d
  | _, _, .non => .non
  | _, _, .bl b => .bl b
  | _, _, .int i => .int i
  | _, _, .str x hx => .str x hx
  | _, _, .lst e a => .lst (s _ _ e (fun _ _ _ z => by cases z)) (a.ins s)
  | _, _, .tup e a => .tup (s _ _ e (fun _ _ _ z => by cases z)) (a.ins s)
  | _, _, .dic e => .dic (s _ _ e (fun _ _ _ z => by cases z))
theorem _root_.DQ.DqAll.ins {H H' : Hp} (s : KpI H H') : ∀ {vs : List V} {ds : List PyData}, DqAll H vs ds → DqAll H' vs ds
  | _, _, .nil => .nil
  | _, _, .cons a b => .cons (a.ins s) (b.ins s)
end
theorem sqT_ins {K : PySem.W.Frag} {H H' : Hp} {a : Addr} {xs : List V} (h : SqT K H a xs) (s : KpI H H') : SqT K H' a xs := by
  rcases h with h | h
  · refine .inl ?_
    rcases h with h | ⟨o, h⟩
    · exact .inl (s _ _ h fun _ _ _ z => by cases z)
    · exact .inr ⟨o, s _ _ h fun _ _ _ z => by cases z⟩
  · exact .inr h
theorem sqL_ins {K : PySem.W.Frag} {H H' : Hp} {a : Addr} {xs : List V} (h : SqL K H a xs) (s : KpI H H') : SqL K H' a xs := by
  rcases h with h | h
  · refine .inl ?_
    rcases h with h | ⟨o, h⟩
    · exact .inl (s _ _ h fun _ _ _ z => by cases z)
    · exact .inr ⟨o, s _ _ h fun _ _ _ z => by cases z⟩
  · exact .inr h
theorem tuple_any {K : PySem.W.Frag} {H : Hp} {p0 : Addr} {ys : List V} {Q : VK} (hq : SqL K H p0 ys ∨ SqT K H p0 ys) (k : ∀ q H', Same H H' → SqT K H' q ys → Q (.ref q) H') :
    ∃ p ys', [V.ref p0] = [V.ref p] ∧ ((SqL K H p ys' ∧ ∀ l, H l = none → Q (.ref l) (upd H l (.tup ys'))) ∨ (SqT K H p ys' ∧ Q (.ref p) H)) := by
  refine ⟨p0, ys, rfl, ?_⟩
  rcases hq with hq | hq
  · exact .inl ⟨hq, fun l nl => k l _ (same_new nl) (SqT.of upd_same)⟩
  · exact .inr ⟨hq, k p0 H same_refl hq⟩
theorem tuple_te {K : PySem.W.Frag} {ta : TA} {σ : L2.St} {H : Hp} {p0 : Addr} {ys : List V} {Q : VK} (h : ∀ Q' : List V → Hp → Prop, Q' [V.ref p0] H → ta σ H Q') (hq : SqL K H p0 ys ∨ SqT K H p0 ys) (k : ∀ q H', Same H H' → SqT K H' q ys → Q (.ref q) H') :
    tCB (fun xs H Q => ∃ p ys, xs = [.ref p] ∧ ((SqL K H p ys ∧ ∀ l, H l = none → Q (.ref l) (upd H l (.tup ys))) ∨ (SqT K H p ys ∧ Q (.ref p) H))) ta σ H Q := h _ (tuple_any hq k)
/-- a Rules of the class at C: its ends, its steps -/
def RulesAt (K : PySem.W.Frag) (H : Hp) (a C : Addr) (es ss : List PyData) : Prop := ∃ dx pe ps xs ys, H a = some (.ins C dx [("ends", .ref pe), ("steps", .ref ps)]) ∧ SqT K H pe xs ∧ DqAll H xs es ∧ SqT K H ps ys ∧ DqAll H ys ss
theorem RulesAt.same {K : PySem.W.Frag} {H H' : Hp} {a C : Addr} {es ss : List PyData} (r : RulesAt K H a C es ss) (s : Same H H') : RulesAt K H' a C es ss := by
  obtain ⟨dx, pe, ps, xs, ys, h1, h2, h3, h4, h5⟩ := r
  exact ⟨dx, pe, ps, xs, ys, s _ _ h1, sqt_same h2 s, h3.same s, sqt_same h4 s, h5.same s⟩
def firstBad (c : Int) (ds : List PyData) : Option Nat := ds.findIdx? fun d => !shape c d
/-- what Rules(de, ds) makes: the place of what is wrong, or the ends and the steps -/
def dueR (de ds : PyData) : PyData ⊕ (List PyData × List PyData) :=
  if (isRow de 1 3 && isRow ds 0 3) = true then
    match firstBad 0 (itemsD de) with
    | some i => .inl (.tuple [.str "end", .int (i : Int)])
    | none => match firstBad 1 (itemsD ds) with
      | some j => .inl (.tuple [.str "step", .int (j : Int)])
      | none => .inr (itemsD de, itemsD ds)
  else .inl .none
theorem bad_at {c : Int} {ds : List PyData} {i : Nat} {d : PyData} (hn : ∀ (k : Nat) (e : PyData), k < i → ds[k]? = some e → shape c e = true) (hd : ds[i]? = some d) (hb : shape c d = false) : firstBad c ds = some i := by
  unfold firstBad
  induction ds generalizing i with
  | nil => cases hd
  | cons x ds ih =>
    rw [List.findIdx?_cons]
    cases i with
    | zero =>
      cases hd
      rw [hb]
      rfl
    | succ i =>
      rw [hn 0 x (by omega) rfl, ih (i := i) (fun k e hk he => hn (k + 1) e (by omega) he) hd]
      rfl
theorem bad_none {c : Int} {ds : List PyData} (hn : ∀ (k : Nat) (e : PyData), ds[k]? = some e → shape c e = true) : firstBad c ds = none := by
  unfold firstBad
  rw [List.findIdx?_eq_none_iff]
  intro x hx
  obtain ⟨k, hk, e⟩ := List.mem_iff_getElem.mp hx
  rw [hn k x (by rw [List.getElem?_eq_getElem hk, e])]
  rfl
theorem two_fields (a b : V) : putF "steps" b (putF "ends" a []) = [(("ends" : Str), a), (("steps" : Str), b)] := by
  have z : ¬ (("ends" : Str) = "steps") := by decide +kernel
  simp [putF, z]
/-- E is asked: a BadRules of such a place -/
def OutB (H : Hp) (E : XK) (CB : Addr) (f : Str) (pl : PyData) : Prop := ∀ (d : Addr) (v : V) (H' : Hp), Same H H' → H' d = some (.xd [(f, v)]) → Dq H' v pl → E (.ref CB) (some d) H'
def spRI (K : PySem.W.Frag) (C CB : Addr) : Sp := fun vs H Q E => ∃ (x dx : Addr) (ve vs' : V) (de ds : PyData), vs = [.ref x, ve, vs'] ∧ H x = some (.ins C dx []) ∧ Rw K H ve de ∧ Rw K H vs' ds ∧
  (∀ pl, dueR de ds = .inl pl → OutB H E CB "place" pl) ∧
  (∀ es ss, dueR de ds = .inr (es, ss) → ∀ H', KpI H H' → (∀ b o, b ≠ x → H b = some o → H' b = some o) → RulesAt K H' x C es ss → Q .non H')
/-- an own error class that keeps one field -/
structure ExF (P : Program) (K : PySem.W.Frag) (mg : Str → Option Value) (x f : Str) (C : Addr) : Prop where
  ex : ∃ fI fd qn B newId initId bmB, ExT P K mg C fI fd f qn B newId initId bmB
  r : ExR K C f
  g : mg x = some (.ref C)
  k : PySem.W.keepIn K (.ref C) = true
theorem i_enumA {K : PySem.W.Frag} {ta : TA} {σ : L2.St} {H : Hp} {R : It → Hp → Prop} {a : Addr} {xs : List V} (h : ∀ Q : List V → Hp → Prop, Q [V.ref a] H → ta σ H Q) (hq : SqL K H a xs ∨ SqT K H a xs)
    (k : ∀ (J : It) (G : Hp → Prop), Walk J xs.length G (YPair (fun i => some (.int (i : Nat))) (fun i => xs[i]?)) → (∀ H', Same H H' → G H') → R J H) : iEnumA K ta σ H R := by
  refine h _ ⟨a, xs, rfl, ?_⟩
  rcases hq with hq | hq
  · exact .inl ⟨hq, k _ _ walk_enum fun H' s => s.seq hq⟩
  · exact .inr ⟨hq, k _ _ walk_enumT fun H' s => sqt_same hq s⟩
theorem nx_go {D : Ends} {σ : L2.St} {H : Hp} (h : D.nx σ H) : tNext D σ H := h
theorem for_enum {K : PySem.W.Frag} {ta : TA} {g : TG} {tb : TS} {D : Ends} {σ : L2.St} {H : Hp} {a : Addr} {xs : List V} (h : ∀ Q : List V → Hp → Prop, Q [V.ref a] H → ta σ H Q) (hq : SqL K H a xs ∨ SqT K H a xs)
    (k : ∀ (J : It) (G : Hp → Prop), Walk J xs.length G (YPair (fun i => some (.int (i : Nat))) (fun i => xs[i]?)) → (∀ H', Same H H' → G H') →
      ∃ W : Nat → Nat → L2.St → Hp → Prop, (∃ m, W 0 m σ H) ∧ ∀ i m σ H, W i m σ H →
        (J.stop i H ∧ D.nx σ H) ∨ (J.go i H ∧ ∃ N : L2.St → Hp → Prop, (∀ σ' H', N σ' H' → ∃ m', m' < m ∧ W (i + 1) m' σ' H') ∧ ∀ x H', J.yld i H x H' → g x σ H' fun σ2 H2 => tb { D with nx := N, ct := N, bk := D.nx } σ2 H2)) :
    tFor (iEnumA K ta) g tb D σ H := by
  unfold tFor
  exact i_enumA h hq k
structure TI3 (mg : Str → Option Value) : Prop where
  tr : TR mg
  e3 : ∃ t, mg "MOST_ENDS" = some (.int 3 t)
  s3 : ∃ t, mg "MOST_STEPS" = some (.int 3 t)
abbrev nRI : List Str := ["self", "ends", "steps", "number", "end", "step"]
section
variable {P : Program} {w : World} {K : PySem.W.Frag} {mg : Str → Option Value} {base : Heap}
theorem scRI : FnScope nRI ["self", "ends", "steps"] (defScope sRI) := ⟨rfl, rfl, rfl, by decide +kernel, rfl, by decide +kernel, by decide +kernel⟩
theorem ok_ri {f fR fT fB C CB : Addr} {fd dR dT dB : FuncData} {dvs : List V} {kws : List (Str × V)} (F : FunD K "__init__" "Rules.__init__" (defArgs sRI) (defBody sRI) (defScope sRI) dvs kws f fd)
    (FR : Fun K "_is_row" "_is_row" sRow fR dR) (bR : Binds K dR ["thing", "least", "most"] []) (gR : mg "_is_row" = some (.ref fR))
    (FT : Fun K "is_tree" "is_tree" sTr fT dT) (bT : Binds K dT ["thing"] []) (gT : mg "is_tree" = some (.ref fT)) (GT : FnOk P w K mg base CX0 11 fT dT ["thing"] (spB (shape 0)))
    (FB : Fun K "is_body" "is_body" sBo fB dB) (bB : Binds K dB ["thing"] []) (gB : mg "is_body" = some (.ref fB)) (GB : FnOk P w K mg base CX0 11 fB dB ["thing"] (spB (shape 1)))
    (T : TI3 mg) (X : ExF P K mg "BadRules" "place" CB) (cl : Cls K C) (n1 : NoAttr K C "ends") (n2 : NoAttr K C "steps") :
    FnOk P w K mg base (L2.CX P w) 12 f fd ["self", "ends", "steps"] (spRI K C CB) := by
  have GR : FnOk P w K mg base CX0 1 fR dR ["thing", "least", "most"] (spRow K) := ok_row FR T.tr
  obtain ⟨t3, g3⟩ := T.e3
  obtain ⟨t4, g4⟩ := T.s3
  obtain ⟨fI, fdI, qn, B, newId, initId, bmB, XT⟩ := X.ex
  refine F.ok (k := 11) scRI (fun vs H Q E h => ?_) (fun cdv A outer s H vs Q E hr h => ?_)
  · obtain ⟨x, dx, ve, vs', de, ds, rfl, _⟩ := h
    rfl
  · obtain ⟨x, dx, ve, vs', de, ds, rfl, hx, he, hs, hbad, hok⟩ := h
    have dp : (A.deeper (PyProof.Rows.envOfC "Rules.__init__" (defScope sRI) s.heap.objs.size f cdv)).depth + 1 < recursionLimit := by have := hr.dp; omega
    refine ⟨_, pss_cons (ps_if (PW.pt (pw_or (pt_not (pt_val (pe_call GR (hr.mono (by decide)) (by rfl) gR FR.kp bR .nil pass0 (pa_cons (pv 1) (pa_cons pe_int (pa_cons (pe_glob (v := .int 3) (by rfl) g3 ⟨_, rfl⟩) pa_nil)))))) (pw_or1 (pt_not (pt_val (pe_call GR (hr.mono (by decide)) (by rfl) gR FR.kp bR .nil pass0 (pa_cons (pv 2) (pa_cons pe_int (pa_cons (pe_glob (v := .int 3) (by rfl) g4 ⟨_, rfl⟩) pa_nil)))))))))
        (pss_one (ps_raise rfl (takes_of rfl rfl rfl rfl) (pmk_xp XT X.r dp X.g X.k (by rfl) pe_non))) pss_nil)
      (pss_cons (ps_for (passes_of rfl) rfl (pi_enumA (by rfl) T.tr.enum (pa_cons (pv 1) pa_nil)) (pg_tup (n := 2) rfl (pgs_cons (pg_name (i := 3) scRI.nd rfl (Or.inl rfl)) (pgs_cons (pg_name (i := 4) scRI.nd rfl (Or.inl rfl)) pgs_nil)))
        (pss_one (ps_if (pt_not (pt_val (pe_call GT hr (by rfl) gT FT.kp bT .nil pass0 (pa_cons (pv 4) pa_nil)))) (pss_one (ps_raise rfl (takes_of rfl rfl rfl rfl) (pmk_xp XT X.r dp X.g X.k (by rfl) (pe_tup (pa_cons pe_str (pa_cons (pv 3) pa_nil)))))) pss_nil)))
      (pss_cons (ps_for (passes_of rfl) rfl (pi_enumA (by rfl) T.tr.enum (pa_cons (pv 2) pa_nil)) (pg_tup (n := 2) rfl (pgs_cons (pg_name (i := 3) scRI.nd rfl (Or.inl rfl)) (pgs_cons (pg_name (i := 5) scRI.nd rfl (Or.inl rfl)) pgs_nil)))
        (pss_one (ps_if (pt_not (pt_val (pe_call GB hr (by rfl) gB FB.kp bB .nil pass0 (pa_cons (pv 5) pa_nil)))) (pss_one (ps_raise rfl (takes_of rfl rfl rfl rfl) (pmk_xp XT X.r dp X.g X.k (by rfl) (pe_tup (pa_cons pe_str (pa_cons (pv 3) pa_nil)))))) pss_nil)))
      (pss_cons (ps_fld (pv 0) (pe_callTy call_tuple_of (by rfl) T.tr.tuple btup (pa_cons (pv 1) pa_nil)) rfl)
      (pss_one (ps_fld (pv 0) (pe_callTy call_tuple_of (by rfl) T.tr.tuple btup (pa_cons (pv 2) pa_nil)) rfl))))), ?_⟩
    have low : ∀ {H1 : Hp} {pl : PyData} {v : V}, Same H H1 → dueR de ds = .inl pl → Dq H1 v pl → ∀ d, H1 d = none → E (.ref CB) (some d) (upd H1 d (.xd [("place", v)])) := fun {H1 pl v} s1 hd q d nd =>
      hbad pl hd d v _ (same_trans s1 (same_new nd)) upd_same (q.same (same_new nd))
    refine ⟨_, rfl, ve, de, 1, 3, rfl, he, fun H1 s1 => ⟨_, rfl, ?_⟩⟩
    cases h1 : isRow de 1 3 with
    | false => exact iteT (iteT (low s1 (by unfold dueR; rw [h1]; rfl) .non))
    | true =>
    refine iteF ⟨_, rfl, vs', ds, 0, 3, rfl, hs.same s1, fun H2 s2 => ⟨_, rfl, ?_⟩⟩
    cases h2 : isRow ds 0 3 with
    | false => exact iteT (low (same_trans s1 s2) (by unfold dueR; rw [h1, h2]; rfl) .non)
    | true =>
    refine iteF ?_
    have du : dueR de ds = match firstBad 0 (itemsD de) with
        | some i => .inl (.tuple [.str "end", .int (i : Int)])
        | none => match firstBad 1 (itemsD ds) with
          | some j => .inl (.tuple [.str "step", .int (j : Int)])
          | none => .inr (itemsD de, itemsD ds) := by
      unfold dueR
      rw [h1, h2]
      rfl
    have s12 := same_trans s1 s2
    obtain ⟨pe, xs, rfl, hqe, ae⟩ := (he.same s12).seq (by unfold isRow at h1; exact (Bool.and_eq_true_iff.mp h1).1)
    obtain ⟨ps, ys, rfl, hqs, as⟩ := (hs.same s12).seq (by unfold isRow at h2; exact (Bool.and_eq_true_iff.mp h2).1)
    have hx2 := s12 _ _ hx
    refine nx_go ?_
    dsimp only
    unfold tSeq
    refine for_enum (fun Q q => ⟨_, rfl, q⟩) hqe fun J G w hG => ?_
    refine for_it w (fun i σ' H' => ∃ w3 w4, σ' = [some (.ref x), some (.ref pe), some (.ref ps), w3, w4, none] ∧ Same H2 H' ∧ ∀ (k : Nat) (d : PyData), k < i → (itemsD de)[k]? = some d → shape 0 d = true) ⟨_, _, rfl, same_refl, fun k d hk => absurd hk (Nat.not_lt_zero _)⟩ (fun i σ' H' _ ⟨_, _, _, s, _⟩ => hG H' s) ?_ ?_
    · rintro i y σ' H3 H4 hi ⟨w3, w4, rfl, s3, hall⟩ ⟨Tt, u, z, rfl, nT, rfl, hu, hz⟩
      obtain rfl : u = V.int (i : Nat) := (Option.some.inj hu).symm
      have lx := ae.len
      obtain ⟨d, hd⟩ : ∃ d, (itemsD de)[i]? = some d := ⟨_, List.getElem?_eq_getElem (by omega)⟩
      obtain ⟨z', hz', qz⟩ := ae.at hd
      replace hz : xs[i]? = some z := hz
      rw [hz] at hz'
      obtain rfl : z = z' := Option.some.inj hz'
      have s4 := same_trans s3 (same_new (o := .tup [.int (i : Nat), z]) nT)
      refine ⟨Tt, _, rfl, SqT.of upd_same, rfl, _, _, rfl, _, _, rfl, rfl, ?_⟩
      refine ⟨_, rfl, z, d, rfl, qz.same s4, fun H5 s5 => ⟨_, rfl, ?_⟩⟩
      cases hb : shape 0 d with
      | false =>
        refine iteT ⟨_, rfl, by show 2 ≤ sizeLine; decide, fun p np => ?_⟩
        refine low (same_trans s12 (same_trans s4 (same_trans s5 (same_new np)))) (pl := .tuple [.str "end", .int (i : Int)]) (by rw [du, bad_at hall hd hb]) ?_
        exact .tup upd_same (.cons (.str _ (by decide +kernel)) (.cons (.int _) .nil))
      | true =>
        refine iteF ⟨_, _, rfl, same_trans s4 s5, fun k e hk he' => ?_⟩
        by_cases hki : k = i
        · subst hki
          rw [hd] at he'
          cases he'
          exact hb
        · exact hall k e (by omega) he'
    rintro σ' H3 ⟨w3, w4, rfl, s3, hall⟩
    have g0 : firstBad 0 (itemsD de) = none := bad_none fun k e he' => hall k e (by rw [ae.len]; exact (List.getElem?_eq_some_iff.mp he').1) he'
    rw [g0] at du
    dsimp only at du
    have s13 := same_trans s12 s3
    dsimp only
    refine for_enum (fun Q q => ⟨_, rfl, q⟩) (hqs.elim (fun h => .inl (s3.seq h)) fun h => .inr (sqt_same h s3)) fun J G w hG => ?_
    refine for_it w (fun i σ' H' => ∃ w3 w5, σ' = [some (.ref x), some (.ref pe), some (.ref ps), w3, w4, w5] ∧ Same H3 H' ∧ ∀ (k : Nat) (d : PyData), k < i → (itemsD ds)[k]? = some d → shape 1 d = true) ⟨_, _, rfl, same_refl, fun k d hk => absurd hk (Nat.not_lt_zero _)⟩ (fun i σ' H' _ ⟨_, _, _, s, _⟩ => hG H' s) ?_ ?_
    · rintro i y σ' H4 H5 hi ⟨w3, w5, rfl, s4, hall2⟩ ⟨Tt, u, z, rfl, nT, rfl, hu, hz⟩
      obtain rfl : u = V.int (i : Nat) := (Option.some.inj hu).symm
      have lx := as.len
      obtain ⟨d, hd⟩ : ∃ d, (itemsD ds)[i]? = some d := ⟨_, List.getElem?_eq_getElem (by omega)⟩
      obtain ⟨z', hz', qz⟩ := as.at hd
      replace hz : ys[i]? = some z := hz
      rw [hz] at hz'
      obtain rfl : z = z' := Option.some.inj hz'
      have s5 := same_trans s4 (same_new (o := .tup [.int (i : Nat), z]) nT)
      refine ⟨Tt, _, rfl, SqT.of upd_same, rfl, _, _, rfl, _, _, rfl, rfl, ?_⟩
      refine ⟨_, rfl, z, d, rfl, qz.same (same_trans s3 s5), fun H6 s6 => ⟨_, rfl, ?_⟩⟩
      cases hb : shape 1 d with
      | false =>
        refine iteT ⟨_, rfl, by show 2 ≤ sizeLine; decide, fun p np => ?_⟩
        refine low (same_trans s13 (same_trans s5 (same_trans s6 (same_new np)))) (pl := .tuple [.str "step", .int (i : Int)]) (by rw [du, bad_at hall2 hd hb]) ?_
        exact .tup upd_same (.cons (.str _ (by decide +kernel)) (.cons (.int _) .nil))
      | true =>
        refine iteF ⟨_, _, rfl, same_trans s5 s6, fun k e hk he' => ?_⟩
        by_cases hki : k = i
        · subst hki
          rw [hd] at he'
          cases he'
          exact hb
        · exact hall2 k e (by omega) he'
    rintro σ' H4 ⟨w3', w5, rfl, s4, hall2⟩
    have g1 : firstBad 1 (itemsD ds) = none := bad_none fun k e he' => hall2 k e (by rw [as.len]; exact (List.getElem?_eq_some_iff.mp he').1) he'
    rw [g1] at du
    dsimp only at du
    have s14 := same_trans s13 s4
    dsimp only
    refine tuple_te (fun Q' q => ⟨_, rfl, q⟩) (hqe.elim (fun h => .inl ((same_trans s3 s4).seq h)) fun h => .inr (sqt_same h (same_trans s3 s4))) fun q1 H5 s5 e5 => ?_
    have hx5 := s5 _ _ (s14 _ _ hx)
    refine ⟨_, rfl, x, C, dx, [], rfl, hx5, cl, n1, by decide, ?_⟩
    have k6 : KpI H5 (upd H5 x (.ins C dx (putF "ends" (.ref q1) []))) := KpI.put hx5
    have hx6 : upd H5 x (.ins C dx (putF "ends" (.ref q1) [])) x = some (.ins C dx (putF "ends" (.ref q1) [])) := upd_same
    have o6 : ∀ b o, b ≠ x → H b = some o → upd H5 x (.ins C dx (putF "ends" (.ref q1) [])) b = some o := fun b o hb e => by
      rw [upd_ne hb]
      exact s5 _ _ (s14 _ _ e)
    have e6 := sqT_ins e5 k6
    have a6 := ((ae.same (same_trans s3 (same_trans s4 s5)))).ins k6
    have t6 := (as.same (same_trans s3 (same_trans s4 s5))).ins k6
    have q6 := hqs.elim (fun h => Or.inl (sqL_ins ((same_trans s3 (same_trans s4 s5)).seq h) k6)) fun h => Or.inr (sqT_ins (sqt_same h (same_trans s3 (same_trans s4 s5))) k6)
    have kk6 : KpI H (upd H5 x (.ins C dx (putF "ends" (.ref q1) []))) := (KpI.of (same_trans s14 s5)).trans k6
    generalize upd H5 x (HO.ins C dx (putF "ends" (V.ref q1) [])) = H6 at k6 hx6 o6 e6 a6 t6 q6 kk6
    dsimp only
    refine tuple_te (fun Q' q => ⟨_, rfl, q⟩) q6 fun q2 H7 s7 e7 => ?_
    refine ⟨_, rfl, x, C, dx, _, rfl, s7 _ _ hx6, cl, n2, by show 1 < 1000; decide, ?_⟩
    have k8 : KpI H7 (upd H7 x (.ins C dx (putF "steps" (.ref q2) (putF "ends" (.ref q1) [])))) := KpI.put (s7 _ _ hx6)
    refine hok _ _ du _ ((kk6.trans (KpI.of s7)).trans k8) (fun b o hb e => ?_) ⟨dx, q1, q2, xs, ys, ?_, sqT_ins (sqt_same e6 s7) k8, (a6.same s7).ins k8, sqT_ins e7 k8, (t6.same s7).ins k8⟩
    · rw [upd_ne hb]
      exact s7 _ _ (o6 b o hb e)
    · rw [two_fields]
      exact upd_same
end
end RU
set_option Elab.async false
set_option linter.all false
set_option maxRecDepth 100000
set_option maxHeartbeats 4000000
namespace RU
open PySem L2 L2H DQ K01 EnT
open XH hiding same_refl same_trans same_new
theorem OutB.same {H H' : Hp} {E : XK} {CB : Addr} {f : Str} {pl : PyData} (o : OutB H E CB f pl) (s : Same H H') : OutB H' E CB f pl := fun d v H'' s' e q => o d v H'' (same_trans s s') e q
theorem OutB.raise {H : Hp} {E : XK} {CB : Addr} {f : Str} {pl : PyData} {v : V} (o : OutB H E CB f pl) (q : Dq H v pl) : ∀ d, H d = none → E (.ref CB) (some d) (upd H d (.xd [(f, v)])) := fun d nd => o d v _ (same_new nd) upd_same (q.same (same_new nd))
/-- what a Rules(ve, vs') asks of its making -/
theorem make_ok {K : PySem.W.Frag} {C CB : Addr} {ve vs' : V} {de ds : PyData} {H : Hp} {Q : VK} {E : XK} (he : Rw K H ve de) (hs : Rw K H vs' ds) (bad : ∀ pl, dueR de ds = .inl pl → OutB H E CB "place" pl)
    (ok : ∀ es ss, dueR de ds = .inr (es, ss) → ∀ b H', Same H H' → H b = none → RulesAt K H' b C es ss → Q (.ref b) H') :
    ∀ x dx, H x = none → H dx = none → dx ≠ x → spRI K C CB [.ref x, ve, vs'] (upd (upd H dx (.own x)) x (.ins C dx [])) (fun v H2 => v = .non ∧ Q (.ref x) H2) E := by
  intro x dx hx hdx ne
  have sA : Same H (upd (upd H dx (.own x)) x (.ins C dx [])) := same_trans (same_new hdx) (same_new (by rw [upd_ne (Ne.symm ne)]; exact hx))
  refine ⟨x, dx, ve, vs', de, ds, rfl, upd_same, he.same sA, hs.same sA, fun pl h => (bad pl h).same sA, fun es ss h H' k o r => ⟨rfl, ok es ss h x H' (fun b u e => ?_) hx r⟩⟩
  have nb : b ≠ x := fun z => by rw [z, hx] at e; cases e
  exact o b u nb (sA b u e)
/-- the class Rules, as the text's written part tells it -/
structure RCl (K : PySem.W.Frag) (mg : Str → Option Value) (C fI : Addr) : Prop where
  g : mg "Rules" = some (.ref C)
  cl : Cls K C
  mkc : Mk K C fI
  n1 : NoAttr K C "ends"
  n2 : NoAttr K C "steps"
theorem RulesAt.inst {K : PySem.W.Frag} {H : Hp} {a C : Addr} {es ss : List PyData} (r : RulesAt K H a C es ss) : ∃ dx fs, H a = some (.ins C dx fs) := let ⟨dx, _, _, _, _, h, _⟩ := r; ⟨dx, _, h⟩
theorem lk_e (a b : V) : List.lookup ("ends" : Str) [(("ends" : Str), a), (("steps" : Str), b)] = some a := by simp [List.lookup]
theorem lk_s (a b : V) : List.lookup ("steps" : Str) [(("ends" : Str), a), (("steps" : Str), b)] = some b := by
  have z : (("steps" : Str) == ("ends" : Str)) = false := by decide +kernel
  simp [List.lookup, z]
section
variable {P : Program} {w : World} {K : PySem.W.Frag} {mg : Str → Option Value} {base : Heap}
end
end RU
set_option Elab.async false
set_option linter.all false
set_option maxRecDepth 100000
set_option maxHeartbeats 4000000
namespace RU
open PySem L2 L2H DQ K01 EnT
open XH hiding same_refl same_trans same_new
mutual
theorem _root_.DQ.Dq.dp {K : PySem.W.Frag} {H : Hp} : ∀ {v : V} {d : PyData}, d.canLay0 = true → Dq H v d → Dp K H v d
  | _, _, _, .non => .non
  | _, _, _, .bl b => .bl b
  | _, _, _, .int i => .int i
  | _, _, _, .str x hx => .str x
  | _, _, h, .lst e a => .lst (SqL.of e) (a.dp h)
  | _, _, h, .tup e a => .tup (SqT.of e) (a.dp h)
  | _, _, h, .dic e => nomatch (show false = true from h)
theorem _root_.DQ.DqAll.dp {K : PySem.W.Frag} {H : Hp} : ∀ {vs : List V} {ds : List PyData}, PyData.canLayAll0 ds = true → DqAll H vs ds → DpAll K H vs ds
  | _, _, _, .nil => .nil
  | _, _, h, .cons a b => .cons (a.dp (Bool.and_eq_true_iff.mp h).1) (b.dp (Bool.and_eq_true_iff.mp h).2)
end
theorem dp_tup {K : PySem.W.Frag} {H : Hp} {p : Addr} {xs : List V} {ds : List PyData} (h : SqT K H p xs) (a : DqAll H xs ds) (s : SeqAt.shaped (.tuple ds) = true) : Dp K H (.ref p) (.tuple ds) := .tup h (a.dp (SeqAt.canLay_of_shaped s))
section
variable {P : Program} {w : World} {K : PySem.W.Frag} {mg : Str → Option Value} {base : Heap}
end
end RU
set_option Elab.async false
set_option linter.all false
set_option maxRecDepth 100000
set_option maxHeartbeats 4000000
/-! a lambda with one parameter, that has a default (a whole number), handed to a def -/
namespace LamD
open PySem PySem.Spec PyProof.Rows L2 LamX
abbrev lq (X : Cx) : Str := X.env.qual ++ "<lambda>"
abbrev dObj (X : Cx) (params : Arguments) (body : Expr) (scope : Scope) (T0 : Addr) (doc pm : Value) (c' : Addr) (ctv : Value) : Obj :=
  PySem.W.kdv_obj "<lambda>" (lq X) params (.expr body) scope (cloFrom X.env.cells scope.names []) (.ref T0) doc pm c' ctv
section
variable {X : Cx} {pins : List (Addr × Obj)} {σ : L2.St} {H : Hp} {s : Shared}
theorem nofrs (I : Inv X pins σ H s) {f : Addr} (hf : s.heap.objs.size ≤ f) : f ∉ frs X.stack := fun z => by
  rcases List.mem_cons.mp (I.stkSub _ z) with e | e
  · exact absurd (Nat.lt_of_lt_of_le I.lt (e ▸ hf)) (Nat.lt_irrefl _)
  · exact I.nofs hf e
/-- the function object is made; what was known of the tables' code objects stays -/
theorem tail_made {T : List (Addr × Str)} {c P T0 : Addr} {params : Arguments} {body : Expr} {scope : Scope} {pos : Pos} {E Q : Value → Shared → Prop} {oT : Obj} (I : Inv X pins σ H s) (TB : TabB X.base X.mg c P) (hcode : X.env.code = .ref c)
    (hm : (P, lq X) ∈ T) (hu : ∀ p ∈ T, p.1 = P → p.2 = lq X) (hT : Tabs T H) (hfree : ∀ y ∈ scope.names, y.2 = .free → ∃ c, X.env.cells.lookup y.1 = some c)
    (ht0 : s.heap.get? T0 = some oT) (htn : H T0 = none)
    (h : ∀ (f c' : Addr) (doc pm ctv : Value) (H1 : Hp) (s' : Shared), Inv X pins σ H1 s' → ExtN H H1 → Tabs T H1 → s'.heap.get? f = some (dObj X params body scope T0 doc pm c' ctv) → H1 f = none → f ∉ frs X.stack →
      s'.heap.get? T0 = some oT → H1 T0 = none → H1 c' = some (CodeO c' (lq X)) → Q (.ref f) s') :
    wpAny (model X.prog X.w) X.A (makeTail "<lambda>" (lq X) params (.expr body) scope X.env (.ref T0) .none none pos pos.line) Q E s := by
  obtain ⟨ps, hP, hts, known⟩ := hT _ hm
  have onP : s.heap.get? P = some { cls := .none, data := .fields ps } := I.hok P _ hP
  have nTP : T0 ≠ P := fun z => by rw [z, hP] at htn; cases htn
  cases hc : codeAmong pos ps.toList with
  | some cv =>
    obtain ⟨c', e, hco⟩ := known pos cv hc
    subst e
    refine PySem.W.kdv_makeTailHit (mg := X.mg) (c := c) (P := P) (ps := ps) (closure_ok hfree) I.ok.glob (I.mod.glob.keeps I.bk) hcode (TB.code.keeps I.bk) onP hts hc (TB.bm.keeps I.bk) fun ctv doc h' tk hx hsz => ?_
    refine h h'.objs.size c' doc ((X.mg "__name__").getD .none) ctv H _ (I.kept fun b o e => Heap.get?_push_of_some _ (hx b o e)) (ExtN.refl H) hT (Heap.get?_push_size _ rfl) (I.hok.fresh hsz) (nofrs I hsz) (Heap.get?_push_of_some _ (hx _ _ ht0)) htn hco
  | none =>
    refine PySem.W.kdv_makeTail (mg := X.mg) (c := c) (P := P) (ps := ps) (closure_ok hfree) I.ok.glob (I.mod.glob.keeps I.bk) hcode (TB.code.keeps I.bk) onP hts hc TB.gP (TB.bm.keeps I.bk) fun c' ctv doc h' tk hx hge hlt hrec htb => ?_
    obtain ⟨c2, oc, vs, t, e2, hoc, hd, hv⟩ := hrec
    cases e2
    have hsz : s.heap.objs.size ≤ h'.objs.size := Nat.le_trans hge (Nat.le_of_lt hlt)
    have nC : H c' = none := I.hok.fresh hge
    have nTc : T0 ≠ c' := Nat.ne_of_lt (Nat.lt_of_lt_of_le (Heap.lt_size ht0) hge)
    have nfc : h'.objs.size ≠ c' := Nat.ne_of_gt hlt
    have nfP : h'.objs.size ≠ P := Nat.ne_of_gt (Nat.lt_of_lt_of_le (Heap.lt_size onP) hsz)
    have eN : ExtN H (upd (upd H P (.tbl (ps ++ #[rawInt pos.line, rawInt pos.col, .ref c']))) c' (CodeO c' (lq X))) := fun b o e n => by
      rw [upd_ne (ne_of_none e nC), upd_ne (fun z => n ps (Option.some.inj (e.symm.trans (by rw [z]; exact hP))))]
      exact e
    have eL : (ps ++ #[rawInt pos.line, rawInt pos.col, .ref c']).toList = ps.toList ++ [rawInt pos.line, rawInt pos.col, .ref c'] := by simp
    have J := inv_table (t' := tk) (more := #[rawInt pos.line, rawInt pos.col, .ref c']) (q := lq X) (h' := h'.push (dObj X params body scope T0 doc ((X.mg "__name__").getD .none) c' ctv)) I hP
      (fun b o hb e => Heap.get?_push_of_some _ (hx b o hb e)) (Heap.get?_push_of_some _ htb) hge ⟨oc, vs, t, Heap.get?_push_of_some _ hoc, hd, hv⟩
    refine h h'.objs.size c' doc ((X.mg "__name__").getD .none) ctv _ _ J eN (fun p hp => ?_) (Heap.get?_push_size _ rfl) (by rw [upd_ne nfc, upd_ne nfP]; exact I.hok.fresh hsz) (nofrs I hsz) (Heap.get?_push_of_some _ (hx _ _ nTP ht0)) (by rw [upd_ne nTc, upd_ne nTP]; exact htn) upd_same
    by_cases hb : p.1 = P
    · rw [hu p hp hb, hb]
      refine ⟨_, by rw [upd_ne (ne_of_none hP nC), upd_same], by rw [eL]; exact PySem.TriplesOk_snoc _ _ _ _ hts, fun p' cv hcv => ?_⟩
      rw [eL] at hcv
      rcases among_app _ hts hcv with z | z
      · obtain ⟨c0, e1, e2⟩ := known p' cv z
        exact ⟨c0, e1, eN _ _ e2 codeO_ne⟩
      · exact ⟨c', z, upd_same⟩
    · obtain ⟨ps', a1, a2, a3⟩ := hT p hp
      refine ⟨ps', by rw [upd_ne (ne_of_none a1 nC), upd_ne hb]; exact a1, a2, fun p' cv hcv => ?_⟩
      obtain ⟨c0, e1, e2⟩ := a3 p' cv hcv
      exact ⟨c0, e1, eN _ _ e2 codeO_ne⟩
/-- lambda x=d: body -/
theorem lamd_made {T : List (Addr × Str)} {c P : Addr} {params : Arguments} {body : Expr} {scope : Scope} {pos : Pos} {E Q : Value → Shared → Prop} {di : Int} {dj : Nat} {dp : Pos} (I : Inv X pins σ H s) (TB : TabB X.base X.mg c P) (hcode : X.env.code = .ref c)
    (hm : (P, lq X) ∈ T) (hu : ∀ p ∈ T, p.1 = P → p.2 = lq X) (hT : Tabs T H) (hfree : ∀ y ∈ scope.names, y.2 = .free → ∃ c, X.env.cells.lookup y.1 = some c)
    (hd : params.defaults = [.Constant (.int di) dj dp]) (hk0 : params.kw_defaults = [])
    (h : ∀ (f c' T0 : Addr) (t : Tok) (doc pm ctv : Value) (H1 : Hp) (s' : Shared), Inv X pins σ H1 s' → ExtN H H1 → Tabs T H1 → s'.heap.get? f = some (dObj X params body scope T0 doc pm c' ctv) → H1 f = none → f ∉ frs X.stack →
      s'.heap.get? T0 = some (PySem.W.kdv_tup [.int di t]) → H1 T0 = none → T0 ∉ frs X.stack → H1 c' = some (CodeO c' (lq X)) → Q (.ref f) s') :
    wpAny (model X.prog X.w) X.A (eval (.Lambda params body scope pos) X.env) Q E s := by
  refine PySem.W.kdv_lam (by rw [hd]; rfl) hk0 ?_
  rw [hd]
  refine PySem.W.kdv_all1 (wpAny_Constant_int (PySem.W.kdv_all0 ?_))
  have I0 := I.tok (s.toks + 1)
  rw [makeFunction_eq]
  simp only [List.zip_nil_right, List.filterMap_nil, List.isEmpty_nil, if_true, pure_bind, List.isEmpty_cons, Bool.false_eq_true, if_false]
  refine wpAny_bind (wpAny_newTextTuple ?_)
  have I1 := I0.kept (t' := s.toks + 1) (h' := s.heap.push { cls := .type "tuple", data := .seq [Value.int di s.toks].toArray }) (fun b o e => Heap.get?_push_of_some _ e)
  refine tail_made (oT := PySem.W.kdv_tup [.int di s.toks]) I1 TB hcode hm hu hT hfree (Heap.get?_push_size _ rfl) (I.hok.fresh (Nat.le_refl _)) fun f c' doc pm ctv H1 s' I2 eN T1 hf hfn hfr ht htn hco => ?_
  exact h f c' s.heap.objs.size s.toks doc pm ctv H1 s' I2 eN T1 hf hfn hfr ht htn (nofrs I (Nat.le_refl _)) hco
end
/-! ### its names -/
/-- one parameter, a, whose name the maker doesn't use; captured names and globals besides -/
structure LamP (N : List Str) (sc scope : Scope) (a : Str) : Prop where
  kind : scope.kind = .function
  co : scope.isCoroutine = false
  gen : scope.isGenerator = false
  nocell : ∀ y ∈ scope.names, y.2 ≠ .cell
  loc : ∀ y ∈ scope.names, y.2 = .local → y.1 ∉ N
  par : scope.names.lookup a = some .local
  free : ∀ y ∈ scope.names, y.2 = .free → sc.names.lookup y.1 = some .cell ∨ sc.names.lookup y.1 = some .free
def lamPB (N : List Str) (sc scope : Scope) (a : Str) : Bool :=
  decide (scope.kind = .function) && !scope.isCoroutine && !scope.isGenerator && decide (scope.names.lookup a = some .local) && scope.names.all fun y => !decide (y.2 = .cell) && (!decide (y.2 = .local) || !decide (y.1 ∈ N)) && (!decide (y.2 = .free) || decide (sc.names.lookup y.1 = some .cell) || decide (sc.names.lookup y.1 = some .free))
theorem lamP_by {N : List Str} {sc scope : Scope} {a : Str} (h : lamPB N sc scope a = true) : LamP N sc scope a := by
  unfold lamPB at h
  simp only [Bool.and_eq_true, Bool.or_eq_true, Bool.not_eq_true', decide_eq_true_eq, decide_eq_false_iff_not, List.all_eq_true] at h
  obtain ⟨⟨⟨⟨h1, h2⟩, h3⟩, h5⟩, h4⟩ := h
  exact ⟨h1, h2, h3, fun y hy => (h4 y hy).1.1, fun y hy e => (h4 y hy).1.2.elim (fun z => absurd e z) id, h5, fun y hy e => (h4 y hy).2.elim (fun z => z.elim (fun z => absurd e z) .inl) .inr⟩
theorem LamP.has {X : Cx} {scope : Scope} {a : Str} {N : List Str} (L : LamP N X.env.scope scope a) (ok : X.Ok) : ∀ y ∈ scope.names, y.2 = .free → ∃ c, X.env.cells.lookup y.1 = some c := fun y hy e => ok.has _ (L.free y hy e)
section
variable {X : Cx} {pins : List (Addr × Obj)} {σ : L2.St} {H HZ : Hp} {s s1 : Shared}
theorem clo_mem {scope : Scope} (ok : X.Ok) (hfree : ∀ y ∈ scope.names, y.2 = .free → ∃ c, X.env.cells.lookup y.1 = some c) {y : Str} {c : Addr} (e : (cloFrom X.env.cells scope.names []).lookup y = some c) : X.env.cells.lookup y = some c := by
  rcases cloFrom_mem (PySem.mem_of_lookup e) with hm | ⟨h1, h2⟩
  · cases hm
  · obtain ⟨c1, hc⟩ := hfree _ h1 rfl
    have hc : X.env.cells.lookup y = some c1 := hc
    rw [hc, h2, hc]
    rfl
/-- the body's context is entered -/
theorem lamd_start {A : Around} {outer : List Env} {E : XK} {scope : Scope} {f c' : Addr} {a : Str} {v : Value} {h₁ : Heap} {tk : Nat} (I : Inv X pins σ H s) (L : LamP X.N X.env.scope scope a) (e0 : Env0 X.prog X.w X.K X.mg X.base A outer s1 HZ) (hd : A.handled = none)
    (un : Un (frs X.stack) [] H HZ s.heap s1.heap) (hns : h₁.Ns s1.heap.objs.size fun y => ([(a, v)] : List (Str × Value)).reverse.lookup y) (kp : ∀ b o, s1.heap.get? b = some o → h₁.get? b = some o) :
    Inv (lamCx X A outer s1 HZ E scope f c') [] σ HZ { s1 with heap := h₁, toks := tk } := by
  have hfree := L.has I.ok
  have cm : ∀ {y c}, (cloFrom X.env.cells scope.names []).lookup y = some c → X.env.cells.lookup y = some c := fun e => clo_mem I.ok hfree e
  have cellK : ∀ {c : Addr} {w' : Option Value}, H c = none → s.heap.IsCell c w' → h₁.IsCell c w' := fun {c w'} n ⟨o, ho, hd⟩ => by
    obtain ⟨sl, q⟩ := un.any ho n (by simp)
    exact ⟨_, kp _ _ q, hd⟩
  have noA : ∀ b : Addr, b ∉ (lamCx X A outer s1 HZ E scope f c').ex := fun b z => nomatch (show b ∈ ([] : List Addr) from z)
  refine ⟨⟨e0.mod, L.kind, rfl, rfl, Nat.le_refl _, fun y z c e1 e2 => I.ok.inj y z c (cm e1) (cm e2), fun y hy => ?_, fun y c z _ => (nomatch (show false = true from z)), fun _ => hd, Around.frames_deeper e0.frames, .inr ⟨rfl, rfl⟩, fun b z => absurd z (noA b), e0.bs, e0.bsz, fun b _ _ => noA b,
      fun b z => absurd z (noA b), e0.funs, e0.frf⟩,
    rfl, e0.bare, Un.kept kp, ⟨_, hns, fun i y v e1 e2 e3 => ?_⟩, fun y c e => ?_, e0.hok.fresh (Nat.le_refl _), fun y c e => ?_, fun q hq => absurd (show q ∈ ([] : List (Addr × Obj)) ++ [] from hq) (by simp), e0.hok.kept kp, I.len⟩
  · have hy : scope.names.lookup y = some .cell ∨ scope.names.lookup y = some .free := hy
    rcases hy with hy | hy
    · exact absurd rfl (L.nocell _ (PySem.mem_of_lookup hy))
    · exact mem_lookup (cloFrom_has (cells := X.env.cells) (acc := []) (PySem.mem_of_lookup hy))
  · have yN : y ∈ X.N := List.mem_of_getElem? (show X.N[i]? = some y from e1)
    rcases (show Vis scope y from e3) with k | k | k
    · exact absurd yN (L.loc _ (PySem.mem_of_lookup k) rfl)
    · exact absurd rfl (L.nocell _ (PySem.mem_of_lookup k))
    · obtain ⟨m, hn, hl⟩ := I.loc
      have hfr := L.free _ (PySem.mem_of_lookup k) rfl
      obtain ⟨w', r, q⟩ := hl i y v e1 e2 (hfr.elim (fun k => .inr (.inl k)) fun k => .inr (.inr k))
      obtain ⟨c2, h2⟩ := mem_lookup (cloFrom_has (cells := X.env.cells) (acc := []) (PySem.mem_of_lookup k))
      refine ⟨w', r, .inr ⟨.inr k, c2, h2, ?_⟩⟩
      rcases q with ⟨k', _⟩ | ⟨_, c3, e', z⟩
      · have k' : X.env.scope.names.lookup y = some .local := k'
        rcases hfr with k2 | k2 <;> rw [show X.env.scope.names.lookup y = _ from k2] at k' <;> cases k'
      · cases e'.symm.trans (cm h2)
        exact cellK (I.freeC y _ (cm h2)) z
  · obtain ⟨w', z⟩ := I.cell y c (cm e)
    exact ⟨w', cellK (I.freeC y c (cm e)) z⟩
  · obtain ⟨v, o, ho, hd⟩ := I.cell y c (cm e)
    exact un.free c o ho (I.freeC y c (cm e)) (by simp)
/-- how the one parameter gets its default -/
def BindsD (params : Arguments) (body : Expr) (scope : Scope) (a : Str) (di : Int) : Prop :=
  ∀ (q : Str) (cl : List (Str × Addr)) (T0 : Addr) (doc pm cv ctv : Value), ∃ k : Option (Array Value) → Sem (List (Str × Value)),
    bindArgs (PySem.W.kdv_fn "<lambda>" q params (.expr body) scope cl (.ref T0) doc pm cv ctv) ⟨[], []⟩ = seqItems? (.ref T0) >>= k ∧ ∀ t, k (some #[.int di t]) = pure [(a, .int di t)]
/-- it is called, in the def that got it -/
theorem pe_actD {CXg : CXT} {Eg : XK} {Ng : List Str} {qg : Str} {sg : Scope} {g f c' T0 : Addr} {cdg pm ctv doc : Value} {params : Arguments} {body : Expr} {scope : Scope} {k i : Nat} {a x : Str} {di : Int} {tkd : Tok} {pn : List (Addr × Obj)} {xe : Value → Shared → Prop} {W : WX} {E : XK} {tb : TE} {p1 p2 : Pos}
    (I : Inv X pins σ H s) (L : LamP X.N X.env.scope scope x) (hf : s.heap.get? f = some (dObj X params body scope T0 doc pm c' ctv)) (hfn : H f = none) (hfr : f ∉ frs X.stack)
    (ht : s.heap.get? T0 = some (PySem.W.kdv_tup [.int di tkd])) (htn : H T0 = none) (htr : T0 ∉ frs X.stack) (hbind : BindsD params body scope x di)
    (tk : Takes ((cxOf CXg X.prog X.w X.K X.mg X.base Ng qg sg g cdg X.A X.stack s H Eg).tr pn xe) W) (hW : ∀ cls d σ' H', E cls d H' → W cls d σ' H') (hr : Room (k + 1) (X.A.deeper (envOfC qg sg s.heap.objs.size g cdg)))
    (hbody : ∀ (A : Around) (outer : List Env) (s : Shared) (H : Hp), Room k (A.deeper (lamEnv X scope s.heap.objs.size f c')) → PE (lamCx X A outer s H E scope f c') body tb)
    (hN : Ng[i]? = some a) (hv : Vis sg a) (hd : (a == ("__debug__" : Str)) = false := by decide) (hcd : (a == ("__classdict__" : Str)) = false := by decide) :
    PE ((cxOf CXg X.prog X.w X.K X.mg X.base Ng qg sg g cdg X.A X.stack s H Eg).tr pn xe) (.Call (.Name a p1) [] [] p2)
      (fun σZ HZ Q => σZ[i]? = some (some (.ref f)) ∧ HZ c' = some (CodeO c' (lq X)) ∧ tb σ HZ Q) := by
  refine ⟨fun pinsZ sZ σZ HZ Q IZ h => ?_⟩
  obtain ⟨hs, hc, htb⟩ := h
  refine wpAny_Call_Name_kw (thn ((pe_var (pos := p1) (i := i) hN hv hd hcd).run pinsZ sZ σZ HZ (fun v H1 => v = .ref f ∧ H1 = HZ) IZ ⟨.ref f, hs, rfl, rfl⟩) fun u s1 ⟨v, H1, I1, r1, ev, eH⟩ => ?_)
  subst ev
  rw [eH] at I1
  obtain rfl : u = Value.ref f := r1
  have un : Un (frs X.stack) [] H HZ s.heap s1.heap := I1.base
  have of1 := un.keep f _ hf hfn hfr (fun z => nomatch (show f ∈ ([] : List Addr) from z))
  have ot1 := un.keep T0 _ ht htn htr (fun z => nomatch (show T0 ∈ ([] : List Addr) from z))
  refine PySem.W.callWith_F0 ⟨_, _, _, _, of1⟩ ?_
  obtain ⟨⟨oc, vs, t, hoc, hdc, hvc⟩, _, _⟩ := I1.hok c' _ hc
  have rc : codeAny (model X.prog X.w) (X.A.deeper (envOfC qg sg s.heap.objs.size g cdg)) (.call (.ref f) ⟨[], []⟩) (CR (L2.CX X.prog X.w) (envOfC qg sg s.heap.objs.size g cdg :: X.stack) X.prog X.w HZ s1 Q E) s1 := by
    refine PySem.W.kla_callFunE hr.depth of1 rfl L.co L.gen rfl ⟨c', oc, vs, t, rfl, hoc, hdc, hvc⟩ ?_
    obtain ⟨kk, b1, b2⟩ := hbind (lq X) (cloFrom X.env.cells scope.names []) T0 doc pm (.ref c') ctv
    refine (BindsTo.of_defaults (binds := [(x, .int di tkd)]) (T := T0) (o := PySem.W.kdv_tup [.int di tkd]) (items := #[.int di tkd]) rfl ot1 rfl b1 (b2 tkd)) _ _ _ _ ?_
    refine wpAny_newFunctionEnv L.nocell (fun y hy => by cases List.mem_singleton.mp hy; exact L.par) (fun h₁ hns hsb => ⟨I1.nolimit.fresh _ hsb, ?_⟩) L.kind
    show codeAny _ _ (.expr body (lamEnv X scope s1.heap.objs.size f c')) _ _
    have kp : ∀ b o, s1.heap.get? b = some o → h₁.get? b = some o := fun b o e => hsb.extBut b o (Nat.ne_of_lt (Heap.lt_size e)) (Heap.get?_push_of_some _ e)
    have J : Inv (lamCx X (X.A.deeper (envOfC qg sg s.heap.objs.size g cdg)) (envOfC qg sg s.heap.objs.size g cdg :: X.stack) s1 HZ E scope f c') [] σ HZ { s1 with heap := h₁, toks := s1.toks + ([(x, Value.int di tkd)] : List (Str × Value)).length } :=
      lamd_start I L I1.env0 hr.hd un hns kp
    refine PySem.W.kla_codeExpr (wpAny_mono ((hbody _ _ s1 HZ (hr.deeper _)).run [] _ _ HZ Q J htb) (fun v s' hq => ?_) fun e s' hq => hq)
    obtain ⟨w', H', J', rv, q⟩ := hq
    exact ⟨w', H', J'.os, J'.bare, J'.base, J'.hok, rv, q⟩
  have hx : Passes (L2.CX X.prog X.w) ((cxOf CXg X.prog X.w X.K X.mg X.base Ng qg sg g cdg X.A X.stack s H Eg).tr pn xe) E := passes_call tk hW
  refine wpAny_call (codeAny_mono rc fun r s' hq => ?_)
  cases r with
  | error e => exact hx pinsZ σZ HZ s1 e s' I1 hq
  | ok fl =>
    cases fl with
    | ret u => exact I1.after hq
    | next => exact False.elim hq
    | brk => exact False.elim hq
    | cont => exact False.elim hq
end
section
variable {X : Cx}
/-- g(lambda x=d: body) -/
theorem pe_lamcallD {T : List (Addr × Str)} {TT : (XK → Hp → VK → Prop) → Hp → VK → Prop} {x a y : Str} {di : Int} {dj : Nat} {dp : Pos} {g c P : Addr} {k : Nat} {pg : Arguments} {bg : List Stmt} {sg : Scope} {dV kV doc pm cdv ct oc : Value} {an od : Option Addr} {osl : Array (Option Value)} {Ng : List Str}
    {params : Arguments} {body : Expr} {scope : Scope} {t : XK → TE} {p lpos pos : Pos} (hg : Gl X x) (hm : X.mg x = some (.ref g)) (hk : PySem.W.keepIn X.K (.ref g) = true)
    (lk : X.K.lookup g = some ⟨oc, od, .func (PySem.W.fnOf x x pg bg sg dV kV doc pm an cdv ct), osl⟩) (hcg : PySem.W.codeIn X.K cdv x = true) (hb : L2.Binds X.K (PySem.W.fnOf x x pg bg sg dV kV doc pm an cdv ct) [a] []) (Sg : FnScope Ng [a] sg) (hNg : Ng[0]? = some a) (hva : Vis sg a)
    (hG : GivesTo X Ng x sg g cdv bg a (lq X) TT)
    (TB : TabB X.base X.mg c P) (hcode : X.env.code = .ref c) (hmT : (P, lq X) ∈ T) (hu : ∀ p ∈ T, p.1 = P → p.2 = lq X) (hr : Room (k + 2) X.A) (L : LamP X.N X.env.scope scope y)
    (hdef : params.defaults = [.Constant (.int di) dj dp]) (hk0 : params.kw_defaults = []) (hbind : BindsD params body scope y di)
    (hbody : ∀ (A : Around) (outer : List Env) (s : Shared) (H : Hp) (E : XK) (f c' : Addr), Room k (A.deeper (lamEnv X scope s.heap.objs.size f c')) → PE (lamCx X A outer s H E scope f c') body (t E))
    (hdb : (x == ("__debug__" : Str)) = false := by decide) (hd : (a == ("__debug__" : Str)) = false := by decide) (hcd : (a == ("__classdict__" : Str)) = false := by decide) :
    PE X (.Call (.Name x p) [.Lambda params body scope lpos] [] pos) (tLam T TT t) := by
  refine ⟨fun pins s σ H Q I h => ?_⟩
  obtain ⟨hT, h⟩ := h
  refine wpAny_Call_Name_kw (ld_glob I hg hm ?_ hdb)
  refine PySem.W.callWith_K (h₀ := X.base) I.ok.mod.kin hk ?_ (by rfl) (by rfl)
  show wpAny _ _ (spliced ((false, eval (.Lambda params body scope lpos) X.env) :: backTo pos (starEach [] X.env))) _ _ s
  refine Calls.spliced_cons (lamd_made I TB hcode hmT hu hT (L.has I.ok) hdef hk0 fun f c' T0 tk0 doc' pm' ctv H1 s' I1 eN T1 hf hfn hfr ht htn htr hco => ?_)
  refine Calls.spliced_nil ⟨I1.kIn, ?_⟩
  have rc : codeAny (model X.prog X.w) X.A (.call (.ref g) ⟨[.ref f], []⟩) (CR C8.CX0 X.stack X.prog X.w H1 s' Q C8.E0) s' := by
    refine run_ofS (N := Ng) (ps := [a]) (us := [.ref f]) (vs := [.ref f]) lk hcg Sg hr I1.env0 (hb s' [.ref f] I1.kIn rfl) (.cons rfl .nil) rfl fun hr' => ?_
    obtain ⟨t', ht', hq'⟩ := hG f c' s' H1 Q (fun E H' Q' => t E σ H' Q') (fun W pn xe E p1 p2 tk hW => pe_actD (i := 0) I1 L hf hfn hfr ht htn htr hbind tk hW hr' (fun A outer s H hr2 => hbody A outer s H E f c' hr2) hNg hva hd hcd) hco (h H1 eN T1)
    exact ⟨t', ht'.nox, hq'⟩
  refine wpAny_call (codeAny_mono rc fun r s2 hq => ?_)
  cases r with
  | error e => exact (show False from hq).elim
  | ok fl =>
    cases fl with
    | ret u => exact I1.after hq
    | next => exact False.elim hq
    | brk => exact False.elim hq
    | cont => exact False.elim hq
end
end LamD
set_option Elab.async false
set_option linter.all false
set_option maxRecDepth 100000
set_option maxHeartbeats 4000000
namespace RU
open PySem L2 L2H DQ K01 EnT LamX TrA
open XH hiding same_refl same_trans same_new
/-! _law_told: a def that calls what it got, and tells how that ended -/
def PlOk (d : PyData) : Prop := d.showable = true ∧ d.depth ≤ 60 ∧ d.shown.length ≤ sizeLine ∧ PyData.strOk d.shown = true
theorem takes_len {X : Cx} {W : WX} (t : Takes X W) : Takes X (fun cls d σ H => σ.length = X.N.length → W cls d σ H) := fun u s' ⟨a, B, sI, pins, σ, H, cls, d, e, I, nb, up, sky, na, os, ag, w⟩ => t u s' ⟨a, B, sI, pins, σ, H, cls, d, e, I, nb, up, sky, na, os, ag, w I.len⟩
end RU
set_option Elab.async false
set_option linter.all false
set_option maxRecDepth 100000
set_option maxHeartbeats 4000000
/-! A def of any number of arguments, called where it is known that no repr is under way; its code object is told. -/
namespace L2H
open PySem PySem.Spec PyProof.Rows L2
def FnGs (P : Program) (w : World) (K : PySem.W.Frag) (mg : Str → Option Value) (base : Heap) (k : Nat) (f : Addr) (fd : FuncData) (ps : List Str) (sp : Sp) : Prop :=
  ∀ (A : Around) (outer : List Env) (s : Shared) (H : Hp) (us : List Value) (vs : List V) (Q : VK) (E : XK), Room k A → A.guards = some [] → Env0 P w K mg base A outer s H → BindsTo s fd ⟨us, []⟩ (ps.zip us) → Vals vs us → vs.length = ps.length → sp vs H Q E →
    codeAny (model P w) A (.call (.ref f) ⟨us, []⟩) (CR CX0 outer P w H s Q E) s
section
variable {P : Program} {w : World} {K : PySem.W.Frag} {mg : Str → Option Value} {base : Heap} {ps : List Str} {name : Str} {st : Stmt} {f : Addr} {fd : FuncData} {N : List Str} {k : Nat} {sp : Sp}
theorem fnGs_of (F : Fun K name name st f fd) (S : FnScope N ps (defScope st))
    (body : ∀ (A : Around) (outer : List Env) (s : Shared) (H : Hp) (vs : List V) (Q : VK) (E : XK), Room k (A.deeper (envOfC name (defScope st) s.heap.objs.size f fd.code)) → A.guards = some [] → sp vs H Q E →
      ∃ t, PSs (cxOf CX0 P w K mg base N name (defScope st) f fd.code A outer s H E).nox (defBody st) t ∧ t { nx := fun _ H' => Q .non H', rt := Q } (start N vs) H) :
    FnGs P w K mg base (k + 1) f fd ps sp := by
  obtain ⟨oc, od, kV, doc, pm, an, cdv, ct, osl, rfl, lk, hcd⟩ := F.ex
  intro A outer s H us vs Q E hr hg e0 hb ru hl hsp
  have KX : K.In s.heap := e0.mod.kin.keeps fun b o z => (e0.bs b o z).1
  have kinds : ∀ y ∈ ps.zip us, (defScope st).names.lookup y.1 = some .local ∨ ((defScope st).names.lookup y.1 = some .cell ∧ ((cellsFrom (s.heap.objs.size + 1) (defScope st).names []).lookup y.1).isSome = true) := fun y hy =>
    (S.par y.1 (List.of_mem_zip (a := y.1) (b := y.2) hy).1).elim .inl fun q => .inr ⟨q, PySem.W.cellsFrom_some _ _ _ (.inl q)⟩
  refine codeAny_call_function hr.depth (KX _ _ lk) rfl S.co S.gen rfl (PySem.W.codeRec_of KX hcd) (hb _ _ _ _ (wpAny_newFunctionEnv_cells S.kind kinds fun env he s1 y => ?_))
  subst he
  refine ⟨(e0.mod.nolimit.keeps fun b o z => (e0.bs b o z).1).keeps y.toInCall.keep, codeAny_func ?_⟩
  obtain ⟨t, ht, hq⟩ := body A outer s H vs Q E (hr.deeper _) hg hsp
  have I : Inv (cxOf CX0 P w K mg base N name (defScope st) f cdv A outer s H E) [] (start N vs) H s1 := inv_start S hr.hd e0 hl ru y
  refine wpAny_mono (ht.nox.run [] s1 (start N vs) H _ I hq) (fun fl s' hs => ?_) fun _ _ z => z
  cases fl with
  | next =>
    obtain ⟨σ', H', J, q⟩ := hs
    exact ⟨V.non, H', J.os, J.bare, J.base, J.hok, rfl, q⟩
  | ret u' =>
    obtain ⟨v', σ', H', J, rv, q⟩ := hs
    exact ⟨v', H', J.os, J.bare, J.base, J.hok, rv, q⟩
  | brk =>
    obtain ⟨_, _, _, q⟩ := hs
    exact q.elim
  | cont =>
    obtain ⟨_, _, _, q⟩ := hs
    exact q.elim
end
section
variable {X : Cx} {k : Nat} {f : Addr} {fd : FuncData} {sp : Sp} {x : Str} {ps : List Str} {p pos : Pos} {e : Expr} {es : List Expr} {t : TA}
theorem pe_callGs (F : FnGs X.prog X.w X.K X.mg X.base k f fd ps sp) (hr : Room k X.A) (gd : X.A.guards = some []) (hg : Gl X x) (hm : X.mg x = some (.ref f)) (hk : PySem.W.keepIn X.K (.ref f) = true) (hb : Binds X.K fd ps [])
    (hx : Passes CX0 X fun _ _ _ => False) (ha : PA X (e :: es) t) (hdb : (x == ("__debug__" : Str)) = false := by decide) (he : starEach (e :: es) X.env = (false, eval e X.env) :: starEach es X.env := by rfl) (hpl : (backTo pos (starEach es X.env)).any (·.1) = false := by rfl) :
    PE X (.Call (.Name x p) (e :: es) [] pos) (fun σ H Q => t σ H fun vs H1 => vs.length = ps.length ∧ sp vs H1 Q fun _ _ _ => False) := by
  refine ⟨fun pins s σ H Q I h => ?_⟩
  refine wpAny_Call_Name_kw (ld_glob I hg hm ?_ hdb)
  refine PySem.W.callWith_K (h₀ := X.base) I.ok.mod.kin hk (thn (ha.run pos pins s σ H _ I h) fun us s1 ⟨vs, H1, I1, r, hl, q⟩ => ⟨I1.kIn, ?_⟩) he hpl
  have ul : us.length = ps.length := (Vals.length r).symm.trans hl
  have bt := hb s1 us I1.kIn (by simpa using ul)
  refine wpAny_call (codeAny_mono (F X.A X.stack s1 H1 us vs Q (fun _ _ _ => False) hr gd I1.env0 (by simpa using bt) r hl q) fun r s' hq => ?_)
  cases r with
  | error e => exact hx pins σ H1 s1 e s' I1 hq
  | ok fl =>
    cases fl with
    | ret u => exact I1.after hq
    | next => exact False.elim hq
    | brk => exact False.elim hq
    | cont => exact False.elim hq
end
end L2H
set_option Elab.async false
set_option linter.all false
set_option maxRecDepth 100000
set_option maxHeartbeats 4000000
namespace RU
open PySem L2 L2H DQ K01 EnT LamX LamD
open XH hiding same_refl same_trans same_new
/-! data stays where only tables of code objects are written -/
mutual
theorem _root_.DQ.Dq.extN {H H' : Hp} (s : ExtN H H') : ∀ {v : V} {d : PyData}, Dq H v d → Dq H' v d
  | _, _, .non => .non
  | _, _, .bl b => .bl b
  | _, _, .int i => .int i
  | _, _, .str x hx => .str x hx
  | _, _, .lst e a => .lst (s _ _ e (fun _ z => by cases z)) (a.extN s)
  | _, _, .tup e a => .tup (s _ _ e (fun _ z => by cases z)) (a.extN s)
  | _, _, .dic e => .dic (s _ _ e (fun _ z => by cases z))
theorem _root_.DQ.DqAll.extN {H H' : Hp} (s : ExtN H H') : ∀ {vs : List V} {ds : List PyData}, DqAll H vs ds → DqAll H' vs ds
  | _, _, .nil => .nil
  | _, _, .cons a b => .cons (a.extN s) (b.extN s)
end
theorem sqT_extN {K : PySem.W.Frag} {H H' : Hp} {a : Addr} {xs : List V} (h : SqT K H a xs) (s : ExtN H H') : SqT K H' a xs := by
  rcases h with h | h
  · refine .inl ?_
    rcases h with h | ⟨o, h⟩
    · exact .inl (s _ _ h fun _ z => by cases z)
    · exact .inr ⟨o, s _ _ h fun _ z => by cases z⟩
  · exact .inr h
theorem RulesAt.extN {K : PySem.W.Frag} {H H' : Hp} {a C : Addr} {es ss : List PyData} (r : RulesAt K H a C es ss) (s : ExtN H H') : RulesAt K H' a C es ss := by
  obtain ⟨dx, pe, ps, xs, ys, h1, h2, h3, h4, h5⟩ := r
  exact ⟨dx, pe, ps, xs, ys, s _ _ h1 (fun _ z => by cases z), sqT_extN h2 s, h3.extN s, sqT_extN h4 s, h5.extN s⟩
theorem sys_extN {H H' : Hp} (x : Sys H) (s : ExtN H H') : Sys H' := let ⟨o, u, e⟩ := x; ⟨o, u, s _ _ e fun _ z => by cases z⟩
theorem extN_same {H H' : Hp} (s : Same H H') : ExtN H H' := fun b o e _ => s _ _ e
section
variable {X : Cx}
end
end RU
set_option Elab.async false
set_option linter.all false
set_option maxRecDepth 100000
set_option maxHeartbeats 4000000
namespace K01
open PySem L2 L2H DQ RZ
/-! what is drawn has a shape; what has a shape is plain -/
theorem marks_ok {ms : List Str} (h : ms.Sublist abc3) : areMarks (.tuple (ms.map PyData.str)) = true := by
  unfold abc3 at h
  cases h <;> rename_i h <;> cases h <;> rename_i h <;> cases h <;> rename_i h <;> cases h <;> decide +kernel
theorem ef_word {u : Str} (h : efS u) : wordS u = true := by
  rcases h with rfl | rfl <;> decide +kernel
mutual
theorem Tc.cnt : ∀ {k n c : Nat} {d : PyData}, Tc k n c d → k ≤ 3 → (k = 3 → isPair d = true) → K01.cnt (k + 1) d = some ((n : Int), (c : Int))
  | k, n, c, _, .mk (n0 := n0) (c0 := c0) (c1 := c1) (ms := ms) (bs := bs) (r := r) h1 h2 h3 h4 e1 e2, hk, hp => by
    have f := h4.fold hk 1 (r.length : Int)
    have hn : isNode (3 - (k : Int)) (.tuple (.tuple (ms.map PyData.str) :: .tuple bs :: r)) = true := by
      unfold isNode
      have nb : nodeB (some (PyData.tuple (ms.map PyData.str))) (some (PyData.tuple bs)) = true := by
        show (areMarks (.tuple (ms.map PyData.str)) && fewB (.tuple bs)) = true
        rw [marks_ok h1]
        exact decide_eq_true h2
      refine Bool.and_eq_true_iff.mpr ⟨?_, nb⟩
      rcases h3 with ⟨rfl, _⟩ | ⟨rfl, _⟩
      · rfl
      · by_cases h : k = 3
        · exact absurd (hp h) (by simp [isPair])
        · have z : decide ((0 : Int) < 3 - (k : Int)) = true := decide_eq_true (by omega)
          rw [z, Bool.true_and]
          refine Bool.or_eq_true_iff.mpr (.inr ?_)
          show (decide ([PyData.tuple (ms.map PyData.str), .tuple bs, .str "call"].length = 3) && isCallS (some (.str "call"))) = true
          exact Bool.and_eq_true_iff.mpr ⟨decide_eq_true rfl, by decide +kernel⟩
    unfold K01.cnt
    rw [if_pos hn]
    show bs.foldl (stepB (K01.cnt k)) (some (1, (r.length : Int))) = _
    rw [f]
    have hr : r.length = c0 := by
      rcases h3 with ⟨rfl, rfl⟩ | ⟨rfl, rfl⟩ <;> rfl
    rw [hr, e1, e2]
    congr 2
    · omega
    · omega
theorem TcB.fold : ∀ {k n c : Nat} {bs : List PyData}, TcB k n c bs → k ≤ 3 → ∀ a b : Int, bs.foldl (stepB (K01.cnt k)) (some (a, b)) = some (a + (n : Int), b + (c : Int))
  | k, _, _, _, .nil, _, a, b => by simp
  | _, _, _, _, .cons (k := k) (n := n) (c := c) (n' := n') (c' := c') (u := u) (t := t) (bs := bs) hu ht hb e1 e2, hk, a, b => by
    have h := ht.cnt (by omega) (fun z => by omega)
    have hs : stepB (K01.cnt (k + 1)) (some (a, b)) (.tuple [.str u, t]) = some (a + (n : Int), b + (c : Int)) := by
      unfold stepB
      dsimp only
      rw [if_pos (ef_word hu), h]
    rw [List.foldl_cons, hs, hb.fold hk, e1, e2]
    congr 2
    · omega
    · omega
end
theorem pair0 {k n : Nat} {d : PyData} (h : Tc k n 0 d) : isPair d = true := by
  cases h with
  | mk _ _ h3 _ _ e2 =>
    rcases h3 with ⟨rfl, _⟩ | ⟨rfl, rfl⟩
    · rfl
    · omega
theorem tree_shape {k n : Nat} {d : PyData} (h : Tc k n 0 d) (hk : k ≤ 3) (hn : n ≤ 6) : shape 0 d = true := by
  have h3 : Tc 3 n 0 d := by
    obtain rfl | rfl | rfl | rfl : k = 0 ∨ k = 1 ∨ k = 2 ∨ k = 3 := by omega
    · exact h.mono.mono.mono
    · exact h.mono.mono
    · exact h.mono
    · exact h
  have hp : isPair d = true := pair0 h
  unfold shape
  rw [h3.cnt (Nat.le_refl _) fun _ => hp]
  have z : decide ((n : Int) ≤ 6) = true := decide_eq_true (by omega)
  dsimp only
  rw [z]
  rfl
theorem body_shape {n : Nat} {d : PyData} (h : Tc 3 n 1 d) (hp : isPair d = true) (hn : n ≤ 6) : shape 1 d = true := by
  unfold shape
  rw [h.cnt (Nat.le_refl _) fun _ => hp]
  have z : decide ((n : Int) ≤ 6) = true := decide_eq_true (by omega)
  dsimp only
  rw [z]
  rfl
/-! plain: texts of signs and tuples, not deep -/
theorem word_ok {x : Str} (h : wordS x = true) : PyData.strOk x = true := by
  unfold wordS at h
  have h2 := (Bool.and_eq_true_iff.mp (Bool.and_eq_true_iff.mp h).2).2
  unfold PyData.strOk
  rw [← Array.all_toList]
  refine List.all_eq_true.mpr fun c hc => ?_
  have z := List.all_eq_true.mp h2 c hc
  unfold low at z
  have z2 := of_decide_eq_true (Bool.and_eq_true_iff.mp z).2
  exact decide_eq_true (by omega)
theorem canAll {ds : List PyData} : PyData.canLayAll0 ds = true ↔ ∀ d ∈ ds, d.canLay0 = true := by
  induction ds with
  | nil => simp [PyData.canLayAll0]
  | cons d ds ih => simp [PyData.canLayAll0, ih]
theorem depAll {ds : List PyData} {n : Nat} (h : ∀ d ∈ ds, d.depth ≤ n) : PyData.depthAll ds ≤ n := by
  induction ds with
  | nil => simp [PyData.depthAll]
  | cons d ds ih =>
    have h1 := h d (List.mem_cons_self ..)
    have h2 := ih fun x hx => h x (List.mem_cons_of_mem _ hx)
    simp only [PyData.depthAll]
    omega
/-- such data -/
def plain (n : Nat) (d : PyData) : Prop := d.canLay0 = true ∧ d.depth ≤ n
theorem plain_tup {ds : List PyData} {n : Nat} (h : ∀ d ∈ ds, plain n d) : plain (n + 1) (.tuple ds) :=
  ⟨canAll.mpr fun d hd => (h d hd).1, Nat.succ_le_succ (depAll fun d hd => (h d hd).2)⟩
theorem plain_lst {ds : List PyData} {n : Nat} (h : ∀ d ∈ ds, plain n d) : plain (n + 1) (.list ds) :=
  ⟨canAll.mpr fun d hd => (h d hd).1, Nat.succ_le_succ (depAll fun d hd => (h d hd).2)⟩
theorem plain.mono {d : PyData} {n m : Nat} (h : plain n d) (hn : n ≤ m) : plain m d := ⟨h.1, Nat.le_trans h.2 hn⟩
theorem plain_word {d : PyData} (h : isWord d = true) : plain 0 d := by
  cases d with
  | str x => exact ⟨word_ok h, Nat.le_refl _⟩
  | _ => cases h
theorem plain_marks {d : PyData} (h : areMarks d = true) : plain 1 d := by
  cases d with
  | tuple ds =>
    have z := (Bool.and_eq_true_iff.mp (Bool.and_eq_true_iff.mp h).2).1
    exact plain_tup fun d hd => plain_word (List.all_eq_true.mp z d hd)
  | _ => cases h
theorem fold_all {c : PyData → Option (Int × Int)} : ∀ {bs : List PyData} {xy r : Int × Int}, bs.foldl (stepB c) (some xy) = some r → ∀ b ∈ bs, ∃ u t pq, b = .tuple [.str u, t] ∧ wordS u = true ∧ c t = some pq
  | [], _, _, _, _, hb => absurd hb (by simp)
  | b :: bs, xy, r, h, b', hb => by
    rw [List.foldl_cons] at h
    cases hs : stepB c (some xy) b with
    | none =>
      rw [hs, fold_none] at h
      cases h
    | some pq =>
      rw [hs] at h
      rcases List.mem_cons.mp hb with rfl | hb
      · unfold stepB at hs
        dsimp only at hs
        split at hs
        · rename_i u t
          split at hs
          · rename_i hw
            split at hs
            · rename_i pq' hc
              exact ⟨u, t, pq', rfl, hw, hc⟩
            · cases hs
          · cases hs
        · cases hs
      · exact fold_all h b' hb
theorem cnt_plain : ∀ {n : Nat} {d : PyData} {xy : Int × Int}, cnt n d = some xy → plain (3 * n) d
  | 0, _, _, h => nomatch h
  | n + 1, d, xy, h => by
    unfold cnt at h
    split at h
    · rename_i hn
      unfold isNode at hn
      obtain ⟨h1, h2⟩ := Bool.and_eq_true_iff.mp hn
      obtain ⟨a, b, r, rfl⟩ := pair_or_call h1
      obtain ⟨h3, h4⟩ := Bool.and_eq_true_iff.mp (show (areMarks a && fewB b) = true from h2)
      cases b with
      | tuple bs =>
        have f := fold_all (show bs.foldl (stepB (cnt n)) (some (1, (r.length : Int))) = some xy from h)
        have pb : plain (3 * n + 2) (.tuple bs) := plain_tup fun b hb => by
          obtain ⟨u, t, pq, rfl, hu, ht⟩ := f b hb
          refine plain_tup (n := 3 * n) fun x hx => ?_
          rcases List.mem_cons.mp hx with rfl | hx
          · exact plain.mono (plain_word hu) (Nat.zero_le _)
          · rw [List.mem_singleton.mp hx]
            exact cnt_plain ht
        refine plain_tup (n := 3 * n + 2) fun x hx => ?_
        rcases List.mem_cons.mp hx with rfl | hx
        · exact (plain_marks h3).mono (by omega)
        · rcases List.mem_cons.mp hx with rfl | hx
          · exact pb
          · rcases Bool.or_eq_true_iff.mp h1 with z | z
            · have e : (a :: PyData.tuple bs :: r).length = 2 := of_decide_eq_true z
              have e2 : r = [] := by
                cases r with
                | nil => rfl
                | cons y ys =>
                  simp at e
              rw [e2] at hx
              cases hx
            · obtain ⟨z1, z2⟩ := Bool.and_eq_true_iff.mp (Bool.and_eq_true_iff.mp z).2
              have e : (a :: PyData.tuple bs :: r).length = 3 := of_decide_eq_true z1
              match r, e, hx, z2 with
              | [y], _, hx, z2 =>
                rw [List.mem_singleton.mp hx]
                have z3 : isCallS (some y) = true := z2
                cases y with
                | str s =>
                  have e4 : V.str s = V.str "call" := of_decide_eq_true z3
                  cases e4
                  exact ⟨by decide +kernel, Nat.zero_le _⟩
                | _ => cases z3
      | _ => cases h4
    · cases h
theorem shape_plain {c : Int} {d : PyData} (h : shape c d = true) : plain 12 d := by
  unfold shape at h
  cases e : cnt 4 d with
  | none =>
    rw [e] at h
    cases h
  | some xy => exact cnt_plain e
end K01
set_option Elab.async false
set_option linter.all false
set_option maxRecDepth 100000
set_option maxHeartbeats 4000000
namespace K01
open PySem L2 L2H DQ RZ
/-! _law_ends_and_steps -/
def EndD (d : PyData) : Prop := ∃ q, Tc 2 q 0 d ∧ q ≤ 4
def StepD (d : PyData) : Prop := ∃ q, Tp 3 q 1 d ∧ q ≤ 6
def ESd (es ss : List PyData) : Prop := 1 ≤ es.length ∧ es.length ≤ 3 ∧ ss.length ≤ 3 ∧ (∀ d ∈ es, EndD d) ∧ ∀ d ∈ ss, StepD d
def spEas : Sp := fun vs H Q _ => ∃ (m c l z : Addr) (cs ls : List Int) (n : Int), vs = [.ref m, .ref z] ∧ MAt H m c l cs ls n ∧ n + 3000 ≤ 1000000000 ∧ fr H m l z = some (.tup [.int 3, .int 3, .int 4]) ∧
  ∀ (p eL sL : Addr) (xs ys : List V) (es ss : List PyData) (H' : Hp) (l' : Addr) (ls' : List Int) (n' : Int), MAt H' m c l' cs ls' n' → n' ≤ n + 3000 → Fs H m l H' l' → fr H' m l' p = some (.tup [.ref eL, .ref sL]) → fr H' m l' eL = some (.lst xs) → DqAll (fr H' m l') xs es →
    fr H' m l' sL = some (.lst ys) → DqAll (fr H' m l') ys ss → ESd es ss → eL ≠ sL → Q (.ref p) H'
abbrev nEs : List Str := ["m", "sizes", "ends", "k"]
theorem scEs : FnScope nEs ["m", "sizes"] (defScope sEas) := ⟨rfl, rfl, rfl, by decide +kernel, rfl, by decide +kernel, by decide +kernel⟩
section
variable {P : Program} {w : World} {K : PySem.W.Frag} {mg : Str → Option Value} {base : Heap}
theorem ix_tupK {X : Cx} (hK : X.K = K) : IxR X (rIxT K) := by
  subst hK
  exact ix_tup
theorem ok_eas {f fN fT fY : Addr} {fd dN dT dY : FuncData} (F : Fun K "_law_ends_and_steps" "_law_ends_and_steps" sEas f fd)
    (FN : Fun K "_law_next" "_law_next" sNext fN dN) (bN : Binds K dN ["m", "many"] []) (gN : mg "_law_next" = some (.ref fN)) (GN : FnOk P w K mg base CX0 1 fN dN ["m", "many"] spNx)
    (FT : Fun K "_law_tree" "_law_tree" sTree fT dT) (bT : Binds K dT ["m", "size", "deep"] []) (gT : mg "_law_tree" = some (.ref fT)) (GT : FnOk P w K mg base CX0 5 fT dT ["m", "size", "deep"] (spTr 2))
    (FY : Fun K "_law_body" "_law_body" sBody fY dY) (bY : Binds K dY ["m", "size"] []) (gY : mg "_law_body" = some (.ref fY)) (GY : FnOk P w K mg base CX0 7 fY dY ["m", "size"] spBy) (tR : mg "range" = none) :
    FnOk P w K mg base CX0 8 f fd ["m", "sizes"] spEas := by
  refine F.ok scEs (fun vs H Q E h => ?_) (fun cdv A outer s H vs Q E hr h => ?_)
  · obtain ⟨m, c, l, z, cs, ls, n, rfl, _⟩ := h
    rfl
  · obtain ⟨m, c, l, z, cs, ls, n, rfl, M, hn, hz, kk⟩ := h
    refine ⟨_, pss_cons (ps_setLc (i := 2) (own := [("k", 3)]) (g := gName 3) (tt := tYes) rfl scEs.nd rfl rfl (sw_true rfl rfl rfl (by decide +kernel))
          (pi_range1 rfl tR (pa_cons (pe_op op_add pe_int (pe_call GN (hr.mono (by decide)) (by rfl) gN FN.kp bN .nil pass0 (pa_cons (pv 0) (pa_cons (pe_ix (ix_tupK (K := K) rfl) (pv 1) pe_int (fun _ _ => rfl)) pa_nil)))) pa_nil))
          (blkOk_by (own := [("k", 3)]) (N := ["m", "sizes", "ends", "k"]) (sc := defScope sEas) (by decide +kernel))
          (fun _ _ _ _ _ => pg_name (i := 3) scEs.nd rfl (Or.inl rfl)) (fun _ _ _ _ _ => pts_nil)
          (fun _ _ _ _ _ => pe_call GT (hr.mono (by decide)) (by rfl) gT FT.kp bT .nil pass0 (pa_cons (pv 0) (pa_cons (pe_op op_add pe_int (pe_call GN (hr.mono (by decide)) (by rfl) gN FN.kp bN .nil pass0 (pa_cons (pv 0) (pa_cons (pe_ix (ix_tupK (K := K) rfl) (pv 1) pe_int (fun _ _ => rfl)) pa_nil)))) (pa_cons pe_int pa_nil)))))
      (pss_one (ps_ret (pe_tup (pa_cons (pv 2) (pa_cons (pe_lc (own := [("k", 3)]) (g := gName 3) (tt := tYes) rfl scEs.nd
          (pi_range1 rfl tR (pa_cons (pe_call GN (hr.mono (by decide)) (by rfl) gN FN.kp bN .nil pass0 (pa_cons (pv 0) (pa_cons (pe_op op_add (pe_ix (ix_tupK (K := K) rfl) (pv 1) pe_int (fun _ _ => rfl)) pe_int) pa_nil))) pa_nil))
          (blkOk_by (own := [("k", 3)]) (N := ["m", "sizes", "ends", "k"]) (sc := defScope sEas) (by decide +kernel))
          (fun _ _ _ _ _ => pg_name (i := 3) scEs.nd rfl (Or.inl rfl)) (fun _ _ _ _ _ => pts_nil)
          (fun _ _ _ _ _ => pe_call GY (hr.mono (by decide)) (by rfl) gY FY.kp bY .nil pass0 (pa_cons (pv 0) (pa_cons (pe_op op_add pe_int (pe_call GN (hr.mono (by decide)) (by rfl) gN FN.kp bN .nil pass0 (pa_cons (pv 0) (pa_cons (pe_ix (ix_tupK (K := K) rfl) (pv 1) pe_int (fun _ _ => rfl)) pa_nil)))) pa_nil)))) pa_nil))))), ?_⟩
    have zq : ∀ {H' : Hp} {l' : Addr}, Fs H m l H' l' → SqT K H' z [.int 3, .int 3, .int 4] := fun sf => SqT.of (fr_of (sf.1 _ _ hz)).2.2
    refine ⟨_, rfl, _, rfl, z, _, 0, .int 3, rfl, rfl, zq .refl, rfl, m, c, l, 3, cs, ls, n, rfl, M, by decide, by decide, by omega, fun r H1 l1 ls1 n1 r0 r1 M1 nn1 s1 => ⟨_, _, rfl, rfl, _, rfl, by omega, by omega, fun D nD => ?_⟩⟩
    have G1 : Gw m c l1 cs ls1 n1 H1 H1 := ⟨M1, .refl⟩
    obtain ⟨G2, t2, e2⟩ := G1.new (o := .lst []) nD
    have hD0 : H D = none := s1.2 _ nD
    have Dm : D ≠ m := (ne_of_none M.hm hD0).symm
    have Dc : D ≠ c := (ne_of_none M.hc hD0).symm
    have jn : (1 + r).toNat ≤ 3 := by omega
    have jn1 : 1 ≤ (1 + r).toNat := by omega
    refine lc_range (fun i H' => ∃ (l' : Addr) (ls' : List Int) (n' : Int) (xs : List V) (es : List PyData), Dl H m c l cs n (1 + 179 * (i : Int)) D xs H' l' ls' n' ∧ DqAll (fr H' m l') xs es ∧ xs.length = i ∧ ∀ d ∈ es, EndD d)
      ⟨l1, ls1, n1, [], [], ⟨G2.mat, by omega, s1.trans G2.sm, e2⟩, .nil, rfl, fun d hd => absurd hd (by simp)⟩ ?_ ?_
    · rintro i H5 hi ⟨l5, ls5, n5, xs, es, d5, q5, hl5, he5⟩
      refine ⟨rfl, ?_⟩
      unfold tYes
      try dsimp only
      rw [if_pos rfl]
      have le5 := d5.le
      refine ⟨_, rfl, _, rfl, _, rfl, z, _, 2, .int 4, rfl, rfl, zq d5.sm, rfl, m, c, l5, 4, cs, ls5, n5, rfl, d5.mat, by decide, by decide, by omega, fun r7 H7 l7 ls7 n7 r70 r71 M7 nn7 s7 => ⟨_, _, rfl, rfl, m, c, l7, cs, ls7, n7, 1 + r7, rfl, M7, ?_, by omega, by omega, fun r8 d8 q8 H8 l8 ls8 n8 M8 nn8 s8 dq8 tc8 hq8 => ?_⟩⟩
      · show n7 + 178 ≤ 1000000000
        omega
      · have nn8' : n8 ≤ n7 + 178 := nn8
        have dE := (d5.next (k' := 1 + 179 * (i : Int) + 1) M7 nn7 s7 (by omega)).next (k' := 1 + 179 * ((i + 1 : Nat) : Int)) M8 nn8' s8 (by omega)
        have lz : xs.length < sizeLine := small1000 (by omega)
        have te : tupA es = true := tupA_iff.mpr fun d hd => by
          obtain ⟨q, h, _⟩ := he5 d hd
          exact h.tup
        have qa : DqAll (fr H8 m l8) (xs ++ [r8]) (es ++ [d8]) := (q5.same (same_trans s7.1 s8.1)).app (.cons dq8 .nil)
        have ta : tupA (es ++ [d8]) = true := tupA_iff.mpr fun d hd => by
          rcases List.mem_append.mp hd with h | h
          · exact tupA_iff.mp te d h
          · rw [List.mem_singleton.mp h]
            exact tc8.tup
        refine ⟨_, (fr_of dE.dd).2.2, lz, l8, ls8, n8, xs ++ [r8], es ++ [d8], dE.put hD0 Dm Dc, qa.tups (gw_put dE.dd) ta, by rw [List.length_append, hl5]; rfl, fun d hd => ?_⟩
        rcases List.mem_append.mp hd with h | h
        · exact he5 d h
        · rw [List.mem_singleton.mp h]
          exact ⟨q8, tc8, by omega⟩
    rintro H5 ⟨l5, ls5, n5, xs, es, d5, q5, hl5, he5⟩
    have le5 := d5.le
    refine ⟨_, rfl, _, rfl, _, rfl, z, _, 1, .int 3, rfl, rfl, zq d5.sm, rfl, _, _, rfl, rfl, m, c, l5, 4, cs, ls5, n5, rfl, d5.mat, by decide, by decide, by omega, fun r6 H6 l6 ls6 n6 r60 r61 M6 nn6 s6 => ⟨_, rfl, by omega, by omega, fun D2 nD2 => ?_⟩⟩
    have G6 : Gw m c l6 cs ls6 n6 H6 H6 := ⟨M6, .refl⟩
    obtain ⟨G7, t7, e7⟩ := G6.new (o := .lst []) nD2
    have hD2 : H5 D2 = none := s6.2 _ nD2
    have Dm2 : D2 ≠ m := (ne_of_none d5.mat.hm hD2).symm
    have Dc2 : D2 ≠ c := (ne_of_none d5.mat.hc hD2).symm
    have jn2 : r6.toNat ≤ 3 := by omega
    refine lc_range (fun i H' => ∃ (l' : Addr) (ls' : List Int) (n' : Int) (ys : List V) (ss : List PyData), Dl H5 m c l5 cs n5 (1 + 701 * (i : Int)) D2 ys H' l' ls' n' ∧ DqAll (fr H' m l') ys ss ∧ ys.length = i ∧ ∀ d ∈ ss, StepD d)
      ⟨l6, ls6, n6, [], [], ⟨G7.mat, by omega, s6.trans G7.sm, e7⟩, .nil, rfl, fun d hd => absurd hd (by simp)⟩ ?_ ?_
    · rintro i H8 hi ⟨l8, ls8, n8, ys, ss, d8, q8, hl8, he8⟩
      refine ⟨rfl, ?_⟩
      unfold tYes
      try dsimp only
      rw [if_pos rfl]
      have le8 := d8.le
      refine ⟨_, rfl, _, rfl, _, rfl, z, _, 2, .int 4, rfl, rfl, zq (d5.sm.trans d8.sm), rfl, m, c, l8, 4, cs, ls8, n8, rfl, d8.mat, by decide, by decide, by omega, fun r9 H9 l9 ls9 n9 r90 r91 M9 nn9 s9 => ⟨_, _, rfl, rfl, m, c, l9, cs, ls9, n9, 2 + r9, rfl, M9, by omega, by omega, by omega, fun rA dA qA HA lA lsA nA MA nnA sA dqA tpA hqA => ?_⟩⟩
      have dE := (d8.next (k' := 1 + 701 * (i : Int) + 1) M9 nn9 s9 (by omega)).next (k' := 1 + 701 * ((i + 1 : Nat) : Int)) MA nnA sA (by omega)
      have lz : ys.length < sizeLine := small1000 (by omega)
      have te : tupA ss = true := tupA_iff.mpr fun d hd => by
        obtain ⟨q, h, _⟩ := he8 d hd
        exact h.tc.tup
      have qa : DqAll (fr HA m lA) (ys ++ [rA]) (ss ++ [dA]) := (q8.same (same_trans s9.1 sA.1)).app (.cons dqA .nil)
      have ta : tupA (ss ++ [dA]) = true := tupA_iff.mpr fun d hd => by
        rcases List.mem_append.mp hd with h | h
        · exact tupA_iff.mp te d h
        · rw [List.mem_singleton.mp h]
          exact tpA.tc.tup
      refine ⟨_, (fr_of dE.dd).2.2, lz, lA, lsA, nA, ys ++ [rA], ss ++ [dA], dE.put hD2 Dm2 Dc2, qa.tups (gw_put dE.dd) ta, by rw [List.length_append, hl8]; rfl, fun d hd => ?_⟩
      rcases List.mem_append.mp hd with h | h
      · exact he8 d h
      · rw [List.mem_singleton.mp h]
        exact ⟨qA, tpA, by omega⟩
    rintro H8 ⟨l8, ls8, n8, ys, ss, d8, q8, hl8, he8⟩
    have le8 := d8.le
    refine ⟨by show 2 ≤ sizeLine; decide, fun p np => ?_⟩
    have G8 : Gw m c l8 cs ls8 n8 H8 H8 := ⟨d8.mat, .refl⟩
    obtain ⟨G9, t9, e9⟩ := G8.new (o := .tup [.ref D, .ref D2]) np
    have nDD : D ≠ D2 := ne_of_none (fr_of d5.dd).2.2 hD2
    have lx : xs.length = es.length := q5.len
    have ly : ys.length = ss.length := q8.len
    exact kk p D D2 xs ys es ss _ l8 ls8 n8 G9.mat (by omega) (d5.sm.trans (d8.sm.trans G9.sm)) e9 (t9 _ _ (d8.sm.1 _ _ d5.dd)) (q5.same (same_trans d8.sm.1 t9)) (t9 _ _ d8.dd) (q8.same t9)
      ⟨by omega, by omega, by omega, he5, he8⟩ nDD
end
end K01
set_option Elab.async false
set_option linter.all false
set_option maxRecDepth 100000
set_option maxHeartbeats 4000000
namespace K01
open PySem L2 L2H DQ RZ
/-! bounds of drawn trees -/
theorem sz_marks {ms : List Str} (h : ms.Sublist abc3) : szAll (ms.map PyData.str) ≤ 42 := by
  have z : ∀ l : List Str, (∀ x ∈ l, x.length = 1) → szAll (l.map PyData.str) = 14 * l.length := fun l => by
    induction l with
    | nil => intro _; rfl
    | cons x l ih =>
      intro hl
      have h1 := hl x (List.mem_cons_self ..)
      have h2 := ih fun y hy => hl y (List.mem_cons_of_mem _ hy)
      simp only [List.map_cons, szAll, sz, List.length_cons, h1, h2]
      omega
  rw [z ms fun x hx => (sub_sm h x hx).2]
  have := sub_len h
  omega
theorem dp_marks (ms : List Str) : PyData.depthAll (ms.map PyData.str) = 0 := by
  induction ms with
  | nil => rfl
  | cons x l ih => simp only [List.map_cons, PyData.depthAll, PyData.depth, ih, Nat.max_self]
theorem gd_marks {ms : List Str} (h : ms.Sublist abc3) : gdAll 0 (ms.map PyData.str) = true := gdAll_iff.mpr fun d hd => by
  obtain ⟨x, hx, rfl⟩ := List.mem_map.mp hd
  simpa [gd] using (sub_sm h x hx).1
mutual
theorem Tc.bound : ∀ {k n c : Nat} {d : PyData}, Tc k n c d → gd 0 d = true ∧ sz d + 22 ≤ 130 * n ∧ d.depth ≤ 3 * k + 2
  | k, n, c, _, .mk (ms := ms) (bs := bs) hm hl hr hb e1 e2 => by
    obtain ⟨b1, b2, b3⟩ := hb.bound
    have m1 := sz_marks hm
    have m2 := dp_marks ms
    have m3 := gd_marks hm
    rcases hr with ⟨rfl, _⟩ | ⟨rfl, _⟩
    · refine ⟨?_, ?_, ?_⟩
      · simp only [gd, gdAll, m3, b1, Bool.and_self]
      · simp only [sz, szAll]
        omega
      · simp only [PyData.depth, PyData.depthAll, m2]
        omega
    · have ok : PyData.strOk ("call" : Str) = true := by decide +kernel
      have ln : ("call" : Str).length = 4 := by decide +kernel
      refine ⟨?_, ?_, ?_⟩
      · simp only [gd, gdAll, m3, b1, ok, Bool.and_self]
      · simp only [sz, szAll, ln]
        omega
      · simp only [PyData.depth, PyData.depthAll, m2]
        omega
theorem TcB.bound : ∀ {k n c : Nat} {bs : List PyData}, TcB k n c bs → gdAll 0 bs = true ∧ szAll bs ≤ 130 * n ∧ PyData.depthAll bs ≤ 3 * k
  | _, _, _, _, .nil => ⟨rfl, Nat.zero_le _, Nat.zero_le _⟩
  | _, _, _, _, .cons (u := u) hu ht hb e1 e2 => by
    obtain ⟨a1, a2, a3⟩ := ht.bound
    obtain ⟨b1, b2, b3⟩ := hb.bound
    have hs := ef_sm hu
    refine ⟨?_, ?_, ?_⟩
    · simp only [gd, gdAll, hs.1, a1, b1, Bool.and_self]
    · simp only [sz, szAll, hs.2]
      omega
    · simp only [PyData.depth, PyData.depthAll]
      omega
end
end K01
set_option Elab.async false
set_option linter.all false
set_option maxRecDepth 100000
set_option maxHeartbeats 4000000
namespace RU
open PySem L2 L2H DQ K01 EnT LamX LamD RZ
open XH hiding same_refl same_trans same_new
/-! what was told, as data -/
theorem can_of {ds : List PyData} (h : ∀ d ∈ ds, plain 12 d) : PyData.canLayAll0 ds = true := canAll.mpr fun d hd => (h d hd).1
theorem dp_two {K : PySem.W.Frag} {H : Hp} {p : Addr} {x y : Str} (h : H p = some (.tup [.str x, .str y])) : Dp K H (.ref p) (.tuple [.str x, .str y]) := .tup (SqT.of h) (.cons (.str _) (.cons (.str _) .nil))
/-- rules that stand: at most three ends, trees; at most three steps, bodies -/
structure SH (es ss : List PyData) : Prop where
  l1 : 1 ≤ es.length
  l3 : es.length ≤ 3
  m3 : ss.length ≤ 3
  e : ∀ d ∈ es, shape 0 d = true
  s : ∀ d ∈ ss, shape 1 d = true
theorem SH.pe {es ss : List PyData} (h : SH es ss) : ∀ d ∈ es, plain 12 d := fun d hd => shape_plain (h.e d hd)
theorem SH.ps {es ss : List PyData} (h : SH es ss) : ∀ d ∈ ss, plain 12 d := fun d hd => shape_plain (h.s d hd)
theorem sh_of {es ss : List PyData} (h : ESd es ss) : SH es ss := by
  obtain ⟨h1, h2, h3, h4, h5⟩ := h
  refine ⟨h1, h2, h3, fun d hd => ?_, fun d hd => ?_⟩
  · obtain ⟨q, t, hq⟩ := h4 d hd
    exact tree_shape t (by decide) (by omega)
  · obtain ⟨q, t, hq⟩ := h5 d hd
    refine body_shape t.tc ?_ hq
    obtain ⟨ms, bs, n0, rfl, _⟩ := t
    rfl
theorem none_bad {c : Int} {ds : List PyData} (h : ∀ d ∈ ds, shape c d = true) : firstBad c ds = none := bad_none fun k e he => h e (List.mem_of_getElem? he)
theorem row_tup (ds : List PyData) (lo hi : Int) : isRow (.tuple ds) lo hi = (decide (lo ≤ (ds.length : Int)) && decide ((ds.length : Int) ≤ hi)) := rfl
theorem dueR_tups {es ss : List PyData} (h1 : 1 ≤ es.length) (he : ∀ d ∈ es, shape 0 d = true) (hs : ∀ d ∈ ss, shape 1 d = true) : dueR (.tuple es) (.tuple ss) = if es.length ≤ 3 ∧ ss.length ≤ 3 then .inr (es, ss) else .inl .none := by
  unfold dueR
  rw [row_tup, row_tup]
  have a1 : decide ((1 : Int) ≤ (es.length : Int)) = true := decide_eq_true (by omega)
  have a2 : decide ((0 : Int) ≤ (ss.length : Int)) = true := decide_eq_true (by omega)
  rw [a1, a2, Bool.true_and, Bool.true_and]
  show (if (decide ((es.length : Int) ≤ 3) && decide ((ss.length : Int) ≤ 3)) = true then (match firstBad 0 es with
    | some i => Sum.inl (PyData.tuple [.str "end", .int (i : Int)])
    | none => match firstBad 1 ss with
      | some j => .inl (.tuple [.str "step", .int (j : Int)])
      | none => .inr (es, ss)) else .inl .none) = _
  rw [none_bad he, none_bad hs]
  by_cases h : es.length ≤ 3 ∧ ss.length ≤ 3
  · rw [if_pos h, decide_eq_true (by omega : (es.length : Int) ≤ 3), decide_eq_true (by omega : (ss.length : Int) ≤ 3)]
    rfl
  · rw [if_neg h]
    rw [if_neg]
    intro z
    obtain ⟨z1, z2⟩ := Bool.and_eq_true_iff.mp z
    have y1 := of_decide_eq_true z1
    have y2 := of_decide_eq_true z2
    exact h ⟨by omega, by omega⟩
theorem mem_snoc {es : List PyData} {d : PyData} {c : Int} (h : ∀ x ∈ es, shape c x = true) (hd : shape c d = true) : ∀ x ∈ es ++ [d], shape c x = true := fun x hx => by
  rcases List.mem_append.mp hx with z | z
  · exact h x z
  · rw [List.mem_singleton.mp z]
    exact hd
theorem snoc_plain {es : List PyData} {d : PyData} (h : ∀ x ∈ es, plain 12 x) (hd : plain 12 d) : ∀ x ∈ es ++ [d], plain 12 x := fun x hx => by
  rcases List.mem_append.mp hx with z | z
  · exact h x z
  · rw [List.mem_singleton.mp z]
    exact hd
theorem shaped_of {d : PyData} {n : Nat} (h : plain n d) (hn : n ≤ 64) : SeqAt.shaped d = true := Bool.and_eq_true_iff.mpr ⟨h.1, decide_eq_true (Nat.le_trans h.2 hn)⟩
theorem two_shaped {x y : PyData} (hx : plain 14 x) (hy : plain 14 y) : SeqAt.shaped (.list [x, y]) = true := shaped_of (n := 15) (plain_lst fun d hd => by
  rcases List.mem_cons.mp hd with rfl | hd
  · exact hx
  · rw [List.mem_singleton.mp hd]
    exact hy) (by decide)
theorem eqv_self {d : PyData} (h : SeqAt.shaped d = true) : PyData.eqv d d = true := SeqAt.eqv_refl d (SeqAt.canLay_of_shaped h)
end RU
set_option Elab.async false
set_option linter.all false
set_option maxRecDepth 100000
set_option maxHeartbeats 4000000
namespace RU
open PySem L2 L2H DQ K01 EnT LamX LamD RZ
open XH hiding same_refl same_trans same_new
theorem fr_sm {H H' : Hp} {m l : Addr} (s : Same H H') : Same (fr H m l) (fr H' m l) := fun b o e => by
  obtain ⟨h1, h2, h3⟩ := fr_of e
  exact fr_some (s _ _ h3) h1 h2
theorem fr_en {H H' : Hp} {m l : Addr} (s : ExtN H H') : ExtN (fr H m l) (fr H' m l) := fun b o e n => by
  obtain ⟨h1, h2, h3⟩ := fr_of e
  exact fr_some (s _ _ h3 n) h1 h2
theorem _root_.K01.MAt.en {H H' : Hp} {m c l : Addr} {cs ls : List Int} {n : Int} (M : MAt H m c l cs ls n) (s : ExtN H H') : MAt H' m c l cs ls n :=
  ⟨s _ _ M.hm (fun _ z => by cases z), s _ _ M.hc (fun _ z => by cases z), s _ _ M.hl (fun _ z => by cases z), M.ne, M.n0, M.nb, M.cb, M.lb⟩
theorem tabs_fr {T : List (Addr × Str)} {H : Hp} {m c l : Addr} {cs ls : List Int} {n : Int} (M : MAt H m c l cs ls n) (t : Tabs T H) : Tabs T (fr H m l) := fun p hp => by
  obtain ⟨ps, h1, h2, h3⟩ := t p hp
  have off : ∀ {b : Addr} {o : HO}, H b = some o → (∀ kv, o ≠ .dK kv) → (∀ xs, o ≠ .lst xs) → fr H m l b = some o := fun {b o} e n1 n2 => fr_some e (fun z => n1 _ (Option.some.inj (e.symm.trans (z ▸ M.hm)))) fun z => n2 _ (Option.some.inj (e.symm.trans (z ▸ M.hl)))
  refine ⟨ps, off h1 (fun _ z => by cases z) (fun _ z => by cases z), h2, fun pos cv hc => ?_⟩
  obtain ⟨c0, e1, e2⟩ := h3 pos cv hc
  exact ⟨c0, e1, off e2 (fun _ z => by unfold CodeO at z; cases z) (fun _ z => by unfold CodeO at z; cases z)⟩
/-- the state of the draws stands; all but tables and it stands as at H0 -/
structure Wd (T : List (Addr × Str)) (m c l : Addr) (cs ls : List Int) (n : Int) (H0 H' : Hp) : Prop where
  mat : MAt H' m c l cs ls n
  ext : ExtN (fr H0 m l) (fr H' m l)
  tabs : Tabs T (fr H' m l)
theorem extN_trans {H H1 H2 : Hp} (a : ExtN H H1) (b : ExtN H1 H2) : ExtN H H2 := fun c o h n => b c o (a c o h n) n
section
variable {T : List (Addr × Str)} {m c l : Addr} {cs ls : List Int} {n : Int} {H0 H H' : Hp}
theorem Wd.same (W : Wd T m c l cs ls n H0 H) (s : Same H H') : Wd T m c l cs ls n H0 H' := ⟨W.mat.same s, extN_trans W.ext (extN_same (fr_sm s)), W.tabs.ext (fr_sm s)⟩
theorem Wd.lam (W : Wd T m c l cs ls n H0 H) (e : ExtN H H') (t : Tabs T H') : Wd T m c l cs ls n H0 H' := ⟨W.mat.en e, extN_trans W.ext (fr_en e), tabs_fr (W.mat.en e) t⟩
theorem Wd.tb (W : Wd T m c l cs ls n H0 H) : Tabs T H := W.tabs.ext fr_same
/-- a list that was new is written -/
theorem Wd.put (W : Wd T m c l cs ls n H0 H) {p : Addr} {xs ys : List V} (hp : fr H m l p = some (.lst xs)) (h0 : fr H0 m l p = none) (hc : p ≠ c) : Wd T m c l cs ls n H0 (upd H p (.lst ys)) := by
  obtain ⟨h1, h2, h3⟩ := fr_of hp
  refine ⟨W.mat.at h1 hc h2, fun b o e nt => ?_, fun q hq => ?_⟩
  · have nb : b ≠ p := fun z => by rw [z, h0] at e; cases e
    obtain ⟨g1, g2, g3⟩ := fr_of (W.ext b o e nt)
    exact fr_some (by rw [upd_ne nb]; exact g3) g1 g2
  · obtain ⟨ps, t1, t2, t3⟩ := W.tabs q hq
    have off : ∀ {b : Addr} {o : HO}, fr H m l b = some o → (∀ xs, o ≠ .lst xs) → fr (upd H p (.lst ys)) m l b = some o := fun {b o} e n2 => by
      have nb : b ≠ p := fun z => n2 _ (Option.some.inj (e.symm.trans (z ▸ hp)))
      obtain ⟨g1, g2, g3⟩ := fr_of e
      exact fr_some (by rw [upd_ne nb]; exact g3) g1 g2
    refine ⟨ps, off t1 (fun _ z => by cases z), t2, fun pos cv hc => ?_⟩
    obtain ⟨c0, e1, e2⟩ := t3 pos cv hc
    exact ⟨c0, e1, off e2 (fun _ z => by unfold CodeO at z; cases z)⟩
end
theorem sqT_put {K : PySem.W.Frag} {H : Hp} {q p : Addr} {xs zs : List V} {o : HO} (h : SqT K H q xs) (hp : H p = some (.lst zs)) : SqT K (upd H p o) q xs := by
  have off : ∀ {b : Addr} {u : HO}, H b = some u → (∀ xs, u ≠ .lst xs) → upd H p o b = some u := fun {b u} e n => by
    rw [upd_ne fun z => n _ (Option.some.inj (e.symm.trans (z ▸ hp)))]
    exact e
  rcases h with h | h
  · refine .inl ?_
    rcases h with h | ⟨u, h⟩
    · exact .inl (off h fun _ z => by cases z)
    · exact .inr ⟨u, off h fun _ z => by cases z⟩
  · exact .inr h
theorem sqL_extN {K : PySem.W.Frag} {H H' : Hp} {a : Addr} {xs : List V} (h : SqL K H a xs) (s : ExtN H H') : SqL K H' a xs := by
  rcases h with h | h
  · refine .inl ?_
    rcases h with h | ⟨o, h⟩
    · exact .inl (s _ _ h fun _ z => by cases z)
    · exact .inr ⟨o, s _ _ h fun _ z => by cases z⟩
  · exact .inr h
mutual
theorem dp_extN {K : PySem.W.Frag} {H H' : Hp} (s : ExtN H H') : ∀ {v : V} {d : PyData}, Dp K H v d → Dp K H' v d
  | _, _, .non => .non
  | _, _, .bl b => .bl b
  | _, _, .int i => .int i
  | _, _, .str x => .str x
  | _, _, .lst h a => .lst (sqL_extN h s) (dpAll_extN s a)
  | _, _, .tup h a => .tup (sqT_extN h s) (dpAll_extN s a)
theorem dpAll_extN {K : PySem.W.Frag} {H H' : Hp} (s : ExtN H H') : ∀ {vs : List V} {ds : List PyData}, DpAll K H vs ds → DpAll K H' vs ds
  | _, _, .nil => .nil
  | _, _, .cons a b => .cons (dp_extN s a) (dpAll_extN s b)
end
end RU
set_option Elab.async false
set_option linter.all false
set_option maxRecDepth 100000
set_option maxHeartbeats 8000000
namespace RU
open PySem L2 L2H DQ K01 EnT LamX LamD RZ
open XH hiding same_refl same_trans same_new
def ForW (J : It) (g : TG) (tb : TS) (D : Ends) (σ : L2.St) (H : Hp) : Prop := ∃ W : Nat → Nat → L2.St → Hp → Prop, (∃ m, W 0 m σ H) ∧ ∀ i m σ H, W i m σ H →
  (J.stop i H ∧ D.nx σ H) ∨ (J.go i H ∧ ∃ N : L2.St → Hp → Prop, (∀ σ' H', N σ' H' → ∃ m', m' < m ∧ W (i + 1) m' σ' H') ∧ ∀ x H', J.yld i H x H' → g x σ H' fun σ2 H2 => tb { D with nx := N, ct := N, bk := D.nx } σ2 H2)
theorem ForW.it {J : It} {n : Nat} {G : Hp → Prop} {Y : Nat → Hp → V → Hp → Prop} {g : TG} {tb : TS} {D : Ends} {σ : L2.St} {H : Hp} (w : Walk J n G Y) (Pv : Nat → L2.St → Hp → Prop) (h0 : Pv 0 σ H) (hG : ∀ i σ H, i ≤ n → Pv i σ H → G H)
    (hs : ∀ i x σ H H', i < n → Pv i σ H → Y i H x H' → g x σ H' fun σ2 H2 => tb { D with nx := Pv (i + 1), ct := Pv (i + 1), bk := D.nx } σ2 H2) (hd : ∀ σ H, Pv n σ H → D.nx σ H) : ForW J g tb D σ H := for_it w Pv h0 hG hs hd
theorem for_tupA {K : PySem.W.Frag} {te : TE} {g : TG} {tb : TS} {D : Ends} {σ : L2.St} {H : Hp} (h : te σ H fun x H1 => ∃ a, x = .ref a ∧ (∃ xs, SqT K H1 a xs) ∧ ForW (Itt K a) g tb D σ H1) : tFor (iTup K te) g tb D σ H := h
def off (H : Hp) (p : Addr) : Hp := fun b => if b = p then none else H b
theorem off_same {H : Hp} {p : Addr} : Same (off H p) H := fun b o e => by
  unfold off at e
  split at e
  · cases e
  · exact e
theorem off_mono {H H' : Hp} {p : Addr} (s : Same H H') : Same (off H p) (off H' p) := fun b o e => by
  unfold off at e ⊢
  split at e
  · cases e
  · rename_i h
    rw [if_neg h]
    exact s _ _ e
theorem off_put {H : Hp} {p : Addr} {o : HO} : off (upd H p o) p = off H p := by
  funext b
  unfold off
  by_cases h : b = p
  · rw [if_pos h, if_pos h]
  · rw [if_neg h, if_neg h, upd_ne h]
theorem off_new {H : Hp} {p : Addr} (h : H p = none) {o : HO} : Same H (off (upd H p o) p) := fun b u e => by
  unfold off
  have nb : b ≠ p := fun z => by rw [z, h] at e; cases e
  rw [if_neg nb, upd_ne nb]
  exact e
theorem off_at {H : Hp} {p q : Addr} {o : HO} (h : H q = some o) (n : q ≠ p) : off H p q = some o := by
  unfold off
  rw [if_neg n]
  exact h
theorem dp_same {K : PySem.W.Frag} {H H' : Hp} {v : V} {d : PyData} (h : Dp K H v d) (s : Same H H') : Dp K H' v d := dp_extN (extN_same s) h
theorem sqT_off {K : PySem.W.Frag} {H : Hp} {q p : Addr} {xs zs : List V} (h : SqT K H q xs) (hp : H p = some (.lst zs)) : SqT K (off H p) q xs := by
  have g : ∀ {b : Addr} {u : HO}, H b = some u → (∀ xs, u ≠ .lst xs) → off H p b = some u := fun {b u} e n => off_at e fun z => n _ (Option.some.inj (e.symm.trans (z ▸ hp)))
  rcases h with h | h
  · refine .inl ?_
    rcases h with h | ⟨u, h⟩
    · exact .inl (g h fun _ z => by cases z)
    · exact .inr ⟨u, g h fun _ z => by cases z⟩
  · exact .inr h
theorem tcb_of {r : List V → Hp → VK → Prop} {ta : TA} {σ : L2.St} {H : Hp} {Q : VK} (h : ta σ H fun xs H1 => r xs H1 Q) : tCB r ta σ H Q := h
theorem top_of {r : R2} {ta tb : TE} {σ : L2.St} {H : Hp} {Q : VK} (h : ta σ H fun x H1 => tb σ H1 fun y H2 => r x y H2 Q) : tOp r ta tb σ H Q := h
theorem tif_of {t : TT} {ta tb : TE} {σ : L2.St} {H : Hp} {Q : VK} (h : t σ H fun c H1 => if c = true then ta σ H1 Q else tb σ H1 Q) : tIf t ta tb σ H Q := h
theorem tasg_of {te : TE} {g : TG} {D : Ends} {σ : L2.St} {H : Hp} (h : te σ H fun v H1 => g v σ H1 D.nx) : tAsg te g D σ H := h
theorem ifne_of {K : PySem.W.Frag} {ta : TA} {tv : TE} {t e : TS} {D : Ends} {σ : L2.St} {H : Hp} (h : ta σ H fun xs H1 => xs.length ≤ sizeLine ∧ ∀ p, H1 p = none → tv σ (upd H1 p (.lst xs)) fun y H2 => rNeD K (.ref p) y H2 fun z H3 => ∃ k, z = .bl k ∧ (if k = true then t D σ H3 else e D σ H3)) :
    tIfS (tTest (tOp (rNeD K) (tLst ta) tv)) t e D σ H := h
section
variable {P : Program} {w : World} {K : PySem.W.Frag} {mg : Str → Option Value} {base : Heap}
end
end RU
set_option Elab.async false
set_option linter.all false
set_option maxRecDepth 100000
set_option maxHeartbeats 4000000
namespace RU
open PySem L2 L2H DQ K01 EnT LamX LamD RZ
open XH hiding same_refl same_trans same_new
/-- Rules(ve, vs'): what its making asks, whatever is wished behind it -/
theorem make_any {K : PySem.W.Frag} {C CB : Addr} {ve vs' : V} {de ds : PyData} {H : Hp} {Q2 : VK} {E : XK} {x dx : Addr} (he : Rw K H ve de) (hs : Rw K H vs' ds) (hx : H x = none) (hdx : H dx = none) (ne : dx ≠ x) (bad : ∀ pl, dueR de ds = .inl pl → OutB H E CB "place" pl)
    (ok : ∀ es ss, dueR de ds = .inr (es, ss) → ∀ H', Same H H' → RulesAt K H' x C es ss → Q2 .non H') :
    spRI K C CB [.ref x, ve, vs'] (upd (upd H dx (.own x)) x (.ins C dx [])) Q2 E := by
  have sA : Same H (upd (upd H dx (.own x)) x (.ins C dx [])) := same_trans (same_new hdx) (same_new (by rw [upd_ne (Ne.symm ne)]; exact hx))
  refine ⟨x, dx, ve, vs', de, ds, rfl, upd_same, he.same sA, hs.same sA, fun pl h => (bad pl h).same sA, fun es ss h H' k o r => ok es ss h H' (fun b u e => ?_) r⟩
  have nb : b ≠ x := fun z => by rw [z, hx] at e; cases e
  exact o b u nb (sA b u e)
/-- where nothing is wrong with them -/
theorem make_yes {K : PySem.W.Frag} {C CB : Addr} {ve vs' : V} {de ds : PyData} {es ss : List PyData} {H : Hp} {Q2 : VK} {E : XK} {x dx : Addr} (he : Rw K H ve de) (hs : Rw K H vs' ds) (hx : H x = none) (hdx : H dx = none) (ne : dx ≠ x) (due : dueR de ds = .inr (es, ss))
    (ok : ∀ H', Same H H' → RulesAt K H' x C es ss → Q2 .non H') : spRI K C CB [.ref x, ve, vs'] (upd (upd H dx (.own x)) x (.ins C dx [])) Q2 E :=
  make_any he hs hx hdx ne (fun pl e => by rw [due] at e; cases e) fun es' ss' e H' s r => by
    rw [due] at e
    cases e
    exact ok H' s r
theorem RulesAt.put {K : PySem.W.Frag} {H : Hp} {a C p : Addr} {es ss : List PyData} {zs : List V} {o : HO} (r : RulesAt K H a C es ss) (hp : H p = some (.lst zs)) (te : tupA es = true) (ts : tupA ss = true) : RulesAt K (upd H p o) a C es ss := by
  obtain ⟨dx, pe, ps, xs, ys, h1, h2, h3, h4, h5⟩ := r
  have keep : ∀ b us, H b = some (.tup us) → upd H p o b = some (.tup us) := fun b us e => by
    have nb : b ≠ p := fun z => by rw [z, hp] at e; cases e
    rw [upd_ne nb]
    exact e
  have na : a ≠ p := fun z => by rw [z, hp] at h1; cases h1
  exact ⟨dx, pe, ps, xs, ys, by rw [upd_ne na]; exact h1, sqT_put h2 hp, h3.tups keep te, sqT_put h4 hp, h5.tups keep ts⟩
theorem RulesAt.fr {K : PySem.W.Frag} {H : Hp} {a C m c l : Addr} {cs ls : List Int} {n : Int} {es ss : List PyData} (r : RulesAt K H a C es ss) (M : MAt H m c l cs ls n) (te : tupA es = true) (ts : tupA ss = true) : RulesAt K (K01.fr H m l) a C es ss := by
  obtain ⟨dx, pe, ps, xs, ys, h1, h2, h3, h4, h5⟩ := r
  have off : ∀ {b : Addr} {o : HO}, H b = some o → (∀ kv, o ≠ .dK kv) → (∀ xs, o ≠ .lst xs) → K01.fr H m l b = some o := fun {b o} e n1 n2 => fr_some e (fun z => n1 _ (Option.some.inj (e.symm.trans (z ▸ M.hm)))) fun z => n2 _ (Option.some.inj (e.symm.trans (z ▸ M.hl)))
  have sq : ∀ {q : Addr} {zs : List V}, SqT K H q zs → SqT K (K01.fr H m l) q zs := fun {q zs} h => by
    rcases h with h | h
    · refine .inl ?_
      rcases h with h | ⟨u, h⟩
      · exact .inl (off h (fun _ z => by cases z) fun _ z => by cases z)
      · exact .inr ⟨u, off h (fun _ z => by cases z) fun _ z => by cases z⟩
    · exact .inr h
  have keep : ∀ b us, H b = some (.tup us) → K01.fr H m l b = some (.tup us) := fun b us e => off e (fun _ z => by cases z) fun _ z => by cases z
  exact ⟨dx, pe, ps, xs, ys, off h1 (fun _ z => by cases z) (fun _ z => by cases z), sq h2, h3.tups keep te, sq h4, h5.tups keep ts⟩
theorem dueR_lists {es ss : List PyData} (h : SH es ss) : dueR (.list es) (.list ss) = .inr (es, ss) := by
  have z := dueR_tups h.l1 h.e h.s
  rw [if_pos ⟨h.l3, h.m3⟩] at z
  exact z
theorem dueR_lt {es ss : List PyData} (h : SH es ss) : dueR (.list es) (.tuple ss) = .inr (es, ss) := by
  have z := dueR_tups h.l1 h.e h.s
  rw [if_pos ⟨h.l3, h.m3⟩] at z
  exact z
theorem dueR_tt {es ss : List PyData} (h : SH es ss) : dueR (.tuple es) (.tuple ss) = .inr (es, ss) := by
  have z := dueR_tups h.l1 h.e h.s
  rw [if_pos ⟨h.l3, h.m3⟩] at z
  exact z
theorem es_tup {es ss : List PyData} (h : ESd es ss) : tupA es = true ∧ tupA ss = true := ⟨tupA_iff.mpr fun d hd => by
  obtain ⟨q, t, _⟩ := h.2.2.2.1 d hd
  exact t.tup, tupA_iff.mpr fun d hd => by
  obtain ⟨q, t, _⟩ := h.2.2.2.2 d hd
  exact t.tc.tup⟩
end RU
set_option Elab.async false
set_option linter.all false
set_option maxRecDepth 100000
set_option maxHeartbeats 4000000
namespace RU
open PySem L2 L2H DQ K01 EnT LamX LamD RZ
open XH hiding same_refl same_trans same_new
open Classical in
/-- the heap without some lists -/
noncomputable def cut (H : Hp) (Z : Addr → Prop) : Hp := fun b => if Z b then none else H b
open Classical in
/-- H', with the lists of H at Z -/
noncomputable def join (H' H : Hp) (Z : Addr → Prop) : Hp := fun b => if Z b then H b else H' b
theorem cut_z {H : Hp} {Z : Addr → Prop} {b : Addr} (h : Z b) : cut H Z b = none := if_pos h
theorem cut_n {H : Hp} {Z : Addr → Prop} {b : Addr} (h : ¬ Z b) : cut H Z b = H b := if_neg h
theorem join_z {H' H : Hp} {Z : Addr → Prop} {b : Addr} (h : Z b) : join H' H Z b = H b := if_pos h
theorem join_n {H' H : Hp} {Z : Addr → Prop} {b : Addr} (h : ¬ Z b) : join H' H Z b = H' b := if_neg h
theorem cut_of {H : Hp} {Z : Addr → Prop} {b : Addr} {o : HO} (h : cut H Z b = some o) : ¬ Z b ∧ H b = some o := by
  by_cases z : Z b
  · rw [cut_z z] at h
    cases h
  · rw [cut_n z] at h
    exact ⟨z, h⟩
theorem cut_none {H : Hp} {Z : Addr → Prop} {b : Addr} (h : H b = none) : cut H Z b = none := by
  by_cases z : Z b
  · exact cut_z z
  · rw [cut_n z]
    exact h
/-- a call, with some lists set aside: it doesn't touch them, and what it gives doesn't hang on them -/
def framed (sp : Sp) : Sp := fun vs H Q E => ∃ Z : Addr → Prop, (∀ b, Z b → ∃ xs, H b = some (.lst xs)) ∧ sp vs (cut H Z) (fun v H' => (∀ b, Z b → H' b = none) → Q v (join H' H Z)) E
theorem frame {P : Program} {w : World} {K : PySem.W.Frag} {mg : Str → Option Value} {base : Heap} {k : Nat} {f : Addr} {fd : FuncData} {ps : List Str} {sp : Sp} (F : FnOk P w K mg base CX0 k f fd ps sp) : FnOk P w K mg base CX0 k f fd ps (framed sp) := by
  refine ⟨fun vs H Q E ⟨Z, hZ, h⟩ => F.len _ _ _ _ h, fun A outer s H args us vs Q E hr e0 hb hv ⟨Z, hZ, h⟩ => ?_⟩
  have there : ∀ b, Z b → ∃ xs, H b = some (.lst xs) ∧ ∃ (its : List Value) (n : Nat), xs.length ≤ sizeLine ∧ Vals xs its ∧ s.heap.get? b = some { cls := .type "list", data := .seq its.toArray n } := fun b z => by
    obtain ⟨xs, e⟩ := hZ b z
    obtain ⟨y, its, n, r, g⟩ := (show ObjOk P w H s.heap b (.lst xs) from e0.hok b _ e)
    exact ⟨xs, e, its, n, y, r, g⟩
  have env : Env0 P w K mg base A outer s (cut H Z) := ⟨e0.frames, e0.mod, fun b o e => ⟨(e0.bs b o e).1, cut_none (e0.bs b o e).2⟩, e0.bsz, e0.funs, fun b hb => cut_none (e0.frf b hb), fun b u e => by
    obtain ⟨nz, e'⟩ := cut_of e
    refine (e0.hok b u e').stay (fun _ _ _ q => q) (fun b' q => ?_) (fun b' xs q => ?_)
    · rw [cut_n fun z => by obtain ⟨xs, y⟩ := hZ b' z; rw [q] at y; cases y]
      exact q
    · rw [cut_n fun z => by obtain ⟨ys, y⟩ := hZ b' z; rw [q] at y; cases y]
      exact q, e0.bare⟩
  refine codeAny_mono (F.run A outer s (cut H Z) args us vs _ E hr env hb hv h) fun r s' hq => ?_
  cases r with
  | error e => exact hq
  | ok fl =>
    cases fl with
    | next => exact hq
    | brk => exact hq
    | cont => exact hq
    | ret u =>
      obtain ⟨v, H', os, bare, un, hok, rv, q⟩ := hq
      have gone : ∀ b, Z b → H' b = none := fun b z => by
        obtain ⟨xs, e, its, n, _, _, g⟩ := there b z
        exact un.free b _ g (cut_z z) (fun y => nomatch (show b ∈ ([] : List Addr) from y))
      have nz : ∀ {b : Addr} {o : HO}, H b = some o → (∀ xs, o ≠ .lst xs) → ¬ Z b := fun {b o} e n z => by
        obtain ⟨xs, y⟩ := hZ b z
        exact n xs (Option.some.inj (e.symm.trans y))
      have nz' : ∀ {b : Addr} {o : HO}, H' b = some o → ¬ Z b := fun {b o} e z => by
        rw [gone b z] at e
        cases e
      refine ⟨v, join H' H Z, os, bare, ⟨fun b o g n => un.keep b o g (cut_none n), fun b o g n => un.slot b o g (cut_none n), fun b o g n x => ?_, un.there, fun b xs e => ?_, fun b o u e => ?_, fun b ps e => ?_⟩, fun b u e => ?_, rv, q gone⟩
      · by_cases z : Z b
        · rw [join_z z]
          exact n
        · rw [join_n z]
          exact un.free b o g (cut_none n) x
      · have z := nz e fun _ y => by cases y
        rw [join_n z]
        exact un.tups b xs (by rw [cut_n z]; exact e)
      · have z := nz e fun _ y => by cases y
        rw [join_n z]
        exact un.frzs b o u (by rw [cut_n z]; exact e)
      · have z := nz e fun _ y => by cases y
        rw [join_n z]
        exact un.tbls b ps (by rw [cut_n z]; exact e)
      · by_cases z : Z b
        · rw [join_z z] at e
          obtain ⟨xs, e', its, n, y, r, g⟩ := there b z
          rw [e'] at e
          cases e
          refine ⟨y, its, n, r, un.keep b _ g (cut_z z) (fun hb => ?_) (fun y => nomatch (show b ∈ ([] : List Addr) from y))⟩
          have n0 := e0.frf b hb
          rw [e'] at n0
          cases n0
        · rw [join_n z] at e
          refine (hok b u e).stay (fun _ _ _ q => q) (fun b' q => ?_) (fun b' xs q => ?_)
          · rw [join_n (nz' q)]
            exact q
          · rw [join_n (nz' q)]
            exact q
end RU
set_option Elab.async false
set_option linter.all false
set_option maxRecDepth 100000
set_option maxHeartbeats 4000000
namespace RU
open PySem L2 L2H DQ K01 EnT LamX LamD RZ
open XH hiding same_refl same_trans same_new
theorem cut_same {H H' : Hp} {Z : Addr → Prop} (s : Same H H') : Same (cut H Z) (cut H' Z) := fun b o e => by
  obtain ⟨z, e'⟩ := cut_of e
  rw [cut_n z]
  exact s _ _ e'
theorem cut_sub {H : Hp} {Z : Addr → Prop} : Same (cut H Z) H := fun b o e => (cut_of e).2
theorem cut_put {H : Hp} {Z : Addr → Prop} {p : Addr} {o : HO} (h : Z p) : cut (upd H p o) Z = cut H Z := by
  funext b
  by_cases z : Z b
  · rw [cut_z z, cut_z z]
  · rw [cut_n z, cut_n z, upd_ne fun w => z (by rw [w]; exact h)]
theorem join_same {H' H : Hp} {Z : Addr → Prop} (gone : ∀ b, Z b → H' b = none) : Same H' (join H' H Z) := fun b o e => by
  rw [join_n fun z => by rw [gone b z] at e; cases e]
  exact e
theorem cut_join {H' H : Hp} {Z : Addr → Prop} (gone : ∀ b, Z b → H' b = none) : cut (join H' H Z) Z = H' := by
  funext b
  by_cases z : Z b
  · rw [cut_z z, gone b z]
  · rw [cut_n z, join_n z]
/-- lists at Z are written while numbers are drawn; all else stands as in G -/
structure Ls (T : List (Addr × Str)) (Z : Addr → Prop) (m c l : Addr) (cs ls : List Int) (n : Int) (G H : Hp) : Prop where
  mat : MAt H m c l cs ls n
  zc : ¬ Z c
  zl : ¬ Z l
  zz : ∀ b, Z b → ∃ xs, H b = some (.lst xs)
  sm : ExtN G (fr (cut H Z) m l)
  tabs : Tabs T (fr (cut H Z) m l)
section
variable {T : List (Addr × Str)} {Z : Addr → Prop} {m c l l' : Addr} {cs ls ls' : List Int} {n n' : Int} {G H H' : Hp}
theorem Ls.zm (L : Ls T Z m c l cs ls n G H) : ¬ Z m := fun z => by
  obtain ⟨xs, e⟩ := L.zz m z
  rw [L.mat.hm] at e
  cases e
theorem Ls.same (L : Ls T Z m c l cs ls n G H) (s : Same H H') : Ls T Z m c l cs ls n G H' :=
  ⟨L.mat.same s, L.zc, L.zl, fun b z => let ⟨xs, e⟩ := L.zz b z; ⟨xs, s _ _ e⟩, extN_trans L.sm (extN_same (fr_sm (cut_same s))), L.tabs.ext (fr_sm (cut_same s))⟩
theorem Ls.put (L : Ls T Z m c l cs ls n G H) {p : Addr} {ys : List V} (hp : Z p) : Ls T Z m c l cs ls n G (upd H p (.lst ys)) := by
  refine ⟨L.mat.at (fun e => L.zm (e ▸ hp)) (fun e => L.zc (e ▸ hp)) (fun e => L.zl (e ▸ hp)), L.zc, L.zl, fun b z => ?_, by rw [cut_put hp]; exact L.sm, by rw [cut_put hp]; exact L.tabs⟩
  by_cases e : b = p
  · rw [e]
    exact ⟨ys, upd_same⟩
  · rw [upd_ne e]
    exact L.zz b z
theorem Ls.here (L : Ls T Z m c l cs ls n G H) {p : Addr} {xs : List V} (hp : Z p) (e : H p = some (.lst xs)) : fr H m l p = some (.lst xs) := fr_some e (fun w => L.zm (w ▸ hp)) fun w => L.zl (w ▸ hp)
/-- numbers are drawn -/
theorem Ls.fs (L : Ls T Z m c l cs ls n G H) (M : MAt H' m c l' cs ls' n') (s : Fs H m l H' l') : Ls T Z m c l' cs ls' n' G H' ∧ Same (fr (cut H Z) m l) (fr (cut H' Z) m l') := by
  have one : Same (fr (cut H Z) m l) (fr (cut H' Z) m l') := fun b o e => by
    obtain ⟨h1, h2, h3⟩ := fr_of e
    obtain ⟨z, h4⟩ := cut_of h3
    obtain ⟨g1, g2, g3⟩ := fr_of (s.1 _ _ (fr_some h4 h1 h2))
    exact fr_some (by rw [cut_n z]; exact g3) g1 g2
  refine ⟨⟨M, L.zc, fun z => ?_, fun b z => ?_, extN_trans L.sm (extN_same one), L.tabs.ext one⟩, one⟩
  · obtain ⟨xs, e⟩ := L.zz l' z
    exact (fr_of (s.1 _ _ (L.here z e))).2.1 rfl
  · obtain ⟨xs, e⟩ := L.zz b z
    exact ⟨xs, (fr_of (s.1 _ _ (L.here z e))).2.2⟩
theorem Ls.at (L : Ls T Z m c l cs ls n G H) (s : Fs H m l H' l') {p : Addr} {xs : List V} (hp : Z p) (e : H p = some (.lst xs)) : H' p = some (.lst xs) := (fr_of (s.1 _ _ (L.here hp e))).2.2
theorem Ls.cut (L : Ls T Z m c l cs ls n G H) : MAt (cut H Z) m c l cs ls n :=
  ⟨by rw [cut_n L.zm]; exact L.mat.hm, by rw [cut_n L.zc]; exact L.mat.hc, by rw [cut_n L.zl]; exact L.mat.hl, L.mat.ne, L.mat.n0, L.mat.nb, L.mat.cb, L.mat.lb⟩
/-- behind a call with the lists set aside -/
theorem Ls.frame (L : Ls T Z m c l cs ls n G H) (M : MAt H' m c l' cs ls' n') (s : Fs (RU.cut H Z) m l H' l') (gone : ∀ b, Z b → H' b = none) : Ls T Z m c l' cs ls' n' G (join H' H Z) ∧ Same (fr (RU.cut H Z) m l) (fr (RU.cut (join H' H Z) Z) m l') := by
  have one : Same (fr (RU.cut H Z) m l) (fr (RU.cut (join H' H Z) Z) m l') := by
    rw [cut_join gone]
    exact s.1
  refine ⟨⟨M.same (join_same gone), L.zc, fun z => ?_, fun b z => ?_, extN_trans L.sm (extN_same one), L.tabs.ext one⟩, one⟩
  · have e := gone l' z
    rw [M.hl] at e
    cases e
  · rw [join_z z]
    exact L.zz b z
/-- one list more -/
theorem Ls.more (L : Ls T Z m c l cs ls n G H) {D : Addr} (hD : H D = none) (xs : List V) : Ls T (fun b => Z b ∨ b = D) m c l cs ls n G (upd H D (.lst xs)) ∧ Same (fr (RU.cut H Z) m l) (fr (RU.cut (upd H D (.lst xs)) fun b => Z b ∨ b = D) m l) := by
  have one : Same (fr (RU.cut H Z) m l) (fr (RU.cut (upd H D (.lst xs)) fun b => Z b ∨ b = D) m l) := fun b o e => by
    obtain ⟨h1, h2, h3⟩ := fr_of e
    obtain ⟨z, h4⟩ := cut_of h3
    have nb : b ≠ D := fun w => by rw [w, hD] at h4; cases h4
    exact fr_some (by rw [cut_n (fun w => w.elim z nb), upd_ne nb]; exact h4) h1 h2
  refine ⟨⟨L.mat.same (same_new hD), fun z => z.elim L.zc fun e => ?_, fun z => z.elim L.zl fun e => ?_, fun b z => ?_, extN_trans L.sm (extN_same one), L.tabs.ext one⟩, one⟩
  · have q := L.mat.hc
    rw [e, hD] at q
    cases q
  · have q := L.mat.hl
    rw [e, hD] at q
    cases q
  · by_cases e : b = D
    · rw [e]
      exact ⟨xs, upd_same⟩
    · rw [upd_ne e]
      exact L.zz b (z.resolve_right e)
/-- one list less -/
theorem Ls.less {D : Addr} (L : Ls T (fun b => Z b ∨ b = D) m c l cs ls n G H) : Ls T Z m c l cs ls n G H ∧ Same (fr (RU.cut H fun b => Z b ∨ b = D) m l) (fr (RU.cut H Z) m l) := by
  have one : Same (fr (RU.cut H fun b => Z b ∨ b = D) m l) (fr (RU.cut H Z) m l) := fr_sm fun b o e => by
    obtain ⟨z, h4⟩ := cut_of e
    rw [cut_n fun w => z (.inl w)]
    exact h4
  exact ⟨⟨L.mat, fun z => L.zc (.inl z), fun z => L.zl (.inl z), fun b z => L.zz b (.inl z), extN_trans L.sm (extN_same one), L.tabs.ext one⟩, one⟩
/-- something new -/
theorem Ls.new (L : Ls T Z m c l cs ls n G H) {p : Addr} {o : HO} (hp : H p = none) : Ls T Z m c l cs ls n G (upd H p o) ∧ Same (fr (RU.cut H Z) m l) (fr (RU.cut (upd H p o) Z) m l) ∧ fr (RU.cut (upd H p o) Z) m l p = some o := by
  refine ⟨L.same (same_new hp), fr_sm (cut_same (same_new hp)), fr_some ?_ (ne_of_none L.mat.hm hp).symm (ne_of_none L.mat.hl hp).symm⟩
  rw [cut_n fun z => by obtain ⟨xs, e⟩ := L.zz p z; rw [hp] at e; cases e]
  exact upd_same
/-- a lambda is made -/
theorem Ls.lam (L : Ls T Z m c l cs ls n G H) (e : ExtN H H') (t : Tabs T H') : Ls T Z m c l cs ls n G H' ∧ ExtN (fr (RU.cut H Z) m l) (fr (RU.cut H' Z) m l) := by
  have M := L.mat.en e
  have zz : ∀ b, Z b → ∃ xs, H' b = some (.lst xs) := fun b z => let ⟨xs, q⟩ := L.zz b z; ⟨xs, e _ _ q fun _ w => by cases w⟩
  have one : ExtN (fr (RU.cut H Z) m l) (fr (RU.cut H' Z) m l) := fun b o q nt => by
    obtain ⟨h1, h2, h3⟩ := fr_of q
    obtain ⟨z, h4⟩ := cut_of h3
    exact fr_some (by rw [cut_n z]; exact e _ _ h4 nt) h1 h2
  refine ⟨⟨M, L.zc, L.zl, zz, extN_trans L.sm one, fun p hp => ?_⟩, one⟩
  obtain ⟨ps, h1, h2, h3⟩ := t p hp
  have off : ∀ {b : Addr} {o : HO}, H' b = some o → (∀ kv, o ≠ .dK kv) → (∀ xs, o ≠ .lst xs) → fr (RU.cut H' Z) m l b = some o := fun {b o} e n1 n2 => fr_some (by
    rw [cut_n fun z => by obtain ⟨xs, w⟩ := zz b z; exact n2 _ (Option.some.inj (e.symm.trans w))]
    exact e) (fun z => n1 _ (Option.some.inj (e.symm.trans (z ▸ M.hm)))) fun z => n2 _ (Option.some.inj (e.symm.trans (z ▸ M.hl)))
  refine ⟨ps, off h1 (fun _ z => by cases z) (fun _ z => by cases z), h2, fun pos cv hc => ?_⟩
  obtain ⟨c0, e1, e2⟩ := h3 pos cv hc
  exact ⟨c0, e1, off e2 (fun _ z => by unfold CodeO at z; cases z) (fun _ z => by unfold CodeO at z; cases z)⟩
theorem Ls.tb (L : Ls T Z m c l cs ls n G H) : Tabs T H := L.tabs.ext (same_trans fr_same cut_sub)
end
end RU
set_option Elab.async false
set_option linter.all false
set_option maxRecDepth 100000
set_option maxHeartbeats 4000000
namespace K01
open PySem L2 L2H DQ RZ
/-! what has a shape is not long -/
theorem word_sz {d : PyData} (h : isWord d = true) : gd 0 d = true ∧ sz d ≤ 82 := by
  cases d with
  | str x =>
    refine ⟨by simpa [gd] using word_ok h, ?_⟩
    have z := (Bool.and_eq_true_iff.mp (Bool.and_eq_true_iff.mp (show wordS x = true from h)).2).1
    have y : x.length ≤ 8 := of_decide_eq_true z
    simp only [sz]
    omega
  | _ => cases h
theorem szs {ds : List PyData} {c : Nat} (h : ∀ d ∈ ds, sz d ≤ c) : szAll ds ≤ (c + 2) * ds.length := by
  induction ds with
  | nil => simp [szAll]
  | cons d ds ih =>
    have h1 := h d (List.mem_cons_self ..)
    have h2 := ih fun x hx => h x (List.mem_cons_of_mem _ hx)
    simp only [szAll, List.length_cons, Nat.mul_add]
    omega
theorem marks_sz {d : PyData} (h : areMarks d = true) : gd 0 d = true ∧ sz d ≤ 256 := by
  cases d with
  | tuple ds =>
    obtain ⟨h1, h2⟩ := Bool.and_eq_true_iff.mp h
    have n3 : ds.length ≤ 3 := of_decide_eq_true h1
    have z := (Bool.and_eq_true_iff.mp h2).1
    refine ⟨gdAll_iff.mpr fun d hd => (word_sz (List.all_eq_true.mp z d hd)).1, ?_⟩
    have s := szs (c := 82) fun d hd => (word_sz (List.all_eq_true.mp z d hd)).2
    simp only [sz]
    omega
  | _ => cases h
theorem fold_sz {c : PyData → Option (Int × Int)} (hc : ∀ t pq, c t = some pq → gd 0 t = true ∧ (sz t : Int) + 100 ≤ 600 * pq.1) : ∀ {bs : List PyData} {xy r : Int × Int}, bs.foldl (stepB c) (some xy) = some r → gdAll 0 bs = true ∧ (szAll bs : Int) ≤ 600 * (r.1 - xy.1)
  | [], xy, r, h => by
    cases h
    refine ⟨rfl, ?_⟩
    simp [szAll]
  | b :: bs, xy, r, h => by
    rw [List.foldl_cons] at h
    cases hs : stepB c (some xy) b with
    | none =>
      rw [hs, fold_none] at h
      cases h
    | some pq =>
      rw [hs] at h
      obtain ⟨g, z⟩ := fold_sz hc h
      unfold stepB at hs
      dsimp only at hs
      split at hs
      · rename_i u t
        split at hs
        · rename_i hw
          split at hs
          · rename_i pq' ht
            cases hs
            obtain ⟨g2, z2⟩ := hc t _ ht
            obtain ⟨g3, z3⟩ := word_sz (d := .str u) hw
            refine ⟨?_, ?_⟩
            · simp only [gdAll, gd, g, g2, Bool.and_self, Bool.and_true]
              simpa [gd] using g3
            · simp only [szAll, sz] at z ⊢
              simp only [sz] at z3
              omega
          · cases hs
        · cases hs
      · cases hs
theorem cnt_sz : ∀ {n : Nat} {d : PyData} {xy : Int × Int}, cnt n d = some xy → gd 0 d = true ∧ (sz d : Int) + 100 ≤ 600 * xy.1
  | 0, _, _, h => nomatch h
  | n + 1, d, xy, h => by
    unfold cnt at h
    split at h
    · rename_i hn
      unfold isNode at hn
      obtain ⟨h1, h2⟩ := Bool.and_eq_true_iff.mp hn
      obtain ⟨a, b, r, rfl⟩ := pair_or_call h1
      obtain ⟨h3, h4⟩ := Bool.and_eq_true_iff.mp (show (areMarks a && fewB b) = true from h2)
      obtain ⟨g1, z1⟩ := marks_sz h3
      cases b with
      | tuple bs =>
        obtain ⟨g2, z2⟩ := fold_sz (fun t pq e => cnt_sz e) (show bs.foldl (stepB (cnt n)) (some (1, (r.length : Int))) = some xy from h)
        dsimp only at z2
        have hr : gdAll 0 r = true ∧ szAll r ≤ 44 := by
          rcases Bool.or_eq_true_iff.mp h1 with z | z
          · have e : (a :: PyData.tuple bs :: r).length = 2 := of_decide_eq_true z
            cases r with
            | nil => exact ⟨rfl, by simp [szAll]⟩
            | cons y ys => simp at e
          · obtain ⟨y1, y2⟩ := Bool.and_eq_true_iff.mp (Bool.and_eq_true_iff.mp z).2
            have e : (a :: PyData.tuple bs :: r).length = 3 := of_decide_eq_true y1
            match r, e, y2 with
            | [y], _, y2 =>
              have z3 : isCallS (some y) = true := y2
              cases y with
              | str s =>
                have e4 : V.str s = V.str "call" := of_decide_eq_true z3
                cases e4
                exact ⟨by decide +kernel, by decide +kernel⟩
              | _ => cases z3
        refine ⟨?_, ?_⟩
        · simp only [gd, gdAll, g1, g2, hr.1, Bool.and_self]
        · have := hr.2
          simp only [sz, szAll]
          omega
      | _ => cases h4
    · cases h
theorem shape_sz {c : Int} {d : PyData} (h : shape c d = true) : gd 0 d = true ∧ sz d ≤ 3600 := by
  unfold shape at h
  cases e : cnt 4 d with
  | none =>
    rw [e] at h
    cases h
  | some xy =>
    rw [e] at h
    have n6 := of_decide_eq_true (Bool.and_eq_true_iff.mp h).1
    obtain ⟨g, z⟩ := cnt_sz e
    exact ⟨g, by omega⟩
end K01
set_option Elab.async false
set_option linter.all false
set_option maxRecDepth 100000
set_option maxHeartbeats 4000000
namespace RU
open PySem L2 L2H DQ K01 EnT LamX LamD RZ
open XH hiding same_refl same_trans same_new
mutual
theorem can_nodict : ∀ d : PyData, d.canLay0 = true → d.hasDict = false
  | .none, _ => rfl
  | .bool _, _ => rfl
  | .int _, _ => rfl
  | .str _, _ => rfl
  | .list xs, h => can_nodicts xs h
  | .tuple xs, h => can_nodicts xs h
  | .dict _, h => nomatch (show false = true from h)
theorem can_nodicts : ∀ ds : List PyData, PyData.canLayAll0 ds = true → PyData.hasDictAll ds = false
  | [], _ => rfl
  | d :: ds, h => by
    obtain ⟨h1, h2⟩ := Bool.and_eq_true_iff.mp (show (d.canLay0 && PyData.canLayAll0 ds) = true from h)
    show (d.hasDict || PyData.hasDictAll ds) = false
    rw [can_nodict d h1, can_nodicts ds h2]
    rfl
end
/-- repr of what was told -/
def rReprP (K : PySem.W.Frag) : List V → Hp → VK → Prop := fun xs H Q => ∃ (a : Addr) (d : PyData), xs = [.ref a] ∧ Dp K H (.ref a) d ∧ d.canLay0 = true ∧ OkD d ∧ Q (.str d.shown) H
theorem call_reprP {X : Cx} (hg : X.A.guards = some []) (hu : X.A.units + 100 < cLine) : CallR X (.builtin "repr") (rReprP X.K) := by
  intro pins s σ H xs us Q I r h
  obtain ⟨a, d, rfl, hd, cl, ⟨sh, dp, sz⟩, q⟩ := h
  rw [Vals.ref1 r]
  obtain ⟨as, rd⟩ := Dp.reads I d _ (.ref a) hd rfl
  exact PySem.repr_of_reads' rd sh (fun z => by rw [can_nodict d cl] at z; cases z) hg (by omega) (fun _ _ e => e) (fun h' t tk kp => ⟨.str _, H, I.kept kp, ⟨_, rfl⟩, q⟩) sz
theorem firstBad_all {c : Int} {ds : List PyData} (h : firstBad c ds = none) : ∀ d ∈ ds, shape c d = true := fun d hd => by
  have z := List.findIdx?_eq_none_iff.mp h d hd
  simpa using z
theorem firstBad_lt {c : Int} {ds : List PyData} {i : Nat} (h : firstBad c ds = some i) : i < ds.length := (List.findIdx?_eq_some_iff_getElem.mp h).1
def okDB (d : PyData) : Bool := d.showable && (decide (d.depth ≤ 60) && decide (d.shown.length ≤ sizeLine))
theorem okD_by {d : PyData} (h : okDB d = true) : OkD d := by
  unfold okDB at h
  simp only [Bool.and_eq_true, decide_eq_true_eq] at h
  exact ⟨h.1, h.2.1, h.2.2⟩
theorem row_len {d : PyData} {lo hi : Int} (h : isRow d lo hi = true) : ((itemsD d).length : Int) ≤ hi := of_decide_eq_true (Bool.and_eq_true_iff.mp (Bool.and_eq_true_iff.mp (show (isSeq d && (decide (lo ≤ ((itemsD d).length : Int)) && decide (((itemsD d).length : Int) ≤ hi))) = true from h)).2).2
end RU
set_option Elab.async false
set_option linter.all false
set_option maxRecDepth 100000
set_option maxHeartbeats 4000000
namespace K01
open PySem PySem.Spec L2 L2H DQ RZ PyProof.Rows
def ltS (a b : Str) : Prop := a.cps.toList < b.cps.toList
theorem ltS_trans {a b c : Str} (h : ltS a b) (g : ltS b c) : ltS a c := List.lt_trans h g
theorem ltS_irrefl (a : Str) : ¬ ltS a a := List.lt_irrefl _
theorem str_ext {a b : Str} (h : a.cps.toList = b.cps.toList) : a = b := by
  obtain ⟨x⟩ := a
  obtain ⟨y⟩ := b
  have e : x = y := Array.toList_inj.mp h
  rw [e]
theorem rising_le : ∀ (p : Str) (l : List Str), risingS p l = true → (p :: l).Pairwise fun a b => ¬ ltS b a
  | p, [], _ => List.pairwise_cons.mpr ⟨fun _ h => by simp at h, .nil⟩
  | p, x :: r, h => by
    obtain ⟨h1, h2⟩ := Bool.and_eq_true_iff.mp (show (!ltCps x.cps.toList p.cps.toList && risingS x r) = true from h)
    have n1 : ¬ ltS x p := by
      intro z
      rw [ltCps_eq] at h1
      unfold ltS at z
      rw [decide_eq_true z] at h1
      cases h1
    have ih := rising_le x r h2
    refine List.pairwise_cons.mpr ⟨fun y hy => ?_, ih⟩
    rcases List.mem_cons.mp hy with rfl | hy
    · exact n1
    · have n2 := (List.pairwise_cons.mp ih).1 y hy
      intro z
      rcases Classical.em (ltS x y) with c | c
      · exact n1 (ltS_trans c z)
      · have e : x.cps.toList = y.cps.toList := List.le_antisymm (List.not_lt.mp n2) (List.not_lt.mp c)
        rw [str_ext e] at n1
        exact n1 z
theorem sorted_le {l : List Str} (h : sortedS l = true) : l.Pairwise fun a b => ¬ ltS b a := by
  cases l with
  | nil => exact .nil
  | cons p l => exact rising_le p l h
/-- sorted and without twins: strictly ascending -/
theorem strict_of : ∀ {l : List Str}, (l.Pairwise fun a b => ¬ ltS b a) → l.Nodup → l.Pairwise ltS
  | [], _, _ => .nil
  | x :: l, h, d => by
    obtain ⟨h1, h2⟩ := List.pairwise_cons.mp h
    obtain ⟨d1, d2⟩ := List.nodup_cons.mp d
    refine List.pairwise_cons.mpr ⟨fun y hy => ?_, strict_of h2 d2⟩
    rcases Classical.em (ltS x y) with c | c
    · exact c
    · have e : x.cps.toList = y.cps.toList := List.le_antisymm (List.not_lt.mp (h1 y hy)) (List.not_lt.mp c)
      exact absurd (str_ext e ▸ hy) d1
theorem strict_nodup : ∀ {l : List Str}, l.Pairwise ltS → l.Nodup
  | [], _ => .nil
  | x :: l, h => by
    obtain ⟨h1, h2⟩ := List.pairwise_cons.mp h
    exact List.nodup_cons.mpr ⟨fun z => ltS_irrefl _ (h1 x z), strict_nodup h2⟩
/-- two strictly ascending lists of the same texts are one -/
theorem strict_one : ∀ {l m : List Str}, l.Pairwise ltS → m.Pairwise ltS → (∀ x, x ∈ l ↔ x ∈ m) → l = m
  | [], [], _, _, _ => rfl
  | [], y :: m, _, _, h => by have := (h y).mpr (List.mem_cons_self ..); simp at this
  | x :: l, [], _, _, h => by have := (h x).mp (List.mem_cons_self ..); simp at this
  | x :: l, y :: m, hl, hm, h => by
    obtain ⟨l1, l2⟩ := List.pairwise_cons.mp hl
    obtain ⟨m1, m2⟩ := List.pairwise_cons.mp hm
    have e : x = y := by
      rcases List.mem_cons.mp ((h x).mp (List.mem_cons_self ..)) with z | z
      · exact z
      · rcases List.mem_cons.mp ((h y).mpr (List.mem_cons_self ..)) with u | u
        · exact u.symm
        · exact absurd (ltS_trans (m1 x z) (l1 y u)) (ltS_irrefl _)
    subst e
    congr 1
    refine strict_one l2 m2 fun z => ?_
    constructor
    · intro hz
      rcases List.mem_cons.mp ((h z).mp (List.mem_cons_of_mem _ hz)) with u | u
      · exact absurd (u ▸ l1 z hz) (ltS_irrefl _)
      · exact u
    · intro hz
      rcases List.mem_cons.mp ((h z).mpr (List.mem_cons_of_mem _ hz)) with u | u
      · exact absurd (u ▸ m1 z hz) (ltS_irrefl _)
      · exact u
theorem sorted_pack {ws ns : List Str} (hs : sortedS ns = true) (hp : ns.Perm (SX.pack ws)) : ws = ns ↔ ws.Pairwise ltS := by
  have nd : ns.Nodup := hp.nodup_iff.mpr (SX.pack_nodup ws)
  have st : ns.Pairwise ltS := strict_of (sorted_le hs) nd
  constructor
  · intro e
    rw [e]
    exact st
  · intro h
    refine strict_one h st fun x => ?_
    rw [hp.mem_iff, SX.pack_mem]
end K01
set_option Elab.async false
set_option linter.all false
set_option maxRecDepth 100000
set_option maxHeartbeats 4000000
/-! what an unfolding is, as data -/
namespace U4
open PySem PySem.Spec PyProof.Rows L2 L2H DQ K01 RU
def Ab (ms : List Str) : Prop := ms.Nodup ∧ ∀ x ∈ ms, x ∈ abc3
theorem ab_of {ms : List Str} (h : ms.Sublist abc3) : Ab ms := ⟨h.nodup (by decide +kernel), fun x hx => h.subset hx⟩
theorem nodup_len {α : Type} [DecidableEq α] : ∀ {l r : List α}, l.Nodup → (∀ x ∈ l, x ∈ r) → l.length ≤ r.length
  | [], _, _, _ => Nat.zero_le _
  | x :: l, r, hn, hs => by
    have hx := hs x (List.mem_cons_self ..)
    obtain ⟨n1, n2⟩ := List.nodup_cons.mp hn
    have z := nodup_len (l := l) (r := r.erase x) n2 fun y hy => (List.mem_erase_of_ne fun e => n1 (by rw [← e]; exact hy)).mpr (hs y (List.mem_cons_of_mem _ hy))
    rw [List.length_erase_of_mem hx] at z
    have : 0 < r.length := List.length_pos_of_mem hx
    rw [List.length_cons]
    omega
theorem Ab.len {ms : List Str} (h : Ab ms) : ms.length ≤ 3 := (nodup_len h.1 h.2 : ms.length ≤ abc3.length)
/-- the marks of both, each once, ascending -/
def joinS (ms mt : List Str) : List Str := abc3.filter fun x => decide (x ∈ ms) || decide (x ∈ mt)
instance (a b : Str) : Decidable (ltS a b) := inferInstanceAs (Decidable (a.cps.toList < b.cps.toList))
theorem abc_strict : abc3.Pairwise ltS := by decide +kernel
theorem ab_join (ms mt : List Str) : Ab (joinS ms mt) := ab_of List.filter_sublist
theorem join_eq {ms mt ns : List Str} (h1 : Ab ms) (h2 : Ab mt) (hs : sortedS ns = true) (hp : ns.Perm (SX.pack (ms ++ mt))) : ns = joinS ms mt := by
  have nd : ns.Nodup := hp.nodup_iff.mpr (SX.pack_nodup _)
  refine strict_one (strict_of (sorted_le hs) nd) (abc_strict.sublist List.filter_sublist) fun x => ?_
  rw [hp.mem_iff, SX.pack_mem, List.mem_append]
  unfold joinS
  rw [List.mem_filter, Bool.or_eq_true, decide_eq_true_eq, decide_eq_true_eq]
  exact ⟨fun h => ⟨h.elim (h1.2 x) (h2.2 x), h⟩, fun h => h.2⟩
def strsOf (ds : List PyData) : List Str := ds.filterMap fun d => match d with | .str s => some s | _ => none
theorem strsOf_map : ∀ ms : List Str, strsOf (ms.map PyData.str) = ms
  | [] => rfl
  | m :: ms => by
    show m :: strsOf (ms.map PyData.str) = _
    rw [strsOf_map ms]
def tg : PyData → PyData
  | .tuple [_, t] => t
  | _ => .none
/-- the level of the call -/
def lv : Nat → PyData → Option Nat
  | 0, _ => none
  | k + 1, .tuple [_, .tuple bs] => (bs.findSome? fun b => lv k (tg b)).map (· + 1)
  | _ + 1, .tuple [_, _, _] => some 0
  | _ + 1, _ => none
def onBr (f : PyData → PyData) : PyData → PyData
  | .tuple [u, t] => .tuple [u, f t]
  | d => d
/-- a body with a tree of these marks and branches at its call -/
def putF : Nat → PyData → List Str → List PyData → PyData
  | k + 1, .tuple [.tuple ms, .tuple bs], mt, bt => .tuple [.tuple ms, .tuple (bs.map (onBr fun t => putF k t mt bt))]
  | _ + 1, .tuple [.tuple ms, .tuple bs, _], mt, bt => .tuple [.tuple ((joinS (strsOf ms) mt).map PyData.str), .tuple (bs ++ bt)]
  | _, d, _, _ => d
/-- a tree as it is put at a call -/
def Rt (t : PyData) (mt : List Str) (bt : List PyData) : Prop := t = .tuple [.tuple (mt.map PyData.str), .tuple bt] ∧ Ab mt ∧ bt.length ≤ 3 ∧ tupA bt = true
mutual
theorem lv_none : ∀ {k n c : Nat} {d : PyData}, Tc k n c d → c = 0 → lv (k + 1) d = none
  | k, _, _, _, .mk (ms := ms) (bs := bs) (c0 := c0) hm hl hr hb e1 e2, hc => by
    have z : c0 = 0 := by omega
    rcases hr with ⟨rfl, _⟩ | ⟨rfl, h1⟩
    · show (bs.findSome? fun b => lv k (tg b)).map (· + 1) = none
      rw [lvB_none hb (by omega)]
      rfl
    · omega
theorem lvB_none : ∀ {k n c : Nat} {bs : List PyData}, TcB k n c bs → c = 0 → (bs.findSome? fun b => lv k (tg b)) = none
  | _, _, _, _, .nil, _ => rfl
  | _, _, _, _, .cons (k := k) (u := u) (t := t) (bs := bs) hu ht hb e1 e2, hc => by
    rw [List.findSome?_cons, show tg (PyData.tuple [.str u, t]) = t from rfl, lv_none ht (by omega)]
    exact lvB_none hb (by omega)
end
mutual
theorem lv_some : ∀ {k n c : Nat} {d : PyData}, Tc k n c d → c = 1 → ∃ j, lv (k + 1) d = some j ∧ j ≤ k
  | k, _, _, _, .mk (ms := ms) (bs := bs) (c0 := c0) (c1 := c1) hm hl hr hb e1 e2, hc => by
    rcases hr with ⟨rfl, h0⟩ | ⟨rfl, h1⟩
    · obtain ⟨j, hj, lj⟩ := lvB_some hb (by omega)
      refine ⟨j + 1, ?_, by omega⟩
      show (bs.findSome? fun b => lv k (tg b)).map (· + 1) = _
      rw [hj]
      rfl
    · exact ⟨0, rfl, Nat.zero_le _⟩
theorem lvB_some : ∀ {k n c : Nat} {bs : List PyData}, TcB k n c bs → c = 1 → ∃ j, (bs.findSome? fun b => lv k (tg b)) = some j ∧ j + 1 ≤ k
  | _, _, _, _, .nil, h => by omega
  | _, _, _, _, .cons (k := k) (c := c) (u := u) (t := t) (bs := bs) hu ht hb e1 e2, hc => by
    by_cases h : c = 1
    · obtain ⟨j, hj, lj⟩ := lv_some ht h
      refine ⟨j, ?_, by omega⟩
      rw [List.findSome?_cons, show tg (PyData.tuple [.str u, t]) = t from rfl, hj]
    · obtain ⟨j, hj, lj⟩ := lvB_some hb (by omega)
      refine ⟨j, ?_, lj⟩
      rw [List.findSome?_cons, show tg (PyData.tuple [.str u, t]) = t from rfl, lv_none ht (by omega)]
      exact hj
end
mutual
/-- without a call nothing is put -/
theorem put_none : ∀ {k n c : Nat} {d : PyData} (mt : List Str) (bt : List PyData), Tc k n c d → c = 0 → putF (k + 1) d mt bt = d
  | k, _, _, _, mt, bt, .mk (ms := ms) (bs := bs) (c0 := c0) hm hl hr hb e1 e2, hc => by
    rcases hr with ⟨rfl, h0⟩ | ⟨rfl, h1⟩
    · show PyData.tuple [.tuple (ms.map PyData.str), .tuple (bs.map (onBr fun t => putF k t mt bt))] = _
      rw [putB_none mt bt hb (by omega)]
    · omega
theorem putB_none : ∀ {k n c : Nat} {bs : List PyData} (mt : List Str) (bt : List PyData), TcB k n c bs → c = 0 → bs.map (onBr fun t => putF k t mt bt) = bs
  | _, _, _, _, _, _, .nil, _ => rfl
  | _, _, _, _, mt, bt, .cons (k := k) (u := u) (t := t) (bs := bs) hu ht hb e1 e2, hc => by
    show PyData.tuple [.str u, putF (k + 1) t mt bt] :: bs.map (onBr fun t => putF (k + 1) t mt bt) = _
    rw [put_none mt bt ht (by omega), putB_none mt bt hb (by omega)]
end
theorem plain_strs (ms : List Str) : ∀ n, (∀ x ∈ ms, PyData.strOk x = true) → plain (n + 1) (.tuple (ms.map PyData.str)) := fun n h => plain_tup fun d hd => by
  obtain ⟨x, hx, rfl⟩ := List.mem_map.mp hd
  exact ⟨h x hx, Nat.zero_le _⟩
theorem abc_ok : ∀ x ∈ abc3, PyData.strOk x = true := by decide +kernel
mutual
/-- what is put is made of tuples and texts -/
theorem put_tup : ∀ {k n c : Nat} {d : PyData} {mt : List Str} {bt : List PyData}, Tc k n c d → tupA bt = true → tupO (putF (k + 1) d mt bt) = true
  | k, _, _, _, mt, bt, .mk (ms := ms) (bs := bs) (c0 := c0) hm hl hr hb e1 e2, ht => by
    rcases hr with ⟨rfl, h0⟩ | ⟨rfl, h1⟩
    · have z1 := putB_tup (mt := mt) hb ht
      show tupO (.tuple [.tuple (ms.map PyData.str), .tuple (bs.map (onBr fun t => putF k t mt bt))]) = true
      simp only [tupO, tupA, tup_strs, z1, Bool.and_self]
    · have z1 := br_tup hb
      show tupO (.tuple [.tuple ((joinS (strsOf (ms.map PyData.str)) mt).map PyData.str), .tuple (bs ++ bt)]) = true
      have y : tupA (bs ++ bt) = true := tupA_iff.mpr fun d hd => (List.mem_append.mp hd).elim (tupA_iff.mp z1 d) (tupA_iff.mp ht d)
      simp only [tupO, tupA, tup_strs, y, Bool.and_self]
theorem putB_tup : ∀ {k n c : Nat} {bs : List PyData} {mt : List Str} {bt : List PyData}, TcB k n c bs → tupA bt = true → tupA (bs.map (onBr fun t => putF k t mt bt)) = true
  | _, _, _, _, _, _, .nil, _ => rfl
  | _, _, _, _, mt, bt, .cons (k := k) (u := u) (t := t) (bs := bs) hu ht hb e1 e2, htt => by
    have z1 := put_tup (mt := mt) ht htt
    have y1 := putB_tup (mt := mt) hb htt
    show tupA (.tuple [.str u, putF (k + 1) t mt bt] :: bs.map (onBr fun t => putF (k + 1) t mt bt)) = true
    simp only [tupO, tupA, z1, y1, Bool.and_self]
theorem br_tup : ∀ {k n c : Nat} {bs : List PyData}, TcB k n c bs → tupA bs = true
  | _, _, _, _, .nil => rfl
  | _, _, _, _, .cons (k := k) (u := u) (t := t) (bs := bs) hu ht hb e1 e2 => by
    have z1 := tc_tup ht
    have y1 := br_tup hb
    simp only [tupO, tupA, z1, y1, Bool.and_self]
theorem tc_tup : ∀ {k n c : Nat} {d : PyData}, Tc k n c d → tupO d = true
  | k, _, _, _, .mk (ms := ms) (bs := bs) (r := r) (c0 := c0) hm hl hr hb e1 e2 => by
    have z1 := br_tup hb
    rcases hr with ⟨rfl, h0⟩ | ⟨rfl, h1⟩
    · simp only [tupO, tupA, tup_strs, z1, Bool.and_self]
    · simp only [tupO, tupA, tup_strs, z1, Bool.and_self]
end
mutual
/-- what is put is as deep as the two -/
theorem put_plain : ∀ {k n c m : Nat} {d : PyData} {mt : List Str} {bt : List PyData}, Tc k n c d → (∀ b ∈ bt, plain m b) → plain (m + 4 * k + 2) (putF (k + 1) d mt bt)
  | k, _, _, m, _, mt, bt, .mk (ms := ms) (bs := bs) (c0 := c0) hm hl hr hb e1 e2, hp => by
    rcases hr with ⟨rfl, h0⟩ | ⟨rfl, h1⟩
    · have z2 := putB_plain (mt := mt) hb hp
      refine plain_tup fun d hd => ?_
      rcases List.mem_cons.mp hd with rfl | hd
      · exact (plain_strs ms 0 fun x hx => abc_ok x (hm.subset hx)).mono (by omega)
      · rw [List.mem_singleton.mp hd]
        exact plain_tup z2
    · have z2 := br_plain hb
      refine plain_tup fun d hd => ?_
      rcases List.mem_cons.mp hd with rfl | hd
      · exact (plain_strs _ 0 fun x hx => abc_ok x ((ab_join _ _).2 x hx)).mono (by omega)
      · rw [List.mem_singleton.mp hd]
        refine plain_tup fun d hd => ?_
        rcases List.mem_append.mp hd with hd | hd
        · exact (z2 d hd).mono (by omega)
        · exact (hp d hd).mono (by omega)
theorem putB_plain : ∀ {k n c m : Nat} {bs : List PyData} {mt : List Str} {bt : List PyData}, TcB k n c bs → (∀ b ∈ bt, plain m b) → ∀ b ∈ bs.map (onBr fun t => putF k t mt bt), plain (m + 4 * k) b
  | _, _, _, _, _, _, _, .nil, _ => fun b hb => absurd hb List.not_mem_nil
  | _, _, _, m, _, mt, bt, .cons (k := k) (u := u) (t := t) (bs := bs) hu ht hb e1 e2, hp => by
    have z2 := put_plain (mt := mt) ht hp
    have y2 := putB_plain (mt := mt) hb hp
    intro b hb'
    rcases List.mem_cons.mp (show b ∈ PyData.tuple [.str u, putF (k + 1) t mt bt] :: bs.map (onBr fun t => putF (k + 1) t mt bt) from hb') with rfl | hb'
    · refine (plain_tup (n := m + 4 * k + 2) fun d hd => ?_).mono (by omega)
      rcases List.mem_cons.mp hd with rfl | hd
      · exact ⟨(ef_sm hu).1, Nat.zero_le _⟩
      · rw [List.mem_singleton.mp hd]
        exact z2
    · exact y2 b hb'
theorem br_plain : ∀ {k n c : Nat} {bs : List PyData}, TcB k n c bs → ∀ b ∈ bs, plain (4 * k) b
  | _, _, _, _, .nil => fun b hb => absurd hb List.not_mem_nil
  | _, _, _, _, .cons (k := k) (u := u) (t := t) (bs := bs) hu ht hb e1 e2 => by
    have z2 := tc_plain ht
    have y2 := br_plain hb
    intro b hb'
    rcases List.mem_cons.mp hb' with rfl | hb'
    · refine (plain_tup (n := 4 * k + 2) fun d hd => ?_).mono (by omega)
      rcases List.mem_cons.mp hd with rfl | hd
      · exact ⟨(ef_sm hu).1, Nat.zero_le _⟩
      · rw [List.mem_singleton.mp hd]
        exact z2
    · exact y2 b hb'
theorem tc_plain : ∀ {k n c : Nat} {d : PyData}, Tc k n c d → plain (4 * k + 2) d
  | k, _, _, _, .mk (ms := ms) (bs := bs) (r := r) (c0 := c0) hm hl hr hb e1 e2 => by
    have z2 := br_plain hb
    have m1 : plain (4 * k + 1) (.tuple (ms.map PyData.str)) := (plain_strs ms 0 fun x hx => abc_ok x (hm.subset hx)).mono (by omega)
    rcases hr with ⟨rfl, h0⟩ | ⟨rfl, h1⟩
    · refine plain_tup fun d hd => ?_
      rcases List.mem_cons.mp hd with rfl | hd
      · exact m1
      · rw [List.mem_singleton.mp hd]
        exact plain_tup z2
    · refine plain_tup fun d hd => ?_
      rcases List.mem_cons.mp hd with rfl | hd
      · exact m1
      · rcases List.mem_cons.mp hd with rfl | hd
        · exact plain_tup z2
        · rw [List.mem_singleton.mp hd]
          exact ⟨(by decide +kernel : PyData.strOk "call" = true), Nat.zero_le _⟩
end
end U4
set_option Elab.async false
set_option linter.all false
set_option maxRecDepth 100000
set_option maxHeartbeats 4000000
/-! the level of the call, as the program and as the law look for it -/
namespace U4
open PySem L2 L2H DQ K01 RU
def lvV : Option Nat → V
  | none => .non
  | some j => .int (j : Int)
def spLv (k : Nat) : Sp := fun vs H Q _ => ∃ (v : V) (d : PyData) (n c : Nat), vs = [v] ∧ Dq H v d ∧ Tc k n c d ∧ ∀ H', Same H H' → Q (lvV (lv (k + 1) d)) H'
def spLvX : Nat → Sp
  | 0 => fun _ _ _ _ => False
  | k + 1 => spLv k
theorem fn_never {P : Program} {w : World} {K : PySem.W.Frag} {mg : Str → Option Value} {base : Heap} {k : Nat} {f : Addr} {fd : FuncData} {ps : List Str} : FnOk P w K mg base CX0 k f fd ps (fun _ _ _ _ => False) :=
  ⟨fun _ _ _ _ h => h.elim, fun _ _ _ _ _ _ _ _ _ _ _ _ _ h => h.elim⟩
theorem same_put {H H' : Hp} {a : Addr} {o : HO} (s : Same H H') (n : H a = none) : Same H (upd H' a o) := fun b u e => by
  rw [upd_ne (ne_of_none e n)]
  exact s b u e
/-- what of some levels is there, one more each -/
def ups (os : List (Option Nat)) : List V := os.filterMap fun o => o.map fun j => V.int ((j : Int) + 1)
def some_ (os : List (Option Nat)) : List V := os.filterMap fun o => o.map fun j => V.int (j : Int)
theorem ups_snoc (os : List (Option Nat)) (o : Option Nat) : ups (os ++ [o]) = ups os ++ (match o with | none => [] | some j => [V.int ((j : Int) + 1)]) := by
  unfold ups
  rw [List.filterMap_append]
  cases o <;> rfl
theorem some_snoc (os : List (Option Nat)) (o : Option Nat) : some_ (os ++ [o]) = some_ os ++ (match o with | none => [] | some j => [V.int (j : Int)]) := by
  unfold some_
  rw [List.filterMap_append]
  cases o <;> rfl
theorem ups_len (os : List (Option Nat)) : (ups os).length ≤ os.length := List.length_filterMap_le ..
theorem some_len (os : List (Option Nat)) : (some_ os).length ≤ os.length := List.length_filterMap_le ..
theorem ups_head : ∀ os : List (Option Nat), (ups os)[0]? = (os.findSome? id).map fun j => V.int ((j : Int) + 1)
  | [] => rfl
  | none :: os => ups_head os
  | some j :: os => rfl
theorem some_head : ∀ os : List (Option Nat), (some_ os)[0]? = (os.findSome? id).map fun j => V.int (j : Int)
  | [] => rfl
  | none :: os => some_head os
  | some j :: os => rfl
theorem lv_pair {k : Nat} {a : PyData} {bs : List PyData} : lv (k + 1) (.tuple [a, .tuple bs]) = ((bs.map fun b => lv k (tg b)).findSome? id).map (· + 1) := by
  show (bs.findSome? fun b => lv k (tg b)).map (· + 1) = _
  rw [List.findSome?_map]
  rfl
theorem take_snoc {α β : Type} {f : α → β} {l : List α} {i : Nat} {x : α} (h : l[i]? = some x) : (l.take (i + 1)).map f = (l.take i).map f ++ [f x] := by
  rw [List.take_add_one, h, List.map_append]
  rfl
abbrev nCl : List Str := ["tree", "levels", "_", "below", "found", "level"]
abbrev nLC : List Str := ["body", "found", "word", "below", "one"]
section
variable {P : Program} {w : World} {K : PySem.W.Frag} {mg : Str → Option Value} {base : Heap}
theorem scCv : FnScope nCl ["tree"] (defScope sCLv) := ⟨rfl, rfl, rfl, by decide +kernel, rfl, by decide +kernel, by decide +kernel⟩
theorem scLC : FnScope nLC ["body"] (defScope sLCL) := ⟨rfl, rfl, rfl, by decide +kernel, rfl, by decide +kernel, by decide +kernel⟩
theorem ok_clv {f : Addr} {fd : FuncData} (F : Fun K "call_level" "call_level" sCLv f fd) (bF : Binds K fd ["tree"] []) (gF : mg "call_level" = some (.ref f)) (tL : mg "len" = none) : ∀ k, FnOk P w K mg base CX0 (1 + k) f fd ["tree"] (spLvX k) := by
  intro k
  induction k with
  | zero => exact fn_never
  | succ k ih =>
    refine F.ok (k := 1 + k) scCv (fun vs H Q E h => ?_) (fun cdv A outer s H vs Q E hr h => ?_)
    · obtain ⟨v, d, n, c, rfl, _⟩ := h
      rfl
    · obtain ⟨v, d, n, c, rfl, hv, hd, kk⟩ := h
      refine ⟨_, pss_cons (ps_if (pt_cmpR op_eq (pe_callB call_len_seq (by rfl) tL PySem.boot_len (pa_cons (pv 0) pa_nil)) pe_int (by rfl)) (pss_one (ps_ret pe_int)) pss_nil)
        (pss_cons (ps_setLc (i := 1) (own := [("_", 2), ("below", 3)]) (g := gTup K 2 (gCons (gName 2) (gCons (gName 3) gNil))) (by rfl) scCv.nd rfl rfl (sw_true rfl rfl rfl (by decide +kernel)) (pi_tup (pe_ix ix_tup (pv 0) pe_int (fun _ _ => rfl))) (blkOk_by (own := [("_", 2), ("below", 3)]) (N := nCl) (sc := defScope sCLv) (by decide +kernel))
          (fun _ _ _ _ _ => pg_tup (n := 2) rfl (pgs_cons (pg_name (i := 2) scCv.nd rfl (Or.inl rfl)) (pgs_cons (pg_name (i := 3) scCv.nd rfl (Or.inl rfl)) pgs_nil))) (fun _ _ _ _ _ => pts_nil) (tt := tYes) (fun _ _ _ _ _ => pe_call ih hr (by rfl) gF F.kp bF .nil pass0 (pa_cons (pv 3) pa_nil)))
        (pss_cons (ps_setLc (i := 4) (own := [("level", 5)]) (g := gName 5) (by rfl) scCv.nd rfl rfl (sw_true rfl rfl rfl (by decide +kernel)) (pi_list (pv 1)) (blkOk_by (own := [("level", 5)]) (N := nCl) (sc := defScope sCLv) (by decide +kernel))
          (fun _ _ _ _ _ => pg_name (i := 5) scCv.nd rfl (Or.inl rfl)) (fun _ _ _ _ _ => pts_one (pt_cmpR op_notN (pv 5) pe_non (nomark _))) (fun _ _ _ _ _ => pe_op op_add (pv 5) pe_int))
        (pss_one (ps_ret (pe_ifExp (pt_truth (pv 4) (by intro _; rfl)) (pe_ix ix_list (pv 4) pe_int (fun _ _ => rfl)) pe_non))))), ?_⟩
      cases hd with
      | @mk _ _ _ n0 c0 c1 ms bs r hm hl hrr hb en ec =>
      obtain ⟨pd, xd, rfl, d1, da⟩ := dq_tup hv
      cases da with
      | cons qm da =>
      cases da with
      | cons qb da =>
      obtain ⟨pb, xb, rfl, eb, ab⟩ := dq_tup qb
      rcases hrr with ⟨rfl, h0⟩ | ⟨rfl, h1⟩
      · cases da
        refine ⟨_, rfl, pd, _, rfl, .inr (SqT.of d1), rfl, _, rfl, iteF ?_⟩
        refine ⟨_, rfl, pd, _, 1, .ref pb, rfl, rfl, SqT.of d1, atI_nat (j := 1) rfl, pb, rfl, ⟨_, SqT.of eb⟩, fun D nD => ?_⟩
        have lb : xb.length = bs.length := ab.len
        refine lc_it (walk_tup (xs := xb)) (fun i H' => Same H H' ∧ H' D = some (.lst ((bs.take i).map fun b => lvV (lv k (tg b)))))
          ⟨same_new nD, upd_same⟩ (fun i H' _ ⟨s, _⟩ => SqT.of (s _ _ eb)) ?_ ?_
        · rintro i y H5 H6 hi ⟨s5, hdd⟩ ⟨rfl, hx⟩
          obtain ⟨k', u, tt, n1, c1', na, ca, nb, cb, ek, hbi, hu, htt, _, _, _, ecc⟩ := hb.cut (j := i) (by omega)
          subst ek
          obtain ⟨vi, hvi, qi⟩ := ab.at hbi
          rw [hx] at hvi
          obtain rfl : y = vi := Option.some.inj hvi
          obtain ⟨pi, vu, vtt, rfl, epi, qu, qtt⟩ := dq_pair qi
          refine ⟨pi, _, rfl, SqT.of (s5 _ _ epi), rfl, _, _, rfl, _, _, rfl, rfl, rfl, ?_⟩
          unfold tYes
          refine iteT ?_
          refine ⟨_, rfl, vtt, tt, n1, c1', rfl, qtt.same s5, htt, fun H7 s7 => ⟨_, s7 _ _ hdd, small1000 (by rw [List.length_map, List.length_take]; omega), ?_, ?_⟩⟩
          · exact same_put (same_trans s5 s7) nD
          · rw [upd_same, take_snoc hbi]
            rfl
        · rintro H5 ⟨s5, hdd⟩
          have tk : bs.take xb.length = bs := List.take_of_length_le (by omega)
          rw [tk] at hdd
          have eo : (bs.map fun b => lvV (lv k (tg b))) = (bs.map fun b => lv k (tg b)).map lvV := by rw [List.map_map]; rfl
          obtain ⟨os, hos⟩ : ∃ os, os = bs.map fun b => lv k (tg b) := ⟨_, rfl⟩
          rw [eo, ← hos] at hdd
          have lo : os.length ≤ 3 := by rw [hos, List.length_map]; exact hl
          refine ⟨_, rfl, D, rfl, ⟨_, SqL.of hdd⟩, fun D2 nD2 => ?_⟩
          refine lc_list (K := K) (a := D) (xs := os.map lvV) (fun i H' => Same H5 H' ∧ H' D2 = some (.lst (ups (os.take i)))) ⟨same_new nD2, upd_same⟩ (fun i H' _ ⟨s, _⟩ => SqL.of (s _ _ hdd)) ?_ ?_
          · rintro i y H6 hi ⟨s6, hd2⟩
            obtain ⟨o, ho, rfl⟩ : ∃ o, os[i]? = some o ∧ lvV o = y := by
              rw [List.getElem?_map] at hi
              exact Option.map_eq_some_iff.mp hi
            have hil := (List.getElem?_eq_some_iff.mp ho).1
            have tk2 : os.take (i + 1) = os.take i ++ [o] := by rw [List.take_add_one, ho]; rfl
            refine ⟨rfl, _, rfl, rfl, _, rfl, ?_⟩
            cases o with
            | none =>
              refine iteF ⟨s6, ?_⟩
              rw [tk2, ups_snoc, List.append_nil]
              exact hd2
            | some j =>
              refine iteT ⟨_, rfl, _, _, rfl, rfl, _, hd2, small1000 (by have := ups_len (os.take i); rw [List.length_take] at this; omega), same_put s6 nD2, ?_⟩
              rw [upd_same, tk2, ups_snoc]
          · rintro H6 ⟨s6, hd2⟩
            rw [List.take_of_length_le (by rw [List.length_map]; exact Nat.le_refl _)] at hd2
            have sA := same_trans s5 s6
            have fin := kk H6 sA
            rw [lv_pair, ← hos] at fin
            have hh := ups_head os
            refine ⟨_, rfl, _, .inl ⟨_, SqL.of hd2, rfl⟩, ?_⟩
            cases e : os.findSome? id with
            | none =>
              rw [e] at hh fin
              have : ups os = [] := by
                cases hu : ups os with
                | nil => rfl
                | cons a l => rw [hu] at hh; cases hh
              rw [this]
              exact iteF fin
            | some j =>
              rw [e] at hh fin
              cases hu : ups os with
              | nil => rw [hu] at hh; cases hh
              | cons a l =>
                rw [hu] at hh hd2
                obtain rfl : a = V.int ((j : Int) + 1) := Option.some.inj hh
                refine iteT ⟨_, rfl, D2, _, 0, _, rfl, rfl, SqL.of hd2, atI_nat (j := 0) rfl, ?_⟩
                have ej : lvV (Option.map (· + 1) (some j)) = V.int ((j : Int) + 1) := by
                  show V.int ((j + 1 : Nat) : Int) = _
                  rw [Int.natCast_add]
                  rfl
                rw [ej] at fin
                exact fin
      · cases da with
        | cons qc da =>
        cases da
        exact ⟨_, rfl, pd, _, rfl, .inr (SqT.of d1), rfl, _, rfl, iteT (kk H same_refl)⟩
end
end U4
set_option Elab.async false
set_option linter.all false
set_option maxRecDepth 100000
set_option maxHeartbeats 4000000
namespace U4
open PySem L2 L2H DQ K01 RU
section
variable {P : Program} {w : World} {K : PySem.W.Frag} {mg : Str → Option Value} {base : Heap}
theorem ok_lcl {f : Addr} {fd : FuncData} (F : Fun K "_law_call_level" "_law_call_level" sLCL f fd) (bF : Binds K fd ["body"] []) (gF : mg "_law_call_level" = some (.ref f)) (tL : mg "len" = none) : ∀ k, FnOk P w K mg base CX0 (1 + k) f fd ["body"] (spLvX k) := by
  intro k
  induction k with
  | zero => exact fn_never
  | succ k ih =>
    refine F.ok (k := 1 + k) scLC (fun vs H Q E h => ?_) (fun cdv A outer s H vs Q E hr h => ?_)
    · obtain ⟨v, d, n, c, rfl, _⟩ := h
      rfl
    · obtain ⟨v, d, n, c, rfl, hv, hd, kk⟩ := h
      have hu1 : (A.deeper (PyProof.Rows.envOfC "_law_call_level" (defScope sLCL) s.heap.objs.size f cdv)).units < cLine := by have := hr.un; omega
      refine ⟨_, pss_cons (ps_if (pt_cmpR op_eq (pe_callB call_len_seq (by rfl) tL PySem.boot_len (pa_cons (pv 0) pa_nil)) pe_int (by rfl)) (pss_one (ps_ret pe_int)) pss_nil)
        (pss_cons (ps_setLc (i := 1) (own := [("word", 2), ("below", 3)]) (g := gTup K 2 (gCons (gName 2) (gCons (gName 3) gNil))) (by rfl) scLC.nd rfl rfl (sw_true rfl rfl rfl (by decide +kernel)) (pi_tup (pe_ix ix_tup (pv 0) pe_int (fun _ _ => rfl))) (blkOk_by (own := [("word", 2), ("below", 3)]) (N := nLC) (sc := defScope sLCL) (by decide +kernel))
          (fun _ _ _ _ _ => pg_tup (n := 2) rfl (pgs_cons (pg_name (i := 2) scLC.nd rfl (Or.inl rfl)) (pgs_cons (pg_name (i := 3) scLC.nd rfl (Or.inl rfl)) pgs_nil))) (fun _ _ _ _ _ => pts_nil) (tt := tYes) (fun _ _ _ _ _ => pe_call ih hr (by rfl) gF F.kp bF .nil pass0 (pa_cons (pv 3) pa_nil)))
        (pss_cons (ps_setLc (i := 1) (own := [("one", 4)]) (g := gName 4) (by rfl) scLC.nd rfl rfl (sw_true rfl rfl rfl (by decide +kernel)) (pi_list (pv 1)) (blkOk_by (own := [("one", 4)]) (N := nLC) (sc := defScope sLCL) (by decide +kernel))
          (fun _ _ _ _ _ => pg_name (i := 4) scLC.nd rfl (Or.inl rfl)) (fun _ _ _ _ _ => pts_one (pt_cmpR op_notN (pv 4) pe_non (nomark _))) (fun _ _ _ _ _ => pv 4))
        (pss_one (ps_ret (pe_ifExp (pt_cmpR (NI.op_neNil hu1) (pv 1) (pe_lst pa_nil) (nomark _)) (pe_op op_add (pe_ix ix_list (pv 1) pe_int (fun _ _ => rfl)) pe_int) pe_non))))), ?_⟩
      cases hd with
      | @mk _ _ _ n0 c0 c1 ms bs r hm hl hrr hb en ec =>
      obtain ⟨pd, xd, rfl, d1, da⟩ := dq_tup hv
      cases da with
      | cons qm da =>
      cases da with
      | cons qb da =>
      obtain ⟨pb, xb, rfl, eb, ab⟩ := dq_tup qb
      rcases hrr with ⟨rfl, h0⟩ | ⟨rfl, h1⟩
      · cases da
        refine ⟨_, rfl, pd, _, rfl, .inr (SqT.of d1), rfl, _, rfl, iteF ?_⟩
        refine ⟨_, rfl, pd, _, 1, .ref pb, rfl, rfl, SqT.of d1, atI_nat (j := 1) rfl, pb, rfl, ⟨_, SqT.of eb⟩, fun D nD => ?_⟩
        have lb : xb.length = bs.length := ab.len
        refine lc_it (walk_tup (xs := xb)) (fun i H' => Same H H' ∧ H' D = some (.lst ((bs.take i).map fun b => lvV (lv k (tg b)))))
          ⟨same_new nD, upd_same⟩ (fun i H' _ ⟨s, _⟩ => SqT.of (s _ _ eb)) ?_ ?_
        · rintro i y H5 H6 hi ⟨s5, hdd⟩ ⟨rfl, hx⟩
          obtain ⟨k', u, tt, n1, c1', na, ca, nb, cb, ek, hbi, hu, htt, _, _, _, ecc⟩ := hb.cut (j := i) (by omega)
          subst ek
          obtain ⟨vi, hvi, qi⟩ := ab.at hbi
          rw [hx] at hvi
          obtain rfl : y = vi := Option.some.inj hvi
          obtain ⟨pi, vu, vtt, rfl, epi, qu, qtt⟩ := dq_pair qi
          refine ⟨pi, _, rfl, SqT.of (s5 _ _ epi), rfl, _, _, rfl, _, _, rfl, rfl, rfl, ?_⟩
          unfold tYes
          refine iteT ?_
          refine ⟨_, rfl, vtt, tt, n1, c1', rfl, qtt.same s5, htt, fun H7 s7 => ⟨_, s7 _ _ hdd, small1000 (by rw [List.length_map, List.length_take]; omega), ?_, ?_⟩⟩
          · exact same_put (same_trans s5 s7) nD
          · rw [upd_same, take_snoc hbi]
            rfl
        · rintro H5 ⟨s5, hdd⟩
          have tk : bs.take xb.length = bs := List.take_of_length_le (by omega)
          rw [tk] at hdd
          have eo : (bs.map fun b => lvV (lv k (tg b))) = (bs.map fun b => lv k (tg b)).map lvV := by rw [List.map_map]; rfl
          obtain ⟨os, hos⟩ : ∃ os, os = bs.map fun b => lv k (tg b) := ⟨_, rfl⟩
          rw [eo, ← hos] at hdd
          have lo : os.length ≤ 3 := by rw [hos, List.length_map]; exact hl
          refine ⟨_, rfl, D, rfl, ⟨_, SqL.of hdd⟩, fun D2 nD2 => ?_⟩
          refine lc_list (K := K) (a := D) (xs := os.map lvV) (fun i H' => Same H5 H' ∧ H' D2 = some (.lst (some_ (os.take i)))) ⟨same_new nD2, upd_same⟩ (fun i H' _ ⟨s, _⟩ => SqL.of (s _ _ hdd)) ?_ ?_
          · rintro i y H6 hi ⟨s6, hd2⟩
            obtain ⟨o, ho, rfl⟩ : ∃ o, os[i]? = some o ∧ lvV o = y := by
              rw [List.getElem?_map] at hi
              exact Option.map_eq_some_iff.mp hi
            have hil := (List.getElem?_eq_some_iff.mp ho).1
            have tk2 : os.take (i + 1) = os.take i ++ [o] := by rw [List.take_add_one, ho]; rfl
            refine ⟨rfl, _, rfl, rfl, _, rfl, ?_⟩
            cases o with
            | none =>
              refine iteF ⟨s6, ?_⟩
              rw [tk2, some_snoc, List.append_nil]
              exact hd2
            | some j =>
              refine iteT ⟨_, rfl, _, hd2, small1000 (by have := some_len (os.take i); rw [List.length_take] at this; omega), same_put s6 nD2, ?_⟩
              rw [upd_same, tk2, some_snoc]
              rfl
          · rintro H6 ⟨s6, hd2⟩
            rw [List.take_of_length_le (by rw [List.length_map]; exact Nat.le_refl _)] at hd2
            have sA := same_trans s5 s6
            refine ⟨_, rfl, by decide, fun p3 np3 => ⟨D2, p3, _, rfl, rfl, SqL.of (same_new np3 _ _ hd2), SqL.of upd_same, _, rfl, ?_⟩⟩
            have sB := same_trans sA (same_new (o := .lst []) np3)
            have hd3 := same_new (o := .lst []) np3 _ _ hd2
            have fin := kk _ sB
            rw [lv_pair, ← hos] at fin
            have hh := some_head os
            cases e : os.findSome? id with
            | none =>
              rw [e] at hh fin
              have : some_ os = [] := by
                cases hu : some_ os with
                | nil => rfl
                | cons a l => rw [hu] at hh; cases hh
              rw [this]
              exact iteF fin
            | some j =>
              rw [e] at hh fin
              cases hu : some_ os with
              | nil => rw [hu] at hh; cases hh
              | cons a l =>
                rw [hu] at hh hd3
                obtain rfl : a = V.int (j : Int) := Option.some.inj hh
                refine iteT ⟨_, rfl, D2, _, 0, _, rfl, rfl, SqL.of hd3, atI_nat (j := 0) rfl, _, _, rfl, rfl, ?_⟩
                have ej : lvV (Option.map (· + 1) (some j)) = V.int ((j : Int) + 1) := by
                  show V.int ((j + 1 : Nat) : Int) = _
                  rw [Int.natCast_add]
                  rfl
                rw [ej] at fin
                exact fin
      · cases da with
        | cons qc da =>
        cases da
        exact ⟨_, rfl, pd, _, rfl, .inr (SqT.of d1), rfl, _, rfl, iteT (kk H same_refl)⟩
end
end U4
set_option Elab.async false
set_option linter.all false
set_option maxRecDepth 100000
set_option maxHeartbeats 4000000
/-! a tree put at the call of a body: as the law does it, as the program does it -/
namespace U4
open PySem L2 L2H DQ K01 RU
theorem dq_strs {H : Hp} : ∀ {ms : List Str} {xs : List V}, DqAll H xs (ms.map PyData.str) → xs = ms.map V.str
  | [], _, .nil => rfl
  | m :: ms, _, .cons h t => by
    cases h
    rw [dq_strs t]
    rfl
theorem dq_mk {H : Hp} {v : V} {ms : List Str} (h : Dq H v (.tuple (ms.map PyData.str))) : ∃ p, v = .ref p ∧ H p = some (.tup (ms.map V.str)) := by
  obtain ⟨p, xs, rfl, e, a⟩ := dq_tup h
  rw [dq_strs a] at e
  exact ⟨p, rfl, e⟩
/-- what was a tuple stays it -/
def Kt (H H' : Hp) : Prop := ∀ b xs, H b = some (.tup xs) → H' b = some (.tup xs)
theorem Kt.put {H : Hp} {a : Addr} {xs ys : List V} (h : H a = some (.lst xs)) : Kt H (upd H a (.lst ys)) := fun b zs e => by
  rw [upd_ne fun z => by rw [z, h] at e; cases e]
  exact e
structure TS2 (mg : Str → Option Value) : Prop where
  len : mg "len" = none
  set : mg "set" = none
  sorted : mg "sorted" = none
  tuple : mg "tuple" = none
def spPut (k : Nat) : Sp := fun vs H Q _ => ∃ (v w : V) (d t : PyData) (n c : Nat) (mt : List Str) (bt : List PyData), vs = [v, w] ∧ Dq H v d ∧ Tc k n c d ∧ c ≤ 1 ∧ Dq H w t ∧ Rt t mt bt ∧ ∀ r H', Same H H' → Dq H' r (putF (k + 1) d mt bt) → Q r H'
def spPutX : Nat → Sp
  | 0 => fun _ _ _ _ => False
  | k + 1 => spPut k
def spJo : Sp := fun vs H Q _ => ∃ (a b : Addr) (ms mt : List Str), vs = [.ref a, .ref b] ∧ H a = some (.tup (ms.map V.str)) ∧ H b = some (.tup (mt.map V.str)) ∧ Ab ms ∧ Ab mt ∧ ∀ p H', Same H H' → H' p = some (.tup ((joinS ms mt).map V.str)) → Q (.ref p) H'
theorem strs_dq {H : Hp} {p : Addr} {ms : List Str} (h : H p = some (.tup (ms.map V.str))) (a : Ab ms) : Dq H (.ref p) (.tuple (ms.map PyData.str)) := .tup h (DqAll.strs ms fun x hx => by
  have := abc_sm (a.2 x hx)
  exact ⟨by rw [this.2]; decide, this.1⟩)
abbrev nPu : List Str := ["body", "tree", "word", "below"]
section
variable {P : Program} {w : World} {K : PySem.W.Frag} {mg : Str → Option Value} {base : Heap}
theorem scJo : FnScope ["marks", "others"] ["marks", "others"] (defScope sJoin) := ⟨rfl, rfl, rfl, by decide +kernel, rfl, by decide +kernel, by decide +kernel⟩
theorem scPu : FnScope nPu ["body", "tree"] (defScope sPut) := ⟨rfl, rfl, rfl, by decide +kernel, rfl, by decide +kernel, by decide +kernel⟩
theorem scPc : FnScope nPu ["body", "tree"] (defScope sPutC) := ⟨rfl, rfl, rfl, by decide +kernel, rfl, by decide +kernel, by decide +kernel⟩
theorem ok_jo {f : Addr} {fd : FuncData} (F : Fun K "joined_marks" "joined_marks" sJoin f fd) (T : TS2 mg) : FnOk P w K mg base CX0 1 f fd ["marks", "others"] spJo := by
  refine F.ok (k := 0) scJo (fun vs H Q E h => ?_) (fun cdv A outer s H vs Q E hr h => ?_)
  · obtain ⟨a, b, ms, mt, rfl, _⟩ := h
    rfl
  · obtain ⟨a, b, ms, mt, rfl, em, emt, am, amt, kk⟩ := h
    refine ⟨_, pss_one (ps_ret (pe_callTy call_tuple_of (by rfl) T.tuple btup (pa_cons (pe_callB (cr_sortP (P := P) (w := w) rfl rfl rfl) (by rfl) T.sorted bsorted (pa_cons (pe_callTy (cr_setP (P := P) (w := w) (K := K) rfl rfl rfl rfl) (by rfl) T.set bset (pa_cons (pe_op op_catF (pv 0) (pv 1)) pa_nil)) pa_nil)) pa_nil))), ?_⟩
    have lm := am.len
    have lmt := amt.len
    refine ⟨_, rfl, _, rfl, a, b, _, _, rfl, rfl, em, emt, by rw [List.length_map, List.length_map]; exact Nat.le_of_lt (small1000 (by omega)), fun p1 H1 s1 e1 => ?_⟩
    rw [← List.map_append] at e1
    refine ⟨p1, ms ++ mt, rfl, SqT.of e1, by rw [List.length_append]; omega, fun p2 np2 => ⟨p2, _, rfl, upd_same, ?_, fun ns p3 hs hp np3 => ?_⟩⟩
    · have := SX.pack_len (ms ++ mt)
      rw [List.length_append] at this
      omega
    · refine ⟨p3, _, rfl, .inl ⟨SqL.of upd_same, fun p4 np4 => ?_⟩⟩
      have sB := same_trans s1 (same_trans (same_new (o := SX.SetTO P w p2 (SX.pack (ms ++ mt))) np2) (same_trans (same_new (o := .lst (ns.map V.str)) np3) (same_new (o := .tup (ns.map V.str)) np4)))
      refine kk p4 _ sB ?_
      rw [upd_same, join_eq am amt hs hp]
theorem ok_put {f : Addr} {fd : FuncData} (F : Fun K "_law_put" "_law_put" sPut f fd) (bF : Binds K fd ["body", "tree"] []) (gF : mg "_law_put" = some (.ref f)) (T : TS2 mg) : ∀ k, FnOk P w K mg base CX0 (1 + k) f fd ["body", "tree"] (spPutX k) := by
  intro k
  induction k with
  | zero => exact fn_never
  | succ k ih =>
    refine F.ok (k := 1 + k) scPu (fun vs H Q E h => ?_) (fun cdv A outer s H vs Q E hr h => ?_)
    · obtain ⟨v, w', d, t, n, c, mt, bt, rfl, _⟩ := h
      rfl
    · obtain ⟨v, w', d, t, n, c, mt, bt, rfl, hv, hd, hc, hw, ht, kk⟩ := h
      refine ⟨_, pss_cons (ps_if (pt_cmpR op_eq (pe_callB call_len_seq (by rfl) T.len PySem.boot_len (pa_cons (pv 0) pa_nil)) pe_int (by rfl))
          (pss_one (ps_ret (pe_tup (pa_cons (pe_callTy call_tuple_of (by rfl) T.tuple btup (pa_cons (pe_callB (cr_sortP (P := P) (w := w) rfl rfl rfl) (by rfl) T.sorted bsorted (pa_cons (pe_callTy (cr_setP (P := P) (w := w) (K := K) rfl rfl rfl rfl) (by rfl) T.set bset (pa_cons (pe_op op_catF (pe_ix ix_tup (pv 0) pe_int (fun _ _ => rfl)) (pe_ix ix_tup (pv 1) pe_int (fun _ _ => rfl))) pa_nil)) pa_nil)) pa_nil))
            (pa_cons (pe_op op_catF (pe_ix ix_tup (pv 0) pe_int (fun _ _ => rfl)) (pe_ix ix_tup (pv 1) pe_int (fun _ _ => rfl))) pa_nil))))) pss_nil)
        (pss_one (ps_ret (pe_tup (pa_cons (pe_ix ix_tup (pv 0) pe_int (fun _ _ => rfl)) (pa_cons (pe_callTy call_tuple_of (by rfl) T.tuple btup (pa_cons (pe_lc (own := [("word", 2), ("below", 3)]) (g := gTup K 2 (gCons (gName 2) (gCons (gName 3) gNil))) rfl scPu.nd (pi_tup (pe_ix ix_tup (pv 0) pe_int (fun _ _ => rfl))) (blkOk_by (own := [("word", 2), ("below", 3)]) (N := nPu) (sc := defScope sPut) (by decide +kernel))
          (fun _ _ _ _ _ => pg_tup (n := 2) rfl (pgs_cons (pg_name (i := 2) scPu.nd rfl (Or.inl rfl)) (pgs_cons (pg_name (i := 3) scPu.nd rfl (Or.inl rfl)) pgs_nil))) (fun _ _ _ _ _ => pts_nil) (tt := tYes) (fun _ _ _ _ _ => pe_tup (pa_cons (pv 2) (pa_cons (pe_call ih hr (by rfl) gF F.kp bF .nil pass0 (pa_cons (pv 3) (pa_cons (pv 1) pa_nil))) pa_nil)))) pa_nil)) pa_nil))))), ?_⟩
      obtain ⟨rfl, amt, bbt, tbt⟩ := ht
      obtain ⟨pt, vt, pbt, xbt, rfl, t1, qt, t2, abt⟩ := dq_node hw
      obtain ⟨amt', rfl, emt⟩ := dq_mk qt
      cases hd with
      | @mk _ _ _ n0 c0 c1 ms bs r hm hl hrr hb en ec =>
      obtain ⟨pd, xd, rfl, d1, da⟩ := dq_tup hv
      cases da with
      | cons qm da =>
      cases da with
      | cons qb da =>
      obtain ⟨am, rfl, em⟩ := dq_mk qm
      obtain ⟨pb, xb, rfl, eb, ab⟩ := dq_tup qb
      rcases hrr with ⟨rfl, h0⟩ | ⟨rfl, h1⟩
      · cases da
        refine ⟨_, rfl, pd, _, rfl, .inr (SqT.of d1), rfl, _, rfl, iteF ?_⟩
        refine ⟨_, rfl, pd, _, 0, .ref am, rfl, rfl, SqT.of d1, atI_nat (j := 0) rfl, ?_⟩
        refine ⟨_, rfl, pd, _, 1, .ref pb, rfl, rfl, SqT.of d1, atI_nat (j := 1) rfl, pb, rfl, ⟨_, SqT.of eb⟩, fun D nD => ?_⟩
        have sD : Same H (upd H D (.lst [])) := same_new nD
        have hD : upd H D (.lst []) D = some (.lst []) := upd_same
        have nDs : ∀ {o : HO}, H D = some o → False := fun {o} e => by rw [nD] at e; cases e
        have lb : xb.length = bs.length := ab.len
        refine lc_it (walk_tup (xs := xb)) (fun i H' => ∃ acc : List V, Same H H' ∧ H' D = some (.lst acc) ∧ acc.length = i ∧ DqAll H' acc ((bs.take i).map (onBr fun t => putF k t mt bt)))
          ⟨[], sD, hD, rfl, .nil⟩ (fun i H' _ ⟨_, s, _⟩ => SqT.of (s _ _ eb)) ?_ ?_
        · rintro i y H5 H6 hi ⟨acc, s5, hdd, hla, hda⟩ ⟨rfl, hx⟩
          obtain ⟨k', u, tt, n1, c1', na, ca, nb, cb, ek, hbi, hu, htt, _, _, _, ecc⟩ := hb.cut (j := i) (by omega)
          subst ek
          obtain ⟨vi, hvi, qi⟩ := ab.at hbi
          rw [hx] at hvi
          obtain rfl : y = vi := Option.some.inj hvi
          obtain ⟨pi, vu, vtt, rfl, epi, qu, qtt⟩ := dq_pair qi
          refine ⟨pi, _, rfl, SqT.of (s5 _ _ epi), rfl, _, _, rfl, _, _, rfl, rfl, rfl, ?_⟩
          unfold tYes
          refine iteT ?_
          refine ⟨_, rfl, _, rfl, _, rfl, vtt, .ref pt, tt, .tuple [.tuple (mt.map PyData.str), .tuple bt], n1, c1', mt, bt, rfl, qtt.same s5, htt, by omega, hw.same s5, ⟨rfl, amt, bbt, tbt⟩, fun rr H7 s7 q7 => ?_⟩
          refine ⟨by show 2 ≤ sizeLine; decide, fun p2 np2 => ⟨acc, same_new np2 _ _ (s7 _ _ hdd), small1000 (by omega), acc ++ [.ref p2], ?_, upd_same, by rw [List.length_append, hla]; rfl, ?_⟩⟩
          · refine fun b o e => ?_
            rw [upd_ne fun z => by rw [z] at e; exact nDs e]
            exact same_new np2 _ _ (s7 _ _ (s5 b o e))
          · rw [take_snoc hbi]
            have tA : tupA ((bs.take i).map (onBr fun t => putF (k' + 1) t mt bt) ++ [PyData.tuple [.str u, putF (k' + 1) tt mt bt]]) = true := by
              have z1 := putB_tup (mt := mt) hb tbt
              refine tupA_iff.mpr fun d hd => tupA_iff.mp z1 d ?_
              rcases List.mem_append.mp hd with hd | hd
              · obtain ⟨b, hb', rfl⟩ := List.mem_map.mp hd
                exact List.mem_map.mpr ⟨b, List.mem_of_mem_take hb', rfl⟩
              · rw [List.mem_singleton.mp hd]
                exact List.mem_map.mpr ⟨_, List.mem_of_getElem? hbi, rfl⟩
            refine DqAll.tups (H := upd H7 p2 (.tup [vu, rr])) (Kt.put (same_new np2 _ _ (s7 _ _ hdd))) ?_ tA
            exact ((hda.same s7).same (same_new np2)).app (.cons (.tup upd_same (.cons (((qu.same s5).same s7).same (same_new np2)) (.cons (q7.same (same_new np2)) .nil))) .nil)
        · rintro H5 ⟨acc, s5, hdd, hla, hda⟩
          rw [List.take_of_length_le (by omega)] at hda
          refine ⟨D, _, rfl, .inl ⟨SqL.of hdd, fun p2 np2 => ⟨by show 2 ≤ sizeLine; decide, fun p3 np3 => ?_⟩⟩⟩
          have sB := same_trans s5 (same_trans (same_new (o := .tup acc) np2) (same_new (o := .tup [.ref am, .ref p2]) np3))
          refine kk (.ref p3) _ sB ?_
          exact .tup upd_same (.cons (qm.same sB) (.cons (.tup (same_new np3 _ _ upd_same) ((hda.same (same_new np2)).same (same_new np3))) .nil))
      · cases da with
        | cons qc da =>
        cases da
        refine ⟨_, rfl, pd, _, rfl, .inr (SqT.of d1), rfl, _, rfl, iteT ?_⟩
        refine ⟨_, rfl, pd, _, 0, .ref am, rfl, rfl, SqT.of d1, atI_nat (j := 0) rfl, _, rfl, pt, _, 0, .ref amt', rfl, rfl, SqT.of t1, atI_nat (j := 0) rfl, ?_⟩
        have lm := sub_len hm
        have lmt := amt.len
        refine ⟨am, amt', _, _, rfl, rfl, em, emt, by rw [List.length_map, List.length_map]; exact Nat.le_of_lt (small1000 (by omega)), fun p1 H1 s1 e1 => ?_⟩
        rw [← List.map_append] at e1
        refine ⟨p1, ms ++ mt, rfl, SqT.of e1, by rw [List.length_append]; omega, fun p2 np2 => ⟨p2, _, rfl, upd_same, ?_, fun ns p3 hs hp np3 => ?_⟩⟩
        · have := SX.pack_len (ms ++ mt)
          rw [List.length_append] at this
          omega
        refine ⟨p3, _, rfl, .inl ⟨SqL.of upd_same, fun p4 np4 => ?_⟩⟩
        have sB := same_trans s1 (same_trans (same_new (o := SX.SetTO P w p2 (SX.pack (ms ++ mt))) np2) (same_trans (same_new (o := .lst (ns.map V.str)) np3) (same_new (o := .tup (ns.map V.str)) np4)))
        have e4 : upd (upd (upd H1 p2 (SX.SetTO P w p2 (SX.pack (ms ++ mt)))) p3 (.lst (ns.map V.str))) p4 (.tup (ns.map V.str)) p4 = some (.tup ((joinS ms mt).map V.str)) := by
          rw [upd_same, join_eq (ab_of hm) amt hs hp]
        generalize upd (upd (upd H1 p2 (SX.SetTO P w p2 (SX.pack (ms ++ mt)))) p3 (.lst (ns.map V.str))) p4 (.tup (ns.map V.str)) = H4 at sB e4
        refine ⟨_, rfl, pd, _, 1, .ref pb, rfl, rfl, SqT.of (sB _ _ d1), atI_nat (j := 1) rfl, _, rfl, pt, _, 1, .ref pbt, rfl, rfl, SqT.of (sB _ _ t1), atI_nat (j := 1) rfl, pb, pbt, _, _, rfl, rfl, sB _ _ eb, sB _ _ t2, ?_, fun p5 H5 s5 e5 => ⟨by show 2 ≤ sizeLine; decide, fun p6 np6 => ?_⟩⟩
        · have l1 : xb.length = bs.length := ab.len
          have l2 : xbt.length = bt.length := abt.len
          exact Nat.le_of_lt (small1000 (by omega))
        have sC := same_trans sB (same_trans s5 (same_new (o := .tup [.ref p4, .ref p5]) np6))
        have ej : putF (k + 1) (.tuple [.tuple (ms.map PyData.str), .tuple bs, .str "call"]) mt bt = .tuple [.tuple ((joinS ms mt).map PyData.str), .tuple (bs ++ bt)] := by
          show PyData.tuple [.tuple ((joinS (strsOf (ms.map PyData.str)) mt).map PyData.str), .tuple (bs ++ bt)] = _
          rw [strsOf_map]
        refine kk (.ref p6) _ sC ?_
        rw [ej]
        exact .tup upd_same (.cons (strs_dq (same_new np6 _ _ (s5 _ _ e4)) (ab_join _ _)) (.cons (.tup (same_new np6 _ _ e5) ((ab.same sC).app (abt.same sC))) .nil))
theorem ok_pc {f fC fJ : Addr} {fd dC dJ : FuncData} (F : Fun K "_put_at_call" "_put_at_call" sPutC f fd) (bF : Binds K fd ["body", "tree"] []) (gF : mg "_put_at_call" = some (.ref f))
    (FC : Fun K "call_level" "call_level" sCLv fC dC) (bC : Binds K dC ["tree"] []) (gC : mg "call_level" = some (.ref fC)) (FJ : Fun K "joined_marks" "joined_marks" sJoin fJ dJ) (bJ : Binds K dJ ["marks", "others"] []) (gJ : mg "joined_marks" = some (.ref fJ)) (T : TS2 mg) :
    ∀ k, FnOk P w K mg base CX0 (2 + k) f fd ["body", "tree"] (spPutX k) := by
  intro k
  induction k with
  | zero => exact fn_never
  | succ k ih =>
    have GC : FnOk P w K mg base CX0 (2 + k) fC dC ["tree"] (spLv k) := by
      have z := ok_clv (P := P) (w := w) (base := base) FC bC gC T.len (k + 1)
      rw [show 1 + (k + 1) = 2 + k by omega] at z
      exact z
    have GJ : FnOk P w K mg base CX0 1 fJ dJ ["marks", "others"] spJo := ok_jo FJ T
    refine F.ok (k := 2 + k) scPc (fun vs H Q E h => ?_) (fun cdv A outer s H vs Q E hr h => ?_)
    · obtain ⟨v, w', d, t, n, c, mt, bt, rfl, _⟩ := h
      rfl
    · obtain ⟨v, w', d, t, n, c, mt, bt, rfl, hv, hd, hc, hw, ht, kk⟩ := h
      refine ⟨_, pss_cons (ps_if (pt_cmpR op_eq (pe_callB call_len_seq (by rfl) T.len PySem.boot_len (pa_cons (pv 0) pa_nil)) pe_int (by rfl))
          (pss_one (ps_ret (pe_tup (pa_cons (pe_call GJ (hr.mono (by omega)) (by rfl) gJ FJ.kp bJ .nil pass0 (pa_cons (pe_ix ix_tup (pv 0) pe_int (fun _ _ => rfl)) (pa_cons (pe_ix ix_tup (pv 1) pe_int (fun _ _ => rfl)) pa_nil)))
            (pa_cons (pe_op op_catF (pe_ix ix_tup (pv 0) pe_int (fun _ _ => rfl)) (pe_ix ix_tup (pv 1) pe_int (fun _ _ => rfl))) pa_nil))))) pss_nil)
        (pss_cons (ps_if (pt_cmpR op_isN (pe_call GC hr (by rfl) gC FC.kp bC .nil pass0 (pa_cons (pv 0) pa_nil)) pe_non (nomark _)) (pss_one (ps_ret (pv 0))) pss_nil)
        (pss_one (ps_ret (pe_tup (pa_cons (pe_ix ix_tup (pv 0) pe_int (fun _ _ => rfl)) (pa_cons (pe_callTy call_tuple_of (by rfl) T.tuple btup (pa_cons (pe_lc (own := [("word", 2), ("below", 3)]) (g := gTup K 2 (gCons (gName 2) (gCons (gName 3) gNil))) rfl scPc.nd (pi_tup (pe_ix ix_tup (pv 0) pe_int (fun _ _ => rfl))) (blkOk_by (own := [("word", 2), ("below", 3)]) (N := nPu) (sc := defScope sPutC) (by decide +kernel))
          (fun _ _ _ _ _ => pg_tup (n := 2) rfl (pgs_cons (pg_name (i := 2) scPc.nd rfl (Or.inl rfl)) (pgs_cons (pg_name (i := 3) scPc.nd rfl (Or.inl rfl)) pgs_nil))) (fun _ _ _ _ _ => pts_nil) (tt := tYes) (fun _ _ _ _ _ => pe_tup (pa_cons (pv 2) (pa_cons (pe_call ih hr (by rfl) gF F.kp bF .nil pass0 (pa_cons (pv 3) (pa_cons (pv 1) pa_nil))) pa_nil)))) pa_nil)) pa_nil)))))), ?_⟩
      obtain ⟨rfl, amt, bbt, tbt⟩ := ht
      obtain ⟨pt, vt, pbt, xbt, rfl, t1, qt, t2, abt⟩ := dq_node hw
      obtain ⟨amt', rfl, emt⟩ := dq_mk qt
      have hd' := hd
      cases hd with
      | @mk _ _ _ n0 c0 c1 ms bs r hm hl hrr hb en ec =>
      obtain ⟨pd, xd, rfl, d1, da⟩ := dq_tup hv
      cases da with
      | cons qm da =>
      cases da with
      | cons qb da =>
      obtain ⟨am, rfl, em⟩ := dq_mk qm
      obtain ⟨pb, xb, rfl, eb, ab⟩ := dq_tup qb
      rcases hrr with ⟨rfl, h0⟩ | ⟨rfl, h1⟩
      · cases da
        refine ⟨_, rfl, pd, _, rfl, .inr (SqT.of d1), rfl, _, rfl, iteF ?_⟩
        refine ⟨_, rfl, .ref pd, _, n, c, rfl, hv, hd', fun H0 s0 => ⟨rfl, _, rfl, ?_⟩⟩
        by_cases c0' : c = 0
        · have e1 := lv_none hd' c0'
          rw [e1]
          refine iteT ⟨_, rfl, ?_⟩
          have z := kk (.ref pd) H0 s0
          rw [put_none mt bt hd' c0'] at z
          exact z (hv.same s0)
        · obtain ⟨j, e1, _⟩ := lv_some hd' (by omega)
          rw [e1]
          refine iteF ?_
          refine ⟨_, rfl, pd, _, 0, .ref am, rfl, rfl, SqT.of (s0 _ _ d1), atI_nat (j := 0) rfl, ?_⟩
          refine ⟨_, rfl, pd, _, 1, .ref pb, rfl, rfl, SqT.of (s0 _ _ d1), atI_nat (j := 1) rfl, pb, rfl, ⟨_, SqT.of (s0 _ _ eb)⟩, fun D nD => ?_⟩
          have sD : Same H (upd H0 D (.lst [])) := same_trans s0 (same_new nD)
          have hD : upd H0 D (.lst []) D = some (.lst []) := upd_same
          have nDs : ∀ {o : HO}, H D = some o → False := fun {o} e => by
            have z := s0 _ _ e
            rw [nD] at z
            cases z
          have lb : xb.length = bs.length := ab.len
          refine lc_it (walk_tup (xs := xb)) (fun i H' => ∃ acc : List V, Same H H' ∧ H' D = some (.lst acc) ∧ acc.length = i ∧ DqAll H' acc ((bs.take i).map (onBr fun t => putF k t mt bt)))
            ⟨[], sD, hD, rfl, .nil⟩ (fun i H' _ ⟨_, s, _⟩ => SqT.of (s _ _ eb)) ?_ ?_
          · rintro i y H5 H6 hi ⟨acc, s5, hdd, hla, hda⟩ ⟨rfl, hx⟩
            obtain ⟨k', u, tt, n1, c1', na, ca, nb, cb, ek, hbi, hu, htt, _, _, _, ecc⟩ := hb.cut (j := i) (by omega)
            subst ek
            obtain ⟨vi, hvi, qi⟩ := ab.at hbi
            rw [hx] at hvi
            obtain rfl : y = vi := Option.some.inj hvi
            obtain ⟨pi, vu, vtt, rfl, epi, qu, qtt⟩ := dq_pair qi
            refine ⟨pi, _, rfl, SqT.of (s5 _ _ epi), rfl, _, _, rfl, _, _, rfl, rfl, rfl, ?_⟩
            unfold tYes
            refine iteT ?_
            refine ⟨_, rfl, _, rfl, _, rfl, vtt, .ref pt, tt, .tuple [.tuple (mt.map PyData.str), .tuple bt], n1, c1', mt, bt, rfl, qtt.same s5, htt, by omega, hw.same s5, ⟨rfl, amt, bbt, tbt⟩, fun rr H7 s7 q7 => ?_⟩
            refine ⟨by show 2 ≤ sizeLine; decide, fun p2 np2 => ⟨acc, same_new np2 _ _ (s7 _ _ hdd), small1000 (by omega), acc ++ [.ref p2], ?_, upd_same, by rw [List.length_append, hla]; rfl, ?_⟩⟩
            · refine fun b o e => ?_
              rw [upd_ne fun z => by rw [z] at e; exact nDs e]
              exact same_new np2 _ _ (s7 _ _ (s5 b o e))
            · rw [take_snoc hbi]
              have tA : tupA ((bs.take i).map (onBr fun t => putF (k' + 1) t mt bt) ++ [PyData.tuple [.str u, putF (k' + 1) tt mt bt]]) = true := by
                have z1 := putB_tup (mt := mt) hb tbt
                refine tupA_iff.mpr fun d hd => tupA_iff.mp z1 d ?_
                rcases List.mem_append.mp hd with hd | hd
                · obtain ⟨b, hb', rfl⟩ := List.mem_map.mp hd
                  exact List.mem_map.mpr ⟨b, List.mem_of_mem_take hb', rfl⟩
                · rw [List.mem_singleton.mp hd]
                  exact List.mem_map.mpr ⟨_, List.mem_of_getElem? hbi, rfl⟩
              refine DqAll.tups (H := upd H7 p2 (.tup [vu, rr])) (Kt.put (same_new np2 _ _ (s7 _ _ hdd))) ?_ tA
              exact ((hda.same s7).same (same_new np2)).app (.cons (.tup upd_same (.cons (((qu.same s5).same s7).same (same_new np2)) (.cons (q7.same (same_new np2)) .nil))) .nil)
          · rintro H5 ⟨acc, s5, hdd, hla, hda⟩
            rw [List.take_of_length_le (by omega)] at hda
            refine ⟨D, _, rfl, .inl ⟨SqL.of hdd, fun p2 np2 => ⟨by show 2 ≤ sizeLine; decide, fun p3 np3 => ?_⟩⟩⟩
            have sB := same_trans s5 (same_trans (same_new (o := .tup acc) np2) (same_new (o := .tup [.ref am, .ref p2]) np3))
            refine kk (.ref p3) _ sB ?_
            exact .tup upd_same (.cons (qm.same sB) (.cons (.tup (same_new np3 _ _ upd_same) ((hda.same (same_new np2)).same (same_new np3))) .nil))
      · cases da with
        | cons qc da =>
        cases da
        refine ⟨_, rfl, pd, _, rfl, .inr (SqT.of d1), rfl, _, rfl, iteT ?_⟩
        refine ⟨_, rfl, pd, _, 0, .ref am, rfl, rfl, SqT.of d1, atI_nat (j := 0) rfl, _, rfl, pt, _, 0, .ref amt', rfl, rfl, SqT.of t1, atI_nat (j := 0) rfl, ?_⟩
        refine ⟨am, amt', ms, mt, rfl, em, emt, ab_of hm, amt, fun p4 H4 sB e4 => ?_⟩
        refine ⟨_, rfl, pd, _, 1, .ref pb, rfl, rfl, SqT.of (sB _ _ d1), atI_nat (j := 1) rfl, _, rfl, pt, _, 1, .ref pbt, rfl, rfl, SqT.of (sB _ _ t1), atI_nat (j := 1) rfl, pb, pbt, _, _, rfl, rfl, sB _ _ eb, sB _ _ t2, ?_, fun p5 H5 s5 e5 => ⟨by show 2 ≤ sizeLine; decide, fun p6 np6 => ?_⟩⟩
        · have l1 : xb.length = bs.length := ab.len
          have l2 : xbt.length = bt.length := abt.len
          exact Nat.le_of_lt (small1000 (by omega))
        have sC := same_trans sB (same_trans s5 (same_new (o := .tup [.ref p4, .ref p5]) np6))
        have ej : putF (k + 1) (.tuple [.tuple (ms.map PyData.str), .tuple bs, .str "call"]) mt bt = .tuple [.tuple ((joinS ms mt).map PyData.str), .tuple (bs ++ bt)] := by
          show PyData.tuple [.tuple ((joinS (strsOf (ms.map PyData.str)) mt).map PyData.str), .tuple (bs ++ bt)] = _
          rw [strsOf_map]
        refine kk (.ref p6) _ sC ?_
        rw [ej]
        exact .tup upd_same (.cons (strs_dq (same_new np6 _ _ (s5 _ _ e4)) (ab_join _ _)) (.cons (.tup (same_new np6 _ _ e5) ((ab.same sC).app (abt.same sC))) .nil))
end
end U4
set_option Elab.async false
set_option linter.all false
set_option maxRecDepth 100000
set_option maxHeartbeats 4000000
/-! rows of numbers, what they unfold to, as data -/
namespace U4
open PySem L2 L2H DQ K01 RU
theorem smallM {n : Nat} (h : n ≤ 1000000) : n < sizeLine := Nat.lt_of_le_of_lt h (by decide)
def natOf : PyData → Nat
  | .int i => i.toNat
  | _ => 0
def lvOf (d : PyData) : Nat := (lv 4 d).getD 0
def depthR (ss : List PyData) (row : List Nat) : Nat := (row.map fun k => lvOf (ss.getD k .none)).sum
def unfAll (ne ns : Nat) : PyData → Bool
  | .tuple ds => !ds.isEmpty && (ds.dropLast.all (fun d => numB d (ns : Int)) && numB (ds.getLastD .none) (ne : Int))
  | _ => false
def rowOf : PyData → List Nat
  | .tuple ds => ds.dropLast.map natOf
  | _ => []
def endOf : PyData → Nat
  | .tuple ds => natOf (ds.getLastD .none)
  | _ => 0
def unfB (es ss : List PyData) (d : PyData) : Bool := unfAll es.length ss.length d && decide (depthR ss (rowOf d) ≤ 130)
def putR (d : PyData) : PyData → PyData
  | .tuple (.tuple ms :: .tuple bs :: _) => putF 4 d (strsOf ms) bs
  | _ => d
def unfD (es ss : List PyData) (row : List Nat) (e : Nat) : PyData := row.foldr (fun k t => putR (ss.getD k .none) t) (es.getD e .none)
theorem num_int {d : PyData} {n : Nat} (h : numB d (n : Int) = true) : d = .int ((natOf d : Nat) : Int) ∧ natOf d < n := by
  cases d with
  | int i =>
    obtain ⟨h1, h2⟩ := Bool.and_eq_true_iff.mp (show (decide (0 ≤ i) && decide (i < (n : Int))) = true from h)
    have a := of_decide_eq_true h1
    have b := of_decide_eq_true h2
    refine ⟨?_, ?_⟩
    · show PyData.int i = .int ((i.toNat : Nat) : Int)
      rw [Int.toNat_of_nonneg a]
    · show i.toNat < n
      omega
  | _ => cases h
theorem nums_int {n : Nat} : ∀ {ds : List PyData}, ds.all (fun d => numB d (n : Int)) = true → ds = (ds.map natOf).map (fun (k : Nat) => PyData.int (k : Int)) ∧ ∀ k ∈ ds.map natOf, k < n
  | [], _ => ⟨rfl, fun k hk => absurd hk List.not_mem_nil⟩
  | d :: ds, h => by
    obtain ⟨h1, h2⟩ := Bool.and_eq_true_iff.mp (show (numB d (n : Int) && ds.all fun d => numB d (n : Int)) = true from h)
    obtain ⟨e1, l1⟩ := num_int h1
    obtain ⟨e2, l2⟩ := nums_int h2
    refine ⟨?_, fun k hk => ?_⟩
    · rw [List.map_cons, List.map_cons, ← e1, ← e2]
    · rcases List.mem_cons.mp hk with rfl | hk
      · exact l1
      · exact l2 k hk
/-- a row of numbers as a tuple -/
def rowD (row : List Nat) (e : Nat) : List PyData := row.map (fun (k : Nat) => PyData.int (k : Int)) ++ [.int (e : Int)]
theorem unf_row {ne ns : Nat} {d : PyData} (h : unfAll ne ns d = true) : d = .tuple (rowD (rowOf d) (endOf d)) ∧ (∀ k ∈ rowOf d, k < ns) ∧ endOf d < ne := by
  cases d with
  | tuple ds =>
    obtain ⟨h0, h1⟩ := Bool.and_eq_true_iff.mp (show (!ds.isEmpty && (ds.dropLast.all (fun d => numB d (ns : Int)) && numB (ds.getLastD .none) (ne : Int))) = true from h)
    obtain ⟨h1, h2⟩ := Bool.and_eq_true_iff.mp h1
    have hne : ds ≠ [] := by
      rintro rfl
      cases h0
    obtain ⟨e1, l1⟩ := nums_int h1
    obtain ⟨e2, l2⟩ := num_int h2
    have gl : ds.getLastD .none = ds.getLast hne := by
      cases ds with
      | nil => exact absurd rfl hne
      | cons a l => rw [List.getLastD_cons, List.getLast_eq_getLastD]
    refine ⟨?_, l1, l2⟩
    show PyData.tuple ds = .tuple ((ds.dropLast.map natOf).map (fun (k : Nat) => PyData.int (k : Int)) ++ [.int ((natOf (ds.getLastD .none) : Nat) : Int)])
    rw [← e1, ← e2, gl, List.dropLast_concat_getLast]
  | _ => cases h
theorem row_len {d : PyData} {ds : List PyData} (h : d = .tuple ds) : (rowOf d).length + 1 ≤ ds.length + 1 := by
  subst h
  show (ds.dropLast.map natOf).length + 1 ≤ _
  rw [List.length_map, List.length_dropLast]
  omega
theorem rowD_vals {H : Hp} : ∀ {row : List Nat} {e : Nat} {xs : List V}, DqAll H xs (rowD row e) → xs = row.map (fun (k : Nat) => V.int (k : Int)) ++ [V.int (e : Int)]
  | [], _, _, .cons h .nil => by
    cases h
    rfl
  | m :: ms, _, _, .cons h t => by
    cases h
    rw [rowD_vals t]
    rfl
theorem plain_mem {n : Nat} {ds : List PyData} {d : PyData} (h : plain n (.tuple ds)) (hd : d ∈ ds) : plain n d := by
  refine ⟨canAll.mp h.1 d hd, ?_⟩
  have z : PyData.depthAll ds + 1 ≤ n := by
    have := h.2
    exact (by simpa [PyData.depth] using this)
  have y : ∀ (l : List PyData), d ∈ l → d.depth ≤ PyData.depthAll l := by
    intro l
    induction l with
    | nil => exact fun h => absurd h List.not_mem_nil
    | cons a l ih =>
      intro h
      have e : PyData.depthAll (a :: l) = max a.depth (PyData.depthAll l) := by simp [PyData.depthAll]
      rw [e]
      rcases List.mem_cons.mp h with rfl | h
      · exact Nat.le_max_left ..
      · exact Nat.le_trans (ih h) (Nat.le_max_right ..)
  exact Nat.le_trans (y ds hd) (by omega)
theorem rt_tc {k n : Nat} {d : PyData} (h : Tc k n 0 d) : ∃ mt bt, Rt d mt bt := by
  have z := tc_tup h
  cases h with
  | @mk _ _ _ n0 c0 c1 ms bs r hm hl hr hb e1 e2 =>
    rcases hr with ⟨rfl, _⟩ | ⟨rfl, h1⟩
    · exact ⟨ms, bs, rfl, ab_of hm, hl, br_tup hb⟩
    · omega
theorem putR_rt {d t : PyData} {mt : List Str} {bt : List PyData} (h : Rt t mt bt) : putR d t = putF 4 d mt bt := by
  obtain ⟨rfl, _⟩ := h
  show putF 4 d (strsOf (mt.map PyData.str)) bt = _
  rw [strsOf_map]
theorem rt_put {d t : PyData} {mt : List Str} {bt : List PyData} (hs : StepD d) (h : Rt t mt bt) : ∃ mt' bt', Rt (putR d t) mt' bt' := by
  rw [putR_rt h]
  obtain ⟨q, ⟨ms, bs, n0, rfl, hm, hl, hb, hq⟩, _⟩ := hs
  exact ⟨ms, bs.map (onBr fun t => putF 3 t mt bt), rfl, ab_of hm, by rw [List.length_map]; exact hl, putB_tup hb h.2.2.2⟩
theorem plain_put {d t : PyData} {mt : List Str} {bt : List PyData} {m : Nat} (hs : StepD d) (h : Rt t mt bt) (hp : plain m t) : plain (m + 14) (putR d t) := by
  rw [putR_rt h]
  obtain ⟨q, hq, _⟩ := hs
  refine put_plain (m := m) hq.tc fun b hb => ?_
  obtain ⟨rfl, _⟩ := h
  exact plain_mem (plain_mem hp (List.mem_cons_of_mem _ (List.mem_cons_self ..))) hb
theorem unf_fine {es ss : List PyData} (h : ESd es ss) {e : Nat} (he : e < es.length) : ∀ {row : List Nat}, (∀ k ∈ row, k < ss.length) → (∃ mt bt, Rt (unfD es ss row e) mt bt) ∧ plain (10 + 14 * row.length) (unfD es ss row e)
  | [], _ => by
    have eg : es.getD e .none = es[e] := by rw [List.getD_eq_getElem?_getD, List.getElem?_eq_getElem he]; rfl
    obtain ⟨q, hq, _⟩ := h.2.2.2.1 es[e] (List.getElem_mem he)
    show (∃ mt bt, Rt (es.getD e .none) mt bt) ∧ plain _ (es.getD e .none)
    rw [eg]
    exact ⟨rt_tc hq, (tc_plain hq).mono (by simp)⟩
  | k :: row, hk => by
    have hk0 := hk k (List.mem_cons_self ..)
    have eg : ss.getD k .none = ss[k] := by rw [List.getD_eq_getElem?_getD, List.getElem?_eq_getElem hk0]; rfl
    obtain ⟨⟨mt, bt, hr⟩, hp⟩ := unf_fine h he (row := row) fun k hk' => hk k (List.mem_cons_of_mem _ hk')
    have st := h.2.2.2.2 ss[k] (List.getElem_mem hk0)
    show (∃ mt bt, Rt (putR (ss.getD k .none) (unfD es ss row e)) mt bt) ∧ plain _ (putR (ss.getD k .none) (unfD es ss row e))
    rw [eg]
    exact ⟨rt_put st hr, (plain_put st hr hp).mono (by rw [List.length_cons]; omega)⟩
theorem lv_step {d : PyData} (h : StepD d) : lv 4 d = some (lvOf d) ∧ lvOf d ≤ 3 := by
  obtain ⟨q, hq, _⟩ := h
  obtain ⟨j, e, hj⟩ := lv_some hq.tc rfl
  have z : lvOf d = j := by
    unfold lvOf
    rw [e]
    rfl
  rw [z]
  exact ⟨e, hj⟩
end U4
set_option Elab.async false
set_option linter.all false
set_option maxRecDepth 100000
set_option maxHeartbeats 4000000
/-! onlyjoins.unfold: rows of numbers, their depth, their tree -/
namespace U4
open PySem L2 L2H DQ K01 RU
theorem ix_tupK {X : Cx} {K : PySem.W.Frag} (hK : X.K = K) : IxR X (rIxT K) := by
  subst hK
  exact ix_tup
theorem ix_listK {X : Cx} {K : PySem.W.Frag} (hK : X.K = K) : IxR X (rIxL K) := by
  subst hK
  exact ix_list
theorem pe_fldK {X : Cx} {K : PySem.W.Frag} {e : Expr} {f : Str} {pos : Pos} {ta : TE} (hK : X.K = K) (he : PE X e ta) (hb : attributeBase e f X.env (eval e X.env) = eval e X.env) : PE X (e.Attribute f pos) (tFld K ta f) := by
  subst hK
  exact pe_fld he hb
theorem call_len_seqK {X : Cx} {K : PySem.W.Frag} (hK : X.K = K) : CallR X (.builtin "len") (fun xs H Q => ∃ (p : Addr) (ys : List V), xs = [V.ref p] ∧ (SqL K H p ys ∨ SqT K H p ys) ∧ Q (V.int (ys.length : Nat)) H) := by
  subst hK
  exact call_len_seq
theorem cut_all_but (xs : List V) (x : V) : cutV (xs ++ [x]) none (some (-1)) = xs := by
  unfold cutV
  have e1 : HT.sIx (xs ++ [x]).length (xs ++ [x]).length (some (-1)) = xs.length := by
    show (if (-1 : Int) < 0 then ((-1 : Int) + ((xs ++ [x]).length : Int)).toNat else min (-1 : Int).toNat (xs ++ [x]).length) = xs.length
    rw [if_pos (by decide), List.length_append, List.length_singleton]
    omega
  rw [e1]
  show List.take (xs.length - 0) (List.drop 0 (xs ++ [x])) = xs
  rw [List.drop_zero, Nat.sub_zero, List.take_left]
theorem at_lastV (xs : List V) (x : V) : atI (xs ++ [x]) (-1) = some x := by
  have e : ixN (xs ++ [x]).length (-1) = some xs.length := by
    unfold ixN
    rw [if_neg (by decide), if_pos (by rw [List.length_append, List.length_singleton]; omega)]
    congr 1
    rw [List.length_append, List.length_singleton]
    omega
  unfold atI
  rw [e]
  show (xs ++ [x])[xs.length]? = some x
  simp
abbrev C0 (K : PySem.W.Frag) (C : Addr) : Prop := Cls K C ∧ NoAttr K C "ends" ∧ NoAttr K C "steps"
def spAS (K : PySem.W.Frag) (C : Addr) : Sp := fun vs H Q _ => ∃ (a p : Addr) (es ss ds : List PyData) (xs : List V), vs = [.ref a, .ref p] ∧ RulesAt K H a C es ss ∧ H p = some (.tup xs) ∧ DqAll H xs ds ∧ ds.length ≤ 75000 ∧ ∀ H', Same H H' → Q (.bl (ds.all fun d => numB d (ss.length : Int))) H'
def spSum (K : PySem.W.Frag) (C : Addr) : Sp := fun vs H Q _ => ∃ (a : Addr) (v : V) (es ss : List PyData) (row : List Nat) (e : Nat), vs = [.ref a, v] ∧ RulesAt K H a C es ss ∧ ESd es ss ∧ Dq H v (.tuple (rowD row e)) ∧ (∀ k ∈ row, k < ss.length) ∧ row.length ≤ 75000 ∧
  ∀ H', Same H H' → Q (.int ((depthR ss row : Nat) : Int)) H'
def spBuild (K : PySem.W.Frag) (C : Addr) : Sp := fun vs H Q _ => ∃ (a : Addr) (v : V) (es ss : List PyData) (row : List Nat) (e : Nat), vs = [.ref a, v] ∧ RulesAt K H a C es ss ∧ ESd es ss ∧ Dq H v (.tuple (rowD row e)) ∧ (∀ k ∈ row, k < ss.length) ∧ e < es.length ∧
  ∀ r H', Same H H' → Dq H' r (unfD es ss row e) → Q r H'
abbrev nAS : List Str := ["rules", "things", "thing"]
abbrev nSm : List Str := ["rules", "unfolding", "levels", "step"]
abbrev nBt : List Str := ["rules", "unfolding", "tree", "step"]
section
variable {P : Program} {w : World} {K : PySem.W.Frag} {mg : Str → Option Value} {base : Heap}
theorem scAS : FnScope nAS ["rules", "things"] (defScope sAreS) := ⟨rfl, rfl, rfl, by decide +kernel, rfl, by decide +kernel, by decide +kernel⟩
theorem scSm : FnScope nSm ["rules", "unfolding"] (defScope sSum) := ⟨rfl, rfl, rfl, by decide +kernel, rfl, by decide +kernel, by decide +kernel⟩
theorem scBt : FnScope nBt ["rules", "unfolding"] (defScope sBuild) := ⟨rfl, rfl, rfl, by decide +kernel, rfl, by decide +kernel, by decide +kernel⟩
theorem ok_as {f fN C : Addr} {fd dN : FuncData} (F : Fun K "are_steps" "are_steps" sAreS f fd) (FN : Fun K "is_number" "is_number" sNum fN dN) (bN : Binds K dN ["thing", "many"] []) (gN : mg "is_number" = some (.ref fN))
    (T : TR mg) (tA : mg "all" = none) (hC : C0 K C) : FnOk P w K mg base CX0 2 f fd ["rules", "things"] (spAS K C) := by
  have GN : FnOk P w K mg base CX0 1 fN dN ["thing", "many"] spNum := ok_num FN T
  refine F.ok (k := 1) scAS (fun vs H Q E h => ?_) (fun cdv A outer s H vs Q E hr h => ?_)
  · obtain ⟨a, p, es, ss, ds, xs, rfl, _⟩ := h
    rfl
  · obtain ⟨a, p, es, ss, ds, xs, rfl, hR, hp, ha, hl, kk⟩ := h
    refine ⟨_, pss_one (ps_ret (pe_callB (cr_all rfl) (by rfl) tA ball (pa_cons (pe_lc (own := [("thing", 2)]) (g := gName 2) (tt := tYes) rfl scAS.nd (pi_tup (pv 1)) (blkOk_by (own := [("thing", 2)]) (N := nAS) (sc := defScope sAreS) (by decide +kernel))
        (fun _ _ _ _ _ => pg_name (i := 2) scAS.nd rfl (Or.inl rfl)) (fun _ _ _ _ _ => pts_nil) (fun _ _ _ _ _ => pe_call GN hr (by rfl) gN FN.kp bN .nil pass0 (pa_cons (pv 2) (pa_cons (pe_callB (call_len_seqK (K := K) rfl) (by rfl) T.len PySem.boot_len (pa_cons (pe_fldK (K := K) rfl (pv 0) rfl) pa_nil)) pa_nil)))) pa_nil))), ?_⟩
    obtain ⟨dx, pe, ps, xe, ys, h1, h2, h3, h4, h5⟩ := hR
    have lx := ha.len
    refine ⟨_, rfl, p, rfl, ⟨_, SqT.of hp⟩, fun D nD => ?_⟩
    refine lc_it (walk_tup (xs := xs)) (fun i H' => Same H H' ∧ H' D = some (.lst (((ds.take i).map fun d => numB d (ss.length : Int)).map V.bl))) ⟨same_new nD, upd_same⟩ (fun i H' _ p' => SqT.of (p'.1 _ _ hp)) ?_ ?_
    · rintro i y H1 H2 hi ⟨s1, e1⟩ ⟨rfl, hx⟩
      refine ⟨rfl, ?_⟩
      unfold tYes
      refine iteT ?_
      obtain ⟨di, hdi⟩ : ∃ di, ds[i]? = some di := ⟨ds[i]'(by omega), List.getElem?_eq_getElem _⟩
      obtain ⟨v, hv, qv⟩ := ha.at hdi
      obtain rfl : v = y := Option.some.inj (hv.symm.trans hx)
      refine ⟨_, rfl, _, rfl, a, C, dx, _, .ref ps, rfl, s1 _ _ h1, hC.1, hC.2.2, lk_s _ _, ps, ys, rfl, .inr (sqT_same h4 s1), v, di, _, rfl, qv.same s1, fun H3 s3 => ?_⟩
      refine ⟨_, s3 _ _ e1, smallM ?_, fun b o z => ?_, ?_⟩
      · rw [List.length_map, List.length_map, List.length_take]
        omega
      · rw [upd_ne (ne_of_none z nD)]
        exact s3 _ _ (s1 _ _ z)
      · rw [upd_same, take_snoc hdi, List.map_append, h5.len]
        rfl
    rintro H1 ⟨s1, e1⟩
    rw [List.take_of_length_le (by omega)] at e1
    refine ⟨_, _, rfl, SqL.of e1, ?_⟩
    have z := kk H1 s1
    rw [List.all_map]
    exact z
theorem ok_sum {f fC C : Addr} {fd dC : FuncData} (F : Fun K "sum_levels" "sum_levels" sSum f fd) (FC : Fun K "call_level" "call_level" sCLv fC dC) (bC : Binds K dC ["tree"] []) (gC : mg "call_level" = some (.ref fC))
    (tL : mg "len" = none) (tS : mg "sum" = none) (hC : C0 K C) : FnOk P w K mg base CX0 6 f fd ["rules", "unfolding"] (spSum K C) := by
  have GC : FnOk P w K mg base CX0 5 fC dC ["tree"] (spLv 3) := ok_clv FC bC gC tL 4
  refine F.ok (k := 5) scSm (fun vs H Q E h => ?_) (fun cdv A outer s H vs Q E hr h => ?_)
  · obtain ⟨a, v, es, ss, row, e, rfl, _⟩ := h
    rfl
  · obtain ⟨a, v, es, ss, row, e, rfl, hR, hE, hv, hk, hl, kk⟩ := h
    refine ⟨_, pss_cons (ps_set (i := 2) scSm.nd rfl (Or.inr rfl) (pe_lc (own := [("step", 3)]) (g := gName 3) (tt := tYes) rfl scSm.nd (pi_tup (pe_fld (pv 0) rfl)) (blkOk_by (own := [("step", 3)]) (N := nSm) (sc := defScope sSum) (by decide +kernel))
        (fun _ _ _ _ _ => pg_name (i := 3) scSm.nd rfl (Or.inl rfl)) (fun _ _ _ _ _ => pts_nil) (fun _ _ _ _ _ => pe_call GC hr (by rfl) gC FC.kp bC .nil pass0 (pa_cons (pv 3) pa_nil))))
      (pss_one (ps_ret (pe_callB (cr_sum rfl) (by rfl) tS (by decide +kernel) (pa_cons (pe_lc (own := [("step", 3)]) (g := gName 3) (tt := tYes) rfl scSm.nd (pi_tup (pe_slice sl_tupF (pv 1) po_none (po_some (pe_un un_neg pe_int)))) (blkOk_by (own := [("step", 3)]) (N := nSm) (sc := defScope sSum) (by decide +kernel))
        (fun _ _ _ _ _ => pg_name (i := 3) scSm.nd rfl (Or.inl rfl)) (fun _ _ _ _ _ => pts_nil) (fun _ _ _ _ _ => pe_ix (ix_listK (K := K) rfl) (pv 2) (pv 3) (fun _ _ => rfl))) pa_nil)))), ?_⟩
    obtain ⟨dx, pe, ps, xe, ys, h1, h2, h3, h4, h5⟩ := hR
    have ly := h5.len
    have lss := hE.2.2.1
    refine ⟨_, rfl, a, C, dx, _, .ref ps, rfl, h1, hC.1, hC.2.2, lk_s _ _, ps, rfl, ⟨_, h4⟩, fun D nD => ?_⟩
    refine lc_it (walk_tup (xs := ys)) (fun i H' => Same H H' ∧ H' D = some (.lst ((ss.take i).map fun d => V.int ((lvOf d : Nat) : Int)))) ⟨same_new nD, upd_same⟩ (fun i H' _ p' => sqT_same h4 p'.1) ?_ ?_
    · rintro i y H1 H2 hi ⟨s1, e1⟩ ⟨rfl, hx⟩
      refine ⟨rfl, ?_⟩
      unfold tYes
      refine iteT ?_
      have hi' : i < ss.length := by omega
      obtain ⟨di, hdi⟩ : ∃ di, ss[i]? = some di := ⟨ss[i]'hi', List.getElem?_eq_getElem _⟩
      obtain ⟨v, hv', qv⟩ := h5.at hdi
      obtain rfl : v = y := Option.some.inj (hv'.symm.trans hx)
      have sd := hE.2.2.2.2 di (List.mem_of_getElem? hdi)
      obtain ⟨q, hq, _⟩ := id sd
      refine ⟨_, rfl, v, di, q, 1, rfl, qv.same s1, hq.tc, fun H3 s3 => ?_⟩
      rw [show 3 + 1 = 4 from rfl, (lv_step sd).1]
      refine ⟨_, s3 _ _ e1, smallM ?_, fun b o z => ?_, ?_⟩
      · rw [List.length_map, List.length_take]
        omega
      · rw [upd_ne (ne_of_none z nD)]
        exact s3 _ _ (s1 _ _ z)
      · rw [upd_same, take_snoc hdi]
        rfl
    rintro H1 ⟨s1, e1⟩
    rw [List.take_of_length_le (by omega)] at e1
    obtain ⟨pv', xs, rfl, ev, av⟩ := dq_tup hv
    have ex := rowD_vals av
    subst ex
    refine ⟨_, rfl, 1, rfl, -1, rfl, pv', _, rfl, s1 _ _ ev, fun p2 H2 s2 e2 => ?_⟩
    rw [cut_all_but] at e2
    have e1' := s2 _ _ e1
    have s12 := same_trans s1 s2
    refine ⟨p2, rfl, ⟨_, SqT.of e2⟩, fun D2 nD2 => ?_⟩
    refine lc_it (walk_tup (xs := row.map fun (k : Nat) => V.int (k : Int))) (fun i H' => Same H2 H' ∧ H' D2 = some (.lst (((row.take i).map fun k => ((lvOf (ss.getD k .none) : Nat) : Int)).map V.int))) ⟨same_new nD2, upd_same⟩ (fun i H' _ p' => SqT.of (p'.1 _ _ e2)) ?_ ?_
    · rintro i y H3 H4 hi ⟨s3, e3⟩ ⟨rfl, hx⟩
      rw [List.length_map] at hi
      rw [List.getElem?_map] at hx
      obtain ⟨k, hk', rfl⟩ := Option.map_eq_some_iff.mp hx
      refine ⟨rfl, ?_⟩
      unfold tYes
      refine iteT ?_
      have hks : k < ss.length := hk k (List.mem_of_getElem? hk')
      have eg : ss[k]? = some (ss.getD k .none) := by rw [List.getD_eq_getElem?_getD, List.getElem?_eq_getElem hks]; rfl
      refine ⟨_, rfl, _, rfl, D, _, (k : Int), _, rfl, rfl, SqL.of (s3 _ _ e1'), atI_nat (j := k) (by rw [List.getElem?_map, eg]; rfl), ?_⟩
      refine ⟨_, e3, smallM ?_, fun b o z => ?_, ?_⟩
      · rw [List.length_map, List.length_map, List.length_take]
        omega
      · rw [upd_ne (ne_of_none z nD2)]
        exact s3 _ _ z
      · rw [upd_same, take_snoc hk', List.map_append]
        rfl
    rintro H3 ⟨s3, e3⟩
    rw [List.take_of_length_le (by rw [List.length_map]; exact Nat.le_refl _)] at e3
    refine ⟨_, _, rfl, SqL.of e3, ?_⟩
    have es : ∀ l : List Nat, (l.map fun k => ((lvOf (ss.getD k .none) : Nat) : Int)).sum = ((depthR ss l : Nat) : Int) := by
      intro l
      induction l with
      | nil => rfl
      | cons a l ih =>
        rw [List.map_cons, List.sum_cons, ih]
        show _ = ((List.sum (lvOf (ss.getD a .none) :: l.map fun k => lvOf (ss.getD k .none)) : Nat) : Int)
        rw [List.sum_cons, Int.natCast_add]
        rfl
    rw [es]
    exact kk H3 (same_trans s12 s3)
theorem ok_build {f fP C : Addr} {fd dP : FuncData} (F : Fun K "build_tree" "build_tree" sBuild f fd) (FP : Fun K "_put_at_call" "_put_at_call" sPutC fP dP) (bP : Binds K dP ["body", "tree"] []) (gP : mg "_put_at_call" = some (.ref fP)) (GP : FnOk P w K mg base CX0 6 fP dP ["body", "tree"] (spPutX 4))
    (tR : mg "reversed" = none) (hC : C0 K C) : FnOk P w K mg base CX0 7 f fd ["rules", "unfolding"] (spBuild K C) := by
  refine F.ok (k := 6) scBt (fun vs H Q E h => ?_) (fun cdv A outer s H vs Q E hr h => ?_)
  · obtain ⟨a, v, es, ss, row, e, rfl, _⟩ := h
    rfl
  · obtain ⟨a, v, es, ss, row, e, rfl, hR, hE, hv, hk, he, kk⟩ := h
    refine ⟨_, pss_cons (ps_set (i := 2) scBt.nd rfl (Or.inl rfl) (pe_ix ix_tup (pe_fld (pv 0) rfl) (pe_ix ix_tup (pv 1) (pe_un un_neg pe_int) (fun _ _ => rfl)) (fun _ _ => rfl)))
      (pss_cons (ps_for PassesOwn.never rfl (RT.pi_revA (by rfl) tR (pe_slice sl_tupF (pv 1) po_none (po_some (pe_un un_neg pe_int)))) (pg_name (i := 3) scBt.nd rfl (Or.inl rfl))
        (pss_one (ps_set (i := 2) scBt.nd rfl (Or.inl rfl) (pe_call GP hr (by rfl) gP FP.kp bP .nil pass0 (pa_cons (pe_ix ix_tup (pe_fld (pv 0) rfl) (pv 3) (fun _ _ => rfl)) (pa_cons (pv 2) pa_nil))))))
      (pss_one (ps_ret (pv 2)))), ?_⟩
    obtain ⟨dx, pe, ps, xe, ys, h1, h2, h3, h4, h5⟩ := hR
    obtain ⟨pv', xs, rfl, ev, av⟩ := dq_tup hv
    have ex := rowD_vals av
    subst ex
    have eg0 : es[e]? = some (es.getD e .none) := by rw [List.getD_eq_getElem?_getD, List.getElem?_eq_getElem he]; rfl
    obtain ⟨v0, hv0, q0⟩ := h3.at eg0
    refine ⟨_, rfl, a, C, dx, _, .ref pe, rfl, h1, hC.1, hC.2.1, lk_e _ _, _, rfl, 1, rfl, pv', _, -1, .int (e : Int), rfl, rfl, SqT.of ev, at_lastV _ _, pe, _, (e : Int), v0, rfl, rfl, h2, atI_nat hv0, ?_⟩
    refine ⟨_, rfl, 1, rfl, -1, rfl, pv', _, rfl, ev, fun p2 H2 s2 e2 => ?_⟩
    rw [cut_all_but] at e2
    refine ⟨p2, _, rfl, .inr ⟨SqT.of e2, ?_⟩⟩
    refine RT.for_ItvT (fun i σ' H' => ∃ (v : V) (w3 : Option V), σ' = [some (.ref a), some (.ref pv'), some v, w3] ∧ Same H2 H' ∧ Dq H' v (unfD es ss (row.drop (row.length - i)) e)) ?_ (fun i σ' H' ⟨_, _, _, s', _⟩ => SqT.of (s' _ _ e2)) ?_ ?_
    · refine ⟨v0, none, rfl, same_refl, ?_⟩
      rw [Nat.sub_zero, List.drop_length]
      exact q0.same s2
    · rintro i x σ' H' hi hx ⟨v, w3, rfl, s', qd⟩
      rw [List.length_map] at hi
      rw [List.getElem?_map, List.length_map] at hx
      obtain ⟨k, hk', rfl⟩ := Option.map_eq_some_iff.mp hx
      have hks : k < ss.length := hk k (List.mem_of_getElem? hk')
      have eg : ss[k]? = some (ss.getD k .none) := by rw [List.getD_eq_getElem?_getD, List.getElem?_eq_getElem hks]; rfl
      obtain ⟨vb, hvb, qb⟩ := h5.at eg
      have sd := hE.2.2.2.2 _ (List.mem_of_getElem? eg)
      obtain ⟨q, hq, _⟩ := id sd
      obtain ⟨⟨mt, bt, hr'⟩, _⟩ := unf_fine hE he (row := row.drop (row.length - i)) fun k hk => by
        have := List.mem_of_mem_drop hk
        exact ‹∀ k ∈ row, k < ss.length› k this
      have sA := same_trans s2 s'
      refine ⟨_, rfl, a, C, dx, _, .ref ps, rfl, sA _ _ h1, hC.1, hC.2.2, lk_s _ _, _, rfl, ps, _, (k : Int), vb, rfl, rfl, sqT_same h4 sA, atI_nat hvb, _, rfl, vb, v, _, _, q, 1, mt, bt, rfl, qb.same sA, hq.tc, Nat.le_refl _, qd, hr', fun r H7 s7 q7 => ?_⟩
      refine ⟨r, _, rfl, same_trans s' s7, ?_⟩
      have ed : row.drop (row.length - (i + 1)) = k :: row.drop (row.length - i) := by
        have e1 : row.length - (i + 1) = row.length - 1 - i := by omega
        rw [e1, List.drop_eq_getElem_cons (by omega : row.length - 1 - i < row.length)]
        congr 1
        · exact Option.some.inj ((List.getElem?_eq_getElem _).symm.trans hk')
        · congr 1
          omega
      rw [ed]
      show Dq H7 r (putR (ss.getD k .none) (unfD es ss (row.drop (row.length - i)) e))
      rw [putR_rt hr']
      exact q7
    · rintro σ' H' ⟨v, w3, rfl, s', qd⟩
      rw [List.length_map, Nat.sub_self, List.drop_zero] at qd
      exact ⟨_, rfl, kk v H' (same_trans s2 s') qd⟩
end
end U4
set_option Elab.async false
set_option linter.all false
set_option maxRecDepth 100000
set_option maxHeartbeats 4000000
/-! onlyjoins.unfold: what may be called with anything -/
namespace U4
open PySem L2 L2H DQ K01 RU
open XH hiding same_refl same_trans same_new
def few (d : PyData) : Prop := sz d ≤ 300000
theorem sz_len : ∀ ds : List PyData, 4 * ds.length ≤ szAll ds
  | [] => Nat.le_refl _
  | d :: ds => by
    have z : 2 ≤ sz d := by cases d <;> simp [sz]
    have := sz_len ds
    rw [List.length_cons]
    show 4 * (ds.length + 1) ≤ sz d + 2 + szAll ds
    omega
theorem few_len {ds : List PyData} (h : few (.tuple ds)) : ds.length ≤ 75000 := by
  have z : szAll ds + 4 ≤ 300000 := h
  have := sz_len ds
  omega
theorem sz_row : ∀ (row : List Nat) (e : Nat), 1923 * row.length ≤ szAll (rowD row e)
  | [], _ => Nat.zero_le _
  | k :: row, e => by
    have := sz_row row e
    rw [List.length_cons]
    show 1923 * (row.length + 1) ≤ 1921 + 2 + szAll (rowD row e)
    omega
def spAll (K : PySem.W.Frag) (C : Addr) : Sp := fun vs H Q _ => ∃ (a : Addr) (v : V) (d : PyData) (es ss : List PyData), vs = [.ref a, v] ∧ RulesAt K H a C es ss ∧ Dq H v d ∧ few d ∧ ∀ H', Same H H' → Q (.bl (unfAll es.length ss.length d)) H'
def spIs (K : PySem.W.Frag) (C : Addr) : Sp := fun vs H Q _ => ∃ (a : Addr) (v : V) (d : PyData) (es ss : List PyData), vs = [.ref a, v] ∧ RulesAt K H a C es ss ∧ ESd es ss ∧ Dq H v d ∧ few d ∧ ∀ H', Same H H' → Q (.bl (unfB es ss d)) H'
def spNeed (K : PySem.W.Frag) (C CU : Addr) : Sp := fun vs H Q E => ∃ (a : Addr) (v : V) (d : PyData) (es ss : List PyData), vs = [.ref a, v] ∧ RulesAt K H a C es ss ∧ ESd es ss ∧ Dq H v d ∧ few d ∧ (unfB es ss d = true → ∀ H', Same H H' → Q .non H') ∧ (unfB es ss d = false → OutB H E CU "value" d)
def spTree (K : PySem.W.Frag) (C CU : Addr) : Sp := fun vs H Q E => ∃ (a : Addr) (v : V) (d : PyData) (es ss : List PyData), vs = [.ref a, v] ∧ RulesAt K H a C es ss ∧ ESd es ss ∧ Dq H v d ∧ few d ∧
  (unfB es ss d = true → ∀ r H', Same H H' → Dq H' r (unfD es ss (rowOf d) (endOf d)) → Q r H') ∧ (unfB es ss d = false → OutB H E CU "value" d)
def spDepth (K : PySem.W.Frag) (C CU : Addr) : Sp := fun vs H Q E => ∃ (a : Addr) (v : V) (d : PyData) (es ss : List PyData), vs = [.ref a, v] ∧ RulesAt K H a C es ss ∧ ESd es ss ∧ Dq H v d ∧ few d ∧
  (unfB es ss d = true → ∀ H', Same H H' → Q (.int ((depthR ss (rowOf d) : Nat) : Int)) H') ∧ (unfB es ss d = false → OutB H E CU "value" d)
def spNot (K : PySem.W.Frag) (C CU : Addr) : Sp := fun vs H Q E => ∃ (a : Addr) (v : V) (d : PyData) (es ss : List PyData), vs = [.ref a, v] ∧ RulesAt K H a C es ss ∧ ESd es ss ∧ Dq H v d ∧ few d ∧ unfB es ss d = false ∧ OutB H E CU "value" d
theorem pss_no {X : Cx} {st : List Stmt} : PSs X st (fun _ _ _ => False) := ⟨fun _ _ _ _ _ _ h => h.elim⟩
theorem unfB_row {es ss : List PyData} {d : PyData} (h : unfB es ss d = true) : d = .tuple (rowD (rowOf d) (endOf d)) ∧ (∀ k ∈ rowOf d, k < ss.length) ∧ endOf d < es.length := unf_row (Bool.and_eq_true_iff.mp h).1
theorem row_few {d : PyData} (h : few d) (e : d = .tuple (rowD (rowOf d) (endOf d))) : (rowOf d).length ≤ 156 := by
  have z := h
  rw [e] at z
  have y : szAll (rowD (rowOf d) (endOf d)) + 4 ≤ 300000 := z
  have := sz_row (rowOf d) (endOf d)
  omega
abbrev nRT : List Str := ["rules", "thing"]
abbrev nRU : List Str := ["rules", "unfolding"]
section
variable {P : Program} {w : World} {K : PySem.W.Frag} {mg : Str → Option Value} {base : Heap}
theorem scIA : FnScope nRT ["rules", "thing"] (defScope sIsA) := ⟨rfl, rfl, rfl, by decide +kernel, rfl, by decide +kernel, by decide +kernel⟩
theorem scIU : FnScope nRT ["rules", "thing"] (defScope sIsU) := ⟨rfl, rfl, rfl, by decide +kernel, rfl, by decide +kernel, by decide +kernel⟩
theorem scNe : FnScope nRT ["rules", "thing"] (defScope sNeed) := ⟨rfl, rfl, rfl, by decide +kernel, rfl, by decide +kernel, by decide +kernel⟩
theorem scTO : FnScope nRU ["rules", "unfolding"] (defScope sTreeOf) := ⟨rfl, rfl, rfl, by decide +kernel, rfl, by decide +kernel, by decide +kernel⟩
theorem scDO : FnScope nRU ["rules", "unfolding"] (defScope sDepOf) := ⟨rfl, rfl, rfl, by decide +kernel, rfl, by decide +kernel, by decide +kernel⟩
theorem scSh : FnScope ["rules", "unfolding", "plan", "depth", "found"] ["rules", "unfolding"] (defScope sShor) := ⟨rfl, rfl, rfl, by decide +kernel, rfl, by decide +kernel, by decide +kernel⟩
theorem ok_all {f fA fN C : Addr} {fd dA dN : FuncData} (F : Fun K "is_unfolding_at_all" "is_unfolding_at_all" sIsA f fd) (FA : Fun K "are_steps" "are_steps" sAreS fA dA) (bA : Binds K dA ["rules", "things"] []) (gA : mg "are_steps" = some (.ref fA))
    (FN : Fun K "is_number" "is_number" sNum fN dN) (bN : Binds K dN ["thing", "many"] []) (gN : mg "is_number" = some (.ref fN)) (T : TR mg) (tA : mg "all" = none) (hC : C0 K C) : FnOk P w K mg base CX0 3 f fd ["rules", "thing"] (spAll K C) := by
  have GN : FnOk P w K mg base CX0 1 fN dN ["thing", "many"] spNum := ok_num FN T
  have GA : FnOk P w K mg base CX0 2 fA dA ["rules", "things"] (spAS K C) := ok_as FA FN bN gN T tA hC
  refine F.ok (k := 2) scIA (fun vs H Q E h => ?_) (fun cdv A outer s H vs Q E hr h => ?_)
  · obtain ⟨a, v, d, es, ss, rfl, _⟩ := h
    rfl
  · obtain ⟨a, v, d, es, ss, rfl, hR, hd, hf, kk⟩ := h
    refine ⟨_, pss_cons (ps_if (PW.pt (pw_or (pt_not (pt_val (pe_callB call_isi (by rfl) T.isi bisi (pa_cons (pv 1) (pa_cons (pe_bltn (v := .ty "tuple") (by rfl) T.tuple btup rfl) pa_nil))))) (pw_or1 (pt_cmpR op_eq (pe_callB call_len_seq (by rfl) T.len PySem.boot_len (pa_cons (pv 1) pa_nil)) pe_int (by rfl))))) (pss_one (ps_ret pe_bl)) pss_nil)
      (pss_one (ps_ret (pe_and (pe_call GA hr (by rfl) gA FA.kp bA .nil pass0 (pa_cons (pv 0) (pa_cons (pe_slice sl_tupF (pv 1) po_none (po_some (pe_un un_neg pe_int))) pa_nil)))
        (pe_one (pe_call GN (hr.mono (by decide)) (by rfl) gN FN.kp bN .nil pass0 (pa_cons (pe_ix ix_tup (pv 1) (pe_un un_neg pe_int) (fun _ _ => rfl)) (pa_cons (pe_callB call_len_seq (by rfl) T.len PySem.boot_len (pa_cons (pe_fld (pv 0) rfl) pa_nil)) pa_nil))))))), ?_⟩
    have z := kk
    refine ⟨_, rfl, _, .ty "tuple", _, _, _, rfl, .ty _, hd.ty, kit_ty (kt _), _, rfl, ?_⟩
    cases hd with
    | @tup p xs ds e ax =>
      refine iteF ⟨_, rfl, p, _, rfl, .inr (SqT.of e), rfl, _, rfl, ?_⟩
      have lx := ax.len
      have l9 := few_len hf
      cases ds with
      | nil =>
        obtain rfl : xs = [] := List.eq_nil_of_length_eq_zero lx
        exact iteT (kk H same_refl)
      | cons d0 dr =>
        have ln : decide (V.int (xs.length : Int) = V.int 0) = false := decide_eq_false fun z => by
          have y : (xs.length : Int) = 0 := V.int.inj z
          rw [lx, List.length_cons] at y
          omega
        rw [ln]
        obtain ⟨ds0, dl, hds⟩ : ∃ ds0 dl, d0 :: dr = ds0 ++ [dl] := ⟨_, _, (List.dropLast_concat_getLast (List.cons_ne_nil d0 dr)).symm⟩
        rw [hds] at ax kk l9
        obtain ⟨xs0, xl, rfl, a0, al⟩ : ∃ xs0 xl, xs = xs0 ++ [xl] ∧ DqAll H xs0 ds0 ∧ Dq H xl dl := by
          have hne : xs ≠ [] := by
            intro z
            have := ax.len
            rw [z, List.length_append] at this
            simp at this
          have e1 : xs = xs.dropLast ++ [xs.getLast hne] := (List.dropLast_concat_getLast hne).symm
          rw [e1] at ax
          have l1 : xs.dropLast.length = ds0.length := by
            have := ax.len
            rw [List.length_append, List.length_append] at this
            simpa using this
          have sp : ∀ {as bs : List V} {cs gs : List PyData}, as.length = cs.length → DqAll H (as ++ bs) (cs ++ gs) → DqAll H as cs ∧ DqAll H bs gs := by
            intro as
            induction as with
            | nil =>
              intro bs cs gs l h
              obtain rfl := List.eq_nil_of_length_eq_zero l.symm
              exact ⟨.nil, h⟩
            | cons x as ih =>
              intro bs cs gs l h
              cases cs with
              | nil => cases l
              | cons c cs =>
                cases h with
                | cons h t =>
                  obtain ⟨q1, q2⟩ := ih (Nat.succ.inj l) t
                  exact ⟨.cons h q1, q2⟩
          obtain ⟨q1, q2⟩ := sp l1 ax
          cases q2 with
          | cons h t => exact ⟨_, _, e1, q1, h⟩
        have eu : unfAll es.length ss.length (.tuple (ds0 ++ [dl])) = (ds0.all (fun d => numB d (ss.length : Int)) && numB dl (es.length : Int)) := by
          show (!(ds0 ++ [dl]).isEmpty && ((ds0 ++ [dl]).dropLast.all (fun d => numB d (ss.length : Int)) && numB ((ds0 ++ [dl]).getLastD .none) (es.length : Int))) = _
          rw [List.dropLast_concat, show (ds0 ++ [dl]).getLastD .none = dl by simp]
          simp
        rw [eu] at kk
        have l8 : ds0.length ≤ 75000 := by
          rw [List.length_append] at l9
          omega
        refine iteF ?_
        refine ⟨_, rfl, _, rfl, 1, rfl, -1, rfl, p, _, rfl, e, fun p2 H2 s2 e2 => ?_⟩
        rw [cut_all_but] at e2
        refine ⟨a, p2, es, ss, ds0, xs0, rfl, hR.same s2, e2, a0.same s2, l8, fun H3 s3 => ⟨_, rfl, ?_⟩⟩
        have sA := same_trans s2 s3
        have kk' := kk
        cases hb : ds0.all (fun d => numB d (ss.length : Int)) with
        | false =>
          rw [hb] at kk'
          exact iteF (kk' H3 sA)
        | true =>
          rw [hb] at kk'
          obtain ⟨dx, pe, ps, xe, ys, h1, h2, h3, h4, h5⟩ := hR
          refine iteT ⟨_, rfl, 1, rfl, p, _, -1, xl, rfl, rfl, SqT.of (sA _ _ e), at_lastV _ _, _, rfl, a, C, dx, _, .ref pe, rfl, sA _ _ h1, hC.1, hC.2.1, lk_e _ _, pe, xe, rfl, .inr (sqT_same h2 sA), xl, dl, _, rfl, al.same sA, fun H4 s4 => ?_⟩
          rw [h3.len]
          exact kk' H4 (same_trans sA s4)
    | _ => exact iteT (z H same_refl)
theorem ok_is {f fA fS C : Addr} {fd dA dS : FuncData} (F : Fun K "is_unfolding" "is_unfolding" sIsU f fd) (FA : Fun K "is_unfolding_at_all" "is_unfolding_at_all" sIsA fA dA) (bA : Binds K dA ["rules", "thing"] []) (gA : mg "is_unfolding_at_all" = some (.ref fA)) (GA : FnOk P w K mg base CX0 3 fA dA ["rules", "thing"] (spAll K C))
    (FS : Fun K "sum_levels" "sum_levels" sSum fS dS) (bS : Binds K dS ["rules", "unfolding"] []) (gS : mg "sum_levels" = some (.ref fS)) (GS : FnOk P w K mg base CX0 6 fS dS ["rules", "unfolding"] (spSum K C)) (m130 : ∃ t, mg "MOST_DEPTH" = some (.int 130 t)) :
    FnOk P w K mg base CX0 7 f fd ["rules", "thing"] (spIs K C) := by
  obtain ⟨t, m130⟩ := m130
  refine F.ok (k := 6) scIU (fun vs H Q E h => ?_) (fun cdv A outer s H vs Q E hr h => ?_)
  · obtain ⟨a, v, d, es, ss, rfl, _⟩ := h
    rfl
  · obtain ⟨a, v, d, es, ss, rfl, hR, hE, hd, hf, kk⟩ := h
    refine ⟨_, pss_one (ps_ret (pe_and (pe_call GA (hr.mono (by decide)) (by rfl) gA FA.kp bA .nil pass0 (pa_cons (pv 0) (pa_cons (pv 1) pa_nil)))
      (pe_one (pe_cmpR op_le (pe_call GS hr (by rfl) gS FS.kp bS .nil pass0 (pa_cons (pv 0) (pa_cons (pv 1) pa_nil))) (pe_glob (v := .int 130) (by rfl) m130 ⟨_, rfl⟩) (nomark _))))), ?_⟩
    refine ⟨_, rfl, _, rfl, a, v, d, es, ss, rfl, hR, hd, hf, fun H1 s1 => ⟨_, rfl, ?_⟩⟩
    cases hu : unfAll es.length ss.length d with
    | false =>
      have z := kk H1 s1
      unfold unfB at z
      rw [hu] at z
      exact iteF z
    | true =>
      obtain ⟨e1, l1, l2⟩ := unf_row hu
      refine iteT ⟨_, rfl, _, rfl, a, v, es, ss, rowOf d, endOf d, rfl, hR.same s1, hE, ?_, l1, Nat.le_trans (row_few hf e1) (by decide), fun H2 s2 => ?_⟩
      · rw [← e1]
        exact hd.same s1
      · have z := kk H2 (same_trans s1 s2)
        unfold unfB at z
        rw [hu] at z
        refine ⟨_, _, rfl, rfl, ?_⟩
        have e : decide (((depthR ss (rowOf d) : Nat) : Int) ≤ 130) = decide (depthR ss (rowOf d) ≤ 130) := by
          rw [Bool.eq_iff_iff, decide_eq_true_eq, decide_eq_true_eq]
          omega
        show Q (V.bl (decide (((depthR ss (rowOf d) : Nat) : Int) ≤ 130))) H2
        rw [e]
        exact z
theorem ok_need {f fI C CU : Addr} {fd dI : FuncData} (F : Fun K "need_unfolding" "need_unfolding" sNeed f fd) (FI : Fun K "is_unfolding" "is_unfolding" sIsU fI dI) (bI : Binds K dI ["rules", "thing"] []) (gI : mg "is_unfolding" = some (.ref fI)) (GI : FnOk P w K mg base CX0 7 fI dI ["rules", "thing"] (spIs K C))
    (X : ExF P K mg "BadUnfolding" "value" CU) : FnOk P w K mg base (L2.CX P w) 8 f fd ["rules", "thing"] (spNeed K C CU) := by
  obtain ⟨fE, fdE, qn, B, newId, initId, bmB, XT⟩ := X.ex
  refine F.okX (k := 7) scNe (fun vs H Q E h => ?_) (fun cdv A outer s H vs Q E hr h => ?_)
  · obtain ⟨a, v, d, es, ss, rfl, _⟩ := h
    rfl
  · obtain ⟨a, v, d, es, ss, rfl, hR, hE, hd, hf, hy, hn⟩ := h
    have dp : (A.deeper (PyProof.Rows.envOfC "need_unfolding" (defScope sNeed) s.heap.objs.size f cdv)).depth + 1 < recursionLimit := by have := hr.dp; omega
    refine ⟨_, pss_one (ps_if (pt_not (pt_val (pe_call GI hr (by rfl) gI FI.kp bI .nil pass0 (pa_cons (pv 0) (pa_cons (pv 1) pa_nil))))) (pss_one (ps_raise rfl (takes_of rfl rfl rfl rfl) (pmk_xp XT X.r dp X.g X.k (by rfl) (pv 1)))) pss_nil), ?_⟩
    refine ⟨_, rfl, _, rfl, a, v, d, es, ss, rfl, hR, hE, hd, hf, fun H1 s1 => ⟨_, rfl, ?_⟩⟩
    cases hu : unfB es ss d with
    | false => exact iteT ⟨_, rfl, ((hn hu).same s1).raise (hd.same s1)⟩
    | true => exact iteF (hy hu H1 s1)
theorem ok_treeof {f fN fB C CU : Addr} {fd dN dB : FuncData} (F : Fun K "tree_of" "tree_of" sTreeOf f fd) (FN : Fun K "need_unfolding" "need_unfolding" sNeed fN dN) (bN : Binds K dN ["rules", "thing"] []) (gN : mg "need_unfolding" = some (.ref fN)) (GN : FnOk P w K mg base (L2.CX P w) 8 fN dN ["rules", "thing"] (spNeed K C CU))
    (FB : Fun K "build_tree" "build_tree" sBuild fB dB) (bB : Binds K dB ["rules", "unfolding"] []) (gB : mg "build_tree" = some (.ref fB)) (GB : FnOk P w K mg base CX0 7 fB dB ["rules", "unfolding"] (spBuild K C)) :
    FnOk P w K mg base (L2.CX P w) 9 f fd ["rules", "unfolding"] (spTree K C CU) := by
  refine F.okX (k := 8) scTO (fun vs H Q E h => ?_) (fun cdv A outer s H vs Q E hr h => ?_)
  · obtain ⟨a, v, d, es, ss, rfl, _⟩ := h
    rfl
  · obtain ⟨a, v, d, es, ss, rfl, hR, hE, hd, hf, hy, hn⟩ := h
    refine ⟨_, pss_cons (ps_expr (pe_call GN hr (by rfl) gN FN.kp bN .nil (passes_call (takes_of rfl rfl rfl rfl) fun _ _ _ _ h => h) (pa_cons (pv 0) (pa_cons (pv 1) pa_nil))))
      (pss_one (ps_ret (pe_call GB (hr.mono (by decide)) (by rfl) gB FB.kp bB .nil pass0 (pa_cons (pv 0) (pa_cons (pv 1) pa_nil))))), ?_⟩
    refine ⟨_, rfl, _, rfl, a, v, d, es, ss, rfl, hR, hE, hd, hf, fun hu H1 s1 => ?_, hn⟩
    obtain ⟨e1, l1, l2⟩ := unfB_row hu
    refine ⟨_, rfl, _, rfl, a, v, es, ss, rowOf d, endOf d, rfl, hR.same s1, hE, ?_, l1, l2, fun r H2 s2 q2 => hy hu r H2 (same_trans s1 s2) q2⟩
    rw [← e1]
    exact hd.same s1
theorem ok_depthof {f fN fS C CU : Addr} {fd dN dS : FuncData} (F : Fun K "depth_of" "depth_of" sDepOf f fd) (FN : Fun K "need_unfolding" "need_unfolding" sNeed fN dN) (bN : Binds K dN ["rules", "thing"] []) (gN : mg "need_unfolding" = some (.ref fN)) (GN : FnOk P w K mg base (L2.CX P w) 8 fN dN ["rules", "thing"] (spNeed K C CU))
    (FS : Fun K "sum_levels" "sum_levels" sSum fS dS) (bS : Binds K dS ["rules", "unfolding"] []) (gS : mg "sum_levels" = some (.ref fS)) (GS : FnOk P w K mg base CX0 6 fS dS ["rules", "unfolding"] (spSum K C)) :
    FnOk P w K mg base (L2.CX P w) 9 f fd ["rules", "unfolding"] (spDepth K C CU) := by
  refine F.okX (k := 8) scDO (fun vs H Q E h => ?_) (fun cdv A outer s H vs Q E hr h => ?_)
  · obtain ⟨a, v, d, es, ss, rfl, _⟩ := h
    rfl
  · obtain ⟨a, v, d, es, ss, rfl, hR, hE, hd, hf, hy, hn⟩ := h
    refine ⟨_, pss_cons (ps_expr (pe_call GN hr (by rfl) gN FN.kp bN .nil (passes_call (takes_of rfl rfl rfl rfl) fun _ _ _ _ h => h) (pa_cons (pv 0) (pa_cons (pv 1) pa_nil))))
      (pss_one (ps_ret (pe_call GS (hr.mono (by decide)) (by rfl) gS FS.kp bS .nil pass0 (pa_cons (pv 0) (pa_cons (pv 1) pa_nil))))), ?_⟩
    refine ⟨_, rfl, _, rfl, a, v, d, es, ss, rfl, hR, hE, hd, hf, fun hu H1 s1 => ?_, hn⟩
    obtain ⟨e1, l1, l2⟩ := unfB_row hu
    refine ⟨_, rfl, _, rfl, a, v, es, ss, rowOf d, endOf d, rfl, hR.same s1, hE, ?_, l1, Nat.le_trans (row_few hf e1) (by decide), fun H2 s2 => hy hu H2 (same_trans s1 s2)⟩
    rw [← e1]
    exact hd.same s1
theorem ok_shorter {f fN C CU : Addr} {fd dN : FuncData} (F : Fun K "shorter" "shorter" sShor f fd) (FN : Fun K "need_unfolding" "need_unfolding" sNeed fN dN) (bN : Binds K dN ["rules", "thing"] []) (gN : mg "need_unfolding" = some (.ref fN)) (GN : FnOk P w K mg base (L2.CX P w) 8 fN dN ["rules", "thing"] (spNeed K C CU)) :
    FnOk P w K mg base (L2.CX P w) 9 f fd ["rules", "unfolding"] (spNot K C CU) := by
  refine F.okX (k := 8) scSh (fun vs H Q E h => ?_) (fun cdv A outer s H vs Q E hr h => ?_)
  · obtain ⟨a, v, d, es, ss, rfl, _⟩ := h
    rfl
  · obtain ⟨a, v, d, es, ss, rfl, hR, hE, hd, hf, hu, hn⟩ := h
    refine ⟨_, pss_cons (ps_expr (pe_call GN hr (by rfl) gN FN.kp bN .nil (passes_call (takes_of rfl rfl rfl rfl) fun _ _ _ _ h => h) (pa_cons (pv 0) (pa_cons (pv 1) pa_nil)))) pss_no, ?_⟩
    exact ⟨_, rfl, _, rfl, a, v, d, es, ss, rfl, hR, hE, hd, hf, fun hy => (by rw [hu] at hy; cases hy), fun _ => hn⟩
end
end U4
set_option Elab.async false
set_option linter.all false
set_option maxRecDepth 100000
set_option maxHeartbeats 4000000
/-! _law_caught: a def that calls what it got, and tells how it was refused -/
namespace U4
open PySem L2 L2H DQ K01 RU EnT LamX TrA LamD RZ
open XH hiding same_refl same_trans same_new
def caughtE (CU : Addr) (Q : VK) : XK := fun cls d H' => ∃ (dd : Addr) (v : V) (pl : PyData), d = some dd ∧ Dq H' v pl ∧ Sys H' ∧ OkD pl ∧ cls = .ref CU ∧ H' dd = some (.xd [("value", v)]) ∧
  ∀ p H'', Same H' H'' → H'' p = some (.tup [.str "unfolding", .str pl.shown]) → Q (.ref p) H''
def TCa (CU : Addr) : (XK → Hp → VK → Prop) → Hp → VK → Prop := fun tl H Q => ∀ Q' : VK, (∀ v H', Q v H' → Q' v H') → tl (caughtE CU Q) H Q'
abbrev nCau : List Str := ["call", "e"]
theorem scCau : FnScope nCau ["call"] (defScope sCau) := ⟨rfl, rfl, rfl, by decide +kernel, rfl, by decide +kernel, by decide +kernel⟩
theorem caught_gives {X : Cx} {g CU : Addr} {cdg : Value} {q : Str} (hg : X.A.guards = some []) (hu : X.A.units + 200 < cLine) (mU : X.mg "BadUnfolding" = some (.ref CU)) (mr : X.mg "repr" = none)
    (rU : ExR X.K CU "value") (uu : PySem.W.exmOne X.K (.ref CU) (.ref CU) = some true) :
    GivesTo X nCau "_law_caught" (defScope sCau) g cdg (defBody sCau) "call" q (TCa CU) := by
  intro f c' s H Q tl act hco h
  have gU : Gl (cxOf C8.CX0 X.prog X.w X.K X.mg X.base nCau "_law_caught" (defScope sCau) g cdg X.A X.stack s H C8.E0).nox "BadUnfolding" := rfl
  have hg' : ∀ a pn, ((cxOf C8.CX0 X.prog X.w X.K X.mg X.base nCau "_law_caught" (defScope sCau) g cdg X.A X.stack s H C8.E0).nox.suite a pn).A.guards = some [] := fun a pn => hg
  have hu' : ∀ a pn, ((cxOf C8.CX0 X.prog X.w X.K X.mg X.base nCau "_law_caught" (defScope sCau) g cdg X.A X.stack s H C8.E0).nox.suite a pn).A.units + 100 < cLine := fun a pn => by
    show X.A.units + 3 + 100 < cLine
    omega
  refine ⟨_, pss_one (ps_tries (X := (cxOf C8.CX0 X.prog X.w X.K X.mg X.base nCau "_law_caught" (defScope sCau) g cdg X.A X.stack s H C8.E0).nox) (n := "e") (i := 1)
      (tb := fun W D σ H => ∃ Ech : XK, (∀ cls d σ' H', Ech cls d H' → σ'.length = 2 → W cls d σ' H') ∧ tRet (fun σZ HZ Q => σZ[0]? = some (some (.ref f)) ∧ HZ c' = some (CodeO c' q) ∧ tl Ech HZ Q) D σ H)
      rfl rfl scCau.nd rfl rfl LamX.takes0 (fun W pn xe tk _ => ⟨fun pins s' σ H' D I h' => ?_⟩)
      (.cons ⟨gU, by decide, .inl mU⟩ (fun a oe cls d pn hz hf => pss_one (ps_ret (pe_tup (pa_cons pe_str (pa_cons (pe_callB (call_reprX (hg' _ _) (hu' _ _)) (by rfl) mr brepr (pa_cons (pe_byX rU hz hf (pv 1)) pa_nil)) pa_nil))))) .nil)), ?_⟩
  · obtain ⟨Ech, hW, h1⟩ := h'
    exact (pss_one (ps_ret (act _ pn xe Ech _ _ (takes_len tk) hW))).run pins s' σ H' D I h1
  · refine ⟨caughtE CU Q, fun cls d σ' H' hE l3 => ?_, rfl, hco, ?_⟩
    · obtain ⟨dd, v, pl, rfl, hv, sy, ok, rfl, hd, k⟩ := hE
      refine ⟨true, uu, fun _ a na => ?_, fun z => nomatch z⟩
      have e2 : (σ'.set 1 (some (.ref a)))[1]? = some (some (.ref a)) := List.getElem?_set_self (by omega)
      refine ⟨_, e2, rfl, rfl, dd, v, rfl, hd, v, pl, rfl, sy, hv, ok.1, ok.2.1, ok.2.2, by show 2 ≤ sizeLine; decide, fun p np => ?_⟩
      exact k p _ (same_new np) upd_same
    · exact h _ fun v H' hv => hv
section
variable {X : Cx}
/-- _law_caught(lambda: e) -/
theorem pe_caught {T : List (Addr × Str)} {g CU c P : Addr} {fd : FuncData} {k : Nat} {params : Arguments} {body : Expr} {scope : Scope} {t : XK → TE} {p lpos pos : Pos} (F : Fun X.K "_law_caught" "_law_caught" sCau g fd) (b : Binds X.K fd ["call"] []) (gl : Gl X "_law_caught") (mg : X.mg "_law_caught" = some (.ref g))
    (hg : X.A.guards = some []) (mU : X.mg "BadUnfolding" = some (.ref CU)) (mr : X.mg "repr" = none)
    (rU : ExR X.K CU "value") (uu : PySem.W.exmOne X.K (.ref CU) (.ref CU) = some true)
    (TB : TabB X.base X.mg c P) (hcode : X.env.code = .ref c) (hmT : (P, lq X) ∈ T) (hu : ∀ p ∈ T, p.1 = P → p.2 = lq X) (hr : Room (k + 2) X.A) (L : LamS X.env.scope scope) (hdef : defaultsOf params X.env = ([], []))
    (hbind : ∀ (q : Str) (cl : List (Str × Addr)) (pm cv ctv : Value), bindArgs (PySem.W.kla_fn "<lambda>" q params body scope cl pm cv ctv) ⟨[], []⟩ = pure [])
    (hbody : ∀ (A : Around) (outer : List Env) (s : Shared) (H : Hp) (E : XK) (f c' : Addr), Room k (A.deeper (lamEnv X scope s.heap.objs.size f c')) → PE (lamCx X A outer s H E scope f c') body (t E)) :
    PE X (.Call (.Name "_law_caught" p) [.Lambda params body scope lpos] [] pos) (tLam T (TCa CU) t) := by
  obtain ⟨oc, od, kV, doc, pm, an, cdv, ct, osl, rfl, lk, hcd⟩ := F.ex
  exact pe_lamcall (Ng := nCau) (a := "call") gl mg F.kp lk hcd b scCau rfl (Or.inl rfl) (caught_gives hg (by have := hr.un; omega) mU mr rU uu) TB hcode hmT hu hr L hdef hbind hbody
/-- _law_caught(lambda x=d: e) -/
theorem pe_caughtD {T : List (Addr × Str)} {g CU c P : Addr} {fd : FuncData} {k : Nat} {params : Arguments} {body : Expr} {scope : Scope} {t : XK → TE} {y : Str} {di : Int} {dj : Nat} {dp p lpos pos : Pos} (F : Fun X.K "_law_caught" "_law_caught" sCau g fd) (b : Binds X.K fd ["call"] []) (gl : Gl X "_law_caught") (mg : X.mg "_law_caught" = some (.ref g))
    (hg : X.A.guards = some []) (mU : X.mg "BadUnfolding" = some (.ref CU)) (mr : X.mg "repr" = none)
    (rU : ExR X.K CU "value") (uu : PySem.W.exmOne X.K (.ref CU) (.ref CU) = some true)
    (TB : TabB X.base X.mg c P) (hcode : X.env.code = .ref c) (hmT : (P, lq X) ∈ T) (hu : ∀ p ∈ T, p.1 = P → p.2 = lq X) (hr : Room (k + 2) X.A) (L : LamP X.N X.env.scope scope y) (hdef : params.defaults = [.Constant (.int di) dj dp]) (hk0 : params.kw_defaults = [])
    (hbind : BindsD params body scope y di)
    (hbody : ∀ (A : Around) (outer : List Env) (s : Shared) (H : Hp) (E : XK) (f c' : Addr), Room k (A.deeper (lamEnv X scope s.heap.objs.size f c')) → PE (lamCx X A outer s H E scope f c') body (t E)) :
    PE X (.Call (.Name "_law_caught" p) [.Lambda params body scope lpos] [] pos) (tLam T (TCa CU) t) := by
  obtain ⟨oc, od, kV, doc, pm, an, cdv, ct, osl, rfl, lk, hcd⟩ := F.ex
  exact pe_lamcallD (Ng := nCau) (a := "call") gl mg F.kp lk hcd b scCau rfl (Or.inl rfl) (caught_gives hg (by have := hr.un; omega) mU mr rU uu) TB hcode hmT hu hr L hdef hk0 hbind hbody
end
end U4
set_option Elab.async false
set_option linter.all false
set_option maxRecDepth 100000
set_option maxHeartbeats 4000000
/-! t[-2::-1] of a tuple that is not empty -/
namespace RT
open PySem PySem.Spec PyProof.Rows L2 HT
section
variable {prog : Program} {w : World} {A : Around} {E : Value → Shared → Prop} {s : Shared}
theorem applied_rev2 {sl : Addr} {u u2 : Tok} {n : Nat} {Q : Int × Int × Nat → Shared → Prop} (hs : s.heap.IsSliceOf sl (.int (-2) u2) .none (.int (-1) u)) (hn : 1 ≤ n) (h : Q ((n : Int) - 2, -1, n - 1) s) :
    wpAny (model prog w) A (Builtin.Slice.sliceApplied (.ref sl) (pure (n : Int))) Q E s := by
  obtain ⟨os, hos, hcs, hds⟩ := id hs
  unfold Builtin.Slice.sliceApplied Builtin.Slice.sliceFields
  refine wpAny_bind (wpAny_bind (wpAny_field hos hds (x := .int (-2) u2) rfl (wpAny_bind (wpAny_field hos hds (x := .none) rfl (wpAny_bind (wpAny_field hos hds (x := .int (-1) u) rfl (wpAny_pure ?_)))))))
  refine wpAny_bind (slicePart_int ?_)
  show wpAny _ _ (if ((-1 : Int) == 0) = true then _ else _) _ _ s
  rw [if_neg (by decide)]
  refine wpAny_bind (slicePart_int (wpAny_bind (slicePart_none (wpAny_bind (wpAny_pure ?_)))))
  have e : Builtin.Slice.sliceAdjust (some (-2)) none (-1) (n : Int) = ((n : Int) - 2, -1) := by
    unfold Builtin.Slice.sliceAdjust
    simp
    omega
  show wpAny _ _ (match Builtin.Slice.sliceAdjust (some (-2)) none (-1) (n : Int) with | (lo, hi) => pure (lo, (-1 : Int), Builtin.Slice.slicePlaces lo hi (-1))) _ _ s
  rw [e]
  show wpAny _ _ (pure ((n : Int) - 2, (-1 : Int), Builtin.Slice.slicePlaces ((n : Int) - 2) (-1) (-1))) _ _ s
  have p : Builtin.Slice.slicePlaces ((n : Int) - 2) (-1) (-1) = n - 1 := by
    unfold Builtin.Slice.slicePlaces
    simp
    omega
  rw [p]
  exact wpAny_pure h
theorem pick_rev2 (xs : Array Value) (h : 1 ≤ xs.size) : ((List.range (xs.size - 1)).filterMap fun (m : Nat) => xs[((xs.size : Int) - 2 + (m : Int) * -1).toNat]?).toArray = xs.toList.dropLast.reverse.toArray := by
  congr 1
  have ln : xs.toList.dropLast.length = xs.size - 1 := by rw [List.length_dropLast, Array.length_toList]
  have z := pick_run xs.toList.dropLast.reverse.toArray 0 (xs.size - 1)
  rw [List.filterMap_map] at z
  rw [List.drop_zero, List.take_of_length_le (by simp)] at z
  refine Eq.trans (fm_congr fun m hm => ?_) z
  have hm' : m < xs.size - 1 := List.mem_range.mp hm
  have e : ((xs.size : Int) - 2 + (m : Int) * -1).toNat = xs.size - 2 - m := by omega
  rw [e]
  show _ = (xs.toList.dropLast.reverse.toArray)[0 + m]?
  have e2 : (xs.toList.dropLast.reverse.toArray)[m]? = xs.toList.dropLast.reverse[m]? := by
    rw [← Array.getElem?_toList]
  rw [Nat.zero_add, e2, List.getElem?_reverse (by rw [ln]; exact hm'), ln, List.getElem?_dropLast]
  rw [if_pos (by rw [Array.length_toList]; omega), Array.getElem?_toList]
  congr 1
theorem getItem_rev2 {t sl : Addr} {items : Array Value} {u u2 : Tok} {Q : Value → Shared → Prop} (ht : IsTup s.heap t items) (hs : s.heap.IsSliceOf sl (.int (-2) u2) .none (.int (-1) u)) (hsz : items.size ≤ sizeLine) (h1 : 1 ≤ items.size)
    (h : Q (.ref s.heap.objs.size) { s with heap := s.heap.push { cls := .type "tuple", data := .seq items.toList.dropLast.reverse.toArray } }) : wpAny (model prog w) A (getItem (.ref t) (.ref sl)) Q E s := by
  obtain ⟨os, hos, hcs, hds⟩ := id hs
  have ts : s.TypeIs (.ref sl) "slice" := ⟨os, hos, hcs⟩
  unfold getItem
  try with_reducible refine wpAny_holding ?_
  first | refine wpAny_bind (wpAny_pure ?_) | skip
  refine wpAny_bind (wpAny_sequenceKey ht.typeIs (by decide) ?_)
  refine wpAny_bind (wpAny_callSpecial?_slot (name := Str.ofString "__getitem__") ht.typeIs PyProof.Rows.slot_tuple_getitem (wpAny_call_entry PyProof.Rows.slot_tuple_getitem ht.typeIs entry_tuple_getitem ?_ (args_tuple_getitem _ _)))
  show wpAny _ _ (Builtin.Tuple.tupleItemsOf (.ref t) >>= _) _ _ s
  refine wpAny_bind (tupleItemsOf_ ht (wpAny_bind (wpAny_typeOf ts ?_)))
  rw [if_pos (by decide)]
  refine wpAny_bind (applied_rev2 hs h1 ?_)
  have no : ¬ ((((items.size : Int) - 2) == 0 && (-1 : Int) == 1 && items.size - 1 == items.size) = true) := by simp
  show wpAny _ _ (if (((items.size : Int) - 2) == 0 && (-1 : Int) == 1 && items.size - 1 == items.size) = true then _ else _) _ _ s
  rw [if_neg no, pick_rev2 _ h1]
  have ok : sizeOk (.seq items.toList.dropLast.reverse.toArray) := by
    show items.toList.dropLast.reverse.toArray.size ≤ sizeLine
    simp
    omega
  first
    | exact wpAny_bind (m := Builtin.Tuple.tupleExact _) (wpAny_newObj_type (wpAny_pure ⟨_, rfl, wpAny_pure h⟩) ok)
    | exact wpAny_bind (m := Builtin.Tuple.tupleExact _) (wpAny_newObj_type (wpAny_bind (wpAny_pure (wpAny_pure ⟨_, rfl, wpAny_pure h⟩))) ok)
    | exact wpAny_bind (wpAny_bind (m := Builtin.Tuple.tupleExact _) (wpAny_newObj_type (wpAny_pure (wpAny_pure ⟨_, rfl, wpAny_pure h⟩)) ok))
    | exact wpAny_bind (wpAny_bind (m := Builtin.Tuple.tupleExact _) (wpAny_newObj_type (wpAny_pure ⟨_, rfl, wpAny_pure h⟩) ok))
end
section
variable {X : Cx}
theorem dropLast_vals : ∀ {xs : List V} {us : List Value}, Vals xs us → Vals xs.dropLast us.dropLast
  | _, _, .nil => .nil
  | _, _, .cons a .nil => .nil
  | _, _, .cons a (.cons b r) => .cons a (dropLast_vals (.cons b r))
def tRevT2 (te : TE) : TE := fun σ H Q => te σ H fun x H1 => ∃ a xs, x = .ref a ∧ H1 a = some (.tup xs) ∧ xs ≠ [] ∧ ∀ p, H1 p = none → Q (.ref p) (upd H1 p (.tup xs.dropLast.reverse))
theorem pe_revT2 {e : Expr} {te : TE} {k k0 : Nat} {p1 p2 p3 p4 p5 pos : Pos} (he : PE X e te) : PE X (.Subscript e (.Slice (some (.UnaryOp .USub (.Constant (.int 2) k0 p4) p5)) none (some (.UnaryOp .USub (.Constant (.int 1) k p1) p2)) p3) pos) (tRevT2 te) := by
  refine ⟨fun pins s σ H Q I h => Subscript_ (thn (he.run pins s σ H _ I h) fun v s1 ⟨x, H1, I1, r1, a, xs, ex, hx, hne, q⟩ => ?_)⟩
  subst ex
  cases r1
  have st : PO X (some (.UnaryOp .USub (.Constant (.int 1) k p1) p2)) (tPart (tUn (rU fun i => .int (-i)) (tC (.int 1)))) := po_some (pe_un un_neg pe_int)
  have sl : PO X (some (.UnaryOp .USub (.Constant (.int 2) k0 p4) p5)) (tPart (tUn (rU fun i => .int (-i)) (tC (.int 2)))) := po_some (pe_un un_neg pe_int)
  refine wpAny_Slice (thn (sl.run pins s1 σ H1 (fun o H2 => o = some (-2) ∧ H2 = H1) I1 ⟨2, rfl, -2, rfl, rfl, rfl⟩) fun vl s2 ⟨l, H2, I2, pl, el, e2⟩ => ?_)
  subst el e2
  refine thn (po_none.run pins s2 σ H2 (fun o H3 => o = none ∧ H3 = H2) I2 ⟨rfl, rfl⟩) fun vu s3 ⟨u, H3, I3, pu, eu, e3⟩ => ?_
  subst eu e3
  refine thn (st.run pins s3 σ H3 (fun o H4 => o = some (-1) ∧ H4 = H3) I3 ⟨1, rfl, -1, rfl, rfl, rfl⟩) fun vs s4 ⟨o, H4, I4, ps, eo, e4⟩ => ?_
  subst eo e4
  have I5 : Inv X pins σ H4 { s4 with heap := s4.heap.push { cls := .type "slice", data := .fields #[vl, vu, vs] } } := I4.kept (t' := s4.toks) fun b ob q => Heap.get?_push_of_some _ q
  obtain ⟨its, r, ht, hz⟩ := I5.tuple (SqT.of (K := X.K) hx)
  show wpAny (model X.prog X.w) X.A (subscriptTail e (.Slice (some (.UnaryOp .USub (.Constant (.int 2) k0 p4) p5)) none (some (.UnaryOp .USub (.Constant (.int 1) k p1) p2)) p3) (.ref a) (.ref s4.heap.objs.size)) (EP X pins σ Q) X.xe { s4 with heap := s4.heap.push { cls := .type "slice", data := .fields #[vl, vu, vs] } }
  cases pl
  cases pu
  cases ps
  refine tail_any (ops := [.ref a, .ref s4.heap.objs.size]) ht.typeIs (PyProof.Rows.slot_tuple_getitem.lookup) ?_ (by with_unfolding_all rfl)
  refine getItem_rev2 ht (Heap.IsSliceOf.new _ _ _ _) (by rw [List.size_toArray, ← r.length]; exact hz) (by rw [List.size_toArray, ← r.length]; exact List.length_pos_iff.mpr hne) ?_
  refine ⟨.ref _, _, I5.laid (t' := s4.toks) (o := .tup xs.dropLast.reverse) (fun b ob q => Heap.get?_push_of_some _ q) (Nat.le_refl _) ?_, rfl, q _ (I5.hok.fresh (Nat.le_refl _))⟩
  exact ⟨by rw [List.length_reverse, List.length_dropLast]; omega, its.dropLast.reverse, (dropLast_vals r).reverse, ⟨_, Heap.get?_push_size _ rfl, rfl, _, rfl⟩⟩
end
end RT
set_option Elab.async false
set_option linter.all false
set_option maxRecDepth 100000
set_option maxHeartbeats 4000000
/-! the law's own look at rows of numbers -/
namespace U4
open PySem L2 L2H DQ K01 RU
def spLUn : Sp := fun vs H Q _ => ∃ (pe ps : Addr) (v : V) (xe xs : List V) (es ss : List PyData) (row : List Nat) (e : Nat), vs = [.ref pe, .ref ps, v] ∧ H pe = some (.lst xe) ∧ DqAll H xe es ∧ H ps = some (.lst xs) ∧ DqAll H xs ss ∧ ESd es ss ∧ Dq H v (.tuple (rowD row e)) ∧ (∀ k ∈ row, k < ss.length) ∧ e < es.length ∧ row.length ≤ 75000 ∧
  ∀ r H', Same H H' → Dq H' r (unfD es ss row e) → Q r H'
def spLDe : Sp := fun vs H Q _ => ∃ (ps : Addr) (v : V) (xs : List V) (ss : List PyData) (row : List Nat) (e : Nat), vs = [.ref ps, v] ∧ H ps = some (.lst xs) ∧ DqAll H xs ss ∧ (∀ d ∈ ss, StepD d) ∧ Dq H v (.tuple (rowD row e)) ∧ (∀ k ∈ row, k < ss.length) ∧ row.length ≤ 75000 ∧
  ∀ H', Same H H' → Q (.int ((depthR ss row : Nat) : Int)) H'
def spLIs : Sp := fun vs H Q _ => ∃ (pe ps : Addr) (v : V) (d : PyData) (xe xs : List V) (es ss : List PyData), vs = [.ref pe, .ref ps, v] ∧ H pe = some (.lst xe) ∧ DqAll H xe es ∧ H ps = some (.lst xs) ∧ DqAll H xs ss ∧ ESd es ss ∧ Dq H v d ∧ few d ∧ ∀ H', Same H H' → Q (.bl (unfB es ss d)) H'
theorem depth_sum (ss : List PyData) : ∀ l : List Nat, (l.map fun k => ((lvOf (ss.getD k .none) : Nat) : Int)).sum = ((depthR ss l : Nat) : Int)
  | [] => rfl
  | a :: l => by
    rw [List.map_cons, List.sum_cons, depth_sum ss l]
    show _ = ((List.sum (lvOf (ss.getD a .none) :: l.map fun k => lvOf (ss.getD k .none)) : Nat) : Int)
    rw [List.sum_cons, Int.natCast_add]
    rfl
abbrev nUn : List Str := ["ends", "steps", "row", "tree", "k"]
abbrev nDe : List Str := ["steps", "row", "k"]
abbrev nIr : List Str := ["ends", "steps", "thing", "x"]
section
variable {P : Program} {w : World} {K : PySem.W.Frag} {mg : Str → Option Value} {base : Heap}
theorem scUn : FnScope nUn ["ends", "steps", "row"] (defScope sUnf) := ⟨rfl, rfl, rfl, by decide +kernel, rfl, by decide +kernel, by decide +kernel⟩
theorem scDe : FnScope nDe ["steps", "row"] (defScope sDep) := ⟨rfl, rfl, rfl, by decide +kernel, rfl, by decide +kernel, by decide +kernel⟩
theorem scIr : FnScope nIr ["ends", "steps", "thing"] (defScope sIsRow) := ⟨rfl, rfl, rfl, by decide +kernel, rfl, by decide +kernel, by decide +kernel⟩
theorem ok_lun {f fP : Addr} {fd dP : FuncData} (F : Fun K "_law_unfolded" "_law_unfolded" sUnf f fd) (FP : Fun K "_law_put" "_law_put" sPut fP dP) (bP : Binds K dP ["body", "tree"] []) (gP : mg "_law_put" = some (.ref fP)) (GP : FnOk P w K mg base CX0 5 fP dP ["body", "tree"] (spPutX 4)) :
    FnOk P w K mg base CX0 6 f fd ["ends", "steps", "row"] spLUn := by
  refine F.ok (k := 5) scUn (fun vs H Q E h => ?_) (fun cdv A outer s H vs Q E hr h => ?_)
  · obtain ⟨pe, ps, v, xe, xs, es, ss, row, e, rfl, _⟩ := h
    rfl
  · obtain ⟨pe, ps, v, xe, xs, es, ss, row, e, rfl, he, ae, hs, as', hE, hv, hk, hel, hl, kk⟩ := h
    refine ⟨_, pss_cons (ps_set (i := 3) scUn.nd rfl (Or.inl rfl) (pe_ix ix_list (pv 0) (pe_ix ix_tup (pv 2) (pe_un un_neg pe_int) (fun _ _ => rfl)) (fun _ _ => rfl)))
      (pss_cons (ps_for PassesOwn.never rfl (pi_tup (RT.pe_revT2 (pv 2))) (pg_name (i := 4) scUn.nd rfl (Or.inl rfl))
        (pss_one (ps_set (i := 3) scUn.nd rfl (Or.inl rfl) (pe_call GP hr (by rfl) gP FP.kp bP .nil pass0 (pa_cons (pe_ix ix_list (pv 1) (pv 4) (fun _ _ => rfl)) (pa_cons (pv 3) pa_nil))))))
      (pss_one (ps_ret (pv 3)))), ?_⟩
    obtain ⟨pv', xr, rfl, ev, av⟩ := dq_tup hv
    have ex := rowD_vals av
    subst ex
    have eg0 : es[e]? = some (es.getD e .none) := by rw [List.getD_eq_getElem?_getD, List.getElem?_eq_getElem hel]; rfl
    obtain ⟨v0, hv0, q0⟩ := ae.at eg0
    refine ⟨_, rfl, _, rfl, 1, rfl, pv', _, -1, .int (e : Int), rfl, rfl, SqT.of ev, at_lastV _ _, pe, _, (e : Int), v0, rfl, rfl, SqL.of he, atI_nat hv0, ?_⟩
    refine ⟨_, rfl, pv', _, rfl, ev, by simp, fun p1 n1 => ⟨p1, rfl, ⟨_, SqT.of upd_same⟩, ?_⟩⟩
    rw [List.dropLast_concat]
    refine for_tup (xs := (row.map fun (k : Nat) => V.int (k : Int)).reverse) (fun i σ' H' => ∃ (v : V) (w4 : Option V), σ' = [some (.ref pe), some (.ref ps), some (.ref pv'), some v, w4] ∧ Same H H' ∧ H' p1 = some (.tup (row.map fun (k : Nat) => V.int (k : Int)).reverse) ∧ Dq H' v (unfD es ss (row.drop (row.length - i)) e))
      ⟨v0, none, rfl, same_new n1, upd_same, ?_⟩ (fun i σ H' _ ⟨_, _, _, _, e, _⟩ => SqT.of e) ?_ ?_
    · rw [Nat.sub_zero, List.drop_length]
      exact q0.same (same_new n1)
    · rintro i x σ' H' hx ⟨v, w4, rfl, s', ep1, qd⟩
      have hi : i < row.length := by
        have := (List.getElem?_eq_some_iff.mp hx).1
        rw [List.length_reverse, List.length_map] at this
        exact this
      rw [List.getElem?_reverse (by rw [List.length_map]; exact hi), List.getElem?_map, List.length_map] at hx
      obtain ⟨k, hk', rfl⟩ := Option.map_eq_some_iff.mp hx
      have hks : k < ss.length := hk k (List.mem_of_getElem? hk')
      have eg : ss[k]? = some (ss.getD k .none) := by rw [List.getD_eq_getElem?_getD, List.getElem?_eq_getElem hks]; rfl
      obtain ⟨vb, hvb, qb⟩ := as'.at eg
      have sd := hE.2.2.2.2 _ (List.mem_of_getElem? eg)
      obtain ⟨q, hq, _⟩ := id sd
      obtain ⟨⟨mt, bt, hr'⟩, _⟩ := unf_fine hE hel (row := row.drop (row.length - i)) fun k hk0 => by
        have := List.mem_of_mem_drop hk0
        exact hk k this
      refine ⟨_, rfl, _, rfl, ps, _, (k : Int), vb, rfl, rfl, SqL.of (s' _ _ hs), atI_nat hvb, _, rfl, vb, v, _, _, q, 1, mt, bt, rfl, qb.same s', hq.tc, Nat.le_refl _, qd, hr', fun r H7 s7 q7 => ?_⟩
      refine ⟨r, _, rfl, same_trans s' s7, s7 _ _ ep1, ?_⟩
      have ed : row.drop (row.length - (i + 1)) = k :: row.drop (row.length - i) := by
        have e1 : row.length - (i + 1) = row.length - 1 - i := by omega
        rw [e1, List.drop_eq_getElem_cons (by omega : row.length - 1 - i < row.length)]
        congr 1
        · exact Option.some.inj ((List.getElem?_eq_getElem _).symm.trans hk')
        · congr 1
          omega
      rw [ed]
      show Dq H7 r (putR (ss.getD k .none) (unfD es ss (row.drop (row.length - i)) e))
      rw [putR_rt hr']
      exact q7
    · rintro σ' H' ⟨v, w4, rfl, s', ep1, qd⟩
      rw [List.length_reverse, List.length_map, Nat.sub_self, List.drop_zero] at qd
      exact ⟨_, rfl, kk v H' s' qd⟩
theorem ok_lde {f fC : Addr} {fd dC : FuncData} (F : Fun K "_law_depth" "_law_depth" sDep f fd) (FC : Fun K "_law_call_level" "_law_call_level" sLCL fC dC) (bC : Binds K dC ["body"] []) (gC : mg "_law_call_level" = some (.ref fC))
    (tL : mg "len" = none) (tS : mg "sum" = none) : FnOk P w K mg base CX0 6 f fd ["steps", "row"] spLDe := by
  have GC : FnOk P w K mg base CX0 5 fC dC ["body"] (spLv 3) := ok_lcl FC bC gC tL 4
  refine F.ok (k := 5) scDe (fun vs H Q E h => ?_) (fun cdv A outer s H vs Q E hr h => ?_)
  · obtain ⟨ps, v, xs, ss, row, e, rfl, _⟩ := h
    rfl
  · obtain ⟨ps, v, xs, ss, row, e, rfl, hs, as', hE, hv, hk, hl, kk⟩ := h
    refine ⟨_, pss_one (ps_ret (pe_callB (cr_sum rfl) (by rfl) tS (by decide +kernel) (pa_cons (pe_lc (own := [("k", 2)]) (g := gName 2) (tt := tYes) rfl scDe.nd (pi_tup (pe_slice sl_tupF (pv 1) po_none (po_some (pe_un un_neg pe_int)))) (blkOk_by (own := [("k", 2)]) (N := nDe) (sc := defScope sDep) (by decide +kernel))
        (fun _ _ _ _ _ => pg_name (i := 2) scDe.nd rfl (Or.inl rfl)) (fun _ _ _ _ _ => pts_nil) (fun _ _ _ _ _ => pe_call GC hr (by rfl) gC FC.kp bC .nil pass0 (pa_cons (pe_ix (ix_listK (K := K) rfl) (pv 0) (pv 2) (fun _ _ => rfl)) pa_nil))) pa_nil))), ?_⟩
    obtain ⟨pv', xr, rfl, ev, av⟩ := dq_tup hv
    have ex := rowD_vals av
    subst ex
    refine ⟨_, rfl, 1, rfl, -1, rfl, pv', _, rfl, ev, fun p2 H2 s2 e2 => ?_⟩
    rw [cut_all_but] at e2
    refine ⟨p2, rfl, ⟨_, SqT.of e2⟩, fun D2 nD2 => ?_⟩
    refine lc_it (walk_tup (xs := row.map fun (k : Nat) => V.int (k : Int))) (fun i H' => Same H2 H' ∧ H' D2 = some (.lst (((row.take i).map fun k => ((lvOf (ss.getD k .none) : Nat) : Int)).map V.int))) ⟨same_new nD2, upd_same⟩ (fun i H' _ p' => SqT.of (p'.1 _ _ e2)) ?_ ?_
    · rintro i y H3 H4 hi ⟨s3, e3⟩ ⟨rfl, hx⟩
      rw [List.length_map] at hi
      rw [List.getElem?_map] at hx
      obtain ⟨k, hk', rfl⟩ := Option.map_eq_some_iff.mp hx
      refine ⟨rfl, ?_⟩
      unfold tYes
      refine iteT ?_
      have hks : k < ss.length := hk k (List.mem_of_getElem? hk')
      have eg : ss[k]? = some (ss.getD k .none) := by rw [List.getD_eq_getElem?_getD, List.getElem?_eq_getElem hks]; rfl
      obtain ⟨vb, hvb, qb⟩ := as'.at eg
      have sd := hE _ (List.mem_of_getElem? eg)
      obtain ⟨q, hq, _⟩ := id sd
      have sA := same_trans s2 s3
      refine ⟨_, rfl, _, rfl, ps, _, (k : Int), vb, rfl, rfl, SqL.of (sA _ _ hs), atI_nat hvb, vb, _, q, 1, rfl, qb.same sA, hq.tc, fun H5 s5 => ?_⟩
      rw [show 3 + 1 = 4 from rfl, (lv_step sd).1]
      refine ⟨_, s5 _ _ e3, smallM ?_, fun b o z => ?_, ?_⟩
      · rw [List.length_map, List.length_map, List.length_take]
        omega
      · rw [upd_ne (ne_of_none z nD2)]
        exact s5 _ _ (s3 _ _ z)
      · rw [upd_same, take_snoc hk', List.map_append]
        rfl
    rintro H3 ⟨s3, e3⟩
    rw [List.take_of_length_le (by rw [List.length_map]; exact Nat.le_refl _)] at e3
    refine ⟨_, _, rfl, SqL.of e3, ?_⟩
    rw [depth_sum]
    exact kk H3 (same_trans s2 s3)
end
end U4
set_option Elab.async false
set_option linter.all false
set_option maxRecDepth 100000
set_option maxHeartbeats 4000000
/-! the law's own look: whether a thing is an unfolding -/
namespace U4
open PySem L2 L2H DQ K01 RU
def goodN : PyData → Bool
  | .int i => decide (0 ≤ i)
  | _ => false
theorem good_nat {d : PyData} (h : goodN d = true) : d = .int ((natOf d : Nat) : Int) := by
  cases d with
  | int i =>
    have a := of_decide_eq_true (show decide (0 ≤ i) = true from h)
    show PyData.int i = .int ((i.toNat : Nat) : Int)
    rw [Int.toNat_of_nonneg a]
  | _ => cases h
theorem goods_row {ds : List PyData} (hne : ds ≠ []) (h : ds.all goodN = true) : ∃ row e, ds = rowD row e := by
  have e1 : ds = ds.map fun d => PyData.int ((natOf d : Nat) : Int) := by
    have : ∀ l : List PyData, l.all goodN = true → l = l.map fun d => PyData.int ((natOf d : Nat) : Int) := by
      intro l
      induction l with
      | nil => exact fun _ => rfl
      | cons a l ih =>
        intro h
        obtain ⟨h1, h2⟩ := Bool.and_eq_true_iff.mp (show (goodN a && l.all goodN) = true from h)
        rw [List.map_cons, ← ih h2, ← good_nat h1]
    exact this ds h
  refine ⟨ds.dropLast.map natOf, natOf (ds.getLast hne), ?_⟩
  unfold rowD
  rw [List.map_map]
  have e2 : ds = ds.dropLast ++ [ds.getLast hne] := (List.dropLast_concat_getLast hne).symm
  have e3 := e1
  rw [e2, List.map_append] at e3
  exact e2.trans e3
theorem rowD_good (row : List Nat) (e : Nat) : (rowD row e).all goodN = true := by
  unfold rowD
  rw [List.all_append, List.all_map]
  refine Bool.and_eq_true_iff.mpr ⟨List.all_eq_true.mpr fun k _ => decide_eq_true (Int.natCast_nonneg k), ?_⟩
  show (decide (0 ≤ (e : Int)) && true) = true
  rw [Bool.and_true]
  exact decide_eq_true (Int.natCast_nonneg e)
theorem unfAll_good {ne ns : Nat} {ds : List PyData} (h : ds.all goodN = false) : unfAll ne ns (.tuple ds) = false := by
  cases hu : unfAll ne ns (.tuple ds) with
  | false => rfl
  | true =>
    obtain ⟨e1, _⟩ := unf_row hu
    have e2 : ds = rowD (rowOf (.tuple ds)) (endOf (.tuple ds)) := PyData.tuple.inj e1
    rw [e2, rowD_good] at h
    cases h
theorem numB_nat (k n : Nat) : numB (.int (k : Int)) (n : Int) = decide (k < n) := by
  show (decide (0 ≤ (k : Int)) && decide ((k : Int) < (n : Int))) = _
  rw [decide_eq_true (Int.natCast_nonneg k), Bool.true_and, Bool.eq_iff_iff, decide_eq_true_eq, decide_eq_true_eq]
  omega
theorem unfAll_row (ne ns : Nat) (row : List Nat) (e : Nat) : unfAll ne ns (.tuple (rowD row e)) = (row.all (fun k => decide (k < ns)) && decide (e < ne)) := by
  show (!(rowD row e).isEmpty && ((rowD row e).dropLast.all (fun d => numB d (ns : Int)) && numB ((rowD row e).getLastD .none) (ne : Int))) = _
  unfold rowD
  rw [List.dropLast_concat, show (row.map (fun (k : Nat) => PyData.int (k : Int)) ++ [PyData.int (e : Int)]).getLastD .none = PyData.int (e : Int) by simp, numB_nat, List.all_map]
  have e1 : ((fun d => numB d (ns : Int)) ∘ fun (k : Nat) => PyData.int (k : Int)) = fun k => decide (k < ns) := funext fun k => numB_nat k ns
  rw [e1]
  simp
theorem rowOf_row (row : List Nat) (e : Nat) : rowOf (.tuple (rowD row e)) = row := by
  show (rowD row e).dropLast.map natOf = row
  unfold rowD
  rw [List.dropLast_concat, List.map_map]
  have : (natOf ∘ fun (k : Nat) => PyData.int (k : Int)) = id := funext fun k => Int.toNat_natCast k
  rw [this, List.map_id]
theorem endOf_row (row : List Nat) (e : Nat) : endOf (.tuple (rowD row e)) = e := by
  show natOf ((rowD row e).getLastD .none) = e
  unfold rowD
  rw [show (row.map (fun (k : Nat) => PyData.int (k : Int)) ++ [PyData.int (e : Int)]).getLastD .none = PyData.int (e : Int) by simp]
  exact Int.toNat_natCast e
section
variable {P : Program} {w : World} {K : PySem.W.Frag} {mg : Str → Option Value} {base : Heap}
theorem call_isiK {X : Cx} {K : PySem.W.Frag} (hK : X.K = K) : CallR X (.builtin "isinstance") (rIsi K) := by
  subst hK
  exact call_isi
theorem ok_lis {f fD : Addr} {fd dD : FuncData} (F : Fun K "_law_is_row" "_law_is_row" sIsRow f fd) (FD : Fun K "_law_depth" "_law_depth" sDep fD dD) (bD : Binds K dD ["steps", "row"] []) (gD : mg "_law_depth" = some (.ref fD)) (GD : FnOk P w K mg base CX0 6 fD dD ["steps", "row"] spLDe)
    (T : TR mg) : FnOk P w K mg base CX0 7 f fd ["ends", "steps", "thing"] spLIs := by
  refine F.ok (k := 6) scIr (fun vs H Q E h => ?_) (fun cdv A outer s H vs Q E hr h => ?_)
  · obtain ⟨pe, ps, v, d, xe, xs, es, ss, rfl, _⟩ := h
    rfl
  · obtain ⟨pe, ps, v, d, xe, xs, es, ss, rfl, he, ae, hs, as', hE, hd, hf, kk⟩ := h
    have hu1 : (A.deeper (PyProof.Rows.envOfC "_law_is_row" (defScope sIsRow) s.heap.objs.size f cdv)).units < cLine := by have := hr.un; omega
    refine ⟨_, pss_cons (ps_if (PW.pt (pw_or (pt_not (pt_val (pe_callB call_isi (by rfl) T.isi bisi (pa_cons (pv 2) (pa_cons (pe_bltn (v := .ty "tuple") (by rfl) T.tuple btup rfl) pa_nil))))) (pw_or1 (pt_cmpR (NI.op_eqNilT hu1) (pv 2) (pe_tup pa_nil) (by rfl))))) (pss_one (ps_ret pe_bl)) pss_nil)
      (pss_cons (ps_if (pt_cmpR (NI.op_neNil hu1) (pe_lc (own := [("x", 3)]) (g := gName 3) rfl scIr.nd (pi_tup (pv 2)) (blkOk_by (own := [("x", 3)]) (N := nIr) (sc := defScope sIsRow) (by decide +kernel))
          (fun _ _ _ _ _ => pg_name (i := 3) scIr.nd rfl (Or.inl rfl)) (fun _ _ _ _ _ => pts_one (PW.pt (pw_or (pt_not (pt_val (pe_callB (call_isiK (K := K) rfl) (by rfl) T.isi bisi (pa_cons (pv 3) (pa_cons (pe_bltn (v := .ty "int") (by rfl) T.int bintT rfl) pa_nil)))))
            (pw_or (pt_val (pe_callB (call_isiK (K := K) rfl) (by rfl) T.isi bisi (pa_cons (pv 3) (pa_cons (pe_bltn (v := .ty "bool") (by rfl) T.bool bboolT rfl) pa_nil)))) (pw_or1 (pt_cmpR op_lt (pv 3) pe_int (nomark _))))))) (fun _ _ _ _ _ => pv 3)) (pe_lst pa_nil) (by rfl)) (pss_one (ps_ret pe_bl)) pss_nil)
      (pss_cons (ps_if (PW.pt (pw_or (pt_cmpR op_ge (pe_ix ix_tup (pv 2) (pe_un un_neg pe_int) (fun _ _ => rfl)) (pe_callB call_len_seq (by rfl) T.len PySem.boot_len (pa_cons (pv 0) pa_nil)) (by rfl))
          (pw_or1 (pt_cmpR (NI.op_neNil hu1) (pe_lc (own := [("x", 3)]) (g := gName 3) rfl scIr.nd (pi_tup (pe_slice sl_tupF (pv 2) po_none (po_some (pe_un un_neg pe_int)))) (blkOk_by (own := [("x", 3)]) (N := nIr) (sc := defScope sIsRow) (by decide +kernel))
            (fun _ _ _ _ _ => pg_name (i := 3) scIr.nd rfl (Or.inl rfl)) (fun _ _ _ _ _ => pts_one (pt_cmpR op_ge (pv 3) (pe_callB (call_len_seqK (K := K) rfl) (by rfl) T.len PySem.boot_len (pa_cons (pv 1) pa_nil)) (nomark _))) (fun _ _ _ _ _ => pv 3)) (pe_lst pa_nil) (by rfl))))) (pss_one (ps_ret pe_bl)) pss_nil)
      (pss_one (ps_ret (pe_cmpR op_le (pe_call GD hr (by rfl) gD FD.kp bD .nil pass0 (pa_cons (pv 1) (pa_cons (pv 2) pa_nil))) pe_int (nomark _)))))), ?_⟩
    have z := kk
    refine ⟨_, rfl, _, .ty "tuple", _, _, _, rfl, .ty _, hd.ty, kit_ty (kt _), _, rfl, ?_⟩
    cases hd with
    | @tup p xv ds e ax =>
      have lx := ax.len
      have l9 := few_len hf
      refine iteF ⟨_, rfl, by decide, fun p0 np0 => ⟨p, p0, xv, rfl, rfl, SqT.of (same_new np0 _ _ e), SqT.of upd_same, _, rfl, ?_⟩⟩
      have s0 := same_new (o := .tup []) np0
      by_cases hne : ds = []
      · subst hne
        obtain rfl : xv = [] := List.eq_nil_of_length_eq_zero lx
        exact iteT (kk _ s0)
      have hxe : xv.isEmpty = false := by
        cases xv with
        | nil => exact absurd (List.eq_nil_of_length_eq_zero lx.symm) hne
        | cons _ _ => rfl
      rw [hxe]
      refine iteF ?_
      generalize upd H p0 (.tup []) = H0 at s0
      refine ⟨_, rfl, p, rfl, ⟨_, SqT.of (s0 _ _ e)⟩, fun D nD => ?_⟩
      refine lc_it (walk_tup (xs := xv)) (fun i H' => Same H0 H' ∧ ∃ ys : List V, H' D = some (.lst ys) ∧ ys.length ≤ i ∧ ys.isEmpty = (ds.take i).all goodN) ⟨same_new nD, [], upd_same, Nat.le_refl _, rfl⟩ (fun i H' _ p' => SqT.of (p'.1 _ _ (s0 _ _ e))) ?_ ?_
      · rintro i y H1 H2 hi ⟨s1, ys, e1, ly, hy⟩ ⟨rfl, hx⟩
        refine ⟨rfl, ?_⟩
        obtain ⟨di, hdi⟩ : ∃ di, ds[i]? = some di := ⟨ds[i]'(by omega), List.getElem?_eq_getElem _⟩
        obtain ⟨v, hv, qv⟩ := ax.at hdi
        obtain rfl : v = y := Option.some.inj (hv.symm.trans hx)
        have tk : (ds.take (i + 1)).all goodN = ((ds.take i).all goodN && goodN di) := by
          rw [List.take_add_one, hdi]
          show ((ds.take i) ++ [di]).all goodN = _
          rw [List.all_append]
          simp
        have qv1 := (qv.same s0).same s1
        have put : ∀ {b}, goodN di = b → b = false → ∃ acc, H2 D = some (.lst acc) ∧ acc.length < sizeLine ∧ (Same H0 (upd H2 D (.lst (acc ++ [v]))) ∧ ∃ ys : List V, upd H2 D (.lst (acc ++ [v])) D = some (.lst ys) ∧ ys.length ≤ i + 1 ∧ ys.isEmpty = (ds.take (i + 1)).all goodN) := by
          intro b hb hb2
          refine ⟨ys, e1, smallM (by omega), fun b o z => ?_, ys ++ [v], upd_same, ?_, ?_⟩
          · rw [upd_ne (ne_of_none z nD)]
            exact s1 _ _ z
          · rw [List.length_append, List.length_singleton]
            omega
          · rw [tk, hb, hb2, Bool.and_false]
            cases ys <;> rfl
        refine ⟨_, rfl, _, .ty "int", _, _, _, rfl, .ty _, qv1.ty, kit_ty (ki _), _, rfl, ?_⟩
        cases qv1 with
        | int i' =>
          refine iteF ⟨_, rfl, _, .ty "bool", _, _, _, rfl, .ty _, (Dq.int (H := H2) i').ty, kit_ty (kb _), _, rfl, iteF ?_⟩
          refine ⟨_, rfl, _, _, rfl, rfl, _, rfl, ?_⟩
          by_cases h0 : i' < 0
          · rw [decide_eq_true h0]
            exact iteT ⟨_, rfl, put rfl (decide_eq_false (by omega))⟩
          · rw [decide_eq_false h0]
            refine iteF ⟨s1, ys, e1, by omega, ?_⟩
            rw [tk, show goodN (.int i') = true from decide_eq_true (by omega), Bool.and_true]
            exact hy
        | bl b => exact iteF ⟨_, rfl, _, .ty "bool", _, _, _, rfl, .ty _, (Dq.bl (H := H2) b).ty, kit_ty (kb _), _, rfl, iteT ⟨_, rfl, put rfl rfl⟩⟩
        | _ => exact iteT ⟨_, rfl, put rfl rfl⟩
      rintro H1 ⟨s1, ys, e1, ly, hy⟩
      rw [List.take_of_length_le (by omega)] at hy
      refine ⟨by decide, fun p3 np3 => ⟨D, p3, ys, rfl, rfl, SqL.of (same_new np3 _ _ e1), SqL.of upd_same, _, rfl, ?_⟩⟩
      have sA := same_trans s0 (same_trans s1 (same_new (o := .lst []) np3))
      generalize upd H1 p3 (.lst []) = H3 at sA
      rw [hy]
      cases hg : ds.all goodN with
      | false =>
        refine iteT ?_
        have zz := kk H3 sA
        unfold unfB at zz
        rw [unfAll_good hg] at zz
        exact zz
      | true =>
        refine iteF ?_
        obtain ⟨row, en, rfl⟩ := goods_row hne hg
        have ex := rowD_vals ax
        subst ex
        have lr : row.length ≤ 75000 := by
          unfold rowD at l9
          rw [List.length_append, List.length_map] at l9
          omega
        have eu : unfB es ss (.tuple (rowD row en)) = ((row.all (fun k => decide (k < ss.length)) && decide (en < es.length)) && decide (depthR ss row ≤ 130)) := by
          unfold unfB
          rw [unfAll_row, rowOf_row]
        rw [eu] at kk
        have le := ae.len
        have ls := as'.len
        refine ⟨_, rfl, 1, rfl, p, _, -1, .int (en : Int), rfl, rfl, SqT.of (sA _ _ e), at_lastV _ _, _, rfl, pe, xe, rfl, .inl (SqL.of (sA _ _ he)), _, _, rfl, rfl, _, rfl, ?_⟩
        by_cases h1 : en < es.length
        · have g1 : decide ((en : Int) ≥ ((xe.length : Nat) : Int)) = false := decide_eq_false (by omega)
          rw [g1]
          rw [decide_eq_true h1, Bool.and_true] at kk
          refine iteF ⟨_, rfl, 1, rfl, -1, rfl, p, _, rfl, sA _ _ e, fun p2 H4 s4 e4 => ?_⟩
          rw [cut_all_but] at e4
          refine ⟨p2, rfl, ⟨_, SqT.of e4⟩, fun D2 nD2 => ?_⟩
          refine lc_it (walk_tup (xs := row.map fun (k : Nat) => V.int (k : Int))) (fun i H' => Same H4 H' ∧ ∃ ys : List V, H' D2 = some (.lst ys) ∧ ys.length ≤ i ∧ ys.isEmpty = (row.take i).all fun k => decide (k < ss.length)) ⟨same_new nD2, [], upd_same, Nat.le_refl _, rfl⟩ (fun i H' _ p' => SqT.of (p'.1 _ _ e4)) ?_ ?_
          · rintro i y H5 H6 hi ⟨s5, ys5, e5, ly5, hy5⟩ ⟨rfl, hx⟩
            rw [List.length_map] at hi
            rw [List.getElem?_map] at hx
            obtain ⟨k, hk', rfl⟩ := Option.map_eq_some_iff.mp hx
            have tk : (row.take (i + 1)).all (fun k => decide (k < ss.length)) = ((row.take i).all (fun k => decide (k < ss.length)) && decide (k < ss.length)) := by
              rw [List.take_add_one, hk']
              show ((row.take i) ++ [k]).all _ = _
              rw [List.all_append]
              simp
            refine ⟨rfl, _, rfl, _, rfl, ps, xs, rfl, .inl (SqL.of (s5 _ _ (s4 _ _ (sA _ _ hs)))), _, _, rfl, rfl, _, rfl, ?_⟩
            by_cases h2 : k < ss.length
            · have g2 : decide ((k : Int) ≥ ((xs.length : Nat) : Int)) = false := decide_eq_false (by omega)
              rw [g2]
              refine iteF ⟨s5, ys5, e5, by omega, ?_⟩
              rw [tk, decide_eq_true h2, Bool.and_true]
              exact hy5
            · have g2 : decide ((k : Int) ≥ ((xs.length : Nat) : Int)) = true := decide_eq_true (by omega)
              rw [g2]
              refine iteT ⟨_, rfl, ys5, e5, smallM (by omega), fun b o z => ?_, _, upd_same, ?_, ?_⟩
              · rw [upd_ne (ne_of_none z nD2)]
                exact s5 _ _ z
              · rw [List.length_append, List.length_singleton]
                omega
              · rw [tk, decide_eq_false h2, Bool.and_false]
                cases ys5 <;> rfl
          · rintro H5 ⟨s5, ys5, e5, ly5, hy5⟩
            rw [List.take_of_length_le (by rw [List.length_map]; exact Nat.le_refl _)] at hy5
            refine ⟨by decide, fun p7 np7 => ⟨D2, p7, ys5, rfl, rfl, SqL.of (same_new np7 _ _ e5), SqL.of upd_same, _, rfl, ?_⟩⟩
            have sB := same_trans sA (same_trans s4 (same_trans s5 (same_new (o := .lst []) np7)))
            generalize upd H5 p7 (.lst []) = H7 at sB
            rw [hy5]
            cases hall : row.all (fun k => decide (k < ss.length)) with
            | false =>
              have zz := kk H7 sB
              rw [hall] at zz
              exact iteT zz
            | true =>
              refine iteF ?_
              refine ⟨_, rfl, _, rfl, ps, .ref p, xs, ss, row, en, rfl, sB _ _ hs, as'.same sB, hE.2.2.2.2, .tup (sB _ _ e) (ax.same sB), fun k hk => of_decide_eq_true (List.all_eq_true.mp hall k hk), lr, fun H8 s8 => ?_⟩
              have zz := kk H8 (same_trans sB s8)
              rw [hall, Bool.true_and] at zz
              refine ⟨_, _, rfl, rfl, ?_⟩
              have e : decide (((depthR ss row : Nat) : Int) ≤ 130) = decide (depthR ss row ≤ 130) := by
                rw [Bool.eq_iff_iff, decide_eq_true_eq, decide_eq_true_eq]
                omega
              show Q (V.bl (decide (((depthR ss row : Nat) : Int) ≤ 130))) H8
              rw [e]
              exact zz
        · have g1 : decide ((en : Int) ≥ ((xe.length : Nat) : Int)) = true := decide_eq_true (by omega)
          rw [g1]
          have zz := kk H3 sA
          rw [decide_eq_false h1, Bool.and_false, Bool.false_and] at zz
          exact iteT zz
    | _ => exact iteT (z H same_refl)
end
end U4
set_option Elab.async false
set_option linter.all false
set_option maxRecDepth 100000
set_option maxHeartbeats 4000000
/-! what told calls of the program ask; deep data held against one another -/
namespace U4
open PySem PySem.Spec PyProof.Rows L2 L2H DQ K01 RU EnT LamX TrA LamD RZ
open XH hiding same_refl same_trans same_new
/-- x != y of data of any kind, at most so deep -/
def rNeP (K : PySem.W.Frag) (B : Nat) : R2 := fun x y H Q => ∃ d e, Dp K H x d ∧ Dp K H y e ∧ d.canLay0 = true ∧ e.canLay0 = true ∧ d.depth ≤ B ∧ Q (.bl (!PyData.eqv d e)) H
theorem op_neP {X : Cx} {B : Nat} (hu : X.A.units + B < cLine) : OpR X (compareOp .NotEq) (rNeP X.K B) := by
  intro pins s σ H x y v u Q I rx ry h
  obtain ⟨d, e, hd, he, cd, ce, db, q⟩ := h
  obtain ⟨as, r1⟩ := Dp.reads I d x v hd rx
  obtain ⟨bs, r2⟩ := Dp.reads I e y u he ry
  exact SeqAt.compareNe_reads r1 r2 cd ce (by omega) ⟨.bl _, H, I, rfl, q⟩
section
variable {K : PySem.W.Frag} {T : List (Addr × Str)} {C CU a : Addr} {i j : Nat} {σ : L2.St} {H : Hp} {v : V} {d : PyData} {es ss : List PyData} {Q : VK}
theorem cau_out (e1 : ExtN H H1) (t1 : Tabs T H1) (sy : Sys H) (ok : OkD d) (kn : ∀ p H1, ExtN H H1 → Tabs T H1 → H1 p = some (.tup [.str "unfolding", .str d.shown]) → Q (.ref p) H1) : OutB H1 (caughtE CU Q) CU "value" d := by
  intro dd v' H2 s2 e2 q2
  exact ⟨dd, v', d, rfl, q2, (sys_extN sy e1).same s2, ok, rfl, e2, fun p H3 s3 e3 => kn p H3 (extN_trans e1 (extN_same (same_trans s2 s3))) (t1.ext (same_trans s2 s3)) e3⟩
theorem cau_tree (hi : σ[i]? = some (some (.ref a))) (hj : σ[j]? = some (some v)) (r : RulesAt K H a C es ss) (hE : ESd es ss) (hd : Dq H v d) (hf : few d) (ok : OkD d) (sy : Sys H) (tb : Tabs T H)
    (ky : unfB es ss d = true → ∀ r' H1, ExtN H H1 → Tabs T H1 → Dq H1 r' (unfD es ss (rowOf d) (endOf d)) → Q r' H1)
    (kn : unfB es ss d = false → ∀ p H1, ExtN H H1 → Tabs T H1 → H1 p = some (.tup [.str "unfolding", .str d.shown]) → Q (.ref p) H1) :
    tLam T (TCa CU) (fun E => tCall (spTree K C CU) [] E (tCons (tVar i) (tCons (tVar j) tNil))) σ H Q := by
  refine ⟨tb, fun H1 e1 t1 Q' hQ => ?_⟩
  exact ⟨_, hi, _, hj, a, v, d, es, ss, rfl, r.extN e1, hE, hd.extN e1, hf, fun hu r' H2 s2 q2 => hQ _ _ (ky hu r' H2 (extN_trans e1 (extN_same s2)) (t1.ext s2) q2), fun hu => cau_out e1 t1 sy ok (kn hu)⟩
theorem cau_depth (hi : σ[i]? = some (some (.ref a))) (hj : σ[j]? = some (some v)) (r : RulesAt K H a C es ss) (hE : ESd es ss) (hd : Dq H v d) (hf : few d) (ok : OkD d) (sy : Sys H) (tb : Tabs T H)
    (ky : unfB es ss d = true → ∀ H1, ExtN H H1 → Tabs T H1 → Q (.int ((depthR ss (rowOf d) : Nat) : Int)) H1)
    (kn : unfB es ss d = false → ∀ p H1, ExtN H H1 → Tabs T H1 → H1 p = some (.tup [.str "unfolding", .str d.shown]) → Q (.ref p) H1) :
    tLam T (TCa CU) (fun E => tCall (spDepth K C CU) [] E (tCons (tVar i) (tCons (tVar j) tNil))) σ H Q := by
  refine ⟨tb, fun H1 e1 t1 Q' hQ => ?_⟩
  exact ⟨_, hi, _, hj, a, v, d, es, ss, rfl, r.extN e1, hE, hd.extN e1, hf, fun hu H2 s2 => hQ _ _ (ky hu H2 (extN_trans e1 (extN_same s2)) (t1.ext s2)), fun hu => cau_out e1 t1 sy ok (kn hu)⟩
theorem cau_not (hi : σ[i]? = some (some (.ref a))) (hj : σ[j]? = some (some v)) (r : RulesAt K H a C es ss) (hE : ESd es ss) (hd : Dq H v d) (hf : few d) (ok : OkD d) (sy : Sys H) (tb : Tabs T H) (hu : unfB es ss d = false)
    (kn : ∀ p H1, ExtN H H1 → Tabs T H1 → H1 p = some (.tup [.str "unfolding", .str d.shown]) → Q (.ref p) H1) :
    tLam T (TCa CU) (fun E => tCall (spNot K C CU) [] E (tCons (tVar i) (tCons (tVar j) tNil))) σ H Q := by
  refine ⟨tb, fun H1 e1 t1 Q' hQ => ?_⟩
  exact ⟨_, hi, _, hj, a, v, d, es, ss, rfl, r.extN e1, hE, hd.extN e1, hf, hu, cau_out e1 t1 sy ok kn⟩
end
/-- a thing that may be asked about -/
structure ThOk (d : PyData) : Prop where
  f : few d
  p : OkD d
end U4
set_option Elab.async false
set_option linter.all false
set_option maxRecDepth 100000
set_option maxHeartbeats 400000
/-! pairs of texts held against one another -/
namespace U4
open PySem PySem.Spec L2 L2H DQ K01 RU PySem.SeqAt
theorem two_of {x y : V} {i : List Value} (h : Vals [x, y] i) : ∃ a b, i = [a, b] ∧ RelV x a ∧ RelV y b := by
  cases h with
  | cons h1 h =>
    cases h with
    | cons h2 h =>
      cases h
      exact ⟨_, _, rfl, h1, h2⟩
theorem two_lt {j : Nat} (h : j < 2) : j = 0 ∨ j = 1 := by omega
theorem str_rel {x : Str} {v : Value} (h : RelV (.str x) v) : ∃ k, v = .str x k := h
theorem eq_str {A : Around} {s : Shared} (u : Str) (k1 k3 : Tok) : EqAt A s (.str u k1) (.str u k3) true := by
  have z := EqAt.str_str (A := A) (s := s) u k1 u k3
  rw [beq_self_eq_true] at z
  exact z
theorem eq_t2 {A : Around} {s : Shared} {p q : Addr} {a1 b1 a2 b2 : Value} (hu : A.units < cLine) (h1 : EqAt A.in1 s a1 a2 true) (h2 : EqAt A.in1 s b1 b2 true) (t1 : PyProof.Rows.IsTup s.heap p [a1, b1].toArray) (t2 : PyProof.Rows.IsTup s.heap q [a2, b2].toArray) : EqAt A s (.ref p) (.ref q) true := by
  by_cases h : p = q
  · rw [h]
    exact EqAt.same _
  refine EqAt.of_refs h ?_
  have z := RcAt.tuples (e := fun _ => true) t1 t2 hu fun j g1 g2 => (by
    rcases two_lt (j := j) g1 with rfl | rfl
    · exact h1
    · exact h2)
  exact z
/-- [p1, p2] != [q1, q2], all of them like pairs of texts -/
def rNeTw (K : PySem.W.Frag) : R2 := fun x y H Q => ∃ (a b p1 p2 q1 q2 : Addr) (u t : Str), x = .ref a ∧ y = .ref b ∧ SqL K H a [.ref p1, .ref p2] ∧ SqL K H b [.ref q1, .ref q2] ∧
  H p1 = some (.tup [.str u, .str t]) ∧ H p2 = some (.tup [.str u, .str t]) ∧ H q1 = some (.tup [.str u, .str t]) ∧ H q2 = some (.tup [.str u, .str t]) ∧ Q (.bl false) H
/-- p != q, like pairs of texts -/
def rNeTT : R2 := fun x y H Q => ∃ (p q : Addr) (u t : Str), x = .ref p ∧ y = .ref q ∧ H p = some (.tup [.str u, .str t]) ∧ H q = some (.tup [.str u, .str t]) ∧ Q (.bl false) H
section
variable {X : Cx}
theorem tt_at {pins : List (Addr × Obj)} {σ : L2.St} {H : Hp} {s : Shared} (I : L2.Inv X pins σ H s) {p : Addr} {u t : Str} (e : H p = some (.tup [.str u, .str t])) : ∃ k1 k2, PyProof.Rows.IsTup s.heap p [Value.str u k1, Value.str t k2].toArray := by
  obtain ⟨j1, w1, t1, _⟩ := I.tuple (SqT.of (K := X.K) e)
  obtain ⟨a, b, rfl, ra, rb⟩ := two_of w1
  obtain ⟨k1, rfl⟩ := str_rel ra
  obtain ⟨k2, rfl⟩ := str_rel rb
  exact ⟨k1, k2, t1⟩
theorem op_neTw (hu : X.A.units + 100 < cLine) : OpR X (compareOp .NotEq) (rNeTw X.K) := by
  intro pins s σ H x y v w Q I rx ry h
  obtain ⟨a, b, p1, p2, q1, q2, u, t, rfl, rfl, ha, hb, e1, e2, e3, e4, q⟩ := h
  cases rx
  cases ry
  obtain ⟨its, r, pl, _⟩ := I.list ha
  obtain ⟨its2, r2, pl2, _⟩ := I.list hb
  obtain ⟨k1, k2, t1⟩ := tt_at I e1
  obtain ⟨k3, k4, t2⟩ := tt_at I e2
  obtain ⟨k5, k6, t3⟩ := tt_at I e3
  obtain ⟨k7, k8, t4⟩ := tt_at I e4
  obtain ⟨v1, v2, rfl, c1, c2⟩ := two_of r
  obtain ⟨v3, v4, rfl, c3, c4⟩ := two_of r2
  cases c1
  cases c2
  cases c3
  cases c4
  have hu1 : X.A.in1.units < cLine := by
    have e : X.A.in1.units = X.A.units + 1 := rfl
    omega
  have z := RcNeAt.lists (A := X.A) (s := s) (e := fun _ => true) pl.isList pl2.isList rfl (by omega) fun j g1 g2 => (by
    rcases two_lt (j := j) g1 with rfl | rfl
    · exact eq_t2 hu1 (eq_str _ _ _) (eq_str _ _ _) t1 t3
    · exact eq_t2 hu1 (eq_str _ _ _) (eq_str _ _ _) t2 t4)
  exact z _ _ _ _ ⟨.bl false, H, I, rfl, q⟩
theorem op_neTT (hu : X.A.units + 100 < cLine) : OpR X (compareOp .NotEq) rNeTT := by
  intro pins s σ H x y v w Q I rx ry h
  obtain ⟨p, q', u, t, rfl, rfl, e1, e2, q⟩ := h
  cases rx
  cases ry
  obtain ⟨k1, k2, t1⟩ := tt_at I e1
  obtain ⟨k3, k4, t2⟩ := tt_at I e2
  have z := RcNeAt.tuples (A := X.A) (s := s) (e := fun _ => true) t1 t2 (by omega) fun j g1 g2 => (by
    rcases two_lt (j := j) g1 with rfl | rfl
    · exact eq_str _ _ _
    · exact eq_str _ _ _)
  exact z _ _ _ _ ⟨.bl false, H, I, rfl, q⟩
/-- both -/
def rNeX (K : PySem.W.Frag) (B : Nat) : R2 := fun x y H Q => rNeP K B x y H Q ∨ rNeTw K x y H Q
theorem op_neX {B : Nat} (hu : X.A.units + B < cLine) (hB : 100 ≤ B) : OpR X (compareOp .NotEq) (rNeX X.K B) := by
  intro pins s σ H x y v u Q I rx ry h
  rcases h with h | h
  · exact op_neP hu pins s σ H x y v u Q I rx ry h
  · exact op_neTw (by omega) pins s σ H x y v u Q I rx ry h
end
end U4
set_option Elab.async false
set_option linter.all false
set_option maxRecDepth 100000
set_option maxHeartbeats 4000000
/-! the law's things: their bounds; the state of the draws while they are made -/
namespace U4
open PySem L2 L2H DQ K01 RU EnT LamX LamD RZ
open XH hiding same_refl same_trans same_new
theorem th_of {N : Nat} {d : PyData} (hN : N ≤ 10 ^ 40) (h : gd N d = true) (hs : sz d ≤ 300000) (hd : d.depth ≤ 60) : ThOk d := by
  obtain ⟨a, b⟩ := shown_le hN d h
  exact ⟨hs, a, hd, Nat.le_of_lt (smallM (by omega))⟩
structure Fl (d : PyData) : Prop where
  g : gd (10 ^ 30) d = true
  s : sz d ≤ 1921
  d : d.depth = 0
theorem fl_int {i : Int} (h : i.natAbs ≤ 10 ^ 30) : Fl (.int i) := ⟨decide_eq_true h, Nat.le_refl _, rfl⟩
theorem fl_small {i : Int} (h : 0 ≤ i) (h2 : i < 1000) : Fl (.int i) := fl_int (by
  have : i.natAbs ≤ 1000 := by omega
  exact Nat.le_trans this (by decide))
theorem fl_non : Fl .none := ⟨rfl, by decide, rfl⟩
theorem fl_gd {ds : List PyData} (h : ∀ d ∈ ds, Fl d) : gdAll (10 ^ 30) ds = true := gdAll_iff.mpr fun d hd => (h d hd).g
theorem fl_sz : ∀ {ds : List PyData}, (∀ d ∈ ds, Fl d) → szAll ds ≤ 1923 * ds.length
  | [], _ => Nat.zero_le _
  | d :: ds, h => by
    have a := (h d (List.mem_cons_self ..)).s
    have b := fl_sz (ds := ds) fun x hx => h x (List.mem_cons_of_mem _ hx)
    rw [List.length_cons]
    show sz d + 2 + szAll ds ≤ _
    omega
theorem fl_dp {ds : List PyData} (h : ∀ d ∈ ds, Fl d) : PyData.depthAll ds ≤ 0 := dp_all.mpr fun d hd => Nat.le_of_eq (h d hd).d
theorem fl_tup {ds : List PyData} (h : ∀ d ∈ ds, Fl d) : gd (10 ^ 30) (.tuple ds) = true ∧ sz (.tuple ds) ≤ 1923 * ds.length + 4 ∧ (PyData.tuple ds).depth ≤ 1 := by
  refine ⟨?_, ?_, ?_⟩
  · simp only [gd]
    exact fl_gd h
  · simp only [sz]
    have := fl_sz h
    omega
  · simp only [PyData.depth]
    have := fl_dp h
    omega
theorem fl_lst {ds : List PyData} (h : ∀ d ∈ ds, Fl d) : gd (10 ^ 30) (.list ds) = true ∧ sz (.list ds) ≤ 1923 * ds.length + 4 ∧ (PyData.list ds).depth ≤ 1 := by
  refine ⟨?_, ?_, ?_⟩
  · simp only [gd]
    exact fl_gd h
  · simp only [sz]
    have := fl_sz h
    omega
  · simp only [PyData.depth]
    have := fl_dp h
    omega
theorem n30 : 10 ^ 30 ≤ 10 ^ 40 := Nat.pow_le_pow_right (by decide) (by decide)
theorem n31 : 10 ^ 30 + 10 ≤ 10 ^ 40 := by decide +kernel
theorem th_tup {ds : List PyData} (h : ∀ d ∈ ds, Fl d) (hl : ds.length ≤ 150) : ThOk (.tuple ds) := by
  obtain ⟨a, b, c⟩ := fl_tup h
  exact th_of n30 a (by omega) (by omega)
theorem th_lst {ds : List PyData} (h : ∀ d ∈ ds, Fl d) (hl : ds.length ≤ 150) : ThOk (.list ds) := by
  obtain ⟨a, b, c⟩ := fl_lst h
  exact th_of n30 a (by omega) (by omega)
theorem th_bent {ds : List PyData} {d' : PyData} (h : ∀ d ∈ ds, Fl d) (hl : ds.length ≤ 10) (hb : Bnt (10 ^ 30) 12 (.tuple ds) d') : ThOk d' := by
  obtain ⟨a, b, c⟩ := fl_tup h
  obtain ⟨x, y, z⟩ := hb
  exact th_of n31 x (by omega) (by omega)
theorem th_odd {d : PyData} (h : OddD d) : ThOk d := by
  obtain ⟨a, b, c⟩ := h
  exact th_of n30 a (by omega) (by omega)
theorem th_by {d : PyData} (h : (gd (10 ^ 30) d && (decide (sz d ≤ 300000) && decide (d.depth ≤ 60))) = true) : ThOk d := by
  obtain ⟨a, b⟩ := Bool.and_eq_true_iff.mp h
  obtain ⟨b, c⟩ := Bool.and_eq_true_iff.mp b
  exact th_of n30 a (of_decide_eq_true b) (of_decide_eq_true c)
theorem th_bool (b : Bool) : ThOk (.bool b) := th_by (by cases b <;> decide +kernel)
theorem shown_bool (b : Bool) : (PyData.bool b).showable = true ∧ (PyData.bool b).depth ≤ 60 ∧ (PyData.bool b).shown.length ≤ sizeLine := (th_bool b).p
theorem dq_ints {H : Hp} : ∀ L : List Int, DqAll H (L.map V.int) (L.map PyData.int)
  | [] => .nil
  | i :: L => .cons (.int i) (dq_ints L)
theorem fl_ints {L : List Int} (h : ∀ i ∈ L, 0 ≤ i ∧ i < 1000) : ∀ d ∈ L.map PyData.int, Fl d := fun d hd => by
  obtain ⟨i, hi, rfl⟩ := List.mem_map.mp hd
  exact fl_small (h i hi).1 (h i hi).2
theorem zeros (n : Nat) : (List.replicate n [V.int 0]).flatten = (List.replicate n (0 : Int)).map V.int := by
  induction n with
  | zero => rfl
  | succ n ih => rw [List.replicate_succ, List.flatten_cons, ih, List.replicate_succ, List.map_cons]; rfl
/-- what the law has of the turn's rules -/
structure Bs (T : List (Addr × Str)) (K : PySem.W.Frag) (C rl eL sL : Addr) (xs ys : List V) (es ss : List PyData) (G : Hp) : Prop where
  sy : Sys G
  tb : Tabs T G
  ru : RulesAt K G rl C es ss
  hE : G eL = some (.lst xs)
  qE : DqAll G xs es
  hS : G sL = some (.lst ys)
  qS : DqAll G ys ss
/-- things that may be asked about -/
structure Ths (G : Hp) (vs : List V) (ds : List PyData) : Prop where
  q : DqAll G vs ds
  k : ∀ d ∈ ds, ThOk d
section
variable {T : List (Addr × Str)} {K : PySem.W.Frag} {C rl eL sL : Addr} {xs ys vs ws : List V} {es ss ds bs : List PyData} {G G' H : Hp}
theorem Bs.same (b : Bs T K C rl eL sL xs ys es ss G) (s : Same G G') : Bs T K C rl eL sL xs ys es ss G' := ⟨b.sy.same s, b.tb.ext s, b.ru.same s, s _ _ b.hE, b.qE.same s, s _ _ b.hS, b.qS.same s⟩
theorem Bs.en (b : Bs T K C rl eL sL xs ys es ss G) (s : ExtN G G') (t : Tabs T G') : Bs T K C rl eL sL xs ys es ss G' :=
  ⟨sys_extN b.sy s, t, b.ru.extN s, s _ _ b.hE (fun _ z => by cases z), b.qE.extN s, s _ _ b.hS (fun _ z => by cases z), b.qS.extN s⟩
theorem Ths.nil : Ths G [] [] := ⟨.nil, fun d hd => absurd hd List.not_mem_nil⟩
theorem Ths.same (t : Ths G vs ds) (s : Same G G') : Ths G' vs ds := ⟨t.q.same s, t.k⟩
theorem Ths.cons {v : V} {d : PyData} (h : Dq G v d) (k : ThOk d) (t : Ths G vs ds) : Ths G (v :: vs) (d :: ds) := ⟨.cons h t.q, fun e he => by
  rcases List.mem_cons.mp he with rfl | he
  · exact k
  · exact t.k e he⟩
theorem Ths.app (t : Ths G vs ds) (u : Ths G ws bs) : Ths G (vs ++ ws) (ds ++ bs) := ⟨t.q.app u.q, fun e he => by
  rcases List.mem_append.mp he with h | h
  · exact t.k e h
  · exact u.k e h⟩
theorem fr_off_new {m c l p : Addr} {cs ls : List Int} {n : Int} {o : HO} (h : H p = none) : Same (fr H m l) (off (fr (upd H p o) m l) p) := fun b u e => by
  obtain ⟨h1, h2, h3⟩ := fr_of e
  have nb : b ≠ p := fun z => by rw [z, h] at h3; cases h3
  exact off_at (fr_some (by rw [upd_ne nb]; exact h3) h1 h2) nb
end
end U4
set_option Elab.async false
set_option linter.all false
set_option maxRecDepth 100000
set_option maxHeartbeats 16000000
/-! the law's own def -/
namespace U4
open PySem L2 L2H DQ K01 RU EnT LamX LamD RZ
open XH hiding same_refl same_trans same_new
abbrev nLw : List Str := ["script", "m", "turn", "ends", "steps", "things", "k", "row", "many", "is_so", "due", "rules", "thing", "n"]
theorem scLw : FnScope nLw ["script"] (defScope sLaw) := ⟨rfl, rfl, rfl, by decide +kernel, rfl, by decide +kernel, by decide +kernel⟩
abbrev qLw : Str := (("law" : Str) ++ ".<locals>.") ++ "<lambda>"
def spLaw (T : List (Addr × Str)) (K : PySem.W.Frag) : Sp := fun vs H Q _ => ∃ (a : Addr) (ns : List Int), vs = [.ref a] ∧ SqL K H a (ns.map V.int) ∧ ns.length ≤ 63 ∧ Sys H ∧ Tabs T H ∧ ∀ H', Q (.bl true) H'
theorem bmin : bootBuiltins ("min" : Str) = some (.builtin "min") := by decide +kernel
theorem bmax : bootBuiltins ("max" : Str) = some (.builtin "max") := by decide +kernel
theorem ifneR_of {r : R2} {ta : TA} {tv : TE} {t e : TS} {D : Ends} {σ : L2.St} {H : Hp} (h : ta σ H fun xs H1 => xs.length ≤ sizeLine ∧ ∀ p, H1 p = none → tv σ (upd H1 p (.lst xs)) fun y H2 => r (.ref p) y H2 fun z H3 => ∃ k, z = .bl k ∧ (if k = true then t D σ H3 else e D σ H3)) :
    tIfS (tTest (tOp r (tLst ta) tv)) t e D σ H := h
theorem tcons_of {t : TE} {u : TA} {σ : L2.St} {H : Hp} {Q : List V → Hp → Prop} (h : t σ H fun v H1 => u σ H1 fun vs H2 => Q (v :: vs) H2) : tCons t u σ H Q := h
theorem ttr_of {r : R2} {ta tb : TE} {σ : L2.St} {H : Hp} {Q : Bool → Hp → Prop} (h : ta σ H fun x H1 => tb σ H1 fun y H2 => r x y H2 fun z H3 => ∃ k, z = .bl k ∧ Q k H3) : tTest (tOp r ta tb) σ H Q := h
theorem tseq_of {t u : TS} {D : Ends} {σ : L2.St} {H : Hp} (h : t { D with nx := u D } σ H) : tSeq t u D σ H := h
section
variable {P : Program} {w : World} {K : PySem.W.Frag} {mg : Str → Option Value} {base : Heap}
theorem ok_law {f fB fN fO fBe fS fIs fUn fDe fIU fTO fDO fSh fI fCa C CB CU p0 cc PP : Addr} {fd dB dN dO dBe dS dIs dUn dDe dIU dTO dDO dSh dI dCa : FuncData} {T : List (Addr × Str)} (F : Fun K "law" "law" sLaw f fd) (hcd : fd.code = .ref cc) (TB : TabB base mg cc PP) (hmT : (PP, qLw) ∈ T) (huT : ∀ p ∈ T, p.1 = PP → p.2 = qLw)
    (R : RCl K mg C fI) (GI : FnOk P w K mg base (L2.CX P w) 12 fI dI ["self", "ends", "steps"] (spRI K C CB)) (bI : Binds K dI ["self", "ends", "steps"] []) (TT : TR mg)
    (mU : mg "BadUnfolding" = some (.ref CU)) (rU : ExR K CU "value") (uu : PySem.W.exmOne K (.ref CU) (.ref CU) = some true)
    (FCa : Fun K "_law_caught" "_law_caught" sCau fCa dCa) (bCa : Binds K dCa ["call"] []) (gCa : mg "_law_caught" = some (.ref fCa))
    (FB : Fun K "_law_begun" "_law_begun" sBeg fB dB) (bB : Binds K dB ["script"] []) (gB : mg "_law_begun" = some (.ref fB)) (GB : FnOk P w K mg base CX0 1 fB dB ["script"] (spBeg K))
    (FN : Fun K "_law_next" "_law_next" sNext fN dN) (bN : Binds K dN ["m", "many"] []) (gN : mg "_law_next" = some (.ref fN)) (GN : FnOk P w K mg base CX0 1 fN dN ["m", "many"] spNx)
    (FO : Fun K "_law_odd" "_law_odd" sOdd fO dO) (bO : Binds K dO ["m"] []) (gO : mg "_law_odd" = some (.ref fO)) (GO : FnOk P w K mg base CX0 3 fO dO ["m"] (spDr 1 OddD))
    (FE : Fun K "_law_bent" "_law_bent" sBent fBe dBe) (bE : Binds K dBe ["m", "thing"] []) (gE : mg "_law_bent" = some (.ref fBe)) (GE : FnOk P w K mg base CX0 16 fBe dBe ["m", "thing"] (spBe (10 ^ 30) 12))
    (FS : Fun K "_law_ends_and_steps" "_law_ends_and_steps" sEas fS dS) (bS : Binds K dS ["m", "sizes"] []) (gS : mg "_law_ends_and_steps" = some (.ref fS)) (GS : FnOk P w K mg base CX0 8 fS dS ["m", "sizes"] spEas)
    (FIs : Fun K "_law_is_row" "_law_is_row" sIsRow fIs dIs) (bIs : Binds K dIs ["ends", "steps", "thing"] []) (gIs : mg "_law_is_row" = some (.ref fIs)) (GIs : FnOk P w K mg base CX0 7 fIs dIs ["ends", "steps", "thing"] spLIs)
    (FUn : Fun K "_law_unfolded" "_law_unfolded" sUnf fUn dUn) (bUn : Binds K dUn ["ends", "steps", "row"] []) (gUn : mg "_law_unfolded" = some (.ref fUn)) (GUn : FnOk P w K mg base CX0 6 fUn dUn ["ends", "steps", "row"] spLUn)
    (FDe : Fun K "_law_depth" "_law_depth" sDep fDe dDe) (bDe : Binds K dDe ["steps", "row"] []) (gDe : mg "_law_depth" = some (.ref fDe)) (GDe : FnOk P w K mg base CX0 6 fDe dDe ["steps", "row"] spLDe)
    (FIU : Fun K "is_unfolding" "is_unfolding" sIsU fIU dIU) (bIU : Binds K dIU ["rules", "thing"] []) (gIU : mg "is_unfolding" = some (.ref fIU)) (GIU : FnOk P w K mg base CX0 7 fIU dIU ["rules", "thing"] (spIs K C))
    (FTO : Fun K "tree_of" "tree_of" sTreeOf fTO dTO) (bTO : Binds K dTO ["rules", "unfolding"] []) (gTO : mg "tree_of" = some (.ref fTO)) (GTO : FnOk P w K mg base (L2.CX P w) 9 fTO dTO ["rules", "unfolding"] (spTree K C CU))
    (FDO : Fun K "depth_of" "depth_of" sDepOf fDO dDO) (bDO : Binds K dDO ["rules", "unfolding"] []) (gDO : mg "depth_of" = some (.ref fDO)) (GDO : FnOk P w K mg base (L2.CX P w) 9 fDO dDO ["rules", "unfolding"] (spDepth K C CU))
    (FSh : Fun K "shorter" "shorter" sShor fSh dSh) (bSh : Binds K dSh ["rules", "unfolding"] []) (gSh : mg "shorter" = some (.ref fSh)) (GSh : FnOk P w K mg base (L2.CX P w) 9 fSh dSh ["rules", "unfolding"] (spNot K C CU))
    (tR : mg "range" = none) (tM : mg "min" = none) (tX : mg "max" = none) (tP : mg "repr" = none) :
    FnGs P w K mg base 141 f fd ["script"] (spLaw T K) := by
  refine fnGs_of (k := 140) F scLw (fun A outer s H vs Q E hr hg h => ?_)
  obtain ⟨sc, ns, rfl, hsc, hlen, sy, tb, kk⟩ := h
  have hu : (A.deeper (PyProof.Rows.envOfC "law" (defScope sLaw) s.heap.objs.size f fd.code)).units + 2300 < cLine := by have := hr.un; omega
  have hu1 : (A.deeper (PyProof.Rows.envOfC "law" (defScope sLaw) s.heap.objs.size f fd.code)).units + 100 < cLine := by omega
  have hg' : (A.deeper (PyProof.Rows.envOfC "law" (defScope sLaw) s.heap.objs.size f fd.code)).guards = some [] := hg
  refine ⟨_, pss_cons (ps_set (i := 1) scLw.nd rfl (Or.inr rfl) (pe_call GB (hr.mono (by decide)) (by rfl) gB FB.kp bB .nil pass0 (pa_cons (pv 0) pa_nil)))
    (pss_cons (ps_for PassesOwn.never rfl (pi_range1 rfl tR (pa_cons (pe_op op_add pe_int (pe_callB (call_min2 rfl) (by rfl) tM bmin (pa_cons (pe_callB call_len_seq (by rfl) TT.len PySem.boot_len (pa_cons (pv 0) pa_nil)) (pa_cons pe_int pa_nil)))) pa_nil)) (pg_name (i := 2) scLw.nd rfl (Or.inl rfl))
      (pss_cons (ps_asg (pe_call GS (hr.mono (by decide)) (by rfl) gS FS.kp bS .nil pass0 (pa_cons (pv 1) (pa_cons (pe_tup (pa_cons pe_int (pa_cons pe_int (pa_cons pe_int pa_nil)))) pa_nil))) (pg_tup (n := 2) rfl (pgs_cons (pg_name (i := 3) scLw.nd rfl (Or.inl rfl)) (pgs_cons (pg_name (i := 4) scLw.nd rfl (Or.inr rfl)) pgs_nil))))
      (pss_cons (ps_asg (pe_tup (pa_cons (pe_make R.mkc GI (hr.mono (by decide)) (by rfl) R.g bI .nil (passes_call LamX.takes0 fun _ _ _ _ h => h) (pa_cons (pv 3) (pa_cons (pv 4) pa_nil)))
          (pa_cons (pe_lst (pa_cons (pe_tup pa_nil) (pa_cons pe_non (pa_cons pe_int (pa_cons (pe_lst pa_nil) (pa_cons (pe_tup (pa_cons pe_int pa_nil)) (pa_cons (pe_tup (pa_cons pe_int pa_nil)) (pa_cons (pe_tup (pa_cons (pe_un un_neg pe_int) pa_nil)) (pa_cons (pe_tup (pa_cons pe_bl pa_nil)) (pa_cons (pe_tup (pa_cons pe_int (pa_cons pe_int pa_nil)))
            (pa_cons (pe_call GO (hr.mono (by decide)) (by rfl) gO FO.kp bO .nil pass0 (pa_cons (pv 1) pa_nil)) (pa_cons (pe_tup (pa_cons pe_str pa_nil)) pa_nil)))))))))))) pa_nil))) (pg_tup (n := 2) rfl (pgs_cons (pg_name (i := 11) scLw.nd rfl (Or.inr rfl)) (pgs_cons (pg_name (i := 5) scLw.nd rfl (Or.inl rfl)) pgs_nil))))
      (pss_cons (ps_for PassesOwn.never rfl (pi_range1 rfl tR (pa_cons pe_int pa_nil)) (pg_name (i := 6) scLw.nd rfl (Or.inl rfl))
        (pss_cons (ps_set (i := 7) scLw.nd rfl (Or.inl rfl) (pe_op op_catF (pe_callTy call_tuple_of (by rfl) TT.tuple btup (pa_cons (pe_lc (own := [("n", 13)]) (g := gName 13) (tt := tYes) rfl scLw.nd (pi_range1 rfl tR (pa_cons (pe_call GN (hr.mono (by decide)) (by rfl) gN FN.kp bN .nil pass0 (pa_cons (pv 1) (pa_cons pe_int pa_nil))) pa_nil)) (blkOk_by (own := [("n", 13)]) (N := nLw) (sc := defScope sLaw) (by decide +kernel))
            (fun _ _ _ _ _ => pg_name (i := 13) scLw.nd rfl (Or.inl rfl)) (fun _ _ _ _ _ => pts_nil) (fun _ _ _ _ _ => pe_call GN (hr.mono (by decide)) (by rfl) gN FN.kp bN .nil pass0 (pa_cons (pv 1) (pa_cons (pe_callB (call_max2 rfl) (by rfl) tX bmax (pa_cons (pe_callB (call_len_seqK (K := K) rfl) (by rfl) TT.len PySem.boot_len (pa_cons (pv 4) pa_nil)) (pa_cons pe_int pa_nil))) pa_nil)))) pa_nil))
            (pe_tup (pa_cons (pe_call GN (hr.mono (by decide)) (by rfl) gN FN.kp bN .nil pass0 (pa_cons (pv 1) (pa_cons (pe_callB call_len_seq (by rfl) TT.len PySem.boot_len (pa_cons (pv 3) pa_nil)) pa_nil))) pa_nil))))
        (pss_one (ps_set (i := 5) scLw.nd rfl (Or.inl rfl) (pe_op op_cat (pv 5) (pe_lst (pa_cons (pv 7) (pa_cons (pe_callTy call_list_of (by rfl) TT.list blist (pa_cons (pv 7) pa_nil)) (pa_cons (pe_call GE (hr.mono (by decide)) (by rfl) gE FE.kp bE .nil pass0 (pa_cons (pv 1) (pa_cons (pv 7) pa_nil))) (pa_cons (RT.pe_revT (pv 7)) (pa_cons (pe_op op_catF (pv 7) (pe_tup (pa_cons pe_non pa_nil))) pa_nil)))))))))))
      (pss_cons (ps_for PassesOwn.never rfl (pi_tup (pe_tup (pa_cons pe_int (pa_cons pe_int (pa_cons pe_int (pa_cons pe_int (pa_cons pe_int (pa_cons pe_int pa_nil)))))))) (pg_name (i := 8) scLw.nd rfl (Or.inl rfl))
        (pss_one (ps_expr (pe_bm PySem.F.plainAttrs_list PySem.F.slot_list_append PySem.F.type_list_append mt_append (pv 5) (pa_cons (pe_op op_repT (pe_tup (pa_cons pe_int pa_nil)) (pe_op op_add (pv 8) pe_int)) pa_nil)))))
      (pss_one (ps_for PassesOwn.never rfl (pi_list (pv 5)) (pg_name (i := 12) scLw.nd rfl (Or.inr rfl))
        (pss_cons (ps_set (i := 9) scLw.nd rfl (Or.inl rfl) (pe_call GIs (hr.mono (by decide)) (by rfl) gIs FIs.kp bIs .nil pass0 (pa_cons (pv 3) (pa_cons (pv 4) (pa_cons (pv 12) pa_nil)))))
        (pss_cons (ps_if (pt_cmpR op_ne (pe_callB (call_reprX hg' hu1) (by rfl) tP brepr (pa_cons (pe_call GIU (hr.mono (by decide)) (by rfl) gIU FIU.kp bIU .nil pass0 (pa_cons (pv 11) (pa_cons (pv 12) pa_nil))) pa_nil)) (pe_callB (call_reprX hg' hu1) (by rfl) tP brepr (pa_cons (pv 9) pa_nil)) (by rfl)) (pss_one (ps_ret pe_bl)) pss_nil)
        (pss_cons (ps_set (i := 10) scLw.nd rfl (Or.inl rfl) (pe_op op_rep (pe_lst (pa_cons (pe_tup (pa_cons pe_str (pa_cons (pe_callB (call_reprX hg' hu1) (by rfl) tP brepr (pa_cons (pv 12) pa_nil)) pa_nil))) pa_nil)) pe_int))
        (pss_cons (ps_if (pt_val (pv 9)) (pss_one (ps_set (i := 10) scLw.nd rfl (Or.inl rfl) (pe_lst (pa_cons (pe_call GUn (hr.mono (by decide)) (by rfl) gUn FUn.kp bUn .nil pass0 (pa_cons (pv 3) (pa_cons (pv 4) (pa_cons (pv 12) pa_nil)))) (pa_cons (pe_call GDe (hr.mono (by decide)) (by rfl) gDe FDe.kp bDe .nil pass0 (pa_cons (pv 4) (pa_cons (pv 12) pa_nil))) pa_nil))))) pss_nil)
        (pss_cons (ps_if (pt_cmpR (op_neX (B := 2300) hu (by decide)) (pe_lst (pa_cons (pe_caught (T := T) (k := 14) FCa bCa rfl gCa hg' mU tP rU uu TB hcd hmT huT (hr.mono (by decide)) (lamS_by (sc := defScope sLaw) (by decide +kernel)) rfl (fun _ _ _ _ _ => rfl) (fun A2 o2 s2 H2 E2 f2 c2 hr2 => pe_call GTO (hr2.mono (by decide)) (by rfl) gTO FTO.kp bTO .nil (passes_call (takes_of rfl rfl rfl rfl) fun _ _ _ _ h => h) (pa_cons (pv 11) (pa_cons (pv 12) pa_nil))))
            (pa_cons (pe_caughtD (T := T) (k := 14) (y := "x") FCa bCa rfl gCa hg' mU tP rU uu TB hcd hmT huT (hr.mono (by decide)) (lamP_by (N := nLw) (sc := defScope sLaw) (by decide +kernel)) rfl rfl (fun _ _ _ _ _ _ _ => ⟨_, rfl, fun _ => rfl⟩) (fun A2 o2 s2 H2 E2 f2 c2 hr2 => pe_call GDO (hr2.mono (by decide)) (by rfl) gDO FDO.kp bDO .nil (passes_call (takes_of rfl rfl rfl rfl) fun _ _ _ _ h => h) (pa_cons (pv 11) (pa_cons (pv 12) pa_nil)))) pa_nil))) (pv 10) (by rfl)) (pss_one (ps_ret pe_bl)) pss_nil)
        (pss_one (ps_if (PW.pt (pw_and (pt_not (pt_val (pv 9))) (pw_and1 (pt_cmpR (op_neTT hu1) (pe_caught (T := T) (k := 14) FCa bCa rfl gCa hg' mU tP rU uu TB hcd hmT huT (hr.mono (by decide)) (lamS_by (sc := defScope sLaw) (by decide +kernel)) rfl (fun _ _ _ _ _ => rfl) (fun A2 o2 s2 H2 E2 f2 c2 hr2 => pe_call GSh (hr2.mono (by decide)) (by rfl) gSh FSh.kp bSh .nil (passes_call (takes_of rfl rfl rfl rfl) fun _ _ _ _ h => h) (pa_cons (pv 11) (pa_cons (pv 12) pa_nil)))) (pe_ix ix_list (pv 10) pe_int (fun _ _ => rfl)) (by rfl))))) (pss_one (ps_ret pe_bl)) pss_nil))))))))))))))
    (pss_one (ps_ret pe_bl)))
, ?_⟩
  refine ⟨_, rfl, sc, ns, rfl, hsc, hlen, fun H1 m c l cs ls sm1 M1 => ?_⟩
  have sys1 : Sys (fr H1 m l) := by
    obtain ⟨o, u, e⟩ := sy
    have e1 := sm1 _ _ e
    exact ⟨o, u, fr_some e1 (ne_of e1 M1.hm (by intro z; cases z)) (ne_of e1 M1.hl (by intro z; cases z))⟩
  have tab1 := tabs_fr M1 (tb.ext sm1)
  refine ⟨_, rfl, sc, _, rfl, .inl (sm1.seq hsc), _, _, rfl, _, _, rfl, rfl, _, rfl, ?_, ?_, ?_⟩
  · split <;> omega
  · split <;> omega
  refine for_range (lo := 0) (fun i σ' H' => ∃ (l' : Addr) (ls' : List Int) (n' : Int) (v2 v3 v4 v5 v6 v7 v8 v9 v10 v11 v12 v13 : Option V), σ' = [some (V.ref sc), some (V.ref m), v2, v3, v4, v5, v6, v7, v8, v9, v10, v11, v12, v13] ∧ MAt H' m c l' cs ls' n' ∧ n' ≤ 20000 * (i : Int) ∧ Sys (fr H' m l') ∧ Tabs T (fr H' m l'))
    ⟨l, ls, 0, none, none, none, none, none, none, none, none, none, none, none, none, rfl, M1, by omega, sys1, tab1⟩ ?_ ?_
  rotate_left
  · rintro σ' H' ⟨l', ls', n', v2, v3, v4, v5, v6, v7, v8, v9, v10, v11, v12, v13, rfl, _, _⟩
    exact kk H'
  rintro i σ' H' hi ⟨l', ls', n', v2, v3, v4, v5, v6, v7, v8, v9, v10, v11, v12, v13, rfl, M', hn', sys', tab'⟩
  have hi14 : i < 14 := by
    refine Nat.lt_of_lt_of_le hi ?_
    split <;> omega
  clear hsc hlen sy sm1 M1 sys1 tab1 tb
  -- ends, steps
  refine ⟨_, rfl, by show 3 ≤ sizeLine; decide, fun z0 nz0 => ?_⟩
  obtain ⟨G0, k0, e0⟩ := (Gw.mk (H := H') M' .refl).new (o := .tup [.int 3, .int 3, .int 4]) nz0
  refine ⟨m, c, l', z0, cs, ls', n', rfl, G0.mat, by omega, e0, fun p eL sL xs ys es ss H2 l2 ls2 n2 M2 nn2 s2 ep eE qE eS qS ES nES => ?_⟩
  refine ⟨p, _, rfl, SqT.of (fr_of ep).2.2, rfl, _, _, rfl, _, _, rfl, rfl, ?_⟩
  have sys2 : Sys (fr H2 m l2) := (sys'.same k0).same s2.1
  have tab2 : Tabs T (fr H2 m l2) := (tab'.ext k0).ext s2.1
  have n2b : n2 ≤ 20000 * (i : Int) + 3000 := by omega
  clear sys' tab' e0 k0 G0 s2 M' nz0
  have sh := sh_of ES
  obtain ⟨tE, tS⟩ := es_tup ES
  have lx : xs.length = es.length := qE.len
  have ly : ys.length = ss.length := qS.len
  have x1 : 1 ≤ xs.length := by have := sh.l1; omega
  have x3 : xs.length ≤ 3 := by have := sh.l3; omega
  have y3 : ys.length ≤ 3 := by have := sh.m3; omega
  -- rules
  refine ⟨_, rfl, _, rfl, fun rl dxo nrl ndx ned => ?_⟩
  refine make_yes (de := .list es) (ds := .list ss) (.inl (.lst (fr_of eE).2.2 (qE.same fr_same))) (.inl (.lst (fr_of eS).2.2 (qS.same fr_same))) nrl ndx ned (dueR_lists sh) fun H3 s3 r3 => ⟨rfl, ?_⟩
  obtain ⟨W3, k3⟩ := (Gw.mk (H := H2) M2 .refl).grow s3
  have bs3 : Bs T K C rl eL sL xs ys es ss (fr H3 m l2) := ⟨sys2.same k3, tab2.ext k3, r3.fr W3.mat tE tS, k3 _ _ eE, qE.same k3, k3 _ _ eS, qS.same k3⟩
  have M3 := W3.mat
  clear W3 k3 s3 r3 nrl ndx ned eE eS qE qS ep sys2 tab2 M2
  -- things
  refine ⟨Nat.zero_le _, fun q0 nq0 => ⟨Nat.zero_le _, fun q3 nq3 => ⟨by show 1 ≤ sizeLine; decide, fun q4 nq4 => ⟨by show 1 ≤ sizeLine; decide, fun q5 nq5 => ⟨1, rfl, by show 1 ≤ sizeLine; decide, fun q6 nq6 => ⟨by show 1 ≤ sizeLine; decide, fun q7 nq7 => ⟨by show 2 ≤ sizeLine; decide, fun q8 nq8 => ?_⟩⟩⟩⟩⟩⟩⟩
  obtain ⟨U0, j0, e0⟩ := (Gw.mk (H := H3) M3 .refl).new (o := .tup []) nq0
  obtain ⟨U3, j3, e3⟩ := U0.new (o := .lst []) nq3
  obtain ⟨U4, j4, e4⟩ := U3.new (o := .tup [.int 0]) nq4
  obtain ⟨U5, j5, e5⟩ := U4.new (o := .tup [.int 3]) nq5
  obtain ⟨U6, j6, e6⟩ := U5.new (o := .tup [.int (-1)]) nq6
  obtain ⟨U7, j7, e7⟩ := U6.new (o := .tup [.bl true]) nq7
  obtain ⟨U8, j8, e8⟩ := U7.new (o := .tup [.int 0, .int 0]) nq8
  have f7 := j8 _ _ e7
  have f6 := j8 _ _ (j7 _ _ e6)
  have f5 := j8 _ _ (j7 _ _ (j6 _ _ e5))
  have f4 := j8 _ _ (j7 _ _ (j6 _ _ (j5 _ _ e4)))
  have f3 := j8 _ _ (j7 _ _ (j6 _ _ (j5 _ _ (j4 _ _ e3))))
  have f0 := j8 _ _ (j7 _ _ (j6 _ _ (j5 _ _ (j4 _ _ (j3 _ _ e0)))))
  have bs8 := bs3.same (same_trans j0 (same_trans j3 (same_trans j4 (same_trans j5 (same_trans j6 (same_trans j7 j8))))))
  have M8 := U8.mat
  clear U0 U3 U4 U5 U6 U7 U8 j0 j3 j4 j5 j6 j7 j8 e0 e3 e4 e5 e6 e7 bs3 M3
  generalize upd (upd (upd (upd (upd (upd (upd H3 q0 (.tup [])) q3 (.lst [])) q4 (.tup [.int 0])) q5 (.tup [.int 3])) q6 (.tup [.int (-1)])) q7 (.tup [.bl true])) q8 (.tup [.int 0, .int 0]) = H8 at M8 bs8 f0 f3 f4 f5 f6 f7 e8 ⊢
  refine ⟨_, rfl, m, c, l2, cs, ls2, n2, rfl, M8, by omega, fun rO dO H9 l9 ls9 n9 M9 nn9 s9 qO hO => ⟨by show 1 ≤ sizeLine; decide, fun q9 nq9 => ⟨by show 11 ≤ sizeLine; decide, fun tL ntL => ⟨by show 2 ≤ sizeLine; decide, fun pp npp => ⟨pp, _, rfl, SqT.of upd_same, rfl, _, _, rfl, _, _, rfl, rfl, ?_⟩⟩⟩⟩⟩
  obtain ⟨U9, j9, e9⟩ := (Gw.mk (H := H9) M9 .refl).new (o := .tup [.str "0"]) nq9
  have k9 := same_trans s9.1 j9
  have th9 : Ths (fr (upd H9 q9 (.tup [.str "0"])) m l9) [.ref q0, .non, .int 5, .ref q3, .ref q4, .ref q5, .ref q6, .ref q7, .ref q8, rO, .ref q9] [.tuple [], .none, .int 5, .list [], .tuple [.int 0], .tuple [.int 3], .tuple [.int (-1)], .tuple [.bool true], .tuple [.int 0, .int 0], dO, .tuple [.str "0"]] :=
    .cons (.tup (k9 _ _ f0) .nil) (th_by (by decide +kernel)) (.cons .non (th_by (by decide +kernel)) (.cons (.int 5) (th_by (by decide +kernel)) (.cons (.lst (k9 _ _ f3) .nil) (th_by (by decide +kernel)) (.cons (.tup (k9 _ _ f4) (.cons (.int 0) .nil)) (th_by (by decide +kernel)) (.cons (.tup (k9 _ _ f5) (.cons (.int 3) .nil)) (th_by (by decide +kernel)) (.cons (.tup (k9 _ _ f6) (.cons (.int (-1)) .nil)) (th_by (by decide +kernel))
      (.cons (.tup (k9 _ _ f7) (.cons (.bl true) .nil)) (th_by (by decide +kernel)) (.cons (.tup (k9 _ _ e8) (.cons (.int 0) (.cons (.int 0) .nil))) (th_by (by decide +kernel)) (.cons (qO.same j9) (th_odd hO) (.cons (.tup e9 (.cons (dq_str (by decide +kernel) (by decide +kernel)) .nil)) (th_by (by decide +kernel)) .nil))))))))))
  have bs9 := bs8.same k9
  have M9' := U9.mat
  clear U9 j9 k9 s9 f0 f3 f4 f5 f6 f7 e8 e9 qO bs8 M8 M9 nq0 nq3 nq4 nq5 nq6 nq7 nq8
  generalize hH9 : upd H9 q9 (.tup [.str "0"]) = H9' at *
  obtain ⟨UL, jL, eL9⟩ := (Gw.mk (H := H9') M9' .refl).new (o := .lst [.ref q0, .non, .int 5, .ref q3, .ref q4, .ref q5, .ref q6, .ref q7, .ref q8, rO, .ref q9]) ntL
  have jf : Same (fr H9' m l9) (off (fr (upd H9' tL (.lst [.ref q0, .non, .int 5, .ref q3, .ref q4, .ref q5, .ref q6, .ref q7, .ref q8, rO, .ref q9])) m l9) tL) := fr_off_new (c := c) (cs := cs) (ls := ls9) (n := n9) ntL
  obtain ⟨UP, jP, _⟩ := UL.new (o := .tup [.ref rl, .ref tL]) npp
  have bsP := (bs9.same jf).same (off_mono jP)
  have thP := (th9.same jf).same (off_mono jP)
  have eP := jP _ _ eL9
  have ncP : tL ≠ c := (ne_of_none M9'.hc ntL).symm
  have MP := UP.mat
  clear UL UP jL jf jP eL9 bs9 th9 M9' hH9 nq9 ntL npp
  generalize upd (upd H9' tL (.lst [.ref q0, .non, .int 5, .ref q3, .ref q4, .ref q5, .ref q6, .ref q7, .ref q8, rO, .ref q9])) pp (.tup [.ref rl, .ref tL]) = HP at *
  have nP : n9 ≤ 20000 * (i : Int) + 3001 := by omega
  clear nn9 nn2 n2b
  -- rows
  refine ⟨_, rfl, by decide, by decide, for_range (lo := 0) (fun k σ' H' => ∃ (l' tL : Addr) (ls' : List Int) (n' : Int) (vs : List V) (ds : List PyData) (v6 v7 : Option V), σ' = [some (.ref sc), some (.ref m), some (V.int (0 + (i : Int))), some (.ref eL), some (.ref sL), some (.ref tL), v6, v7, v8, v9, v10, some (.ref rl), v12, v13] ∧ MAt H' m c l' cs ls' n' ∧ n' ≤ n9 + 140 * (k : Int) ∧
      fr H' m l' tL = some (.lst vs) ∧ Bs T K C rl eL sL xs ys es ss (off (fr H' m l') tL) ∧ Ths (off (fr H' m l') tL) vs ds ∧ vs.length = 11 + 5 * k ∧ tL ≠ c) ⟨l9, tL, ls9, n9, _, _, _, _, rfl, MP, by omega, eP, bsP, thP, rfl, ncP⟩ ?_ ?_⟩
  · clear bsP thP eP MP ncP
    rintro k σ' H4 hk ⟨l4, tL, ls4, n4, vs, ds, v6, v7, rfl, M4, hn4, eT, bs4, th4, lv4, nc4⟩
    have hk6 : k < 6 := hk
    refine ⟨_, rfl, m, c, l4, 6, cs, ls4, n4, rfl, M4, by decide, by decide, by omega, fun r5 H5 l5 ls5 n5 r50 r51 M5 nn5 s5 => ⟨_, rfl, by omega, by omega, fun D nD => ?_⟩⟩
    obtain ⟨G6, t6, e6⟩ := (Gw.mk (H := H5) M5 .refl).new (o := .lst []) nD
    have Dm : D ≠ m := (ne_of_none M5.hm nD).symm
    have Dc : D ≠ c := (ne_of_none M5.hc nD).symm
    have bs5 := bs4.same (off_mono s5.1)
    have th5 := th4.same (off_mono s5.1)
    have eT5 := s5.1 _ _ eT
    refine lc_range (fun j H' => ∃ (l' : Addr) (ls' : List Int) (n' : Int) (is : List Int), Dl H5 m c l5 cs n5 (j : Int) D (is.map V.int) H' l' ls' n' ∧ is.length = j ∧ ∀ x ∈ is, 0 ≤ x ∧ x < 3)
      ⟨l5, ls5, n5, [], ⟨G6.mat, by omega, G6.sm, e6⟩, rfl, fun x hx => absurd hx List.not_mem_nil⟩ ?_ ?_
    · rintro j H7 hj ⟨l7, ls7, n7, is, d7, hl7, hi7⟩
      refine ⟨rfl, ?_⟩
      unfold tYes
      try dsimp only
      rw [if_pos rfl]
      have le7 := d7.le
      have hS7 : H7 sL = some (.lst ys) := (fr_of (d7.sm.1 _ _ (off_same _ _ bs5.hS))).2.2
      refine ⟨_, rfl, _, rfl, sL, ys, rfl, .inl (SqL.of hS7), _, _, rfl, m, c, l7, _, cs, ls7, n7, rfl, d7.mat, ?_, ?_, by omega, fun r8 H8 l8 ls8 n8 r80 r81 M8 nn8 s8 => ?_⟩
      · split <;> omega
      · split <;> omega
      have r83 : r8 < 3 ∨ r8 < 4 := by
        revert r81
        split <;> intro r81 <;> omega
      have dE := d7.next (k' := ((j + 1 : Nat) : Int)) M8 nn8 s8 (by omega)
      refine ⟨_, (fr_of dE.dd).2.2, smallM ?_, l8, ls8, n8, is ++ [r8], ?_, by rw [List.length_append, hl7]; rfl, ?_⟩
      · rw [List.length_map]
        omega
      · rw [List.map_append]
        exact dE.put nD Dm Dc
      · intro x hx
        rcases List.mem_append.mp hx with h | h
        · exact hi7 x h
        · rw [List.mem_singleton.mp h]
          refine ⟨r80, ?_⟩
          revert r81
          split <;> intro r81 <;> omega
    rintro H7 ⟨l7, ls7, n7, is, d7, hl7, hi7⟩
    have le7 := d7.le
    have li : is.length ≤ 5 := by omega
    have bs7 := bs5.same (off_mono d7.sm.1)
    have th7 := th5.same (off_mono d7.sm.1)
    have eT7 := d7.sm.1 _ _ eT5
    refine ⟨D, _, rfl, .inl ⟨SqL.of (fr_of d7.dd).2.2, fun t1 nt1 => ?_⟩⟩
    obtain ⟨W8, q8, e8⟩ := (Gw.mk (H := H7) d7.mat .refl).new (o := .tup (is.map V.int)) nt1
    have bs8 := bs7.same (off_mono q8)
    have th8 := th7.same (off_mono q8)
    have eT8 := q8 _ _ eT7
    have M8 := W8.mat
    have n7b : n7 ≤ n9 + 140 * (k : Int) + 10 := by omega
    clear bs4 th4 eT bs5 th5 eT5 bs7 th7 eT7 W8 q8 d7 le7 hl7 G6 t6 e6 M5 s5 nn5 M4
    generalize upd H7 t1 (.tup (is.map V.int)) = H8 at *
    have hE8 : H8 eL = some (.lst xs) := (fr_of (off_same _ _ bs8.hE)).2.2
    refine ⟨_, rfl, _, rfl, eL, xs, rfl, .inl (SqL.of hE8), m, c, l7, _, cs, ls7, n7, rfl, M8, by omega, by omega, by omega, fun r9 H9 l9 ls9 n9' r90 r91 M9 nn9 s9 => ⟨by show 1 ≤ sizeLine; decide, fun t2 nt2 => ?_⟩⟩
    obtain ⟨W10, q10, e10⟩ := (Gw.mk (H := H9) M9 .refl).new (o := .tup [.int r9]) nt2
    refine ⟨t1, t2, _, _, rfl, rfl, (fr_of (q10 _ _ (s9.1 _ _ e8))).2.2, (fr_of e10).2.2, Nat.le_of_lt (smallM ?_), fun row H11 s11 e11 => ?_⟩
    · rw [List.length_map, List.length_singleton]
      omega
    obtain ⟨W11, q11⟩ := W10.grow s11
    have k11 := same_trans s9.1 (same_trans q10 q11)
    obtain ⟨L, hL⟩ : ∃ L : List Int, L = is ++ [r9] := ⟨_, rfl⟩
    have eL' : is.map V.int ++ [V.int r9] = L.map V.int := by rw [hL, List.map_append]; rfl
    rw [eL'] at e11
    have Lr : ∀ x ∈ L, 0 ≤ x ∧ x < 1000 := fun x hx => by
      rw [hL] at hx
      rcases List.mem_append.mp hx with h | h
      · have := hi7 x h
        omega
      · rw [List.mem_singleton.mp h]
        omega
    have Ll : L.length ≤ 6 := by
      rw [hL, List.length_append, List.length_singleton]
      omega
    have bs11 := bs8.same (off_mono k11)
    have th11 := th8.same (off_mono k11)
    have eT11 := k11 _ _ eT8
    have er11 := W11.tupAt e11
    have M11 := W11.mat
    have n9b : n9' ≤ n9 + 140 * (k : Int) + 11 := by omega
    have fl := fl_ints Lr
    clear bs8 th8 eT8 M8 e8 s9 q10 e10 W10 W11 q11 k11 s11 hE8 hL eL' hi7 M9 nn9 r90 r91 n7b
    -- the five
    refine ⟨_, rfl, _, rfl, _, rfl, row, _, rfl, .inr (SqT.of e11), fun w1 nw1 => ?_⟩
    obtain ⟨W12, q12, e12⟩ := (Gw.mk (H := H11) M11 .refl).new (o := .lst (L.map V.int)) nw1
    have er12 := q12 _ _ er11
    obtain ⟨g1, g2, g3⟩ := fl_tup fl
    refine ⟨_, rfl, _, rfl, m, c, l9, cs, ls9, n9', .ref row, .tuple (L.map PyData.int), rfl, W12.mat, by omega, .tup er12 (dq_ints L), g1, ?_, by omega, fun rb db H13 l13 ls13 n13 M13 nn13 s13 qb hb => ?_⟩
    · rw [List.length_map] at g2
      omega
    have er13 := s13.1 _ _ er12
    refine ⟨_, rfl, row, _, rfl, (fr_of er13).2.2, fun rv nrv => ?_⟩
    obtain ⟨W14, q14, e14⟩ := (Gw.mk (H := H13) M13 .refl).new (o := .tup (L.map V.int).reverse) nrv
    refine ⟨_, rfl, by show 1 ≤ sizeLine; decide, fun q2 nq2 => ?_⟩
    obtain ⟨W15, q15, e15⟩ := W14.new (o := .tup [.non]) nq2
    refine ⟨row, q2, _, _, rfl, rfl, (fr_of (q15 _ _ (q14 _ _ er13))).2.2, (fr_of e15).2.2, Nat.le_of_lt (smallM ?_), fun rc H16 s16 e16 => ⟨by show 5 ≤ sizeLine; decide, fun fv nfv => ?_⟩⟩
    · rw [List.length_map, List.length_singleton]
      omega
    obtain ⟨W16, q16⟩ := W15.grow s16
    obtain ⟨W17, q17, e17⟩ := W16.new (o := .lst [.ref row, .ref w1, rb, .ref rv, .ref rc]) nfv
    have k17 := same_trans q12 (same_trans s13.1 (same_trans q14 (same_trans q15 (same_trans q16 q17))))
    have eT17 := k17 _ _ eT11
    refine ⟨tL, fv, vs, _, rfl, rfl, (fr_of eT17).2.2, upd_same, Nat.le_of_lt (smallM ?_), fun tL2 ntL2 => ?_⟩
    · rw [lv4]
      show 11 + 5 * k + 5 ≤ 1000000
      omega
    have bs17 := (bs11.same (off_mono k17)).same off_same
    have th17 := (th11.same (off_mono k17)).same off_same
    have lm : (L.map PyData.int).length ≤ 10 := by rw [List.length_map]; omega
    have five : Ths _ [.ref row, .ref w1, rb, .ref rv, .ref rc] [.tuple (L.map PyData.int), .list (L.map PyData.int), db, .tuple (L.reverse.map PyData.int), .tuple (L.map PyData.int ++ [.none])] :=
      .cons (.tup (k17 _ _ er11) (dq_ints L)) (th_tup fl (by omega)) (.cons (.lst (same_trans s13.1 (same_trans q14 (same_trans q15 (same_trans q16 q17))) _ _ e12) (dq_ints L)) (th_lst fl (by omega))
        (.cons (qb.same (same_trans q14 (same_trans q15 (same_trans q16 q17)))) (th_bent fl lm hb)
        (.cons (.tup (same_trans q15 (same_trans q16 q17) _ _ e14) (by rw [← List.map_reverse]; exact dq_ints L.reverse)) (th_tup (fl_ints fun x hx => Lr x (List.mem_reverse.mp hx)) (by rw [List.length_map, List.length_reverse]; omega))
        (.cons (.tup (q17 _ _ (W16.tupAt e16)) ((dq_ints L).app (.cons .non .nil))) (th_tup (fun d hd => by
          rcases List.mem_append.mp hd with h | h
          · exact fl d h
          · rw [List.mem_singleton.mp h]
            exact fl_non) (by rw [List.length_append, List.length_singleton]; omega)) .nil))))
    have jf : Same _ (off (fr (upd (upd H16 fv (.lst [.ref row, .ref w1, rb, .ref rv, .ref rc])) tL2 (.lst (vs ++ [.ref row, .ref w1, rb, .ref rv, .ref rc]))) m l13) tL2) := fr_off_new (c := c) (cs := cs) (ls := ls13) (n := n13) ntL2
    obtain ⟨W18, q18, e18⟩ := W17.new (o := .lst (vs ++ [.ref row, .ref w1, rb, .ref rv, .ref rc])) ntL2
    refine ⟨l13, tL2, ls13, n13, _, _, _, _, rfl, W18.mat, ?_, e18, bs17.same jf, (th17.app five).same jf, ?_, (ne_of_none W17.mat.hc ntL2).symm⟩
    · omega
    · rw [List.length_append, lv4]
      show 11 + 5 * k + 5 = 11 + 5 * (k + 1)
      omega
  rintro σ' H5 ⟨l5, tL5, ls5, n5, vs, ds, v6, v7, rfl, M5, hn5, eT, bs5, th5, lv5, nc5⟩
  dsimp only
  clear bsP thP eP MP ncP
  refine tseq_of ⟨by show 6 ≤ sizeLine; decide, fun z nz => ⟨z, rfl, ⟨_, SqT.of upd_same⟩, ?_⟩⟩
  obtain ⟨W6, q6, e6⟩ := (Gw.mk (H := H5) M5 .refl).new (o := .tup [.int 43, .int 44, .int 65, .int 66, .int 130, .int 131]) nz
  have eT6 := (fr_of (q6 _ _ eT)).2.2
  have ez6 := off_at (fr_of e6).2.2 (ne_of (fr_of e6).2.2 eT6 (by intro y; cases y))
  have q6' := off_mono (p := tL5) (same_trans q6 (fr_same (l := l5)))
  have bs6 := bs5.same q6'
  have th6 := th5.same q6'
  have M6 := W6.mat
  have tl : tL5 ≠ l5 := (fr_of eT).2.1
  have tm : tL5 ≠ m := (fr_of eT).1
  clear W6 q6 e6 q6' eT bs5 th5 M5 nz
  generalize upd H5 z (.tup [.int 43, .int 44, .int 65, .int 66, .int 130, .int 131]) = H6 at *
  refine for_tup (xs := [.int 43, .int 44, .int 65, .int 66, .int 130, .int 131]) (fun j σ' H' => ∃ (vs : List V) (ds : List PyData) (v8 : Option V), σ' = [some (.ref sc), some (.ref m), some (V.int (0 + (i : Int))), some (.ref eL), some (.ref sL), some (.ref tL5), v6, v7, v8, v9, v10, some (.ref rl), v12, v13] ∧ MAt H' m c l5 cs ls5 n5 ∧
      off H' tL5 z = some (.tup [.int 43, .int 44, .int 65, .int 66, .int 130, .int 131]) ∧ H' tL5 = some (.lst vs) ∧ Bs T K C rl eL sL xs ys es ss (off H' tL5) ∧ Ths (off H' tL5) vs ds ∧ vs.length = 41 + j)
    ⟨vs, ds, _, rfl, M6, ez6, eT6, bs6, th6, lv5⟩ (fun i σ H' _ ⟨_, _, _, _, _, e, _⟩ => SqT.of (off_same _ _ e)) ?_ ?_
  · clear bs6 th6 eT6 ez6 M6 lv5
    rintro j x σ' H7 hx ⟨vs, ds, v8, rfl, M7, ez7, eT7, bs7, th7, lv7⟩
    have hj : j < 6 := (List.getElem?_eq_some_iff.mp hx).1
    obtain ⟨w, hw, rfl⟩ : ∃ w : Int, (43 ≤ w ∧ w ≤ 131) ∧ x = .int w := by
      rcases j with _ | _ | _ | _ | _ | _ | j
      · exact ⟨43, by omega, (Option.some.inj hx).symm⟩
      · exact ⟨44, by omega, (Option.some.inj hx).symm⟩
      · exact ⟨65, by omega, (Option.some.inj hx).symm⟩
      · exact ⟨66, by omega, (Option.some.inj hx).symm⟩
      · exact ⟨130, by omega, (Option.some.inj hx).symm⟩
      · exact ⟨131, by omega, (Option.some.inj hx).symm⟩
      · exact absurd hj (by omega)
    refine ⟨_, rfl, .inl ⟨rfl, _, SqL.of eT7⟩, by show 1 ≤ sizeLine; decide, fun p1 np1 => ⟨_, rfl, _, _, rfl, rfl, p1, _, [.int 0], rfl, rfl, SqT.of upd_same, by simp, ?_, ?_, by decide, fun p2 np2 => ?_⟩⟩
    · omega
    · omega
    obtain ⟨k, hk⟩ : ∃ k : Nat, k = (w + 1).toNat := ⟨_, rfl⟩
    have kb : k ≤ 132 := by omega
    rw [← hk, zeros]
    obtain ⟨W8, q8, e8⟩ := (Gw.mk (H := H7) M7 .refl).new (o := .tup [.int 0]) np1
    obtain ⟨W9, q9, e9⟩ := W8.new (o := .tup ((List.replicate k (0 : Int)).map V.int)) np2
    have q0 := same_trans (same_new (o := .tup [.int 0]) np1) (same_new (o := .tup ((List.replicate k (0 : Int)).map V.int)) np2)
    have eT9 := q0 _ _ eT7
    have o9 := off_mono (p := tL5) q0
    have M9 := W9.mat
    have e9' := (fr_of e9).2.2
    clear W8 W9 q8 e8 q9 e9 np1
    generalize upd (upd H7 p1 (.tup [.int 0])) p2 (.tup ((List.replicate k (0 : Int)).map V.int)) = H9 at *
    have en := off_at e9' (ne_of e9' eT9 (by intro y; cases y))
    refine ⟨tL5, vs, .ref p2, rfl, rfl, eT9, smallM (by omega), ?_⟩
    refine ⟨vs ++ [.ref p2], ds ++ [.tuple ((List.replicate k (0 : Int)).map PyData.int)], _, rfl, M9.at tm nc5 tl, ?_, upd_same, ?_, ?_, ?_⟩
    · rw [off_put]
      exact o9 _ _ ez7
    · rw [off_put]
      exact bs7.same o9
    · rw [off_put]
      exact (th7.same o9).app (.cons (.tup en (dq_ints _)) (th_tup (fl_ints fun x hx => by rw [List.eq_of_mem_replicate hx]; omega) (by rw [List.length_map, List.length_replicate]; omega)) .nil)
    · rw [List.length_append, lv7]
      rfl
  -- the main loop
  clear bs6 th6 eT6 ez6 M6 lv5
  rintro σ' H7 ⟨vs, ds, v8, rfl, M7, ez7, eT7, bs7, th7, lv7⟩
  have tab7 : Tabs T H7 := bs7.tb.ext off_same
  have bs7' := bs7.same off_same
  have th7' := th7.same off_same
  refine ⟨_, rfl, tL5, rfl, ⟨_, SqL.of eT7⟩, ?_⟩
  refine for_list (xs := vs) (fun j σ' H' => ∃ (v9 v10 v12 : Option V), σ' = [some (.ref sc), some (.ref m), some (V.int (0 + (i : Int))), some (.ref eL), some (.ref sL), some (.ref tL5), v6, v7, v8, v9, v10, some (.ref rl), v12, v13] ∧ ExtN H7 H' ∧ Tabs T H')
    ⟨_, _, _, rfl, fun _ _ e _ => e, tab7⟩ (fun j σ H _ ⟨_, _, _, _, s, _⟩ => SqL.of (s _ _ eT7 fun _ z => by cases z)) ?_ ?_
  rotate_left
  · rintro σ' H8 ⟨v9, v10, v12, rfl, s8, t8⟩
    have M8 : MAt H8 m c l5 cs ls5 n5 := M7.en s8
    have b8 := bs7'.en s8 t8
    refine ⟨l5, ls5, n5, _, _, _, _, _, _, _, _, _, _, _, _, rfl, M8, by push_cast; omega, ?_, tabs_fr M8 t8⟩
    obtain ⟨o, u, e⟩ := b8.sy
    exact ⟨o, u, fr_some e (ne_of e M8.hm (by intro z; cases z)) (ne_of e M8.hl (by intro z; cases z))⟩
  clear bs7 th7 ez7 tab7
  rintro j v σ' H8 hj ⟨v9, v10, v12, rfl, s8, t8⟩
  have hjl : j < ds.length := by
    have := (List.getElem?_eq_some_iff.mp hj).1
    rw [← th7'.q.len]
    exact this
  have hdj : ds[j]? = some ds[j] := List.getElem?_eq_getElem hjl
  have ok : ThOk ds[j] := th7'.k _ (List.getElem_mem hjl)
  generalize ds[j] = d at hdj ok
  obtain ⟨v', hv', qv0⟩ := th7'.q.at hdj
  obtain rfl : v = v' := Option.some.inj (hj.symm.trans hv')
  have b8 := bs7'.en s8 t8
  have qd : Dq H8 v d := qv0.extN s8
  -- is_so
  refine ⟨_, rfl, _, rfl, _, rfl, eL, sL, v, d, xs, ys, es, ss, rfl, b8.hE, b8.qE, b8.hS, b8.qS, ES, qd, ok.f, fun H2 s2 => ?_⟩
  have b2 := b8.same s2
  have qd2 := qd.same s2
  refine ⟨_, rfl, _, rfl, rl, v, d, es, ss, rfl, b2.ru, ES, qd2, ok.f, fun H3 s3 => ?_⟩
  have b3 := b2.same s3
  have qd3 := qd2.same s3
  generalize hu' : unfB es ss d = u
  obtain ⟨g1, g2, g3⟩ := shown_bool u
  refine ⟨.bl u, .bool u, rfl, b3.sy, .bl u, g1, g2, g3, _, rfl, .bl u, .bool u, rfl, b3.sy, .bl u, g1, g2, g3, rfl, _, rfl, iteNS rfl (nx_go ?_)⟩
  dsimp only
  -- due
  refine tseq_of ⟨_, rfl, v, d, rfl, b3.sy, qd3, ok.p.1, ok.p.2.1, ok.p.2.2, by show 2 ≤ sizeLine; decide, fun p np => ⟨by show 1 ≤ sizeLine; decide, fun q nq => ⟨q, 2, [.ref p], rfl, rfl, upd_same, by decide, by decide, by show 1 * 2 ≤ sizeLine; decide, fun D nD => ?_⟩⟩⟩
  have sP : Same H3 (upd (upd (upd H3 p (.tup [.str "unfolding", .str d.shown])) q (.lst [.ref p])) D (.lst [.ref p, .ref p])) := same_trans (same_new np) (same_trans (same_new nq) (same_new nD))
  have e4 : upd (upd (upd H3 p (.tup [.str "unfolding", .str d.shown])) q (.lst [.ref p])) D (.lst [.ref p, .ref p]) D = some (.lst [.ref p, .ref p]) := upd_same
  have p4 : upd (upd (upd H3 p (.tup [.str "unfolding", .str d.shown])) q (.lst [.ref p])) D (.lst [.ref p, .ref p]) p = some (.tup [.str "unfolding", .str d.shown]) := by
    rw [upd_ne (ne_of_none (by rw [upd_ne (ne_of_none upd_same nq)]; exact upd_same) nD), upd_ne (ne_of_none upd_same nq)]
    exact upd_same
  have b4 := b3.same sP
  have qd4 := qd3.same sP
  have x4 : ExtN H7 (upd (upd (upd H3 p (.tup [.str "unfolding", .str d.shown])) q (.lst [.ref p])) D (.lst [.ref p, .ref p])) := extN_trans s8 (extN_same (same_trans s2 (same_trans s3 sP)))
  clear qv0 b8 b2 b3 qd qd2 qd3 s8 s2 s3 sP t8 g1 g2 g3 np nq nD
  show tSeq _ _ _ _ _
  refine tseq_of ⟨_, rfl, _, rfl, ?_⟩
  rw [show (List.replicate (Int.toNat 2) [V.ref p]).flatten = [V.ref p, V.ref p] from rfl]
  generalize upd (upd (upd H3 p (.tup [.str "unfolding", .str d.shown])) q (.lst [.ref p])) D (.lst [.ref p, .ref p]) = H4 at *
  cases u
  · rw [if_neg (by decide)]
    refine nx_go ?_
    dsimp only
    show tSeq _ _ _ _ _
    refine tseq_of ?_
    refine ifneR_of (tcons_of (cau_tree (i := 11) (j := 12) rfl rfl b4.ru ES qd4 ok.f ok.p b4.sy b4.tb (fun z => by rw [hu'] at z; cases z) fun _ p5 H5 s5 t5 e5 => ?_))
    have b5 := b4.en s5 t5
    have qd5 := qd4.extN s5
    refine tcons_of (cau_depth (i := 11) (j := 12) rfl rfl b5.ru ES qd5 ok.f ok.p b5.sy b5.tb (fun z => by rw [hu'] at z; cases z) fun _ p6 H6 s6 t6 e6 => ?_)
    refine ⟨by show 2 ≤ sizeLine; decide, fun D3 nD3 => ?_⟩
    have b6 := b5.en s6 t6
    have qd6 := qd5.extN s6
    have sD := same_new (o := .lst [.ref p5, .ref p6]) nD3
    have en : ∀ {b : Addr} {o : HO}, H4 b = some o → (∀ z, o ≠ .tbl z) → upd H6 D3 (.lst [.ref p5, .ref p6]) b = some o := fun {b o} e n => sD _ _ (s6 _ _ (s5 _ _ e n) n)
    have e4' := en e4 fun _ z => by cases z
    have p4' := en p4 fun _ z => by cases z
    have p5' := sD _ _ (s6 _ _ e5 fun _ z => by cases z)
    have p6' := sD _ _ e6
    refine ⟨_, rfl, .inr ⟨D3, D, p5, p6, p, p, "unfolding", d.shown, rfl, rfl, SqL.of upd_same, SqL.of e4', p5', p6', p4', p4', ⟨false, rfl, ?_⟩⟩⟩
    rw [if_neg (by decide)]
    refine nx_go ?_
    dsimp only
    have b7 := b6.same sD
    have qd7 := qd6.same sD
    have x7 := extN_trans x4 (extN_trans s5 (extN_trans s6 (extN_same sD)))
    refine ⟨_, rfl, _, rfl, ?_⟩
    show if (!false) = true then _ else _
    rw [if_pos (show (!false) = true from rfl)]
    refine ttr_of (cau_not (i := 11) (j := 12) rfl rfl b7.ru ES qd7 ok.f ok.p b7.sy b7.tb hu' fun p8 H8' s8' t8' e8' => ?_)
    refine ⟨_, rfl, D, [.ref p, .ref p], 0, .ref p, rfl, rfl, SqL.of (s8' _ _ e4' fun _ z => by cases z), atI_nat (j := 0) rfl, p8, p, "unfolding", d.shown, rfl, rfl, e8', s8' _ _ p4' (fun _ z => by cases z), ⟨false, rfl, ?_⟩⟩
    rw [if_neg (by decide)]
    exact nx_go ⟨_, _, _, rfl, extN_trans x7 s8', t8'⟩
  · rw [if_pos rfl]
    show tAsg _ _ _ _ _
    refine tasg_of ?_
    obtain ⟨e1, hk, he⟩ := unfB_row hu'
    have rl156 := row_few ok.f e1
    have qr := qd4
    rw [e1] at qr
    have lE := b4.qE
    refine ⟨_, rfl, _, rfl, _, rfl, eL, sL, v, xs, ys, es, ss, rowOf d, endOf d, rfl, b4.hE, b4.qE, b4.hS, b4.qS, ES, qr, hk, he, by omega, fun r H5 s5 q5 => ?_⟩
    have b5 := b4.same s5
    refine ⟨_, rfl, _, rfl, sL, v, ys, ss, rowOf d, endOf d, rfl, b5.hS, b5.qS, ES.2.2.2.2, qr.same s5, hk, by omega, fun H6 s6 => ?_⟩
    have b6 := b5.same s6
    refine ⟨by show 2 ≤ sizeLine; decide, fun D2 nD2 => ?_⟩
    have s7 := same_trans (same_trans s5 s6) (same_new (o := .lst [r, .int ((depthR ss (rowOf d) : Nat) : Int)]) nD2)
    have b7 := b4.same s7
    have qd7 := qd4.same s7
    have q7 := q5.same (same_trans s6 (same_new (o := .lst [r, .int ((depthR ss (rowOf d) : Nat) : Int)]) nD2))
    have e7 : upd H6 D2 (.lst [r, .int ((depthR ss (rowOf d) : Nat) : Int)]) D2 = some (.lst [r, .int ((depthR ss (rowOf d) : Nat) : Int)]) := upd_same
    have x7 := extN_trans x4 (extN_same s7)
    generalize upd H6 D2 (.lst [r, .int ((depthR ss (rowOf d) : Nat) : Int)]) = H9 at *
    show tSeq _ _ _ _ _
    refine tseq_of ?_
    refine ifneR_of (tcons_of (cau_tree (i := 11) (j := 12) rfl rfl b7.ru ES qd7 ok.f ok.p b7.sy b7.tb (fun _ r8 H8' s8 t8 q8 => ?_) (fun z => by rw [hu'] at z; cases z)))
    have b8 := b7.en s8 t8
    have qd8 := qd7.extN s8
    refine tcons_of (cau_depth (i := 11) (j := 12) rfl rfl b8.ru ES qd8 ok.f ok.p b8.sy b8.tb (fun _ H10 s10 t10 => ?_) (fun z => by rw [hu'] at z; cases z))
    refine ⟨by show 2 ≤ sizeLine; decide, fun D3 nD3 => ?_⟩
    have x10 := extN_trans x7 (extN_trans s8 s10)
    obtain ⟨_, pl⟩ := unf_fine ES he hk
    have sD := same_new (o := .lst [r8, .int ((depthR ss (rowOf d) : Nat) : Int)]) nD3
    have pl2 : plain (10 + 14 * (rowOf d).length + 1) (.list [unfD es ss (rowOf d) (endOf d), .int ((depthR ss (rowOf d) : Nat) : Int)]) := plain_lst fun d' hd => by
      rcases List.mem_cons.mp hd with rfl | hd
      · exact pl
      · rw [List.mem_singleton.mp hd]
        exact ⟨rfl, Nat.zero_le _⟩
    have q10 := (q8.extN s10).same sD
    have q10' := ((q7.extN s8).extN s10).same sD
    have e10 := sD _ _ (s10 _ _ (s8 _ _ e7 fun _ z => by cases z) fun _ z => by cases z)
    refine ⟨_, rfl, .inl ⟨_, _, .lst (SqL.of upd_same) (.cons (q10.dp pl.1) (.cons (.int _) .nil)), .lst (SqL.of e10) (.cons (q10'.dp pl.1) (.cons (.int _) .nil)), pl2.1, pl2.1, by have := pl2.2; omega, ⟨_, rfl, ?_⟩⟩⟩
    rw [SeqAt.eqv_refl _ pl2.1]
    show if (!true) = true then _ else _
    rw [if_neg (by decide)]
    refine nx_go ?_
    dsimp only
    refine ⟨_, rfl, _, rfl, ?_⟩
    show if (!true) = true then _ else _
    rw [if_neg (by decide)]
    show if false = true then _ else _
    rw [if_neg (by decide)]
    exact nx_go ⟨_, _, _, rfl, extN_trans x10 (extN_same sD), t10.ext sD⟩
end
end U4
set_option Elab.async false
set_option linter.all false
set_option maxRecDepth 100000
set_option maxHeartbeats 4000000
/-! the law's own def, called from the very top: the table of modules and some tables of code objects are tracked -/
namespace L2H
open PySem PySem.Spec PyProof.Rows L2 LamX
/-- what is tracked when the law begins -/
def hT (om : Obj) (cs : List (Addr × Addr)) (a : Addr) (tr : Bool) (al : Obj) (xs : List V) : Hp := fun b =>
  if b = sysModules then some (.frz om (.ext fun _ => True)) else if b ∈ cs.map (·.2) then some (.tbl #[]) else if b = a ∧ tr = true then some (.frz al (.lst xs)) else none
section
variable {om al : Obj} {cs : List (Addr × Addr)} {a b : Addr} {tr : Bool} {xs : List V}
theorem hT_sys : hT om cs a tr al xs sysModules = some (.frz om (.ext fun _ => True)) := if_pos rfl
theorem hT_tab {p : Addr × Addr} (hp : p ∈ cs) (n : p.2 ≠ sysModules) : hT om cs a tr al xs p.2 = some (.tbl #[]) := by
  unfold hT
  rw [if_neg n, if_pos (List.mem_map.mpr ⟨p, hp, rfl⟩)]
theorem hT_scr (n : a ≠ sysModules) (m : a ∉ cs.map (·.2)) (h : tr = true) : hT om cs a tr al xs a = some (.frz al (.lst xs)) := by
  unfold hT
  rw [if_neg n, if_neg m, if_pos ⟨rfl, h⟩]
theorem hT_or {u : HO} (h : hT om cs a tr al xs b = some u) : (b = sysModules ∧ u = .frz om (.ext fun _ => True)) ∨ ((∃ p ∈ cs, p.2 = b) ∧ u = .tbl #[]) ∨ (b = a ∧ tr = true ∧ u = .frz al (.lst xs)) := by
  unfold hT at h
  by_cases h1 : b = sysModules
  · rw [if_pos h1] at h
    exact .inl ⟨h1, (Option.some.inj h).symm⟩
  · rw [if_neg h1] at h
    by_cases h2 : b ∈ cs.map (·.2)
    · rw [if_pos h2] at h
      obtain ⟨p, hp, e⟩ := List.mem_map.mp h2
      exact .inr (.inl ⟨⟨p, hp, e⟩, (Option.some.inj h).symm⟩)
    · rw [if_neg h2] at h
      by_cases h3 : b = a ∧ tr = true
      · rw [if_pos h3] at h
        exact .inr (.inr ⟨h3.1, h3.2, (Option.some.inj h).symm⟩)
      · rw [if_neg h3] at h
        cases h
end
section
variable {P : Program} {w : World} {K : PySem.W.Frag} {mg mb : Str → Option Value} {fa a : Addr} {fd : FuncData} {x : Str} {sp : Sp} {t : Shared} {vs : List Value} {ns : List Int} {k : Nat} {cs : List (Addr × Addr)}
theorem from_topT (KX : K.In t.heap) (gn : t.heap.Ns mainGlobals mg) (bn : t.heap.Ns builtinsNs mb) (bb : ∀ y : Str, y ≠ "__name__" → mb y = bootBuiltins y) (lim : t.heap.NoLimit) (g0 : t.gens = #[])
    (sm : ∃ m, t.heap.Ns sysModules m) (km : K.lookup sysModules = none)
    (tabs : ∀ p ∈ cs, t.heap.get? p.2 = some { cls := .none, data := .fields #[] }) (nT : ∀ p ∈ cs, K.lookup p.2 = none) (C : ∀ p ∈ cs, PySem.W.CodeHd t.heap p.1 p.2)
    (hbm : ∃ (bm : Addr) (ob : Obj), mg "__builtins__" = some (.ref bm) ∧ bm ≠ builtinsNs ∧ t.heap.get? bm = some ob ∧ ob.cls = .type "module" ∧ ob.dict = some builtinsNs ∧ ob.data = .plain)
    (at_a : t.heap.get? a = some { cls := .type "list", data := .seq vs.toArray }) (allInt : IntsAre vs ns) (short : ns.length ≤ sizeLine) (hr : Room k callerA)
    (F : ∀ base : Heap, K.In base → base.Ns mainGlobals mg → (∀ p ∈ cs, TabB base mg p.1 p.2) → FnGs P w K mg base k fa fd [x] sp) (bind : ∀ (s : Shared) (u : Value), BindsTo s fd ⟨[u], []⟩ [(x, u)])
    (wish : ∀ H : Hp, SysF H → (∀ p ∈ cs, H p.2 = some (.tbl #[])) → SqL K H a (ns.map V.int) → sp [.ref a] H (fun v _ => v = .bl true) fun _ _ _ => False) :
    codeAny (model P w) callerA (.call (.ref fa) ⟨[.ref a], []⟩) (Good t) t := by
  have rvs := vals_ints allInt
  obtain ⟨mm, om, esm, epm, hom, hdm, _⟩ := sm
  have tn : ∀ p ∈ cs, p.2 ≠ sysModules := fun p hp z => by
    have q := tabs p hp
    rw [z, hom] at q
    have y := congrArg Obj.data (Option.some.inj q)
    rw [show om.data = Data.dict esm epm from hdm] at y
    cases y
  have na : a ≠ sysModules := fun z => by
    rw [z, hom] at at_a
    have y := congrArg Obj.data (Option.some.inj at_a)
    rw [show om.data = Data.dict esm epm from hdm] at y
    cases y
  have ta : a ∉ cs.map (·.2) := fun z => by
    obtain ⟨p, hp, e⟩ := List.mem_map.mp z
    have q := tabs p hp
    rw [e, at_a] at q
    have y : Data.seq vs.toArray _ = Data.fields #[] := congrArg Obj.data (Option.some.inj q)
    cases y
  obtain ⟨tr, htr⟩ : ∃ tr : Bool, tr = (K.lookup a).isNone := ⟨_, rfl⟩
  have inK : tr = false → ∃ o, K.lookup a = some o := fun z => by
    rw [z] at htr
    cases q : K.lookup a with
    | none => rw [q] at htr; cases htr
    | some o => exact ⟨o, rfl⟩
  have nK : tr = true → K.lookup a = none := fun z => by
    rw [z] at htr
    cases q : K.lookup a with
    | none => rfl
    | some o => rw [q] at htr; cases htr
  obtain ⟨H, hH⟩ : ∃ H : Hp, H = hT om cs a tr { cls := .type "list", data := .seq vs.toArray } (ns.map V.int) := ⟨_, rfl⟩
  have or_ : ∀ {b : Addr} {u : HO}, H b = some u → (b = sysModules ∧ u = .frz om (.ext fun _ => True)) ∨ ((∃ p ∈ cs, p.2 = b) ∧ u = .tbl #[]) ∨ (b = a ∧ tr = true ∧ u = .frz { cls := .type "list", data := .seq vs.toArray } (.lst (ns.map V.int))) := fun {b u} e => by
    rw [hH] at e
    exact hT_or e
  -- what may be seen in the base
  have free : ∀ {b : Addr} {o : Obj}, t.heap.get? b = some o → b ≠ sysModules → (∀ vs n, o.data ≠ .seq vs n) → o.data ≠ .fields #[] → H b = none := fun {b o} e n1 n2 n3 => by
    cases q : H b with
    | none => rfl
    | some u =>
      rcases or_ q with ⟨z, _⟩ | ⟨⟨p, hp, z⟩, _⟩ | ⟨z, _, _⟩
      · exact absurd z n1
      · rw [← z, tabs p hp] at e
        cases e
        exact absurd rfl n3
      · rw [z, at_a] at e
        cases e
        exact absurd rfl (n2 _ _)
  have pass : ∀ {b : Addr} {o : Obj}, t.heap.get? b = some o → H b = none → (hidT t.heap H).get? b = some o := fun z n => hidT_get z n
  have nsp : ∀ {b : Addr} {m : Str → Option Value}, b ≠ sysModules → t.heap.Ns b m → (hidT t.heap H).Ns b m := fun {b m} nb ⟨o, es, ep, z, dz, r⟩ =>
    ⟨o, es, ep, pass z (free z nb (fun vs n y => by rw [show o.data = _ from dz] at y; cases y) fun y => by rw [show o.data = _ from dz] at y; cases y), dz, r⟩
  have Kb : K.In (hidT t.heap H) := fun b o z => pass (KX b o z) (by
    cases q : H b with
    | none => rfl
    | some u =>
      rcases or_ q with ⟨y, _⟩ | ⟨⟨p, hp, y⟩, _⟩ | ⟨y, h1, _⟩
      · rw [y, km] at z
        cases z
      · rw [← y, nT p hp] at z
        cases z
      · rw [y, nK h1] at z
        cases z)
  have md : Mod K mg (hidT t.heap H) := ⟨Kb, nsp (by decide) gn, ⟨mb, nsp (by decide) bn, bb⟩, let ⟨mc, q1, q2⟩ := lim; ⟨mc, nsp (by decide) q1, q2⟩⟩
  have hok : HOk P w H t.heap := fun b u e => by
    rcases or_ e with ⟨rfl, rfl⟩ | ⟨⟨p, hp, rfl⟩, rfl⟩ | ⟨rfl, _, rfl⟩
    · exact ⟨hom, trivial, ⟨om, hom⟩, fun _ _ _ _ => trivial⟩
    · exact tabs p hp
    · exact ⟨at_a, by rw [List.length_map]; exact short, vs, _, rvs, at_a⟩
  have tbl : ∀ p ∈ cs, H p.2 = some (.tbl #[]) := fun p hp => by rw [hH]; exact hT_tab hp (tn p hp)
  have sq : SqL K H a (ns.map V.int) := by
    cases htr' : tr with
    | true => exact .inl (.inr ⟨_, by rw [hH]; exact hT_scr na ta htr'⟩)
    | false =>
      obtain ⟨o, hk⟩ := inK htr'
      have z := KX a o hk
      rw [at_a] at z
      cases z
      exact .inr ⟨_, vs.toArray, _, hk, rfl, rfl, rfl, by rw [List.size_toArray, allInt.length]; exact short, by simpa using rvs⟩
  have notSys : ∀ {b : Addr} {o : Obj}, t.heap.get? b = some o → (∀ es ep, o.data ≠ .dict es ep) → b ≠ sysModules := fun {b o} e n z => by
    rw [z, hom] at e
    cases e
    exact n _ _ hdm
  have TB : ∀ p ∈ cs, TabB (hidT t.heap H) mg p.1 p.2 := fun p hp => by
    refine ⟨?_, ?_, fun z => ?_⟩
    · obtain ⟨o, us, file, tf, flags, tg, inF, text, tt, c1, c2, c3, c4, c5⟩ := C p hp
      refine ⟨o, us, file, tf, flags, tg, inF, text, tt, pass c1 (free c1 (notSys c1 fun es ep y => ?_) (fun vs n y => ?_) fun y => ?_), c2, c3, c4, c5⟩
      · rw [c3] at y
        cases y
      · rw [c3] at y
        cases y
      · rw [c3] at y
        cases y
        simp at c4
    · obtain ⟨bm, ob, b1, b2, b3, b4, b5, b6⟩ := hbm
      have nG : bm ≠ mainGlobals := fun q => by
        obtain ⟨o, es, ep, e, hd, _⟩ := gn
        rw [q, e] at b3
        cases b3
        rw [hd] at b6
        cases b6
      have nP : bm ≠ p.2 := fun q => by
        rw [q, tabs p hp] at b3
        cases b3
        cases b6
      refine ⟨bm, ob, b1, b2, nG, nP, pass b3 (free b3 (notSys b3 fun es ep y => ?_) (fun vs n y => ?_) fun y => ?_), b4, b5, b6⟩
      · rw [b6] at y
        cases y
      · rw [b6] at y
        cases y
      · rw [b6] at y
        cases y
    · obtain ⟨o, es, ep, e, hd, _⟩ := gn
      rw [z, tabs p hp] at e
      cases e
      cases hd
  have sysf : SysF H := ⟨om, .ext fun _ => True, by rw [hH]; exact hT_sys⟩
  have env : Env0 P w K mg (hidT t.heap H) callerA [] t H :=
    ⟨rfl, md, fun b o z => of_hidT z, Nat.le_of_eq (hidT_size _ _), trivial, fun b hb => absurd (show b ∈ ([] : List Addr) from hb) (by simp), hok, .of_eq g0⟩
  refine codeAny_mono (F _ Kb (nsp (by decide) gn) TB callerA [] t H [.ref a] [.ref a] _ _ hr rfl env (bind t (.ref a)) (.cons rfl .nil) rfl (wish H sysf tbl sq)) fun r t' h => ?_
  cases r with
  | error e => exact False.elim h
  | ok fl =>
    cases fl with
    | next => exact False.elim h
    | brk => exact False.elim h
    | cont => exact False.elim h
    | ret u =>
      obtain ⟨v, H', os, bare, un, hok', r', q⟩ := h
      obtain rfl : v = V.bl true := q
      obtain rfl : u = Value.bool true := r'
      have stay : ∀ b o, t.heap.get? b = some o → (∀ p ∈ cs, p.2 ≠ b) → t'.heap.get? b = some o := fun b o z n => by
        cases q : H b with
        | none => exact un.keep b o z q (by intro y; exact absurd (show b ∈ ([] : List Addr) from y) (by simp)) (by simp)
        | some u =>
          have lock : ∀ ob u', u = .frz ob u' → t'.heap.get? b = some o := fun ob u' e => by
            rw [e] at q
            obtain ⟨e1, _⟩ := hok b _ q
            obtain ⟨e2, _⟩ := hok' b _ (un.frzs b ob _ q)
            rw [z] at e1
            cases e1
            exact e2
          rcases or_ q with ⟨_, y⟩ | ⟨⟨p, hp, y⟩, _⟩ | ⟨_, _, y⟩
          · exact lock _ _ y
          · exact absurd y (n p hp)
          · exact lock _ _ y
      have grown : ∀ p ∈ cs, ∃ more : Array Value, t'.heap.get? p.2 = some { cls := .none, data := .fields more } := fun p hp => by
        obtain ⟨more, z⟩ := un.tbls p.2 #[] (tbl p hp)
        exact ⟨_, hok' p.2 _ z⟩
      refine ⟨rfl, ⟨fun b o e => ?_, fun b o e => ?_⟩, os, bare⟩
      · by_cases hb : ∃ p ∈ cs, p.2 = b
        · obtain ⟨p, hp, rfl⟩ := hb
          obtain ⟨more, hm⟩ := grown p hp
          rw [tabs p hp] at e
          cases e
          exact .inr (.inl ⟨((C p hp).tab (tabs p hp)).isCodeTable, rfl, #[], more, rfl, by rw [Array.empty_append]; exact hm⟩)
        · exact .inl (stay b o e fun p hp y => hb ⟨p, hp, y⟩)
      · by_cases hb : ∃ p ∈ cs, p.2 = b
        · obtain ⟨p, hp, rfl⟩ := hb
          obtain ⟨more, hm⟩ := grown p hp
          exact ⟨_, hm⟩
        · exact ⟨o, stay b o e fun p hp y => hb ⟨p, hp, y⟩⟩
end
end L2H
set_option Elab.async false
set_option linter.all false
set_option maxRecDepth 100000
set_option maxHeartbeats 4000000
namespace L2H
open PySem PySem.Spec PyProof.Rows L2 LamX
/-- what is known of the law's promise at the head's heap h -/
def LawAtT (l : PySem.W.OpenLaw) (w : World) (k n : Nat) (x : Str) (mg : Str → Option Value) (fa : Addr) (h : Heap) : Prop :=
  ∃ (K : PySem.W.Frag) (fd : FuncData) (cs : List (Addr × Addr)) (sp : Sp), K.In h ∧ K.lookup sysModules = none ∧ (∀ p ∈ cs, h.get? p.2 = some { cls := .none, data := .fields #[] }) ∧ (∀ p ∈ cs, K.lookup p.2 = none) ∧ (∀ p ∈ cs, PySem.W.CodeHd h p.1 p.2) ∧
    (∀ (s : Shared) (u : Value), BindsTo s fd ⟨[u], []⟩ [(x, u)]) ∧
    (∀ (H : Hp) (a : Addr) (ns : List Int), ns.length ≤ n → SysF H → (∀ p ∈ cs, H p.2 = some (.tbl #[])) → SqL K H a (ns.map V.int) → sp [.ref a] H (fun v _ => v = .bl true) fun _ _ _ => False) ∧
    ∀ base : Heap, K.In base → base.Ns mainGlobals mg → (∀ p ∈ cs, TabB base mg p.1 p.2) → FnGs l.prog w K mg base k fa fd [x] sp
theorem walk_topT {l : PySem.W.OpenLaw} {n k : Nat} {q : Program} {loose : List Str} {XP : (Str → Option Value) → Heap → Prop} {YP : World → Heap → Prop} {d : DefRec} {x : Str}
    (hn : l.most = some n) (few : n ≤ sizeLine) (hdf : d.params.defaults = []) (hi : importsNone q = true) (hr : Room k callerA)
    (F : ∀ (w : World) (mg : Str → Option Value) (fa : Addr) (h : Heap), YP w h → h.Ns mainGlobals mg → mg d.name = some (.ref fa) → LawAtT l w k n x mg fa h) :
    PySem.W.WalkO q loose XP YP l.row.toRowW d [] (fun f vs => PySem.call f vs) := by
  refine Att.attach_call hn hdf fun w s₀ t mg mb fa o pm cd doc a vs ns G Y ho hd hcd hmg hobj hints hlen g0 => ?_
  obtain ⟨K, fd, cs, sp, KX, km, tabs, nT, C, hb, wish, hF⟩ := F w mg fa _ Y G.T.g hmg
  have S := G.T.seer hi
  exact from_topT KX G.T.g G.T.b G.T.builtins G.T.nolimit g0 (let ⟨mm, y, _⟩ := S.mods; ⟨mm, y⟩) km tabs nT C G.T.bmain hobj hints (Nat.le_trans hlen few) hr hF hb fun H hO hT hS => wish H a ns hlen hO hT hS
end L2H
set_option Elab.async false
set_option linter.all false
set_option maxRecDepth 100000
set_option maxHeartbeats 4000000
/-! what is asked of the classes of k04, in one look each -/
namespace X04
open PySem L2 L2H DQ K01 EnT LamX LamD RZ RU PySem.W
open XH hiding same_refl same_trans same_new
abbrev pK4 : Program := PySem.Challenge.pw_onlyjoins_k04_whole_unfoldings
abbrev mro (B : String) : List Value := [.type B, .type "Exception", .type "BaseException", .type "object"]
/-- what is asked of an error's class and its maker, in one look -/
def exB (K : Frag) (C fI cda : Addr) (f qn : Str) (B newId initId : String) (bmB : List Value) : Bool :=
  excInitIn K C bmB newId && (excOver K C bmB && (hasDictIn K C && (decide (findIn K (.ref C) "__init__" = some (some (.ref fI))) && (isFn K (.ref fI) && (codeIn K (.ref cda) qn &&
  (decide (ks_superIn K C C "__init__" = some (some (.builtin initId))) && (decide (subIn K (.ref C) (.type B) = some true) && (decide (mroIn K C (.ref C) = some true) && (decide (nsIn K cStatics "thirdparty.any" = some none) &&
  (decide (findIn K (.ref C) "__setattr__" = some (some (.builtin "object.__setattr__"))) && decide (findIn K (.ref C) f = some none)))))))))))
theorem nf_of {K : Frag} {C fI cda : Addr} {f qn : Str} {B newId initId : String} {bmB : List Value} (b : exB K C fI cda f qn B newId initId bmB = true) : findIn K (.ref C) f = some none := by
  simp only [exB, Bool.and_eq_true, decide_eq_true_eq] at b
  exact b.2.2.2.2.2.2.2.2.2.2.2
/-- what is asked of an error's class, so that it is raised and read -/
def exR (K : Frag) (C : Addr) : Bool :=
  decide (findIn K (.ref C) "__getattribute__" = some (some (.builtin "BaseException.__getattribute__"))) && (decide (findIn K (.ref C) "__getattr__" = some none) &&
  (decide (subIn K (.ref C) (.type "BaseException") = some true) && (decide (typeIn K (.ref C) = some (.type "type")) && (hasDictIn K C && keepIn K (.ref C)))))
theorem exR_ok {K : Frag} {C : Addr} {f : Str} (h : exR K C = true) (n : findIn K (.ref C) f = some none) : ExR K C f ∧ keepIn K (.ref C) = true := by
  simp only [exR, Bool.and_eq_true, decide_eq_true_eq] at h
  obtain ⟨h1, h2, h3, h4, h5, h6⟩ := h
  exact ⟨⟨h1, h2, n, h3, h4, h5⟩, h6⟩
theorem scopeOk : ∀ f ∈ (["value", "place"] : List Str), (iScope f).names.lookup ("self" : Str) = some .local ∧ (iScope f).names.lookup f = some .local ∧ (iScope f).names.lookup ("__class__" : Str) = some .free ∧
    (iScope f).names.lookup ("super" : Str) = some .globalImplicit ∧ (∀ x ∈ (iScope f).names, x.2 ≠ .cell) ∧ (f == ("__debug__" : Str)) = false ∧ ¬ ("self" : Str) = f := by decide +kernel
theorem ext_br {K : Frag} {mg : Str → Option Value} {C fI cda cc : Addr} {oc doc pm ct ccl cl : Value} {od an cdd cld : Option Addr} {osl ccs csl : Array (Option Value)} {vs : Array Value} {file : Str} {tf : Tok}
    (l1 : K.lookup fI = some ⟨oc, od, .func (ksFn "__init__" "BadRules.__init__" (defArgs (inClass (top 3) 0)) (defBody (inClass (top 3) 0)) (defScope (inClass (top 3) 0)) .none .none doc pm an (.ref cda) ct cc), osl⟩) (l2 : K.lookup cda = some ⟨ccl, cdd, .fields vs, ccs⟩) (h2 : vs[2]? = some (.str file tf)) (hf : ((pK4.main.file : Str) == file) = true)
    (l3 : K.lookup cc = some ⟨cl, cld, .cell (some (.ref C)), csl⟩) (b : exB K C fI cda "place" "BadRules.__init__" "ValueError" "ValueError.__new__" "ValueError.__init__" (mro "ValueError") = true) (gs : mg "super" = none) :
    ∃ fI fd qn B newId initId bmB, ExT pK4 K mg C fI fd "place" qn B newId initId bmB := by
  simp only [exB, Bool.and_eq_true, decide_eq_true_eq] at b
  obtain ⟨b1, b2, b3, b4, b5, b6, b7, b8, b9, b10, b11, b12⟩ := b
  obtain ⟨s0, s1, s2, s3, s4, s5, s6⟩ := scopeOk "place" (by decide +kernel)
  exact ⟨fI, ksFn "__init__" "BadRules.__init__" (defArgs (inClass (top 3) 0)) (defBody (inClass (top 3) 0)) (defScope (inClass (top 3) 0)) .none .none doc pm an (.ref cda) ct cc, "BadRules.__init__", "ValueError", "ValueError.__new__", "ValueError.__init__", mro "ValueError",
    { FB := PySem.F.excBase_ValueError, KF := kxs_ValueError, SF := PySem.F.store_ValueError, q := b1, ov := b2, hd := b3, iC := b4, isf := b5, sup := b7, sB := b8, sC := b9, op := b10, sa := b11, nf := b12, mgS := gs,
      fn := ⟨oc, doc, pm, ct, od, an, cda, cc, osl, _, _, _, _, _, _, _, _, _, _, _, _, _, by exact rfl, rfl, l1, b6, ⟨ccl, cdd, vs, ccs, file, tf, l2, h2, hf⟩, cl, cld, csl, l3⟩,
      tp := by decide +kernel, l0 := s0, l1 := s1, l2 := s2, l3 := s3, lc := s4, ld := s5, lf := s6,
      bp := fun s x v => .of_eq rfl, bk := fun s x v => .of_eq rfl }⟩
theorem ext_bu {K : Frag} {mg : Str → Option Value} {C fI cda cc : Addr} {oc doc pm ct ccl cl : Value} {od an cdd cld : Option Addr} {osl ccs csl : Array (Option Value)} {vs : Array Value} {file : Str} {tf : Tok}
    (l1 : K.lookup fI = some ⟨oc, od, .func (ksFn "__init__" "BadUnfolding.__init__" (defArgs (inClass (top 4) 0)) (defBody (inClass (top 4) 0)) (defScope (inClass (top 4) 0)) .none .none doc pm an (.ref cda) ct cc), osl⟩) (l2 : K.lookup cda = some ⟨ccl, cdd, .fields vs, ccs⟩) (h2 : vs[2]? = some (.str file tf)) (hf : ((pK4.main.file : Str) == file) = true)
    (l3 : K.lookup cc = some ⟨cl, cld, .cell (some (.ref C)), csl⟩) (b : exB K C fI cda "value" "BadUnfolding.__init__" "ValueError" "ValueError.__new__" "ValueError.__init__" (mro "ValueError") = true) (gs : mg "super" = none) :
    ∃ fI fd qn B newId initId bmB, ExT pK4 K mg C fI fd "value" qn B newId initId bmB := by
  simp only [exB, Bool.and_eq_true, decide_eq_true_eq] at b
  obtain ⟨b1, b2, b3, b4, b5, b6, b7, b8, b9, b10, b11, b12⟩ := b
  obtain ⟨s0, s1, s2, s3, s4, s5, s6⟩ := scopeOk "value" (by decide +kernel)
  exact ⟨fI, ksFn "__init__" "BadUnfolding.__init__" (defArgs (inClass (top 4) 0)) (defBody (inClass (top 4) 0)) (defScope (inClass (top 4) 0)) .none .none doc pm an (.ref cda) ct cc, "BadUnfolding.__init__", "ValueError", "ValueError.__new__", "ValueError.__init__", mro "ValueError",
    { FB := PySem.F.excBase_ValueError, KF := kxs_ValueError, SF := PySem.F.store_ValueError, q := b1, ov := b2, hd := b3, iC := b4, isf := b5, sup := b7, sB := b8, sC := b9, op := b10, sa := b11, nf := b12, mgS := gs,
      fn := ⟨oc, doc, pm, ct, od, an, cda, cc, osl, _, _, _, _, _, _, _, _, _, _, _, _, _, by exact rfl, rfl, l1, b6, ⟨ccl, cdd, vs, ccs, file, tf, l2, h2, hf⟩, cl, cld, csl, l3⟩,
      tp := by decide +kernel, l0 := s0, l1 := s1, l2 := s2, l3 := s3, lc := s4, ld := s5, lf := s6,
      bp := fun s x v => .of_eq rfl, bk := fun s x v => .of_eq rfl }⟩
/-- what is asked of the class Rules -/
def rulB (K : Frag) (C fI : Addr) : Bool :=
  (plainGet K C Str.empty && (hasDictIn K C && (plainOver K C && decide (findIn K (.ref C) "__setattr__" = some (some (.builtin "object.__setattr__")))))) &&
  ((decide (findIn K (.ref C) "ends" = some none) && decide (findIn K (.ref C) "steps" = some none)) &&
  (makesIn K C && (decide (findIn K (.ref C) "__init__" = some (some (.ref fI))) && (isFn K (.ref fI) && keepIn K (.ref C)))))
theorem rulB_ok {K : Frag} {C fI : Addr} (h : rulB K C fI = true) : Cls K C ∧ NoAttr K C "ends" ∧ NoAttr K C "steps" ∧ Mk K C fI := by
  simp only [rulB, Bool.and_eq_true, decide_eq_true_eq] at h
  obtain ⟨⟨a1, a2, a3, a4⟩, ⟨b1, b2⟩, c1, c2, c3, c4⟩ := h
  exact ⟨⟨a1, a2, a3, a4⟩, b1, b2, ⟨c1, c2, c3, c4⟩⟩
theorem bI_0 {K : Frag} {f p0 : Addr} {fd : FuncData} (F : FunD K "__init__" "Rules.__init__" (defArgs sRI) (defBody sRI) (defScope sRI) [V.ref p0] [] f fd) : Binds K fd ["self", "ends", "steps"] [] := by
  obtain ⟨ds, v, b⟩ := F.binds1 (ps := ["self", "ends", "steps"]) 3 1 (by simp) rfl fun T kV doc pm an cdv ct us its hu hi => match us, hu, its, hi with
    | [_, _, _], _, [_], _ => ⟨_, rfl, rfl⟩
  cases v
  exact b
end X04
set_option Elab.async false
set_option linter.all false
set_option maxRecDepth 100000
set_option maxHeartbeats 4000000
namespace U4
open PySem L2 L2H DQ K01 RU EnT LamX LamD RZ X04
open XH hiding same_refl same_trans same_new
abbrev pK : Program := PySem.Challenge.pw_onlyjoins_k04_whole_unfoldings
theorem all_mk {l : PySem.W.OpenLaw} {w : World} {K : PySem.W.Frag} {h : Heap} {mg : Str → Option Value} {fa PL C p0 T0 fI : Addr} (hp : l.prog = pK) (X : K.In h) (G : h.Ns mainGlobals mg) (hfa : mg "law" = some (.ref fa)) (km : K.lookup sysModules = none)
    (tL : h.get? PL = some { cls := .none, data := .fields #[] }) (nL : K.lookup PL = none)
    {fW : Addr} {odW anW : Option Addr} {slW : Array (Option Value)} {ocW kVW dcW pmW cdW ctW : Value}
    {fM : Addr} {odM anM : Option Addr} {slM : Array (Option Value)} {ocM kVM dcM pmM cdM ctM : Value}
    {fTr : Addr} {odTr anTr : Option Addr} {slTr : Array (Option Value)} {ocTr kVTr dcTr pmTr cdTr ctTr : Value}
    {fBo : Addr} {odBo anBo : Option Addr} {slBo : Array (Option Value)} {ocBo kVBo dcBo pmBo cdBo ctBo : Value}
    {fSh : Addr} {odSh anSh : Option Addr} {slSh : Array (Option Value)} {ocSh kVSh dcSh pmSh cdSh ctSh : Value}
    {fCt : Addr} {odCt anCt : Option Addr} {slCt : Array (Option Value)} {ocCt kVCt dcCt pmCt cdCt ctCt : Value}
    {fNd : Addr} {odNd anNd : Option Addr} {slNd : Array (Option Value)} {ocNd kVNd dcNd pmNd cdNd ctNd : Value}
    {fP : Addr} {odP anP : Option Addr} {slP : Array (Option Value)} {ocP kVP dcP pmP cdP ctP : Value}
    {fCl : Addr} {odCl anCl : Option Addr} {slCl : Array (Option Value)} {ocCl kVCl dcCl pmCl cdCl ctCl : Value}
    {fCL : Addr} {odCL anCL : Option Addr} {slCL : Array (Option Value)} {ocCL kVCL dcCL pmCL cdCL ctCL : Value}
    {fJo : Addr} {odJo anJo : Option Addr} {slJo : Array (Option Value)} {ocJo kVJo dcJo pmJo cdJo ctJo : Value}
    {fNu : Addr} {odNu anNu : Option Addr} {slNu : Array (Option Value)} {ocNu kVNu dcNu pmNu cdNu ctNu : Value}
    {fRo : Addr} {odRo anRo : Option Addr} {slRo : Array (Option Value)} {ocRo kVRo dcRo pmRo cdRo ctRo : Value}
    {fIU : Addr} {odIU anIU : Option Addr} {slIU : Array (Option Value)} {ocIU kVIU dcIU pmIU cdIU ctIU : Value}
    {fTO : Addr} {odTO anTO : Option Addr} {slTO : Array (Option Value)} {ocTO kVTO dcTO pmTO cdTO ctTO : Value}
    {fDO : Addr} {odDO anDO : Option Addr} {slDO : Array (Option Value)} {ocDO kVDO dcDO pmDO cdDO ctDO : Value}
    {fSr : Addr} {odSr anSr : Option Addr} {slSr : Array (Option Value)} {ocSr kVSr dcSr pmSr cdSr ctSr : Value}
    {fNe : Addr} {odNe anNe : Option Addr} {slNe : Array (Option Value)} {ocNe kVNe dcNe pmNe cdNe ctNe : Value}
    {fIA : Addr} {odIA anIA : Option Addr} {slIA : Array (Option Value)} {ocIA kVIA dcIA pmIA cdIA ctIA : Value}
    {fAS : Addr} {odAS anAS : Option Addr} {slAS : Array (Option Value)} {ocAS kVAS dcAS pmAS cdAS ctAS : Value}
    {fSm : Addr} {odSm anSm : Option Addr} {slSm : Array (Option Value)} {ocSm kVSm dcSm pmSm cdSm ctSm : Value}
    {fBt : Addr} {odBt anBt : Option Addr} {slBt : Array (Option Value)} {ocBt kVBt dcBt pmBt cdBt ctBt : Value}
    {fPC : Addr} {odPC anPC : Option Addr} {slPC : Array (Option Value)} {ocPC kVPC dcPC pmPC cdPC ctPC : Value}
    {fB : Addr} {odB anB : Option Addr} {slB : Array (Option Value)} {ocB kVB dcB pmB cdB ctB : Value}
    {fN : Addr} {odN anN : Option Addr} {slN : Array (Option Value)} {ocN kVN dcN pmN cdN ctN : Value}
    {fO : Addr} {odO anO : Option Addr} {slO : Array (Option Value)} {ocO kVO dcO pmO cdO ctO : Value}
    {fE : Addr} {odE anE : Option Addr} {slE : Array (Option Value)} {ocE kVE dcE pmE cdE ctE : Value}
    {fT : Addr} {odT anT : Option Addr} {slT : Array (Option Value)} {ocT kVT dcT pmT cdT ctT : Value}
    {fY : Addr} {odY anY : Option Addr} {slY : Array (Option Value)} {ocY kVY dcY pmY cdY ctY : Value}
    {fS : Addr} {odS anS : Option Addr} {slS : Array (Option Value)} {ocS kVS dcS pmS cdS ctS : Value}
    {fPu : Addr} {odPu anPu : Option Addr} {slPu : Array (Option Value)} {ocPu kVPu dcPu pmPu cdPu ctPu : Value}
    {fUn : Addr} {odUn anUn : Option Addr} {slUn : Array (Option Value)} {ocUn kVUn dcUn pmUn cdUn ctUn : Value}
    {fLC : Addr} {odLC anLC : Option Addr} {slLC : Array (Option Value)} {ocLC kVLC dcLC pmLC cdLC ctLC : Value}
    {fDe : Addr} {odDe anDe : Option Addr} {slDe : Array (Option Value)} {ocDe kVDe dcDe pmDe cdDe ctDe : Value}
    {fIs : Addr} {odIs anIs : Option Addr} {slIs : Array (Option Value)} {ocIs kVIs dcIs pmIs cdIs ctIs : Value}
    {fCa : Addr} {odCa anCa : Option Addr} {slCa : Array (Option Value)} {ocCa kVCa dcCa pmCa cdCa ctCa : Value}
    {fL : Addr} {odL anL : Option Addr} {slL : Array (Option Value)} {ocL kVL dcL pmL ctL : Value} {cdL : Addr}
    {odI anI odp odt : Option Addr} {slI slp slt : Array (Option Value)} {ocI kVI dcI pmI cdI ctI oct : Value} {np nt : Nat}
    {c1 f1 d1 e1 : Addr} {oc1 doc1 pm1 ct1 ccl1 cl1 : Value} {od1 an1 cdd1 cld1 : Option Addr} {osl1 ccs1 csl1 : Array (Option Value)} {vs1 : Array Value} {fil1 : Str} {tf1 : Tok}
    {c2 f2 d2 e2 : Addr} {oc2 doc2 pm2 ct2 ccl2 cl2 : Value} {od2 an2 cdd2 cld2 : Option Addr} {osl2 ccs2 csl2 : Array (Option Value)} {vs2 : Array Value} {fil2 : Str} {tf2 : Tok}
    {t8 tm3 tb3 tn6 tl3 tca te3 ts3 tdp : Tok}
    (aW : PySem.W.nsIn K mainGlobals "is_word" = some (some (.ref fW)))
    (lW : K.lookup fW = some ⟨ocW, odW, .func (PySem.W.fnOf "is_word" "is_word" (defArgs sWord) (defBody sWord) (defScope sWord) .none kVW dcW pmW anW cdW ctW), slW⟩)
    (cW : PySem.W.codeIn K cdW "is_word" = true)
    (kW : PySem.W.keepIn K (.ref fW) = true)
    (aM : PySem.W.nsIn K mainGlobals "are_words" = some (some (.ref fM)))
    (lM : K.lookup fM = some ⟨ocM, odM, .func (PySem.W.fnOf "are_words" "are_words" (defArgs sMarks) (defBody sMarks) (defScope sMarks) .none kVM dcM pmM anM cdM ctM), slM⟩)
    (cM : PySem.W.codeIn K cdM "are_words" = true)
    (kM : PySem.W.keepIn K (.ref fM) = true)
    (aTr : PySem.W.nsIn K mainGlobals "is_tree" = some (some (.ref fTr)))
    (lTr : K.lookup fTr = some ⟨ocTr, odTr, .func (PySem.W.fnOf "is_tree" "is_tree" (defArgs sTr) (defBody sTr) (defScope sTr) .none kVTr dcTr pmTr anTr cdTr ctTr), slTr⟩)
    (cTr : PySem.W.codeIn K cdTr "is_tree" = true)
    (kTr : PySem.W.keepIn K (.ref fTr) = true)
    (aBo : PySem.W.nsIn K mainGlobals "is_body" = some (some (.ref fBo)))
    (lBo : K.lookup fBo = some ⟨ocBo, odBo, .func (PySem.W.fnOf "is_body" "is_body" (defArgs sBo) (defBody sBo) (defScope sBo) .none kVBo dcBo pmBo anBo cdBo ctBo), slBo⟩)
    (cBo : PySem.W.codeIn K cdBo "is_body" = true)
    (kBo : PySem.W.keepIn K (.ref fBo) = true)
    (aSh : PySem.W.nsIn K mainGlobals "_is_shape" = some (some (.ref fSh)))
    (lSh : K.lookup fSh = some ⟨ocSh, odSh, .func (PySem.W.fnOf "_is_shape" "_is_shape" (defArgs sShape) (defBody sShape) (defScope sShape) .none kVSh dcSh pmSh anSh cdSh ctSh), slSh⟩)
    (cSh : PySem.W.codeIn K cdSh "_is_shape" = true)
    (kSh : PySem.W.keepIn K (.ref fSh) = true)
    (aCt : PySem.W.nsIn K mainGlobals "_counts" = some (some (.ref fCt)))
    (lCt : K.lookup fCt = some ⟨ocCt, odCt, .func (PySem.W.fnOf "_counts" "_counts" (defArgs sCount) (defBody sCount) (defScope sCount) .none kVCt dcCt pmCt anCt cdCt ctCt), slCt⟩)
    (cCt : PySem.W.codeIn K cdCt "_counts" = true)
    (kCt : PySem.W.keepIn K (.ref fCt) = true)
    (aNd : PySem.W.nsIn K mainGlobals "_is_node" = some (some (.ref fNd)))
    (lNd : K.lookup fNd = some ⟨ocNd, odNd, .func (PySem.W.fnOf "_is_node" "_is_node" (defArgs sNode) (defBody sNode) (defScope sNode) .none kVNd dcNd pmNd anNd cdNd ctNd), slNd⟩)
    (cNd : PySem.W.codeIn K cdNd "_is_node" = true)
    (kNd : PySem.W.keepIn K (.ref fNd) = true)
    (aP : PySem.W.nsIn K mainGlobals "_is_pair" = some (some (.ref fP)))
    (lP : K.lookup fP = some ⟨ocP, odP, .func (PySem.W.fnOf "_is_pair" "_is_pair" (defArgs sPair) (defBody sPair) (defScope sPair) .none kVP dcP pmP anP cdP ctP), slP⟩)
    (cP : PySem.W.codeIn K cdP "_is_pair" = true)
    (kP : PySem.W.keepIn K (.ref fP) = true)
    (aCl : PySem.W.nsIn K mainGlobals "_is_call" = some (some (.ref fCl)))
    (lCl : K.lookup fCl = some ⟨ocCl, odCl, .func (PySem.W.fnOf "_is_call" "_is_call" (defArgs sCall) (defBody sCall) (defScope sCall) .none kVCl dcCl pmCl anCl cdCl ctCl), slCl⟩)
    (cCl : PySem.W.codeIn K cdCl "_is_call" = true)
    (kCl : PySem.W.keepIn K (.ref fCl) = true)
    (aCL : PySem.W.nsIn K mainGlobals "call_level" = some (some (.ref fCL)))
    (lCL : K.lookup fCL = some ⟨ocCL, odCL, .func (PySem.W.fnOf "call_level" "call_level" (defArgs sCLv) (defBody sCLv) (defScope sCLv) .none kVCL dcCL pmCL anCL cdCL ctCL), slCL⟩)
    (cCL : PySem.W.codeIn K cdCL "call_level" = true)
    (kCL : PySem.W.keepIn K (.ref fCL) = true)
    (aJo : PySem.W.nsIn K mainGlobals "joined_marks" = some (some (.ref fJo)))
    (lJo : K.lookup fJo = some ⟨ocJo, odJo, .func (PySem.W.fnOf "joined_marks" "joined_marks" (defArgs sJoin) (defBody sJoin) (defScope sJoin) .none kVJo dcJo pmJo anJo cdJo ctJo), slJo⟩)
    (cJo : PySem.W.codeIn K cdJo "joined_marks" = true)
    (kJo : PySem.W.keepIn K (.ref fJo) = true)
    (aNu : PySem.W.nsIn K mainGlobals "is_number" = some (some (.ref fNu)))
    (lNu : K.lookup fNu = some ⟨ocNu, odNu, .func (PySem.W.fnOf "is_number" "is_number" (defArgs sNum) (defBody sNum) (defScope sNum) .none kVNu dcNu pmNu anNu cdNu ctNu), slNu⟩)
    (cNu : PySem.W.codeIn K cdNu "is_number" = true)
    (kNu : PySem.W.keepIn K (.ref fNu) = true)
    (aRo : PySem.W.nsIn K mainGlobals "_is_row" = some (some (.ref fRo)))
    (lRo : K.lookup fRo = some ⟨ocRo, odRo, .func (PySem.W.fnOf "_is_row" "_is_row" (defArgs sRow) (defBody sRow) (defScope sRow) .none kVRo dcRo pmRo anRo cdRo ctRo), slRo⟩)
    (cRo : PySem.W.codeIn K cdRo "_is_row" = true)
    (kRo : PySem.W.keepIn K (.ref fRo) = true)
    (aIU : PySem.W.nsIn K mainGlobals "is_unfolding" = some (some (.ref fIU)))
    (lIU : K.lookup fIU = some ⟨ocIU, odIU, .func (PySem.W.fnOf "is_unfolding" "is_unfolding" (defArgs sIsU) (defBody sIsU) (defScope sIsU) .none kVIU dcIU pmIU anIU cdIU ctIU), slIU⟩)
    (cIU : PySem.W.codeIn K cdIU "is_unfolding" = true)
    (kIU : PySem.W.keepIn K (.ref fIU) = true)
    (aTO : PySem.W.nsIn K mainGlobals "tree_of" = some (some (.ref fTO)))
    (lTO : K.lookup fTO = some ⟨ocTO, odTO, .func (PySem.W.fnOf "tree_of" "tree_of" (defArgs sTreeOf) (defBody sTreeOf) (defScope sTreeOf) .none kVTO dcTO pmTO anTO cdTO ctTO), slTO⟩)
    (cTO : PySem.W.codeIn K cdTO "tree_of" = true)
    (kTO : PySem.W.keepIn K (.ref fTO) = true)
    (aDO : PySem.W.nsIn K mainGlobals "depth_of" = some (some (.ref fDO)))
    (lDO : K.lookup fDO = some ⟨ocDO, odDO, .func (PySem.W.fnOf "depth_of" "depth_of" (defArgs sDepOf) (defBody sDepOf) (defScope sDepOf) .none kVDO dcDO pmDO anDO cdDO ctDO), slDO⟩)
    (cDO : PySem.W.codeIn K cdDO "depth_of" = true)
    (kDO : PySem.W.keepIn K (.ref fDO) = true)
    (aSr : PySem.W.nsIn K mainGlobals "shorter" = some (some (.ref fSr)))
    (lSr : K.lookup fSr = some ⟨ocSr, odSr, .func (PySem.W.fnOf "shorter" "shorter" (defArgs sShor) (defBody sShor) (defScope sShor) .none kVSr dcSr pmSr anSr cdSr ctSr), slSr⟩)
    (cSr : PySem.W.codeIn K cdSr "shorter" = true)
    (kSr : PySem.W.keepIn K (.ref fSr) = true)
    (aNe : PySem.W.nsIn K mainGlobals "need_unfolding" = some (some (.ref fNe)))
    (lNe : K.lookup fNe = some ⟨ocNe, odNe, .func (PySem.W.fnOf "need_unfolding" "need_unfolding" (defArgs sNeed) (defBody sNeed) (defScope sNeed) .none kVNe dcNe pmNe anNe cdNe ctNe), slNe⟩)
    (cNe : PySem.W.codeIn K cdNe "need_unfolding" = true)
    (kNe : PySem.W.keepIn K (.ref fNe) = true)
    (aIA : PySem.W.nsIn K mainGlobals "is_unfolding_at_all" = some (some (.ref fIA)))
    (lIA : K.lookup fIA = some ⟨ocIA, odIA, .func (PySem.W.fnOf "is_unfolding_at_all" "is_unfolding_at_all" (defArgs sIsA) (defBody sIsA) (defScope sIsA) .none kVIA dcIA pmIA anIA cdIA ctIA), slIA⟩)
    (cIA : PySem.W.codeIn K cdIA "is_unfolding_at_all" = true)
    (kIA : PySem.W.keepIn K (.ref fIA) = true)
    (aAS : PySem.W.nsIn K mainGlobals "are_steps" = some (some (.ref fAS)))
    (lAS : K.lookup fAS = some ⟨ocAS, odAS, .func (PySem.W.fnOf "are_steps" "are_steps" (defArgs sAreS) (defBody sAreS) (defScope sAreS) .none kVAS dcAS pmAS anAS cdAS ctAS), slAS⟩)
    (cAS : PySem.W.codeIn K cdAS "are_steps" = true)
    (kAS : PySem.W.keepIn K (.ref fAS) = true)
    (aSm : PySem.W.nsIn K mainGlobals "sum_levels" = some (some (.ref fSm)))
    (lSm : K.lookup fSm = some ⟨ocSm, odSm, .func (PySem.W.fnOf "sum_levels" "sum_levels" (defArgs sSum) (defBody sSum) (defScope sSum) .none kVSm dcSm pmSm anSm cdSm ctSm), slSm⟩)
    (cSm : PySem.W.codeIn K cdSm "sum_levels" = true)
    (kSm : PySem.W.keepIn K (.ref fSm) = true)
    (aBt : PySem.W.nsIn K mainGlobals "build_tree" = some (some (.ref fBt)))
    (lBt : K.lookup fBt = some ⟨ocBt, odBt, .func (PySem.W.fnOf "build_tree" "build_tree" (defArgs sBuild) (defBody sBuild) (defScope sBuild) .none kVBt dcBt pmBt anBt cdBt ctBt), slBt⟩)
    (cBt : PySem.W.codeIn K cdBt "build_tree" = true)
    (kBt : PySem.W.keepIn K (.ref fBt) = true)
    (aPC : PySem.W.nsIn K mainGlobals "_put_at_call" = some (some (.ref fPC)))
    (lPC : K.lookup fPC = some ⟨ocPC, odPC, .func (PySem.W.fnOf "_put_at_call" "_put_at_call" (defArgs sPutC) (defBody sPutC) (defScope sPutC) .none kVPC dcPC pmPC anPC cdPC ctPC), slPC⟩)
    (cPC : PySem.W.codeIn K cdPC "_put_at_call" = true)
    (kPC : PySem.W.keepIn K (.ref fPC) = true)
    (aB : PySem.W.nsIn K mainGlobals "_law_begun" = some (some (.ref fB)))
    (lB : K.lookup fB = some ⟨ocB, odB, .func (PySem.W.fnOf "_law_begun" "_law_begun" (defArgs sBeg) (defBody sBeg) (defScope sBeg) .none kVB dcB pmB anB cdB ctB), slB⟩)
    (cB : PySem.W.codeIn K cdB "_law_begun" = true)
    (kB : PySem.W.keepIn K (.ref fB) = true)
    (aN : PySem.W.nsIn K mainGlobals "_law_next" = some (some (.ref fN)))
    (lN : K.lookup fN = some ⟨ocN, odN, .func (PySem.W.fnOf "_law_next" "_law_next" (defArgs sNext) (defBody sNext) (defScope sNext) .none kVN dcN pmN anN cdN ctN), slN⟩)
    (cN : PySem.W.codeIn K cdN "_law_next" = true)
    (kN : PySem.W.keepIn K (.ref fN) = true)
    (aO : PySem.W.nsIn K mainGlobals "_law_odd" = some (some (.ref fO)))
    (lO : K.lookup fO = some ⟨ocO, odO, .func (PySem.W.fnOf "_law_odd" "_law_odd" (defArgs sOdd) (defBody sOdd) (defScope sOdd) .none kVO dcO pmO anO cdO ctO), slO⟩)
    (cO : PySem.W.codeIn K cdO "_law_odd" = true)
    (kO : PySem.W.keepIn K (.ref fO) = true)
    (aE : PySem.W.nsIn K mainGlobals "_law_bent" = some (some (.ref fE)))
    (lE : K.lookup fE = some ⟨ocE, odE, .func (PySem.W.fnOf "_law_bent" "_law_bent" (defArgs sBent) (defBody sBent) (defScope sBent) .none kVE dcE pmE anE cdE ctE), slE⟩)
    (cE : PySem.W.codeIn K cdE "_law_bent" = true)
    (kE : PySem.W.keepIn K (.ref fE) = true)
    (aT : PySem.W.nsIn K mainGlobals "_law_tree" = some (some (.ref fT)))
    (lT : K.lookup fT = some ⟨ocT, odT, .func (PySem.W.fnOf "_law_tree" "_law_tree" (defArgs sTree) (defBody sTree) (defScope sTree) .none kVT dcT pmT anT cdT ctT), slT⟩)
    (cT : PySem.W.codeIn K cdT "_law_tree" = true)
    (kT : PySem.W.keepIn K (.ref fT) = true)
    (aY : PySem.W.nsIn K mainGlobals "_law_body" = some (some (.ref fY)))
    (lY : K.lookup fY = some ⟨ocY, odY, .func (PySem.W.fnOf "_law_body" "_law_body" (defArgs sBody) (defBody sBody) (defScope sBody) .none kVY dcY pmY anY cdY ctY), slY⟩)
    (cY : PySem.W.codeIn K cdY "_law_body" = true)
    (kY : PySem.W.keepIn K (.ref fY) = true)
    (aS : PySem.W.nsIn K mainGlobals "_law_ends_and_steps" = some (some (.ref fS)))
    (lS : K.lookup fS = some ⟨ocS, odS, .func (PySem.W.fnOf "_law_ends_and_steps" "_law_ends_and_steps" (defArgs sEas) (defBody sEas) (defScope sEas) .none kVS dcS pmS anS cdS ctS), slS⟩)
    (cS : PySem.W.codeIn K cdS "_law_ends_and_steps" = true)
    (kS : PySem.W.keepIn K (.ref fS) = true)
    (aPu : PySem.W.nsIn K mainGlobals "_law_put" = some (some (.ref fPu)))
    (lPu : K.lookup fPu = some ⟨ocPu, odPu, .func (PySem.W.fnOf "_law_put" "_law_put" (defArgs sPut) (defBody sPut) (defScope sPut) .none kVPu dcPu pmPu anPu cdPu ctPu), slPu⟩)
    (cPu : PySem.W.codeIn K cdPu "_law_put" = true)
    (kPu : PySem.W.keepIn K (.ref fPu) = true)
    (aUn : PySem.W.nsIn K mainGlobals "_law_unfolded" = some (some (.ref fUn)))
    (lUn : K.lookup fUn = some ⟨ocUn, odUn, .func (PySem.W.fnOf "_law_unfolded" "_law_unfolded" (defArgs sUnf) (defBody sUnf) (defScope sUnf) .none kVUn dcUn pmUn anUn cdUn ctUn), slUn⟩)
    (cUn : PySem.W.codeIn K cdUn "_law_unfolded" = true)
    (kUn : PySem.W.keepIn K (.ref fUn) = true)
    (aLC : PySem.W.nsIn K mainGlobals "_law_call_level" = some (some (.ref fLC)))
    (lLC : K.lookup fLC = some ⟨ocLC, odLC, .func (PySem.W.fnOf "_law_call_level" "_law_call_level" (defArgs sLCL) (defBody sLCL) (defScope sLCL) .none kVLC dcLC pmLC anLC cdLC ctLC), slLC⟩)
    (cLC : PySem.W.codeIn K cdLC "_law_call_level" = true)
    (kLC : PySem.W.keepIn K (.ref fLC) = true)
    (aDe : PySem.W.nsIn K mainGlobals "_law_depth" = some (some (.ref fDe)))
    (lDe : K.lookup fDe = some ⟨ocDe, odDe, .func (PySem.W.fnOf "_law_depth" "_law_depth" (defArgs sDep) (defBody sDep) (defScope sDep) .none kVDe dcDe pmDe anDe cdDe ctDe), slDe⟩)
    (cDe : PySem.W.codeIn K cdDe "_law_depth" = true)
    (kDe : PySem.W.keepIn K (.ref fDe) = true)
    (aIs : PySem.W.nsIn K mainGlobals "_law_is_row" = some (some (.ref fIs)))
    (lIs : K.lookup fIs = some ⟨ocIs, odIs, .func (PySem.W.fnOf "_law_is_row" "_law_is_row" (defArgs sIsRow) (defBody sIsRow) (defScope sIsRow) .none kVIs dcIs pmIs anIs cdIs ctIs), slIs⟩)
    (cIs : PySem.W.codeIn K cdIs "_law_is_row" = true)
    (kIs : PySem.W.keepIn K (.ref fIs) = true)
    (aCa : PySem.W.nsIn K mainGlobals "_law_caught" = some (some (.ref fCa)))
    (lCa : K.lookup fCa = some ⟨ocCa, odCa, .func (PySem.W.fnOf "_law_caught" "_law_caught" (defArgs sCau) (defBody sCau) (defScope sCau) .none kVCa dcCa pmCa anCa cdCa ctCa), slCa⟩)
    (cCa : PySem.W.codeIn K cdCa "_law_caught" = true)
    (kCa : PySem.W.keepIn K (.ref fCa) = true)
    (aL : PySem.W.nsIn K mainGlobals "law" = some (some (.ref fL)))
    (lL : K.lookup fL = some ⟨ocL, odL, .func (PySem.W.fnOf "law" "law" (defArgs sLaw) (defBody sLaw) (defScope sLaw) .none kVL dcL pmL anL (.ref cdL) ctL), slL⟩)
    (cL : PySem.W.codeIn K (.ref cdL) "law" = true)
    (kL : PySem.W.keepIn K (.ref fL) = true)
    (hC : PySem.W.nsIn K mainGlobals "Rules" = some (some (.ref C)))
    (aI : PySem.W.findIn K (.ref C) "__init__" = some (some (.ref fI)))
    (lI : K.lookup fI = some ⟨ocI, odI, .func (PySem.W.fnOf "__init__" "Rules.__init__" (defArgs sRI) (defBody sRI) (defScope sRI) (.ref T0) kVI dcI pmI anI cdI ctI), slI⟩)
    (cI : PySem.W.codeIn K cdI "Rules.__init__" = true)
    (kI : PySem.W.keepIn K (.ref fI) = true)
    (lTd : K.lookup T0 = some ⟨oct, odt, .seq #[.ref p0] nt, slt⟩)
    (lpd : K.lookup p0 = some ⟨.type "tuple", odp, .seq #[] np, slp⟩)
    (bC : rulB K C fI = true)
    (a1 : PySem.W.nsIn K mainGlobals "BadRules" = some (some (.ref c1)))
    (i1 : PySem.W.findIn K (.ref c1) "__init__" = some (some (.ref f1)))
    (l1 : K.lookup f1 = some ⟨oc1, od1, .func (PySem.W.ksFn "__init__" "BadRules.__init__" (defArgs (inClass (top 3) 0)) (defBody (inClass (top 3) 0)) (defScope (inClass (top 3) 0)) .none .none doc1 pm1 an1 (.ref d1) ct1 e1), osl1⟩)
    (m1 : K.lookup d1 = some ⟨ccl1, cdd1, .fields vs1, ccs1⟩)
    (v1 : vs1[2]? = some (.str fil1 tf1))
    (h1 : ((pK.main.file : Str) == fil1) = true)
    (n1 : K.lookup e1 = some ⟨cl1, cld1, .cell (some (.ref c1)), csl1⟩)
    (b1 : exB K c1 f1 d1 "place" "BadRules.__init__" "ValueError" "ValueError.__new__" "ValueError.__init__" (mro "ValueError") = true)
    (q1 : exR K c1 = true)
    (a2 : PySem.W.nsIn K mainGlobals "BadUnfolding" = some (some (.ref c2)))
    (i2 : PySem.W.findIn K (.ref c2) "__init__" = some (some (.ref f2)))
    (l2 : K.lookup f2 = some ⟨oc2, od2, .func (PySem.W.ksFn "__init__" "BadUnfolding.__init__" (defArgs (inClass (top 4) 0)) (defBody (inClass (top 4) 0)) (defScope (inClass (top 4) 0)) .none .none doc2 pm2 an2 (.ref d2) ct2 e2), osl2⟩)
    (m2 : K.lookup d2 = some ⟨ccl2, cdd2, .fields vs2, ccs2⟩)
    (v2 : vs2[2]? = some (.str fil2 tf2))
    (h2 : ((pK.main.file : Str) == fil2) = true)
    (n2 : K.lookup e2 = some ⟨cl2, cld2, .cell (some (.ref c2)), csl2⟩)
    (b2 : exB K c2 f2 d2 "value" "BadUnfolding.__init__" "ValueError" "ValueError.__new__" "ValueError.__init__" (mro "ValueError") = true)
    (q2 : exR K c2 = true)
    (uu : decide (PySem.W.exmOne K (.ref c2) (.ref c2) = some true) = true)
    (hL : PySem.W.codeHdIn K cdL PL = true)
    (y8 : PySem.W.nsIn K mainGlobals "LONGEST_WORD" = some (some (.int 8 t8)))
    (ym3 : PySem.W.nsIn K mainGlobals "MOST_MARKS" = some (some (.int 3 tm3)))
    (yb3 : PySem.W.nsIn K mainGlobals "MOST_BRANCHES" = some (some (.int 3 tb3)))
    (yn6 : PySem.W.nsIn K mainGlobals "MOST_NODES" = some (some (.int 6 tn6)))
    (yl3 : PySem.W.nsIn K mainGlobals "MOST_LEVEL" = some (some (.int 3 tl3)))
    (yca : PySem.W.nsIn K mainGlobals "CALL" = some (some (.str "call" tca)))
    (ye3 : PySem.W.nsIn K mainGlobals "MOST_ENDS" = some (some (.int 3 te3)))
    (ys3 : PySem.W.nsIn K mainGlobals "MOST_STEPS" = some (some (.int 3 ts3)))
    (ydp : PySem.W.nsIn K mainGlobals "MOST_DEPTH" = some (some (.int 130 tdp)))
    (z0 : PySem.W.nsIn K mainGlobals "isinstance" = some none)
    (z1 : PySem.W.nsIn K mainGlobals "str" = some none)
    (z2 : PySem.W.nsIn K mainGlobals "tuple" = some none)
    (z3 : PySem.W.nsIn K mainGlobals "len" = some none)
    (z4 : PySem.W.nsIn K mainGlobals "all" = some none)
    (z5 : PySem.W.nsIn K mainGlobals "zip" = some none)
    (z6 : PySem.W.nsIn K mainGlobals "list" = some none)
    (z7 : PySem.W.nsIn K mainGlobals "int" = some none)
    (z8 : PySem.W.nsIn K mainGlobals "bool" = some none)
    (z9 : PySem.W.nsIn K mainGlobals "enumerate" = some none)
    (z10 : PySem.W.nsIn K mainGlobals "range" = some none)
    (z11 : PySem.W.nsIn K mainGlobals "min" = some none)
    (z12 : PySem.W.nsIn K mainGlobals "max" = some none)
    (z13 : PySem.W.nsIn K mainGlobals "repr" = some none)
    (z14 : PySem.W.nsIn K mainGlobals "super" = some none)
    (z15 : PySem.W.nsIn K mainGlobals "sorted" = some none)
    (z16 : PySem.W.nsIn K mainGlobals "set" = some none)
    (z17 : PySem.W.nsIn K mainGlobals "sum" = some none)
    (z18 : PySem.W.nsIn K mainGlobals "reversed" = some none) :
    LawAtT l w 141 63 "script" mg fa h := by
  have e := hfa.symm.trans (PySem.W.mg_of X G aL)
  cases e
  have no : ∀ {n : Str}, PySem.W.nsIn K mainGlobals n = some none → mg n = none := fun {n} z => PySem.W.mg_none_of X G z
  have FW := fun_mk (st := sWord) lW cW kW
  have BW := FW.binds (ps := ["thing"]) fun _ _ _ _ _ _ us hl => match us, hl with | [_], _ => rfl
  have gW : mg "is_word" = some (.ref fW) := PySem.W.mg_of X G aW
  have FM := fun_mk (st := sMarks) lM cM kM
  have BM := FM.binds (ps := ["thing", "least", "most"]) fun _ _ _ _ _ _ us hl => match us, hl with | [_, _, _], _ => rfl
  have gM : mg "are_words" = some (.ref fM) := PySem.W.mg_of X G aM
  have FTr := fun_mk (st := sTr) lTr cTr kTr
  have BTr := FTr.binds (ps := ["thing"]) fun _ _ _ _ _ _ us hl => match us, hl with | [_], _ => rfl
  have gTr : mg "is_tree" = some (.ref fTr) := PySem.W.mg_of X G aTr
  have FBo := fun_mk (st := sBo) lBo cBo kBo
  have BBo := FBo.binds (ps := ["thing"]) fun _ _ _ _ _ _ us hl => match us, hl with | [_], _ => rfl
  have gBo : mg "is_body" = some (.ref fBo) := PySem.W.mg_of X G aBo
  have FSh := fun_mk (st := sShape) lSh cSh kSh
  have BSh := FSh.binds (ps := ["thing", "calls"]) fun _ _ _ _ _ _ us hl => match us, hl with | [_, _], _ => rfl
  have gSh : mg "_is_shape" = some (.ref fSh) := PySem.W.mg_of X G aSh
  have FCt := fun_mk (st := sCount) lCt cCt kCt
  have BCt := FCt.binds (ps := ["thing", "level"]) fun _ _ _ _ _ _ us hl => match us, hl with | [_, _], _ => rfl
  have gCt : mg "_counts" = some (.ref fCt) := PySem.W.mg_of X G aCt
  have FNd := fun_mk (st := sNode) lNd cNd kNd
  have BNd := FNd.binds (ps := ["thing", "level"]) fun _ _ _ _ _ _ us hl => match us, hl with | [_, _], _ => rfl
  have gNd : mg "_is_node" = some (.ref fNd) := PySem.W.mg_of X G aNd
  have FP := fun_mk (st := sPair) lP cP kP
  have BP := FP.binds (ps := ["thing"]) fun _ _ _ _ _ _ us hl => match us, hl with | [_], _ => rfl
  have gP : mg "_is_pair" = some (.ref fP) := PySem.W.mg_of X G aP
  have FCl := fun_mk (st := sCall) lCl cCl kCl
  have BCl := FCl.binds (ps := ["thing"]) fun _ _ _ _ _ _ us hl => match us, hl with | [_], _ => rfl
  have gCl : mg "_is_call" = some (.ref fCl) := PySem.W.mg_of X G aCl
  have FCL := fun_mk (st := sCLv) lCL cCL kCL
  have BCL := FCL.binds (ps := ["tree"]) fun _ _ _ _ _ _ us hl => match us, hl with | [_], _ => rfl
  have gCL : mg "call_level" = some (.ref fCL) := PySem.W.mg_of X G aCL
  have FJo := fun_mk (st := sJoin) lJo cJo kJo
  have BJo := FJo.binds (ps := ["marks", "others"]) fun _ _ _ _ _ _ us hl => match us, hl with | [_, _], _ => rfl
  have gJo : mg "joined_marks" = some (.ref fJo) := PySem.W.mg_of X G aJo
  have FNu := fun_mk (st := sNum) lNu cNu kNu
  have BNu := FNu.binds (ps := ["thing", "many"]) fun _ _ _ _ _ _ us hl => match us, hl with | [_, _], _ => rfl
  have gNu : mg "is_number" = some (.ref fNu) := PySem.W.mg_of X G aNu
  have FRo := fun_mk (st := sRow) lRo cRo kRo
  have BRo := FRo.binds (ps := ["thing", "least", "most"]) fun _ _ _ _ _ _ us hl => match us, hl with | [_, _, _], _ => rfl
  have gRo : mg "_is_row" = some (.ref fRo) := PySem.W.mg_of X G aRo
  have FIU := fun_mk (st := sIsU) lIU cIU kIU
  have BIU := FIU.binds (ps := ["rules", "thing"]) fun _ _ _ _ _ _ us hl => match us, hl with | [_, _], _ => rfl
  have gIU : mg "is_unfolding" = some (.ref fIU) := PySem.W.mg_of X G aIU
  have FTO := fun_mk (st := sTreeOf) lTO cTO kTO
  have BTO := FTO.binds (ps := ["rules", "unfolding"]) fun _ _ _ _ _ _ us hl => match us, hl with | [_, _], _ => rfl
  have gTO : mg "tree_of" = some (.ref fTO) := PySem.W.mg_of X G aTO
  have FDO := fun_mk (st := sDepOf) lDO cDO kDO
  have BDO := FDO.binds (ps := ["rules", "unfolding"]) fun _ _ _ _ _ _ us hl => match us, hl with | [_, _], _ => rfl
  have gDO : mg "depth_of" = some (.ref fDO) := PySem.W.mg_of X G aDO
  have FSr := fun_mk (st := sShor) lSr cSr kSr
  have BSr := FSr.binds (ps := ["rules", "unfolding"]) fun _ _ _ _ _ _ us hl => match us, hl with | [_, _], _ => rfl
  have gSr : mg "shorter" = some (.ref fSr) := PySem.W.mg_of X G aSr
  have FNe := fun_mk (st := sNeed) lNe cNe kNe
  have BNe := FNe.binds (ps := ["rules", "thing"]) fun _ _ _ _ _ _ us hl => match us, hl with | [_, _], _ => rfl
  have gNe : mg "need_unfolding" = some (.ref fNe) := PySem.W.mg_of X G aNe
  have FIA := fun_mk (st := sIsA) lIA cIA kIA
  have BIA := FIA.binds (ps := ["rules", "thing"]) fun _ _ _ _ _ _ us hl => match us, hl with | [_, _], _ => rfl
  have gIA : mg "is_unfolding_at_all" = some (.ref fIA) := PySem.W.mg_of X G aIA
  have FAS := fun_mk (st := sAreS) lAS cAS kAS
  have BAS := FAS.binds (ps := ["rules", "things"]) fun _ _ _ _ _ _ us hl => match us, hl with | [_, _], _ => rfl
  have gAS : mg "are_steps" = some (.ref fAS) := PySem.W.mg_of X G aAS
  have FSm := fun_mk (st := sSum) lSm cSm kSm
  have BSm := FSm.binds (ps := ["rules", "unfolding"]) fun _ _ _ _ _ _ us hl => match us, hl with | [_, _], _ => rfl
  have gSm : mg "sum_levels" = some (.ref fSm) := PySem.W.mg_of X G aSm
  have FBt := fun_mk (st := sBuild) lBt cBt kBt
  have BBt := FBt.binds (ps := ["rules", "unfolding"]) fun _ _ _ _ _ _ us hl => match us, hl with | [_, _], _ => rfl
  have gBt : mg "build_tree" = some (.ref fBt) := PySem.W.mg_of X G aBt
  have FPC := fun_mk (st := sPutC) lPC cPC kPC
  have BPC := FPC.binds (ps := ["body", "tree"]) fun _ _ _ _ _ _ us hl => match us, hl with | [_, _], _ => rfl
  have gPC : mg "_put_at_call" = some (.ref fPC) := PySem.W.mg_of X G aPC
  have FB := fun_mk (st := sBeg) lB cB kB
  have BB := FB.binds (ps := ["script"]) fun _ _ _ _ _ _ us hl => match us, hl with | [_], _ => rfl
  have gB : mg "_law_begun" = some (.ref fB) := PySem.W.mg_of X G aB
  have FN := fun_mk (st := sNext) lN cN kN
  have BN := FN.binds (ps := ["m", "many"]) fun _ _ _ _ _ _ us hl => match us, hl with | [_, _], _ => rfl
  have gN : mg "_law_next" = some (.ref fN) := PySem.W.mg_of X G aN
  have FO := fun_mk (st := sOdd) lO cO kO
  have BO := FO.binds (ps := ["m"]) fun _ _ _ _ _ _ us hl => match us, hl with | [_], _ => rfl
  have gO : mg "_law_odd" = some (.ref fO) := PySem.W.mg_of X G aO
  have FE := fun_mk (st := sBent) lE cE kE
  have BE := FE.binds (ps := ["m", "thing"]) fun _ _ _ _ _ _ us hl => match us, hl with | [_, _], _ => rfl
  have gE : mg "_law_bent" = some (.ref fE) := PySem.W.mg_of X G aE
  have FT := fun_mk (st := sTree) lT cT kT
  have BT := FT.binds (ps := ["m", "size", "deep"]) fun _ _ _ _ _ _ us hl => match us, hl with | [_, _, _], _ => rfl
  have gT : mg "_law_tree" = some (.ref fT) := PySem.W.mg_of X G aT
  have FY := fun_mk (st := sBody) lY cY kY
  have BY := FY.binds (ps := ["m", "size"]) fun _ _ _ _ _ _ us hl => match us, hl with | [_, _], _ => rfl
  have gY : mg "_law_body" = some (.ref fY) := PySem.W.mg_of X G aY
  have FS := fun_mk (st := sEas) lS cS kS
  have BS := FS.binds (ps := ["m", "sizes"]) fun _ _ _ _ _ _ us hl => match us, hl with | [_, _], _ => rfl
  have gS : mg "_law_ends_and_steps" = some (.ref fS) := PySem.W.mg_of X G aS
  have FPu := fun_mk (st := sPut) lPu cPu kPu
  have BPu := FPu.binds (ps := ["body", "tree"]) fun _ _ _ _ _ _ us hl => match us, hl with | [_, _], _ => rfl
  have gPu : mg "_law_put" = some (.ref fPu) := PySem.W.mg_of X G aPu
  have FUn := fun_mk (st := sUnf) lUn cUn kUn
  have BUn := FUn.binds (ps := ["ends", "steps", "row"]) fun _ _ _ _ _ _ us hl => match us, hl with | [_, _, _], _ => rfl
  have gUn : mg "_law_unfolded" = some (.ref fUn) := PySem.W.mg_of X G aUn
  have FLC := fun_mk (st := sLCL) lLC cLC kLC
  have BLC := FLC.binds (ps := ["body"]) fun _ _ _ _ _ _ us hl => match us, hl with | [_], _ => rfl
  have gLC : mg "_law_call_level" = some (.ref fLC) := PySem.W.mg_of X G aLC
  have FDe := fun_mk (st := sDep) lDe cDe kDe
  have BDe := FDe.binds (ps := ["steps", "row"]) fun _ _ _ _ _ _ us hl => match us, hl with | [_, _], _ => rfl
  have gDe : mg "_law_depth" = some (.ref fDe) := PySem.W.mg_of X G aDe
  have FIs := fun_mk (st := sIsRow) lIs cIs kIs
  have BIs := FIs.binds (ps := ["ends", "steps", "thing"]) fun _ _ _ _ _ _ us hl => match us, hl with | [_, _, _], _ => rfl
  have gIs : mg "_law_is_row" = some (.ref fIs) := PySem.W.mg_of X G aIs
  have FCa := fun_mk (st := sCau) lCa cCa kCa
  have BCa := FCa.binds (ps := ["call"]) fun _ _ _ _ _ _ us hl => match us, hl with | [_], _ => rfl
  have gCa : mg "_law_caught" = some (.ref fCa) := PySem.W.mg_of X G aCa
  have FL := fun_mk (st := sLaw) lL cL kL
  obtain ⟨cl, nE, nS, mkc⟩ := rulB_ok bC
  have FI : FunD K "__init__" "Rules.__init__" (defArgs sRI) (defBody sRI) (defScope sRI) [V.ref p0] [] fI _ := ⟨⟨_, _, _, _, _, _, _, _, _, _, rfl, lI, cI, .inr ⟨by simp, T0, _, [.ref p0], nt, rfl, lTd, rfl, .cons rfl .nil⟩, .inl rfl⟩, kI⟩
  have BI0 : Binds K _ ["self", "ends", "steps"] [] := bI_0 FI
  have TPm : TP mg := { isi := (no z0), str := (no z1), tuple := (no z2), len := (no z3), all := (no z4), zip := (no z5), w8 := ⟨_, PySem.W.mg_of X G y8⟩, m3 := ⟨_, PySem.W.mg_of X G ym3⟩, b3 := ⟨_, PySem.W.mg_of X G yb3⟩, n6 := ⟨_, PySem.W.mg_of X G yn6⟩, l3 := ⟨_, PySem.W.mg_of X G yl3⟩, ca := ⟨_, PySem.W.mg_of X G yca⟩ }
  have TBm : TxtB mg := ⟨(no z6), (no z7), (no z3)⟩
  have TRm : TR mg := { isi := (no z0), len := (no z3), list := (no z6), tuple := (no z2), int := (no z7), bool := (no z8), enum := (no z9) }
  have TI : TI3 mg := { tr := TRm, e3 := ⟨_, PySem.W.mg_of X G ye3⟩, s3 := ⟨_, PySem.W.mg_of X G ys3⟩ }
  have TSm : TS2 mg := { len := (no z3), set := (no z16), sorted := (no z15), tuple := (no z2) }
  have PFm : K01.PF K mg fW fP fCl fM _ _ _ _ := { W := FW, bW := BW, gW := gW, P := FP, bP := BP, gP := gP, C := FCl, bC := BCl, gC := gCl, M := FM, bM := BM, gM := gM }
  have x1 := ext_br l1 m1 v1 h1 n1 b1 (no z14)
  have x2 := ext_bu l2 m2 v2 h2 n2 b2 (no z14)
  obtain ⟨r1, kp1⟩ := exR_ok q1 (nf_of b1)
  obtain ⟨r2, kp2⟩ := exR_ok q2 (nf_of b2)
  have gB' : mg "BadRules" = some (.ref c1) := PySem.W.mg_of X G a1
  have gU' : mg "BadUnfolding" = some (.ref c2) := PySem.W.mg_of X G a2
  have gC' : mg "Rules" = some (.ref C) := PySem.W.mg_of X G hC
  have E1 : ExF pK K mg "BadRules" "place" c1 := ⟨x1, r1, gB', kp1⟩
  have E2 : ExF pK K mg "BadUnfolding" "value" c2 := ⟨x2, r2, gU', kp2⟩
  have RCm : RCl K mg C fI := { g := gC', cl := cl, mkc := mkc, n1 := nE, n2 := nS }
  have hC0 : C0 K C := ⟨cl, nE, nS⟩
  have GCt := fun base : Heap => ok_counts (P := pK) (w := w) (base := base) FCt BCt gCt FNd BNd gNd PFm TPm 4 (by decide)
  have GSh := fun base : Heap => ok_shape (P := pK) (w := w) (base := base) FSh FCt BCt gCt (GCt base) TPm
  have GTr := fun base : Heap => ok_tr (P := pK) (w := w) (base := base) FTr FSh BSh gSh (GSh base)
  have GBo := fun base : Heap => ok_bo (P := pK) (w := w) (base := base) FBo FSh BSh gSh (GSh base)
  have GN := fun base : Heap => (ok_next (P := pK) (w := w) (base := base) FN TBm).imp fun _ _ _ _ => nx_of
  have GO := fun base : Heap => ok_odd (P := pK) (w := w) (base := base) FO FN BN gN TBm
  have GT := fun base : Heap => ok_tree (P := pK) (w := w) (base := base) FT BT gT FN BN gN TBm (no z2) 2 (by decide)
  have GY := fun base : Heap => ok_body (P := pK) (w := w) (base := base) FY FN BN gN FT BT gT TBm (no z2)
  have GE := fun base : Heap => ok_bent (P := pK) (w := w) (base := base) FE BE gE FN BN gN FO BO gO TBm TPm (no z8) (Nat.le_refl _) 12 (by decide)
  have GS := fun base : Heap => ok_eas (P := pK) (w := w) (base := base) FS FN BN gN (GN base) FT BT gT (GT base) FY BY gY (GY base) (no z10)
  have GI := fun base : Heap => ok_ri (P := pK) (w := w) (base := base) FI FRo BRo gRo FTr BTr gTr (GTr base) FBo BBo gBo (GBo base) TI E1 cl nE nS
  have GIA := fun base : Heap => ok_all (P := pK) (w := w) (base := base) FIA FAS BAS gAS FNu BNu gNu TRm (no z4) hC0
  have GSm := fun base : Heap => ok_sum (P := pK) (w := w) (base := base) FSm FCL BCL gCL (no z3) (no z17) hC0
  have GIU := fun base : Heap => ok_is (P := pK) (w := w) (base := base) FIU FIA BIA gIA (GIA base) FSm BSm gSm (GSm base) ⟨_, PySem.W.mg_of X G ydp⟩
  have GNe := fun base : Heap => ok_need (P := pK) (w := w) (base := base) FNe FIU BIU gIU (GIU base) E2
  have GPC := fun base : Heap => ok_pc (P := pK) (w := w) (base := base) FPC BPC gPC FCL BCL gCL FJo BJo gJo TSm 4
  have GBt := fun base : Heap => ok_build (P := pK) (w := w) (base := base) FBt FPC BPC gPC (GPC base) (no z18) hC0
  have GTO := fun base : Heap => ok_treeof (P := pK) (w := w) (base := base) FTO FNe BNe gNe (GNe base) FBt BBt gBt (GBt base)
  have GDO := fun base : Heap => ok_depthof (P := pK) (w := w) (base := base) FDO FNe BNe gNe (GNe base) FSm BSm gSm (GSm base)
  have GSr := fun base : Heap => ok_shorter (P := pK) (w := w) (base := base) FSr FNe BNe gNe (GNe base)
  have GPu := fun base : Heap => ok_put (P := pK) (w := w) (base := base) FPu BPu gPu TSm 4
  have GUn := fun base : Heap => ok_lun (P := pK) (w := w) (base := base) FUn FPu BPu gPu (GPu base)
  have GDe := fun base : Heap => ok_lde (P := pK) (w := w) (base := base) FDe FLC BLC gLC (no z3) (no z17)
  have GIs := fun base : Heap => ok_lis (P := pK) (w := w) (base := base) FIs FDe BDe gDe (GDe base) TRm
  have huL : ∀ p ∈ [(PL, qLw)], p.1 = PL → p.2 = qLw := fun p hp' e => by
    obtain rfl := List.mem_singleton.mp hp'
    rfl
  have key := fun (base : Heap) (tb2 : TabB base mg cdL PL) => ok_law (P := pK) (w := w) (base := base) (T := [(PL, qLw)]) (p0 := p0) FL rfl tb2 (List.mem_cons_self ..) huL RCm (GI base) BI0 TRm
    gU' r2 (of_decide_eq_true uu) FCa BCa gCa FB BB gB (ok_beg FB TBm) FN BN gN (GN base) FO BO gO (GO base) FE BE gE (GE base) FS BS gS (GS base) FIs BIs gIs (GIs base) FUn BUn gUn (GUn base) FDe BDe gDe (GDe base)
    FIU BIU gIU (GIU base) FTO BTO gTO (GTO base) FDO BDO gDO (GDO base) FSr BSr gSr (GSr base) (no z10) (no z11) (no z12) (no z13)
  refine ⟨K, ?fd, [(cdL, PL)], spLaw [(PL, qLw)] K, X, km, ?t1, ?t2, ?t3, ?b, ?wish, ?last⟩
  case last =>
    intro base Kb Nb tb
    rw [hp]
    exact key base (tb (cdL, PL) (List.mem_cons_self ..))
  case b => exact fun s v => .of_eq rfl
  case t1 =>
    intro p hp'
    obtain rfl := List.mem_singleton.mp hp'
    exact tL
  case t2 =>
    intro p hp'
    obtain rfl := List.mem_singleton.mp hp'
    exact nL
  case t3 =>
    intro p hp'
    obtain rfl := List.mem_singleton.mp hp'
    exact PySem.W.codeHd_of_K X hL
  case wish =>
    intro H a ns hl sy tb sq
    refine ⟨a, ns, rfl, sq, hl, sy, fun p hp' => ?_, fun _ => rfl⟩
    obtain rfl := List.mem_singleton.mp hp'
    exact .nil (tb (cdL, PL) (List.mem_cons_self ..))
end U4
set_option Elab.async false
open PySem PySem.W PyProof.Rows
theorem U4.room141 : L2.Room 141 callerA := ⟨rfl, by decide, by decide⟩
set_option maxRecDepth 100000 in
set_option maxHeartbeats 0 in
theorem PySem.Challenge.cw_onlyjoins_k04_whole_unfoldings_holds : PySem.Challenge.rw_onlyjoins_k04_whole_unfoldings.Holds := by
  w_on; o_law; k_head; (case hw => w_witness2)
  k_fill
  refine L2H.walk_topT (l := PySem.Challenge.rw_onlyjoins_k04_whole_unfoldings) (n := 63) (k := 141) (x := "script") rfl (by decide) rfl (by decide +kernel) U4.room141 ?F
  case F =>
    intro w mg fa h Y G hmg
    have KX := PySem.W.km_in_of Y
    have tabs := PySem.W.km_tabs_of Y
    refine' U4.all_mk (PL := 478) rfl KX G hmg rfl (tabs 478 (by decide)) rfl ?aW ?lW ?cW ?kW ?aM ?lM ?cM ?kM ?aTr ?lTr ?cTr ?kTr ?aBo ?lBo ?cBo ?kBo ?aSh ?lSh ?cSh ?kSh ?aCt ?lCt ?cCt ?kCt ?aNd ?lNd ?cNd ?kNd ?aP ?lP ?cP ?kP ?aCl ?lCl ?cCl ?kCl ?aCL ?lCL ?cCL ?kCL ?aJo ?lJo ?cJo ?kJo ?aNu ?lNu ?cNu ?kNu ?aRo ?lRo ?cRo ?kRo ?aIU ?lIU ?cIU ?kIU ?aTO ?lTO ?cTO ?kTO ?aDO ?lDO ?cDO ?kDO ?aSr ?lSr ?cSr ?kSr ?aNe ?lNe ?cNe ?kNe ?aIA ?lIA ?cIA ?kIA ?aAS ?lAS ?cAS ?kAS ?aSm ?lSm ?cSm ?kSm ?aBt ?lBt ?cBt ?kBt ?aPC ?lPC ?cPC ?kPC ?aB ?lB ?cB ?kB ?aN ?lN ?cN ?kN ?aO ?lO ?cO ?kO ?aE ?lE ?cE ?kE ?aT ?lT ?cT ?kT ?aY ?lY ?cY ?kY ?aS ?lS ?cS ?kS ?aPu ?lPu ?cPu ?kPu ?aUn ?lUn ?cUn ?kUn ?aLC ?lLC ?cLC ?kLC ?aDe ?lDe ?cDe ?kDe ?aIs ?lIs ?cIs ?kIs ?aCa ?lCa ?cCa ?kCa ?aL ?lL ?cL ?kL ?hC ?aI ?lI ?cI ?kI ?lTd ?lpd ?bC ?a1 ?i1 ?l1 ?m1 ?v1 ?h1 ?n1 ?b1 ?q1 ?a2 ?i2 ?l2 ?m2 ?v2 ?h2 ?n2 ?b2 ?q2 ?uu ?hL ?y8 ?ym3 ?yb3 ?yn6 ?yl3 ?yca ?ye3 ?ys3 ?ydp ?z0 ?z1 ?z2 ?z3 ?z4 ?z5 ?z6 ?z7 ?z8 ?z9 ?z10 ?z11 ?z12 ?z13 ?z14 ?z15 ?z16 ?z17 ?z18
    (case aW => k_is)
    (case lW => k_is)
    (case cW => k_is)
    (case kW => k_is)
    (case aM => k_is)
    (case lM => k_is)
    (case cM => k_is)
    (case kM => k_is)
    (case aTr => k_is)
    (case lTr => k_is)
    (case cTr => k_is)
    (case kTr => k_is)
    (case aBo => k_is)
    (case lBo => k_is)
    (case cBo => k_is)
    (case kBo => k_is)
    (case aSh => k_is)
    (case lSh => k_is)
    (case cSh => k_is)
    (case kSh => k_is)
    (case aCt => k_is)
    (case lCt => k_is)
    (case cCt => k_is)
    (case kCt => k_is)
    (case aNd => k_is)
    (case lNd => k_is)
    (case cNd => k_is)
    (case kNd => k_is)
    (case aP => k_is)
    (case lP => k_is)
    (case cP => k_is)
    (case kP => k_is)
    (case aCl => k_is)
    (case lCl => k_is)
    (case cCl => k_is)
    (case kCl => k_is)
    (case aCL => k_is)
    (case lCL => k_is)
    (case cCL => k_is)
    (case kCL => k_is)
    (case aJo => k_is)
    (case lJo => k_is)
    (case cJo => k_is)
    (case kJo => k_is)
    (case aNu => k_is)
    (case lNu => k_is)
    (case cNu => k_is)
    (case kNu => k_is)
    (case aRo => k_is)
    (case lRo => k_is)
    (case cRo => k_is)
    (case kRo => k_is)
    (case aIU => k_is)
    (case lIU => k_is)
    (case cIU => k_is)
    (case kIU => k_is)
    (case aTO => k_is)
    (case lTO => k_is)
    (case cTO => k_is)
    (case kTO => k_is)
    (case aDO => k_is)
    (case lDO => k_is)
    (case cDO => k_is)
    (case kDO => k_is)
    (case aSr => k_is)
    (case lSr => k_is)
    (case cSr => k_is)
    (case kSr => k_is)
    (case aNe => k_is)
    (case lNe => k_is)
    (case cNe => k_is)
    (case kNe => k_is)
    (case aIA => k_is)
    (case lIA => k_is)
    (case cIA => k_is)
    (case kIA => k_is)
    (case aAS => k_is)
    (case lAS => k_is)
    (case cAS => k_is)
    (case kAS => k_is)
    (case aSm => k_is)
    (case lSm => k_is)
    (case cSm => k_is)
    (case kSm => k_is)
    (case aBt => k_is)
    (case lBt => k_is)
    (case cBt => k_is)
    (case kBt => k_is)
    (case aPC => k_is)
    (case lPC => k_is)
    (case cPC => k_is)
    (case kPC => k_is)
    (case aB => k_is)
    (case lB => k_is)
    (case cB => k_is)
    (case kB => k_is)
    (case aN => k_is)
    (case lN => k_is)
    (case cN => k_is)
    (case kN => k_is)
    (case aO => k_is)
    (case lO => k_is)
    (case cO => k_is)
    (case kO => k_is)
    (case aE => k_is)
    (case lE => k_is)
    (case cE => k_is)
    (case kE => k_is)
    (case aT => k_is)
    (case lT => k_is)
    (case cT => k_is)
    (case kT => k_is)
    (case aY => k_is)
    (case lY => k_is)
    (case cY => k_is)
    (case kY => k_is)
    (case aS => k_is)
    (case lS => k_is)
    (case cS => k_is)
    (case kS => k_is)
    (case aPu => k_is)
    (case lPu => k_is)
    (case cPu => k_is)
    (case kPu => k_is)
    (case aUn => k_is)
    (case lUn => k_is)
    (case cUn => k_is)
    (case kUn => k_is)
    (case aLC => k_is)
    (case lLC => k_is)
    (case cLC => k_is)
    (case kLC => k_is)
    (case aDe => k_is)
    (case lDe => k_is)
    (case cDe => k_is)
    (case kDe => k_is)
    (case aIs => k_is)
    (case lIs => k_is)
    (case cIs => k_is)
    (case kIs => k_is)
    (case aCa => k_is)
    (case lCa => k_is)
    (case cCa => k_is)
    (case kCa => k_is)
    (case aL => k_is)
    (case lL => k_is)
    (case cL => k_is)
    (case kL => k_is)
    (case hC => k_is)
    (case aI => k_is)
    (case lI => k_is)
    (case cI => k_is)
    (case kI => k_is)
    (case lTd => k_is)
    (case lpd => k_is)
    (case bC => kernel_rfl)
    (case a1 => k_is)
    (case i1 => k_is)
    (case l1 => k_is)
    (case m1 => k_is)
    (case v1 => exact rfl)
    (case h1 => decide +kernel)
    (case n1 => k_is)
    (case b1 => kernel_rfl)
    (case q1 => kernel_rfl)
    (case a2 => k_is)
    (case i2 => k_is)
    (case l2 => k_is)
    (case m2 => k_is)
    (case v2 => exact rfl)
    (case h2 => decide +kernel)
    (case n2 => k_is)
    (case b2 => kernel_rfl)
    (case q2 => kernel_rfl)
    (case uu => kernel_rfl)
    (case hL => kernel_rfl)
    (case y8 => k_is)
    (case ym3 => k_is)
    (case yb3 => k_is)
    (case yn6 => k_is)
    (case yl3 => k_is)
    (case yca => k_is)
    (case ye3 => k_is)
    (case ys3 => k_is)
    (case ydp => k_is)
    (case z0 => k_is)
    (case z1 => k_is)
    (case z2 => k_is)
    (case z3 => k_is)
    (case z4 => k_is)
    (case z5 => k_is)
    (case z6 => k_is)
    (case z7 => k_is)
    (case z8 => k_is)
    (case z9 => k_is)
    (case z10 => k_is)
    (case z11 => k_is)
    (case z12 => k_is)
    (case z13 => k_is)
    (case z14 => k_is)
    (case z15 => k_is)
    (case z16 => k_is)
    (case z17 => k_is)
    (case z18 => k_is)
