import PyProof.Rows.All
import Wide.All
import OpenK.AllK
import Wide.FinOn
import HandS.ForMost
import HandS.Spec
import HandS.IsInst
import HandS.RaiseMore
import PyProof.ReprRoads
import PyProof.EqAt
import PyProof.EqKinds
import PyProof.NeKinds
import HandS.Base
import HandS.Call
import HandS.List
import HandS.Set
import HandS.SetFor
import HandS.SetTxt0
import PyProof.Rows.SortStr
import PyProof.Rows.SortKeyStr
import PyProof.Rows.SortShellK
import HandS.Strs
import PyProof.StrOps2
import HandS.Exc
import HandS.ExcInit
import HandS.ExcValue
import KE.KExcSuper
import KE.KExcInit
import KE.KExcIs
import HandS.Defaults
import HandS.Walk
import HandS.TupAny
import HandS.Zip
import HandS.Style
import PyProof.StrLawsRepr
import HandS.ForSpec
import KE.GoesEnum
import HandS.Iter
import PyProof.InstNe
import HandS.More
import HandS.SlotsOwn
import HandS.Flow
import HandS.Codes
import HandS.Lambda
import KE.KDflt
import HandS.EndTab
import PySem.Challenge.RW_onlyjoins_k03_whole_rules_made
set_option Elab.async false
set_option linter.all false
set_option maxRecDepth 100000
set_option maxHeartbeats 4000000
/-! The law's own def, called from the very top: its surroundings are known (no repr is under way). -/
namespace L2H
open PySem PySem.Spec PyProof.Rows L2
/-- a promise kept when called from the top -/
def AtTop (P : Program) (w : World) (K : PySem.W.Frag) (mg : Str → Option Value) (base : Heap) (f : Addr) (fd : FuncData) (x : Str) (sp : Sp) : Prop :=
  ∀ (s : Shared) (H : Hp) (u : Value) (v : V) (Q : VK) (E : XK), Env0 P w K mg base callerA [] s H → BindsTo s fd ⟨[u], []⟩ [(x, u)] → RelV v u → sp [v] H Q E →
    codeAny (model P w) callerA (.call (.ref f) ⟨[u], []⟩) (CR CX0 [] P w H s Q E) s
section
variable {P : Program} {w : World} {K : PySem.W.Frag} {mg : Str → Option Value} {base : Heap} {x name : Str} {st : Stmt} {f : Addr} {fd : FuncData} {N : List Str} {k : Nat} {sp : Sp}
theorem atTop_of (F : Fun K name name st f fd) (S : FnScope N [x] (defScope st)) (hr : Room (k + 1) callerA)
    (body : ∀ (cdv : Value) (s : Shared) (H : Hp) (v : V) (Q : VK) (E : XK), Room k (callerA.deeper (envOfC name (defScope st) s.heap.objs.size f cdv)) → sp [v] H Q E →
      ∃ t, PSs (cxOf CX0 P w K mg base N name (defScope st) f cdv callerA [] s H E).nox (defBody st) t ∧ t { nx := fun _ H' => Q .non H', rt := Q } (start N [v]) H) :
    AtTop P w K mg base f fd x sp := by
  obtain ⟨oc, od, kV, doc, pm, an, cdv, ct, osl, rfl, lk, hcd⟩ := F.ex
  intro s H u v Q E e0 hb ru hsp
  have KX : K.In s.heap := e0.mod.kin.keeps fun b o z => (e0.bs b o z).1
  have lim : s.heap.NoLimit := e0.mod.nolimit.keeps fun b o z => (e0.bs b o z).1
  have kinds : ∀ y ∈ [(x, u)], (defScope st).names.lookup y.1 = some .local ∨ ((defScope st).names.lookup y.1 = some .cell ∧ ((cellsFrom (s.heap.objs.size + 1) (defScope st).names []).lookup y.1).isSome = true) := fun y hy => by
    rcases List.mem_cons.mp hy with rfl | z
    · rcases S.par x (List.mem_cons_self ..) with q | q
      · exact .inl q
      · exact .inr ⟨q, PySem.W.cellsFrom_some _ _ _ (.inl q)⟩
    · cases z
  refine codeAny_call_function hr.depth (KX _ _ lk) rfl S.co S.gen rfl (PySem.W.codeRec_of KX hcd) (hb _ _ _ _ ?_)
  refine wpAny_newFunctionEnv_cells S.kind kinds fun env he s1 y => ?_
  subst he
  refine ⟨lim.keeps y.toInCall.keep, codeAny_func ?_⟩
  obtain ⟨t, ht, hq⟩ := body cdv s H v Q E (hr.deeper _) hsp
  have I : Inv (cxOf CX0 P w K mg base N name (defScope st) f cdv callerA [] s H E) [] (start N [v]) H s1 := inv_start (ps := [x]) (us := [u]) S hr.hd e0 rfl (.cons ru .nil) y
  refine wpAny_mono (ht.nox.run [] s1 (start N [v]) H _ I hq) (fun fl s' hs => ?_) fun _ _ z => z
  cases fl with
  | ret u' =>
    obtain ⟨v', σ', H', J, rv, q⟩ := hs
    exact ⟨v', H', J.os, J.bare, J.base, J.hok, rv, q⟩
  | next =>
    obtain ⟨σ', H', J, q⟩ := hs
    exact ⟨V.non, H', J.os, J.bare, J.base, J.hok, rfl, q⟩
  | brk =>
    obtain ⟨_, _, _, q⟩ := hs
    exact q.elim
  | cont =>
    obtain ⟨_, _, _, q⟩ := hs
    exact q.elim
end
section
variable {P : Program} {w : World} {K : PySem.W.Frag} {mg mb : Str → Option Value} {fa a : Addr} {fd : FuncData} {x : Str} {sp : Sp} {t : Shared} {vs : List Value} {ns : List Int}
/-- what the law's row asks of the call -/
abbrev Good (t : Shared) : Result → Shared → Prop := fun r t' => r = .ok (.ret (.bool true)) ∧ OldK t.heap t'.heap ∧ t'.os = t.os ∧ AllBare t'.gens
theorem from_top (KX : K.In t.heap) (gn : t.heap.Ns mainGlobals mg) (bn : t.heap.Ns builtinsNs mb) (bb : ∀ y : Str, y ≠ "__name__" → mb y = bootBuiltins y) (lim : t.heap.NoLimit) (g0 : t.gens = #[])
    (at_a : t.heap.get? a = some { cls := .type "list", data := .seq vs.toArray }) (allInt : IntsAre vs ns) (short : ns.length ≤ sizeLine)
    (F : ∀ base : Heap, K.In base → base.Ns mainGlobals mg → AtTop P w K mg base fa fd x sp) (bind : ∀ (s : Shared) (u : Value), BindsTo s fd ⟨[u], []⟩ [(x, u)])
    (wish : ∀ H : Hp, Only H → SqL K H a (ns.map V.int) → sp [.ref a] H (fun v _ => v = .bl true) fun _ _ _ => False) :
    codeAny (model P w) callerA (.call (.ref fa) ⟨[.ref a], []⟩) (Good t) t := by
  have rvs := vals_ints allInt
  have inner : ∀ H : Hp, Only H → SqL K H a (ns.map V.int) → HOk P w H t.heap → (∀ b, H b ≠ none → b = a) → (H a ≠ none → K.lookup a = none) →
      codeAny (model P w) callerA (.call (.ref fa) ⟨[.ref a], []⟩) (Good t) t := fun H hO hS hok one out => by
    have pass : ∀ {b : Addr} {o : Obj}, t.heap.get? b = some o → H b = none → (hidT t.heap H).get? b = some o := fun z n => hidT_get z n
    have dicts : ∀ {b : Addr} {o : Obj} {es : Array DictEntry} {ep : Nat}, t.heap.get? b = some o → o.data = .dict es ep → H b = none := fun {b o es ep} z dz => by
      cases q : H b with
      | none => rfl
      | some u =>
        obtain rfl : b = a := one b (by rw [q]; simp)
        rw [at_a] at z
        cases z
        have y : Data.seq vs.toArray _ = Data.dict es ep := dz
        cases y
    have nsp : ∀ {b : Addr} {m : Str → Option Value}, t.heap.Ns b m → (hidT t.heap H).Ns b m := fun {b m} ⟨o, es, ep, z, dz, r⟩ => ⟨o, es, ep, pass z (dicts z dz), dz, r⟩
    have Kb : K.In (hidT t.heap H) := fun b o z => pass (KX b o z) (by
      cases q : H b with
      | none => rfl
      | some u =>
        obtain rfl : b = a := one b (by rw [q]; simp)
        rw [out (by rw [q]; simp)] at z
        cases z)
    have md : Mod K mg (hidT t.heap H) := ⟨Kb, nsp gn, ⟨mb, nsp bn, bb⟩, let ⟨mc, q1, q2⟩ := lim; ⟨mc, nsp q1, q2⟩⟩
    have env : Env0 P w K mg (hidT t.heap H) callerA [] t H :=
      ⟨rfl, md, fun b o z => of_hidT z, Nat.le_of_eq (hidT_size _ _), trivial, fun b hb => absurd (show b ∈ ([] : List Addr) from hb) (by simp), hok, .of_eq g0⟩
    refine codeAny_mono (F _ Kb (nsp gn) t H (.ref a) (.ref a) _ _ env (bind t (.ref a)) rfl (wish H hO hS)) fun r t' h => ?_
    cases r with
    | error e => exact False.elim h
    | ok fl =>
     cases fl with
     | next => exact False.elim h
     | brk => exact False.elim h
     | cont => exact False.elim h
     | ret u =>
      obtain ⟨v, H', os, bare, un, hok', r', q⟩ := h
      obtain rfl : v = V.bl true := q
      obtain rfl : u = Value.bool true := r'
      refine ⟨rfl, OldK.of_keep fun b o z => ?_, os, bare⟩
      cases q : H b with
      | none => exact un.keep b o z q (by intro y; exact absurd (show b ∈ ([] : List Addr) from y) (by simp)) (by simp)
      | some u =>
        rcases hO b with y | ⟨ob, xs, y⟩
        · rw [q] at y
          cases y
        · obtain ⟨e1, _⟩ := hok b _ y
          obtain ⟨e2, _⟩ := hok' b _ (un.frzs b ob _ y)
          rw [z] at e1
          cases e1
          exact e2
  cases hk : K.lookup a with
  | some o =>
    have z := KX a o hk
    rw [at_a] at z
    cases z
    have sq : SqL K (fun _ => none) a (ns.map V.int) := .inr ⟨_, vs.toArray, _, hk, rfl, rfl, rfl, by rw [List.size_toArray, allInt.length]; exact short, by simpa using rvs⟩
    exact inner (fun _ => none) (fun _ => .inl rfl) sq (fun b u y => by cases (show (none : Option HO) = some u from y)) (fun b y => absurd rfl y) fun y => absurd rfl y
  | none =>
    let Hs : Hp := fun b => if b = a then some (.frz { cls := .type "list", data := .seq vs.toArray } (.lst (ns.map V.int))) else none
    have on : Hs a = some (.frz { cls := .type "list", data := .seq vs.toArray } (.lst (ns.map V.int))) := if_pos rfl
    have off : ∀ b, b ≠ a → Hs b = none := fun b hb => if_neg hb
    refine inner Hs (fun b => ?_) (.inl (.inr ⟨_, on⟩)) (fun b u z => ?_) (fun b z => ?_) fun _ => hk
    · by_cases hb : b = a
      · subst hb
        exact .inr ⟨_, _, on⟩
      · exact .inl (off b hb)
    · by_cases hb : b = a
      · subst hb
        rw [on] at z
        cases z
        exact ⟨at_a, by rw [List.length_map]; exact short, vs, _, rvs, at_a⟩
      · rw [off b hb] at z
        cases z
    · by_cases hb : b = a
      · exact hb
      · exact absurd (off b hb) z
end
/-- the law's row, from the promise of its def called from the top -/
theorem walk_top {l : PySem.W.OpenLaw} {n : Nat} {q : Program} {loose : List Str} {XP : (Str → Option Value) → Heap → Prop} {YP : World → Heap → Prop} {d : DefRec} {K : Params → PySem.W.Frag} {sp : World → Sp} {x : Str}
    (hn : l.most = some n) (few : n ≤ sizeLine) (hdf : d.params.defaults = []) (hY : ∀ (w : World) (h : Heap), YP w h → (K w.params).In h)
    (F : ∀ (w : World) (mg : Str → Option Value) (fa : Addr) (h : Heap), (K w.params).In h → h.Ns mainGlobals mg → mg d.name = some (.ref fa) →
      ∃ fd : FuncData, (∀ (s : Shared) (u : Value), BindsTo s fd ⟨[u], []⟩ [(x, u)]) ∧
        ∀ base : Heap, (K w.params).In base → base.Ns mainGlobals mg → AtTop l.prog w (K w.params) mg base fa fd x (sp w))
    (wish : ∀ (w : World) (H : Hp) (a : Addr) (ns : List Int), ns.length ≤ n → Only H → SqL (K w.params) H a (ns.map V.int) → sp w [.ref a] H (fun v _ => v = .bl true) fun _ _ _ => False) :
    PySem.W.WalkO q loose XP YP l.row.toRowW d [] (fun f vs => PySem.call f vs) := by
  refine Att.attach_call hn hdf fun w s₀ t mg mb fa o pm cd doc a vs ns G Y ho hd hcd hmg hobj hints hlen g0 => ?_
  have KX := hY w _ Y
  obtain ⟨fd, hb, hF⟩ := F w mg fa _ KX G.T.g hmg
  exact from_top KX G.T.g G.T.b G.T.builtins G.T.nolimit g0 hobj hints (Nat.le_trans hlen few) hF hb fun H hO hS => wish w H a ns hlen hO hS
end L2H
set_option Elab.async false
set_option linter.all false
set_option maxRecDepth 100000
set_option maxHeartbeats 4000000
/-! The law's own def, called from the very top: the table of modules stands apart, too. -/
namespace L2H
open PySem PySem.Spec PyProof.Rows L2
/-- the table of modules is tracked, and locked -/
def SysF (H : Hp) : Prop := ∃ o u, H sysModules = some (.frz o u)
section
variable {P : Program} {w : World} {K : PySem.W.Frag} {mg mb : Str → Option Value} {fa a : Addr} {fd : FuncData} {x : Str} {sp : Sp} {t : Shared} {vs : List Value} {ns : List Int}
theorem from_topB (KX : K.In t.heap) (gn : t.heap.Ns mainGlobals mg) (bn : t.heap.Ns builtinsNs mb) (bb : ∀ y : Str, y ≠ "__name__" → mb y = bootBuiltins y) (lim : t.heap.NoLimit) (g0 : t.gens = #[])
    (sm : ∃ m, t.heap.Ns sysModules m) (km : K.lookup sysModules = none)
    (at_a : t.heap.get? a = some { cls := .type "list", data := .seq vs.toArray }) (allInt : IntsAre vs ns) (short : ns.length ≤ sizeLine)
    (F : ∀ base : Heap, K.In base → base.Ns mainGlobals mg → AtTop P w K mg base fa fd x sp) (bind : ∀ (s : Shared) (u : Value), BindsTo s fd ⟨[u], []⟩ [(x, u)])
    (wish : ∀ H : Hp, SysF H → SqL K H a (ns.map V.int) → sp [.ref a] H (fun v _ => v = .bl true) fun _ _ _ => False) :
    codeAny (model P w) callerA (.call (.ref fa) ⟨[.ref a], []⟩) (Good t) t := by
  have rvs := vals_ints allInt
  obtain ⟨mm, om, esm, epm, hom, hdm, _⟩ := sm
  have na : a ≠ sysModules := fun z => by
    rw [z, hom] at at_a
    cases at_a
    have y : Data.seq vs.toArray _ = Data.dict esm epm := hdm
    cases y
  have inner : ∀ H : Hp, OnlyF H → SysF H → SqL K H a (ns.map V.int) → HOk P w H t.heap → (∀ b, H b ≠ none → b = a ∨ b = sysModules) → (H a ≠ none → K.lookup a = none) →
      codeAny (model P w) callerA (.call (.ref fa) ⟨[.ref a], []⟩) (Good t) t := fun H hO hY hS hok one out => by
    have pass : ∀ {b : Addr} {o : Obj}, t.heap.get? b = some o → H b = none → (hidT t.heap H).get? b = some o := fun z n => hidT_get z n
    have dicts : ∀ {b : Addr} {o : Obj} {es : Array DictEntry} {ep : Nat}, b ≠ sysModules → t.heap.get? b = some o → o.data = .dict es ep → H b = none := fun {b o es ep} nb z dz => by
      cases q : H b with
      | none => rfl
      | some u =>
        rcases one b (by rw [q]; simp) with rfl | y
        · rw [at_a] at z
          cases z
          have y : Data.seq vs.toArray _ = Data.dict es ep := dz
          cases y
        · exact absurd y nb
    have nsp : ∀ {b : Addr} {m : Str → Option Value}, b ≠ sysModules → t.heap.Ns b m → (hidT t.heap H).Ns b m := fun {b m} nb ⟨o, es, ep, z, dz, r⟩ => ⟨o, es, ep, pass z (dicts nb z dz), dz, r⟩
    have Kb : K.In (hidT t.heap H) := fun b o z => pass (KX b o z) (by
      cases q : H b with
      | none => rfl
      | some u =>
        rcases one b (by rw [q]; simp) with rfl | y
        · rw [out (by rw [q]; simp)] at z
          cases z
        · rw [y, km] at z
          cases z)
    have md : Mod K mg (hidT t.heap H) := ⟨Kb, nsp (by decide) gn, ⟨mb, nsp (by decide) bn, bb⟩, let ⟨mc, q1, q2⟩ := lim; ⟨mc, nsp (by decide) q1, q2⟩⟩
    have env : Env0 P w K mg (hidT t.heap H) callerA [] t H :=
      ⟨rfl, md, fun b o z => of_hidT z, Nat.le_of_eq (hidT_size _ _), trivial, fun b hb => absurd (show b ∈ ([] : List Addr) from hb) (by simp), hok, .of_eq g0⟩
    refine codeAny_mono (F _ Kb (nsp (by decide) gn) t H (.ref a) (.ref a) _ _ env (bind t (.ref a)) rfl (wish H hY hS)) fun r t' h => ?_
    cases r with
    | error e => exact False.elim h
    | ok fl =>
     cases fl with
     | next => exact False.elim h
     | brk => exact False.elim h
     | cont => exact False.elim h
     | ret u =>
      obtain ⟨v, H', os, bare, un, hok', r', q⟩ := h
      obtain rfl : v = V.bl true := q
      obtain rfl : u = Value.bool true := r'
      refine ⟨rfl, OldK.of_keep fun b o z => ?_, os, bare⟩
      cases q : H b with
      | none => exact un.keep b o z q (by intro y; exact absurd (show b ∈ ([] : List Addr) from y) (by simp)) (by simp)
      | some u =>
        rcases hO b with y | ⟨ob, xs, y⟩
        · rw [q] at y
          cases y
        · obtain ⟨e1, _⟩ := hok b _ y
          obtain ⟨e2, _⟩ := hok' b _ (un.frzs b ob _ y)
          rw [z] at e1
          cases e1
          exact e2
  have hoks : ∀ {H : Hp} {u : HO}, ObjOk P w H t.heap sysModules (.frz om (.ext fun _ => True)) := fun {H u} => ⟨hom, trivial, ⟨om, hom⟩, fun _ _ _ _ => trivial⟩
  cases hk : K.lookup a with
  | some o =>
    have z := KX a o hk
    rw [at_a] at z
    cases z
    let Hs : Hp := fun b => if b = sysModules then some (.frz om (.ext fun _ => True)) else none
    have ons : Hs sysModules = some (.frz om (.ext fun _ => True)) := if_pos rfl
    have off : ∀ b, b ≠ sysModules → Hs b = none := fun b h1 => if_neg h1
    have sq : SqL K Hs a (ns.map V.int) := .inr ⟨_, vs.toArray, _, hk, rfl, rfl, rfl, by rw [List.size_toArray, allInt.length]; exact short, by simpa using rvs⟩
    refine inner Hs (fun b => ?_) ⟨_, _, ons⟩ sq (fun b u z => ?_) (fun b z => ?_) fun y => absurd (off a na) y
    · by_cases hb : b = sysModules
      · subst hb
        exact .inr ⟨_, _, ons⟩
      · exact .inl (off b hb)
    · by_cases hb : b = sysModules
      · subst hb
        rw [ons] at z
        cases z
        exact hoks (u := .lst [])
      · rw [off b hb] at z
        cases z
    · by_cases hb : b = sysModules
      · exact .inr hb
      · exact absurd (off b hb) z
  | none =>
    let Hs : Hp := fun b => if b = a then some (.frz { cls := .type "list", data := .seq vs.toArray } (.lst (ns.map V.int))) else if b = sysModules then some (.frz om (.ext fun _ => True)) else none
    have on : Hs a = some (.frz { cls := .type "list", data := .seq vs.toArray } (.lst (ns.map V.int))) := if_pos rfl
    have ons : Hs sysModules = some (.frz om (.ext fun _ => True)) := by
      show (if _ then _ else _) = _
      rw [if_neg na.symm, if_pos rfl]
    have off : ∀ b, b ≠ a → b ≠ sysModules → Hs b = none := fun b h1 h2 => by
      show (if _ then _ else _) = _
      rw [if_neg h1, if_neg h2]
    refine inner Hs (fun b => ?_) ⟨_, _, ons⟩ (.inl (.inr ⟨_, on⟩)) (fun b u z => ?_) (fun b z => ?_) fun _ => hk
    · by_cases hb : b = a
      · subst hb
        exact .inr ⟨_, _, on⟩
      · by_cases hc : b = sysModules
        · subst hc
          exact .inr ⟨_, _, ons⟩
        · exact .inl (off b hb hc)
    · by_cases hb : b = a
      · subst hb
        rw [on] at z
        cases z
        exact ⟨at_a, by rw [List.length_map]; exact short, vs, _, rvs, at_a⟩
      · by_cases hc : b = sysModules
        · subst hc
          rw [ons] at z
          cases z
          exact hoks (u := .lst [])
        · rw [off b hb hc] at z
          cases z
    · by_cases hb : b = a
      · exact .inl hb
      · by_cases hc : b = sysModules
        · exact .inr hc
        · exact absurd (off b hb hc) z
end
/-- the law's row, from the promise of its def called from the top; the table of modules is tracked -/
theorem walk_topB {l : PySem.W.OpenLaw} {n : Nat} {q : Program} {loose : List Str} {XP : (Str → Option Value) → Heap → Prop} {YP : World → Heap → Prop} {d : DefRec} {K : Params → PySem.W.Frag} {sp : World → Sp} {x : Str}
    (hn : l.most = some n) (few : n ≤ sizeLine) (hdf : d.params.defaults = []) (hi : importsNone q = true) (hY : ∀ (w : World) (h : Heap), YP w h → (K w.params).In h) (km : ∀ w : World, (K w.params).lookup sysModules = none)
    (F : ∀ (w : World) (mg : Str → Option Value) (fa : Addr) (h : Heap), (K w.params).In h → h.Ns mainGlobals mg → mg d.name = some (.ref fa) →
      ∃ fd : FuncData, (∀ (s : Shared) (u : Value), BindsTo s fd ⟨[u], []⟩ [(x, u)]) ∧
        ∀ base : Heap, (K w.params).In base → base.Ns mainGlobals mg → AtTop l.prog w (K w.params) mg base fa fd x (sp w))
    (wish : ∀ (w : World) (H : Hp) (a : Addr) (ns : List Int), ns.length ≤ n → SysF H → SqL (K w.params) H a (ns.map V.int) → sp w [.ref a] H (fun v _ => v = .bl true) fun _ _ _ => False) :
    PySem.W.WalkO q loose XP YP l.row.toRowW d [] (fun f vs => PySem.call f vs) := by
  refine Att.attach_call hn hdf fun w s₀ t mg mb fa o pm cd doc a vs ns G Y ho hd hcd hmg hobj hints hlen g0 => ?_
  have KX := hY w _ Y
  obtain ⟨fd, hb, hF⟩ := F w mg fa _ KX G.T.g hmg
  have S := G.T.seer hi
  exact from_topB KX G.T.g G.T.b G.T.builtins G.T.nolimit g0 (let ⟨mm, y, _⟩ := S.mods; ⟨mm, y⟩) (km w) hobj hints (Nat.le_trans hlen few) hF hb fun H hO hS => wish w H a ns hlen hO hS
end L2H
set_option Elab.async false
set_option linter.all false
set_option maxRecDepth 100000
set_option maxHeartbeats 4000000
/-! Data as the law passes it: None, bools, ints, texts, lists, tuples, empty dicts; all of it tracked. -/
namespace DQ
open PySem PySem.W PySem.Calls PyProof.Rows L2
theorem same_refl {H : Hp} : Same H H := fun _ _ e => e
theorem same_trans {H H' H'' : Hp} (a : Same H H') (b : Same H' H'') : Same H H'' := fun x o e => b x o (a x o e)
theorem same_new {H : Hp} {a : Addr} {o : HO} (h : H a = none) : Same H (upd H a o) := fun b u e => by
  rw [upd_ne (ne_of_none e h)]
  exact e
theorem same_out {H H' : Hp} (s : Same H H') {b : Addr} (h : H' b = none) : H b = none := by
  cases e : H b with
  | none => rfl
  | some o => rw [s _ _ e] at h; cases h
mutual
inductive Dq (H : Hp) : V → PyData → Prop
  | non : Dq H .non .none
  | bl (b : Bool) : Dq H (.bl b) (.bool b)
  | int (i : Int) : Dq H (.int i) (.int i)
  | str (x : Str) (h : x.length ≤ sizeLine ∧ PyData.strOk x = true) : Dq H (.str x) (.str x)
  | lst {a : Addr} {xs : List V} {ds : List PyData} : H a = some (.lst xs) → DqAll H xs ds → Dq H (.ref a) (.list ds)
  | tup {a : Addr} {xs : List V} {ds : List PyData} : H a = some (.tup xs) → DqAll H xs ds → Dq H (.ref a) (.tuple ds)
  | dic {a : Addr} : H a = some (.dK []) → Dq H (.ref a) (.dict [])
inductive DqAll (H : Hp) : List V → List PyData → Prop
  | nil : DqAll H [] []
  | cons {v : V} {vs : List V} {d : PyData} {ds : List PyData} : Dq H v d → DqAll H vs ds → DqAll H (v :: vs) (d :: ds)
end
mutual
theorem Dq.same {H H' : Hp} (s : Same H H') : ∀ {v : V} {d : PyData}, Dq H v d → Dq H' v d
  | _, _, .non => .non
  | _, _, .bl b => .bl b
  | _, _, .int i => .int i
  | _, _, .str x h => .str x h
  | _, _, .lst h a => .lst (s _ _ h) (a.same s)
  | _, _, .tup h a => .tup (s _ _ h) (a.same s)
  | _, _, .dic h => .dic (s _ _ h)
theorem DqAll.same {H H' : Hp} (s : Same H H') : ∀ {vs : List V} {ds : List PyData}, DqAll H vs ds → DqAll H' vs ds
  | _, _, .nil => .nil
  | _, _, .cons h t => .cons (h.same s) (t.same s)
end
theorem DqAll.len {H : Hp} : ∀ {vs : List V} {ds : List PyData}, DqAll H vs ds → vs.length = ds.length
  | _, _, .nil => rfl
  | _, _, .cons _ t => congrArg Nat.succ t.len
theorem DqAll.at {H : Hp} : ∀ {vs : List V} {ds : List PyData} {i : Nat} {d : PyData}, DqAll H vs ds → ds[i]? = some d → ∃ v, vs[i]? = some v ∧ Dq H v d
  | _, _, _, _, .nil, e => by simp at e
  | _, _, 0, _, .cons h _, e => by
    cases e
    exact ⟨_, rfl, h⟩
  | _, _, i + 1, _, .cons _ t, e => t.at (i := i) e
theorem DqAll.app {H : Hp} : ∀ {vs ws : List V} {ds es : List PyData}, DqAll H vs ds → DqAll H ws es → DqAll H (vs ++ ws) (ds ++ es)
  | _, _, _, _, .nil, b => b
  | _, _, _, _, .cons h t, b => .cons h (t.app b)
theorem DqAll.take {H : Hp} : ∀ {vs : List V} {ds : List PyData} (n : Nat), DqAll H vs ds → DqAll H (vs.take n) (ds.take n)
  | _, _, 0, _ => by simpa using DqAll.nil
  | _, _, n + 1, .nil => .nil
  | _, _, n + 1, .cons h t => .cons h (t.take n)
theorem DqAll.drop {H : Hp} : ∀ {vs : List V} {ds : List PyData} (n : Nat), DqAll H vs ds → DqAll H (vs.drop n) (ds.drop n)
  | _, _, 0, h => h
  | _, _, n + 1, .nil => .nil
  | _, _, n + 1, .cons h t => t.drop n
theorem DqAll.rev {H : Hp} : ∀ {vs : List V} {ds : List PyData}, DqAll H vs ds → DqAll H vs.reverse ds.reverse
  | _, _, .nil => .nil
  | _, _, .cons h t => by
    rw [List.reverse_cons, List.reverse_cons]
    exact t.rev.app (.cons h .nil)
theorem DqAll.strs {H : Hp} : ∀ (ws : List Str), (∀ x ∈ ws, x.length ≤ sizeLine ∧ PyData.strOk x = true) → DqAll H (ws.map V.str) (ws.map PyData.str)
  | [], _ => .nil
  | w :: ws, h => .cons (.str w (h w (List.mem_cons_self ..))) (DqAll.strs ws fun x hx => h x (List.mem_cons_of_mem _ hx))
/-- the list of modules stands apart -/
abbrev Sys (H : Hp) : Prop := L2H.SysF H
theorem _root_.L2H.SysF.same {H H' : Hp} (x : Sys H) (s : Same H H') : Sys H' := let ⟨o, u, e⟩ := x; ⟨o, u, s _ _ e⟩
section
variable {X : Cx} {pins : List (Addr × Obj)} {σ : L2.St} {H : Hp} {s : Shared}
mutual
theorem Dq.reads (I : Inv X pins σ H s) (y : Sys H) : ∀ {v : V} {d : PyData} {u : Value}, Dq H v d → RelV v u → ∃ as, Reads s.heap u d as ∧ sysModules ∉ as
  | _, _, _, .non, r => by
    cases r
    exact ⟨_, .none, by simp⟩
  | _, _, _, .bl b, r => by
    cases r
    exact ⟨_, .bool b, by simp⟩
  | _, _, _, .int i, r => by
    obtain ⟨t, rfl⟩ := r
    exact ⟨_, .int i t, by simp⟩
  | _, _, _, .str x _, r => by
    obtain ⟨t, rfl⟩ := r
    exact ⟨_, .str x t, by simp⟩
  | _, _, _, .lst (a := a) h ha, r => by
    cases r
    obtain ⟨_, its, n, rv, e⟩ := (show ObjOk X.prog X.w H s.heap a (.lst _) from I.hok a _ h)
    obtain ⟨as, ra, na⟩ := ha.reads I y rv
    refine ⟨_, .list e rfl rfl ra, fun z => ?_⟩
    rcases List.mem_cons.mp z with q | q
    · obtain ⟨o, u, ey⟩ := y
      rw [q, h] at ey
      cases ey
    · exact na q
  | _, _, _, .tup (a := a) h ha, r => by
    cases r
    obtain ⟨_, its, rv, o, ho, hc, n, hd⟩ := (show ObjOk X.prog X.w H s.heap a (.tup _) from I.hok a _ h)
    obtain ⟨as, ra, na⟩ := ha.reads I y rv
    exact ⟨_, .tuple ho hc hd ra, na⟩
  | _, _, _, .dic (a := a) h, r => by
    cases r
    obtain ⟨_, hsys, vs, kv, hd⟩ := (show ObjOk X.prog X.w H s.heap a (.dK []) from I.hok a _ h)
    cases kv
    obtain ⟨o, es, ep, h1, h2, h3, _, h4, _⟩ := hd
    have e0 : es.toList = [] := by
      cases e : es.toList with
      | nil => rfl
      | cons x r =>
        rw [e] at h4
        cases h4
    refine ⟨a :: [] ++ [], Reads.dict h1 h2.1 h3 (by rw [e0]; exact .nil) (by rw [e0]; exact .nil), fun z => ?_⟩
    rcases List.mem_cons.mp z with q | q
    · rw [← q] at hsys
      simp at hsys
    · cases q
theorem DqAll.reads (I : Inv X pins σ H s) (y : Sys H) : ∀ {vs : List V} {ds : List PyData} {us : List Value}, DqAll H vs ds → Vals vs us → ∃ as, ReadsAll s.heap us ds as ∧ sysModules ∉ as
  | _, _, _, .nil, r => by
    cases r
    exact ⟨_, .nil, by simp⟩
  | _, _, _, .cons h t, r => by
    cases r with
    | cons r1 r2 =>
      obtain ⟨as, q1, n1⟩ := h.reads I y r1
      obtain ⟨bs, q2, n2⟩ := t.reads I y r2
      exact ⟨_, .cons q1 q2, fun z => by
        rcases List.mem_append.mp z with q | q
        · exact n1 q
        · exact n2 q⟩
end
end
/-- repr of such data -/
def rReprX : List V → Hp → VK → Prop := fun xs H Q => ∃ (v : V) (d : PyData), xs = [v] ∧ Sys H ∧ Dq H v d ∧ d.showable = true ∧ d.depth ≤ 60 ∧ d.shown.length ≤ sizeLine ∧ Q (.str d.shown) H
theorem call_reprX {X : Cx} (hg : X.A.guards = some []) (hu : X.A.units + 100 < cLine) : CallR X (.builtin "repr") rReprX := by
  intro pins s σ H xs us Q I r h
  obtain ⟨v, d, rfl, y, hd, sh, dp, sz, q⟩ := h
  obtain ⟨u, rfl, ru⟩ := vals1 r
  obtain ⟨as, rd, na⟩ := hd.reads I y ru
  cases hd with
  | non =>
    cases (show u = Value.none from ru)
    exact PySem.P.repr_of_none ⟨.str _, H, I.tok _, ⟨_, rfl⟩, q⟩
  | bl b =>
    cases (show u = Value.bool b from ru)
    exact PySem.P.repr_of_bool ⟨.str _, H, I.tok _, ⟨_, rfl⟩, q⟩
  | int i =>
    obtain ⟨t, rfl⟩ := (show ∃ t, u = Value.int i t from ru)
    exact PySem.P.repr_of_int (by simpa [PyData.showable] using sh) ⟨.str _, H, I.tok _, ⟨_, rfl⟩, q⟩
  | str x hx =>
    obtain ⟨t, rfl⟩ := (show ∃ t, u = Value.str x t from ru)
    exact PySem.P.repr_of_str ⟨.str _, H, I.tok _, ⟨_, rfl⟩, q⟩ sz
  | lst hs ha =>
    cases ru
    exact repr_of_reads' rd sh (fun _ => na) hg (by omega) (fun _ _ e => e) (fun h' t tk kp => ⟨.str _, H, I.kept kp, ⟨_, rfl⟩, q⟩) sz
  | tup hs ha =>
    cases ru
    exact repr_of_reads' rd sh (fun _ => na) hg (by omega) (fun _ _ e => e) (fun h' t tk kp => ⟨.str _, H, I.kept kp, ⟨_, rfl⟩, q⟩) sz
  | dic hs =>
    cases ru
    exact repr_of_reads' rd sh (fun _ => na) hg (by omega) (fun _ _ e => e) (fun h' t tk kp => ⟨.str _, H, I.kept kp, ⟨_, rfl⟩, q⟩) sz
/-- of which built-in class data is -/
def tyN : PyData → String
  | .none => "NoneType" | .bool _ => "bool" | .int _ => "int" | .str _ => "str" | .list _ => "list" | .tuple _ => "tuple" | .dict _ => "dict"
theorem Dq.ty {K : Frag} {H : Hp} {v : V} {d : PyData} (h : Dq H v d) : TyX K H v (.type (tyN d)) := by
  cases h with
  | non => exact .base .non
  | bl b => exact .base (.bl b)
  | int i => exact .base (.int i)
  | str x _ => exact .base (.str x)
  | lst e _ => exact .base (.lst e)
  | tup e _ => exact .base (.tup e)
  | dic e => exact .base (.dK e)
def isTup : PyData → Bool | .tuple _ => true | _ => false
def isStr : PyData → Bool | .str _ => true | _ => false
def isInt : PyData → Bool | .int _ => true | .bool _ => true | _ => false
def isBool : PyData → Bool | .bool _ => true | _ => false
theorem kt (d : PyData) : kitB (tyN d) "tuple" = some (isTup d) := by
  cases d
  · exact (by decide +kernel : kitB "NoneType" "tuple" = some false)
  · exact (by decide +kernel : kitB "bool" "tuple" = some false)
  · exact (by decide +kernel : kitB "int" "tuple" = some false)
  · exact (by decide +kernel : kitB "str" "tuple" = some false)
  · exact (by decide +kernel : kitB "list" "tuple" = some false)
  · exact (by decide +kernel : kitB "tuple" "tuple" = some true)
  · exact (by decide +kernel : kitB "dict" "tuple" = some false)
theorem ks (d : PyData) : kitB (tyN d) "str" = some (isStr d) := by
  cases d
  · exact (by decide +kernel : kitB "NoneType" "str" = some false)
  · exact (by decide +kernel : kitB "bool" "str" = some false)
  · exact (by decide +kernel : kitB "int" "str" = some false)
  · exact (by decide +kernel : kitB "str" "str" = some true)
  · exact (by decide +kernel : kitB "list" "str" = some false)
  · exact (by decide +kernel : kitB "tuple" "str" = some false)
  · exact (by decide +kernel : kitB "dict" "str" = some false)
theorem ki (d : PyData) : kitB (tyN d) "int" = some (isInt d) := by
  cases d
  · exact (by decide +kernel : kitB "NoneType" "int" = some false)
  · exact (by decide +kernel : kitB "bool" "int" = some true)
  · exact (by decide +kernel : kitB "int" "int" = some true)
  · exact (by decide +kernel : kitB "str" "int" = some false)
  · exact (by decide +kernel : kitB "list" "int" = some false)
  · exact (by decide +kernel : kitB "tuple" "int" = some false)
  · exact (by decide +kernel : kitB "dict" "int" = some false)
theorem kb (d : PyData) : kitB (tyN d) "bool" = some (isBool d) := by
  cases d
  · exact (by decide +kernel : kitB "NoneType" "bool" = some false)
  · exact (by decide +kernel : kitB "bool" "bool" = some true)
  · exact (by decide +kernel : kitB "int" "bool" = some false)
  · exact (by decide +kernel : kitB "str" "bool" = some false)
  · exact (by decide +kernel : kitB "list" "bool" = some false)
  · exact (by decide +kernel : kitB "tuple" "bool" = some false)
  · exact (by decide +kernel : kitB "dict" "bool" = some false)
/-- what isinstance(x, tuple) and the like ask -/
theorem is_tup {K : Frag} {H : Hp} {v : V} {d : PyData} {Q : VK} (h : Dq H v d) (q : Q (.bl (isTup d)) H) : rIsi K [v, .ty "tuple"] H Q := ⟨v, .ty "tuple", _, _, _, rfl, .ty _, h.ty, kit_ty (kt d), q⟩
theorem is_str {K : Frag} {H : Hp} {v : V} {d : PyData} {Q : VK} (h : Dq H v d) (q : Q (.bl (isStr d)) H) : rIsi K [v, .ty "str"] H Q := ⟨v, .ty "str", _, _, _, rfl, .ty _, h.ty, kit_ty (ks d), q⟩
theorem is_int {K : Frag} {H : Hp} {v : V} {d : PyData} {Q : VK} (h : Dq H v d) (q : Q (.bl (isInt d)) H) : rIsi K [v, .ty "int"] H Q := ⟨v, .ty "int", _, _, _, rfl, .ty _, h.ty, kit_ty (ki d), q⟩
theorem is_bool {K : Frag} {H : Hp} {v : V} {d : PyData} {Q : VK} (h : Dq H v d) (q : Q (.bl (isBool d)) H) : rIsi K [v, .ty "bool"] H Q := ⟨v, .ty "bool", _, _, _, rfl, .ty _, h.ty, kit_ty (kb d), q⟩
end DQ
set_option Elab.async false
set_option linter.all false
set_option maxRecDepth 100000
set_option maxHeartbeats 4000000
/-! a list or a tuple of anything, held against the empty one -/
namespace NI
open PySem PySem.Spec PyProof.Rows L2 PySem.SeqAt
section
variable {X : Cx}
def rNilL (K : PySem.W.Frag) (f : Bool → Bool) : R2 := fun x y H Q => ∃ a b xs, x = .ref a ∧ y = .ref b ∧ SqL K H a xs ∧ SqL K H b [] ∧ Q (.bl (f xs.isEmpty)) H
def rNilT (K : PySem.W.Frag) (f : Bool → Bool) : R2 := fun x y H Q => ∃ a b xs, x = .ref a ∧ y = .ref b ∧ SqT K H a xs ∧ SqT K H b [] ∧ Q (.bl (f xs.isEmpty)) H
theorem op_eqNil (hu : X.A.units < cLine) : OpR X (compareOp .Eq) (rNilL X.K id) := by
  intro pins s σ H x y v u Q I rx ry h
  obtain ⟨a, b, xs, rfl, rfl, ha, hb, q⟩ := h
  cases rx
  cases ry
  obtain ⟨its, r, pl, hz⟩ := I.list ha
  obtain ⟨its2, r2, pl2, hz2⟩ := I.list hb
  cases r2
  cases xs with
  | nil =>
    cases r
    exact eq_listAt (e := fun _ => true) pl.isList pl2.isList rfl hu (fun j h1 _ => absurd h1 (Nat.not_lt_zero j)) ⟨.bl true, H, I, rfl, q⟩
  | cons x xs =>
    cases r with
    | cons r1 r2 => exact eq_list_lengthsAt pl.isList pl2.isList (by simp) hu ⟨.bl false, H, I, rfl, q⟩
theorem op_neNil (hu : X.A.units < cLine) : OpR X (compareOp .NotEq) (rNilL X.K not) := by
  intro pins s σ H x y v u Q I rx ry h
  obtain ⟨a, b, xs, rfl, rfl, ha, hb, q⟩ := h
  cases rx
  cases ry
  obtain ⟨its, r, pl, hz⟩ := I.list ha
  obtain ⟨its2, r2, pl2, hz2⟩ := I.list hb
  cases r2
  cases xs with
  | nil =>
    cases r
    exact RcNeAt.lists (e := fun _ => true) pl.isList pl2.isList rfl hu (fun j h1 _ => absurd h1 (Nat.not_lt_zero j)) _ _ _ _ ⟨.bl false, H, I, rfl, q⟩
  | cons x xs =>
    cases r with
    | cons r1 r2 => exact RcNeAt.lists_lengths pl.isList pl2.isList (by simp) hu _ _ _ _ ⟨.bl true, H, I, rfl, q⟩
theorem op_eqNilT (hu : X.A.units < cLine) : OpR X (compareOp .Eq) (rNilT X.K id) := by
  intro pins s σ H x y v u Q I rx ry h
  obtain ⟨a, b, xs, rfl, rfl, ha, hb, q⟩ := h
  cases rx
  cases ry
  obtain ⟨its, r, pl, hz⟩ := I.tuple ha
  obtain ⟨its2, r2, pl2, hz2⟩ := I.tuple hb
  cases r2
  cases xs with
  | nil =>
    cases r
    exact eq_tupleAt (e := fun _ => true) pl pl2 hu (fun j h1 _ => absurd h1 (Nat.not_lt_zero j)) ⟨.bl true, H, I, rfl, q⟩
  | cons x xs =>
    cases r with
    | cons r1 r2 => exact eq_tupleAt (e := fun _ => true) pl pl2 hu (fun j _ h2 => absurd h2 (Nat.not_lt_zero j)) ⟨.bl false, H, I, rfl, q⟩
end
end NI
namespace NI
open PySem PySem.Spec PyProof.Rows L2 PySem.SeqAt
section
variable {X : Cx}
theorem op_neNilT (hu : X.A.units < cLine) : OpR X (compareOp .NotEq) (rNilT X.K not) := by
  intro pins s σ H x y v u Q I rx ry h
  obtain ⟨a, b, xs, rfl, rfl, ha, hb, q⟩ := h
  cases rx
  cases ry
  obtain ⟨its, r, pl, hz⟩ := I.tuple ha
  obtain ⟨its2, r2, pl2, hz2⟩ := I.tuple hb
  cases r2
  cases xs with
  | nil =>
    cases r
    exact RcNeAt.tuples (e := fun _ => true) pl pl2 hu (fun j h1 _ => absurd h1 (Nat.not_lt_zero j)) _ _ _ _ ⟨.bl false, H, I, rfl, q⟩
  | cons x xs =>
    cases r with
    | cons r1 r2 => exact RcNeAt.tuples (e := fun _ => true) pl pl2 hu (fun j _ h2 => absurd h2 (Nat.not_lt_zero j)) _ _ _ _ ⟨.bl true, H, I, rfl, q⟩
end
end NI
set_option Elab.async false
set_option linter.all false
set_option maxRecDepth 100000
set_option maxHeartbeats 4000000
/-! sets of texts, made of a tuple, gathered, sorted -/
namespace SX
open PySem PySem.Spec PyProof.Rows PySem.Froz L2
/-- the entries' texts are l in some order; the places rise; the order is told -/
structure TP (P : Program) (w : World) (D : SD) (l : List Str) : Prop where
  ok : TxOk P w D l
  pm : (D.1.toList.map fun e => strOf e.2).Perm l
  ri : Ris D.2.2.place.toList
  le : w.params.followText "set-order" = true ∨ D.2.2.led = true
def SetT (P : Program) (w : World) (h : Heap) (a : Addr) (l : List Str) : Prop := ∃ D : SD, h.get? a = some (sObj "set" D) ∧ TP P w D l
theorem tail_keep (ep : Nat) (es1 : Array (Int × Value)) (t2 : SetTable) (wd : Bool) (r : Ris t2.place.toList) :
    (tailTx ep es1 t2 wd).1.toList.Perm es1.toList ∧ Ris (tailTx ep es1 t2 wd).2.2.place.toList ∧ (tailTx ep es1 t2 wd).2.2.led = t2.led := by
  unfold tailTx
  by_cases c : (!wd && t2.tooFull) = true
  · rw [if_pos c]
    exact ⟨relayAll_perm t2 es1 _, relayAll_ris t2 es1 _, relayAll_led t2 es1 _⟩
  · rw [if_neg c]
    exact ⟨.refl _, r, rfl⟩
theorem TP.add {P : Program} {w : World} {D : SD} {l : List Str} {k : Str} (u : Tok) (F : TP P w D l) : TP P w (addTx (hashStr w k) (.str k u) D) (k :: l) := by
  obtain ⟨es, ep, t⟩ := D
  have r1 : Ris (layNew t es (hashStr w k) (.str k u)).2.1.place.toList := layNew_ris t es _ _ F.ri
  have e1 := layNew_led t es (hashStr w k) (.str k u)
  have p1 := layNew_perm t es (hashStr w k) (.str k u)
  let t2 : SetTable := if (layNew t es (hashStr w k) (.str k u)).2.1.plain = true then { (layNew t es (hashStr w k) (.str k u)).2.1 with plain := false } else (layNew t es (hashStr w k) (.str k u)).2.1
  have r2 : Ris t2.place.toList := by
    show Ris (if _ then _ else _ : SetTable).place.toList
    split
    · exact r1
    · exact r1
  have e2 : t2.led = t.led := by
    show (if _ then _ else _ : SetTable).led = _
    split
    · exact e1
    · exact e1
  obtain ⟨q1, q2, q3⟩ := tail_keep ep (layNew t es (hashStr w k) (.str k u)).1 t2 (layNew t es (hashStr w k) (.str k u)).2.2.1 r2
  refine ⟨add_ok u F.ok, ?_, q2, ?_⟩
  · refine (q1.map _).trans ((p1.map _).trans ?_)
    rw [Array.toList_push, List.map_append]
    exact (List.perm_append_comm (l₁ := List.map _ es.toList) (l₂ := [k])).trans (List.Perm.cons k F.pm)
  · rcases F.le with z | z
    · exact .inl z
    · exact .inr (q3.trans (e2.trans z))
section
variable {P : Program} {w : World} {A : Around} {E : Value → Shared → Prop} {s : Shared}
theorem found {a : Addr} {D : SD} {l : List Str} {k : Str} {u : Tok} {Q : Bool → Shared → Prop} (ho : s.heap.get? a = some (sObj "set" D)) (F : TxOk P w D l) (hk : k ∈ l) (hb : l.length < scanBound) (h : Q false s) :
    wpAny (model P w) A (setAddHashed a (.str k u) (hashStr w k)) Q E s := by
  obtain ⟨es, ep, t⟩ := D
  have hd : (sObj "set" (es, ep, t)).data = .set es ep t := rfl
  have el : ElemsOf (PySem.strKind P w) es.toList := F.el
  have f1 : t.fits es.size = true := F.fit
  have n1 : es.size < scanBound := by
    have z : es.size = l.length := F.sz
    omega
  obtain ⟨e, he, ie⟩ := (F.mem k).mp hk
  unfold setAddHashed setAddHashedIn
  refine wpAny_holding (wpAny_bind (wpAny_setState_of ho hd f1 ?_))
  dsimp only
  rw [byScan_of rfl n1 el]
  simp only [↓reduceIte]
  unfold setAddByScan
  refine wpAny_bind (wpAny_bind (wpAny_rule (wpAny_bind (wpAny_setScan_of (knd := PySem.strKind P w) (k := k) (is_str k u) ho hd f1 el ?_))))
  cases hf : List.findIdx? (fun e => (PySem.strKind P w).is k e.2) es.toList with
  | none =>
    have c := List.findIdx?_eq_none_iff.mp hf e he
    rw [ie] at c
    cases c
  | some j =>
    dsimp only
    exact wpAny_pure (wpAny_pure h)
/-- one more text put into it -/
def plus (l : List Str) (k : Str) : List Str := if k ∈ l then l else k :: l
theorem add_one {a : Addr} {l : List Str} {k : Str} {u : Tok} {Q : Bool → Shared → Prop} (S : SetT P w s.heap a l) (hb : l.length + 1 < scanBound)
    (h : ∀ h' b, Heap.SameBut a s.heap h' → SetT P w h' a (plus l k) → Q b { s with heap := h' }) : wpAny (model P w) A (setAddHashed a (.str k u) (hashStr w k)) Q E s := by
  obtain ⟨D, ho, F⟩ := S
  by_cases hk : k ∈ l
  · refine found ho F.ok hk (by omega) (h s.heap false (Heap.SameBut.refl a s.heap) ?_)
    unfold plus
    rw [if_pos hk]
    exact ⟨D, ho, F⟩
  · refine add_x ho F.ok hk hb (h _ true (Heap.SameBut.update s.heap a _) ?_)
    unfold plus
    rw [if_neg hk]
    exact ⟨_, get_upd _ ho rfl, F.add u⟩
theorem SetT.at {h h' : Heap} {a : Addr} {l : List Str} (S : SetT P w h a l) (k : ∀ o, h.get? a = some o → h'.get? a = some o) : SetT P w h' a l := by
  obtain ⟨D, e, F⟩ := S
  exact ⟨D, k _ e, F⟩
/-- the list gathered from the first texts -/
def pack (ns : List Str) : List Str := ns.foldl plus []
theorem pack_take {ns : List Str} {i : Nat} {z : Str} (h : ns[i]? = some z) : pack (ns.take (i + 1)) = plus (pack (ns.take i)) z := by
  unfold pack
  rw [List.take_add_one, h]
  show ((ns.take i) ++ [z]).foldl plus [] = _
  rw [List.foldl_append]
  rfl
theorem plus_len (l : List Str) (k : Str) : (plus l k).length ≤ l.length + 1 := by
  unfold plus
  split
  · omega
  · exact Nat.le_refl _
theorem fold_len : ∀ (ns l : List Str), (ns.foldl plus l).length ≤ l.length + ns.length
  | [], l => Nat.le_refl _
  | n :: ns, l => by
    have a := fold_len ns (plus l n)
    have b := plus_len l n
    show ((ns.foldl plus (plus l n)).length) ≤ _
    rw [List.length_cons]
    omega
theorem pack_len (ns : List Str) : (pack ns).length ≤ ns.length := by
  have z := fold_len ns []
  rw [List.length_nil, Nat.zero_add] at z
  exact z
theorem plus_mem {l : List Str} {k x : Str} : x ∈ plus l k ↔ x ∈ l ∨ x = k := by
  unfold plus
  split
  · rename_i h
    exact ⟨.inl, fun z => z.elim id fun e => e ▸ h⟩
  · rw [List.mem_cons]
    exact Or.comm
theorem plus_nodup {l : List Str} {k : Str} (h : l.Nodup) : (plus l k).Nodup := by
  unfold plus
  split
  · exact h
  · rename_i z
    exact List.nodup_cons.mpr ⟨z, h⟩
theorem fold_mem {x : Str} : ∀ (ns l : List Str), x ∈ ns.foldl plus l ↔ x ∈ l ∨ x ∈ ns
  | [], l => by simp
  | n :: ns, l => by
    show x ∈ ns.foldl plus (plus l n) ↔ _
    rw [fold_mem ns, plus_mem, List.mem_cons, or_assoc]
theorem fold_nodup : ∀ (ns l : List Str), l.Nodup → (ns.foldl plus l).Nodup
  | [], l, h => h
  | n :: ns, l, h => fold_nodup ns _ (plus_nodup h)
theorem pack_mem {x : Str} {ns : List Str} : x ∈ pack ns ↔ x ∈ ns := by
  unfold pack
  rw [fold_mem]
  simp
theorem pack_nodup (ns : List Str) : (pack ns).Nodup := fold_nodup ns [] List.nodup_nil
theorem loop {I : Addr} {fp wr : List Addr} {G : Array GenState → Array GenState → Prop} {n : Nat} {Pv : Nat → Value → Prop} {St : Nat → Shared → Prop} {R : Result → Shared → Prop}
    (W : WalksS P w A.in1 I fp wr G n Pv St) (S : Addr) (nf : S ∉ fp) (ns : List Str) (en : n = ns.length) (hb : ns.length + 1 < scanBound) (val : ∀ i v, Pv i v → ∃ k t, ns[i]? = some k ∧ v = .str k t) :
    ∀ (k i : Nat) (s : Shared), n - i = k → i ≤ n → St i s → SetT P w s.heap S (pack (ns.take i)) →
      (∀ s', Moved (S :: wr) G s s' → SetT P w s'.heap S (pack ns) → R (.ok (.ret .none)) s') → codeAny (model P w) A (.builtin "set.update.loop" ⟨[.ref S, .ref I], []⟩) R s := by
  have nw : S ∉ wr := fun h => nf (W.sub _ h)
  have sub : ∀ b ∈ wr, b ∈ S :: wr := fun b hb => List.mem_cons_of_mem _ hb
  intro k
  induction k with
  | zero =>
    intro i s ek hi st hS fin
    obtain rfl : i = n := by omega
    refine codeAny_builtin PyProof.Rows.F.entry_set_update_loop ?_
    rw [Around.under_plainId PyProof.Rows.F.plain_set_update_loop _]
    show wpAny _ A.in1 (pyNext (Value.ref I) >>= _) _ _ s
    refine wpAny_bind (W.done s _ _ st fun s1 m1 => ?_)
    rw [List.take_of_length_le (show ns.length ≤ i by omega)] at hS
    show wpAny _ A.in1 (ret Value.none) _ _ s1
    exact wpAny_pure (fin s1 (m1.mono sub) (hS.at fun o e => m1.heap S o nw e))
  | succ k ih =>
    intro i s ek hi st hS fin
    have lt : i < n := by omega
    refine codeAny_builtin PyProof.Rows.F.entry_set_update_loop ?_
    rw [Around.under_plainId PyProof.Rows.F.plain_set_update_loop _]
    show wpAny _ A.in1 (pyNext (Value.ref I) >>= _) _ _ s
    refine wpAny_bind (W.item i s _ _ lt st fun v s1 hP st1 m1 => ?_)
    obtain ⟨z, t, hz, rfl⟩ := val i v hP
    have hS1 : SetT P w s1.heap S (pack (ns.take i)) := hS.at fun o e => m1.heap S o nw e
    show wpAny _ A.in1 (holding [Value.str z t] (setAdd S (.str z t)) >>= _) _ _ s1
    refine wpAny_bind (wpAny_holding ?_)
    unfold setAdd
    refine wpAny_holding (wpAny_bind ((PySem.strKind P w).pyHash (k := z) (is_str z t) ?_))
    have pl := pack_len (ns.take i)
    rw [List.length_take] at pl
    refine add_one (s := { s1 with toks := s1.toks + 1 }) hS1 (by omega) fun h2 bb sb S2 => ?_
    rw [← pack_take hz] at S2
    refine wpAny_pure ⟨plainId_quiet PyProof.Rows.F.plain_set_update_loop _, ih (i + 1) _ (by omega) lt (W.frame _ s1 _ _ st1 (Nat.le_succ _) fun b hb o e => ?_) S2 fun s3 m3 S3 => fin s3 (Moved.trans W.gtrans ((m1.mono sub).then_heap (Nat.le_succ _) fun b o hb e => ?_) m3) S3⟩
    · rw [sb.2 b fun z : b = S => nf (z ▸ hb)]
      exact e
    · rw [sb.2 b fun z : b = S => hb (by rw [z]; exact List.mem_cons_self)]
      exact e
end
end SX
set_option Elab.async false
set_option linter.all false
set_option maxRecDepth 100000
set_option maxHeartbeats 6400000
namespace SX
open PySem PySem.Spec PyProof.Rows PySem.Froz L2
/-- a set as it is made, in this world -/
def bare (w : World) : Obj := { cls := .type "set", dict := none, data := .set #[] 0 (.fresh 0 0 (!w.params.followText "set-order")) }
theorem bare_ok {P : Program} {w : World} {h : Heap} {a : Addr} (e : h.get? a = some (bare w)) : SetT P w h a [] := by
  refine ⟨(#[], 0, .fresh 0 0 (!w.params.followText "set-order")), e, TxOk.nil (by rfl), .refl _, List.Pairwise.nil, ?_⟩
  show _ ∨ (!w.params.followText "set-order") = true
  cases w.params.followText "set-order"
  · exact .inr rfl
  · exact .inl rfl
section
variable {P : Program} {w : World} {A : Around} {E : Value → Shared → Prop} {s : Shared}
theorem strs_get : ∀ {us : List Value} {xs : List Str}, StrsAre us xs → ∀ {i : Nat} {v : Value}, us[i]? = some v → ∃ k t, xs[i]? = some k ∧ v = .str k t
  | _, _, .nil, i, v, h => by simp at h
  | _, _, .cons n t r, 0, v, h => by
    rw [List.getElem?_cons_zero] at h
    exact ⟨n, t, rfl, (Option.some.inj h).symm⟩
  | _, _, .cons n t r, i + 1, v, h => by
    rw [List.getElem?_cons_succ] at h ⊢
    exact strs_get r h
theorem of_tuple {l : Addr} {items : Array Value} (ns : List Str) {Q : Value → Shared → Prop} (hh : A.handled = none) (hl : s.heap.IsTuple l items) (it : StrsAre items.toList ns) (hb : ns.length + 1 < scanBound)
    (fin : ∀ (h' : Heap) (tk : Nat), SetT P w h' s.heap.objs.size (pack ns) → (∀ b o, s.heap.get? b = some o → h'.get? b = some o) → Q (.ref s.heap.objs.size) { s with heap := h', toks := tk }) :
    wpAny (model P w) A (call (.type "set") [.ref l]) Q E s := by
  have n1 : items.size = ns.length := by
    have q := StrsAre.len_eq it
    rw [Array.length_toList] at q
    exact q
  have ⟨c, tl, hmro⟩ := PySem.F.called_set.mro
  have hmade := PySem.F.called_set.made
  have hsub := PySem.F.called_set.sub
  refine wpAny_call (codeAny_of_tree ?_)
  show wpAny _ _ (callAny (.type "set") _) _ _ _
  refine wpAny_pure ⟨Code.quiet_builtin _ (by decide +kernel), codeAny_builtin PySem.F.entry_type_call ?_⟩
  rw [Around.under_plain (weight_type_call_type "set" [.ref l] []) rfl]
  have x1 := PySem.F.called_set.notType
  have x2 := PySem.F.called_set.canCreate
  have x3 := PySem.F.typeCall_set_1 (.ref l)
  repeat (any_goals (first | assumption | wp_step))
  refine codeAny_mono (code_set_led1 (.ref l) (E := E) (Q₁ := fun x y => x = .ref s.heap.objs.size ∧ y = { s with heap := s.heap.push (bare w) }) ⟨rfl, rfl⟩) fun r s1 hr => ?_
  cases r with
  | error e => exact hr
  | ok fl =>
    cases fl with
    | ret x =>
      obtain ⟨rfl, rfl⟩ := hr
      have hS : (s.heap.push (bare w)).get? s.heap.objs.size = some (bare w) := Heap.get?_push_size _ rfl
      have hT : Shared.TypeIs { s with heap := s.heap.push (bare w) } (.ref s.heap.objs.size) "set" := ⟨_, hS, rfl⟩
      have y1 := PySem.F.called_set.init.lookup
      have y2 := PySem.F.called_set.init.bind (.ref s.heap.objs.size)
      repeat (any_goals (first | assumption | wp_step))
      refine codeAny_mono (codeAny_call_builtin (R := wants (fun r y => r = .none ∧ ∃ h' tk, y = { s with heap := h', toks := tk } ∧ SetT P w h' s.heap.objs.size (pack ns) ∧ (∀ b o, s.heap.get? b = some o → h'.get? b = some o)) E)
        PySem.F.called_set.init.plain PySem.F.entry_set_init (check_set_init_1 hT ?_)) fun r2 s2 hr2 => ?_
      · obtain ⟨⟨ocls, odict, odata, oslots⟩, hol, hcl, nl, hdl⟩ := hl
        simp only at hcl hdl
        subst hcl hdl
        have hol2 : (s.heap.push (bare w)).get? l = some { cls := .type "tuple", dict := odict, data := .seq items nl, slots := oslots } := Heap.get?_push_of_some _ hol
        have z1 := PySem.F.sub_tuple_set
        have z2 := PySem.F.sub_tuple_frozenset
        have z3 : (Value.type "tuple" == Value.type "dict") = false := by decide
        have hl1 : (s.heap.push (bare w)).IsTuple l items := ⟨_, hol2, rfl, nl, rfl⟩
        unfold Builtin.«set.__init__» noKeywords Builtin.Frozenset.updateFrom
        generalize hPI : pyIter = PI
        wp_walk
        subst hPI
        refine wpAny_pyIter_tuple hl1 (wpAny_bind (wpAny_runValue ?_))
        have lS : l < s.heap.objs.size := Heap.lt_size hol
        have h3 : A.in1.in1.in1.handled = none := by simp [hh]
        have nI : l ≠ (s.heap.push (bare w)).objs.size := by
          rw [Heap.size_push]
          exact Nat.ne_of_lt (Nat.lt_succ_of_lt lS)
        have nf : s.heap.objs.size ∉ [(s.heap.push (bare w)).objs.size, l] := fun z => by
          rw [Heap.size_push] at z
          rcases List.mem_cons.mp z with z | z
          · omega
          · have z := List.mem_singleton.mp z
            exact Nat.ne_of_gt lS z
        refine loop ((Walks.tuple h3 _ l nI items).toS) s.heap.objs.size nf ns n1 hb (fun i v hv => strs_get it (by rw [Array.getElem?_toList]; exact hv)) (items.size - 0) 0 _ (by omega) (Nat.zero_le _)
          ⟨⟨_, Heap.get?_push_size _ rfl, rfl, rfl⟩, hl1.push _⟩ (bare_ok (Heap.get?_push_of_some _ hS)) fun s' hm hS' => ?_
        obtain ⟨h', g', d', tk', os'⟩ := s'
        have eg : g' = s.gens := hm.gens
        have ed : d' = s.drawn := hm.drawn
        have eo : os' = s.os := hm.os
        subst eg ed eo
        show wpAny _ _ _ _ _ _
        refine wpAny_pure ?_
        show wpAny _ _ (ret Value.none) _ _ _
        refine wpAny_pure ⟨rfl, h', tk', rfl, hS', fun b o e => hm.heap b o (fun z => ?_) (Heap.get?_push_of_some _ (Heap.get?_push_of_some _ e))⟩
        have b0 : b < s.heap.objs.size := Heap.lt_size e
        rcases List.mem_cons.mp z with z | z
        · exact Nat.ne_of_lt b0 z
        · have z := List.mem_singleton.mp z
          rw [Heap.size_push] at z
          exact Nat.ne_of_lt (Nat.lt_succ_of_lt b0) z
      · cases r2 with
        | error e => exact hr2
        | ok f2 =>
          cases f2 with
          | ret r =>
            obtain ⟨rfl, h', tk, rfl, S2, k2⟩ := hr2
            repeat (any_goals (first | assumption | wp_step))
            exact fin _ _ S2 k2
          | _ => exact hr2.elim
    | _ => exact hr.elim
/-- sorted of it -/
theorem strs_rev {vs : List Value} (h : ∀ v ∈ vs, ∃ k t, v = Value.str k t) : StrsAre vs (vs.map strOf) := strsAre_map vs h
theorem sorted_of {a : Addr} {l : List Str} {Q : Value → Shared → Prop} (S : SetT P w s.heap a l) (hh : A.handled = none) (n64 : l.length < 64)
    (fin : ∀ s' p (out : Array Value) (c : Nat) (ns : List Str), (∀ b o, s.heap.get? b = some o → s'.heap.get? b = some o) → s'.gens = s.gens → s'.os = s.os → s.heap.objs.size ≤ p →
      s'.heap.get? p = some (seqObj "list" out c) → StrsAre out.toList ns → sortedS ns = true → ns.Perm l → Q (.ref p) s') : wpAny (model P w) A (call (.builtin "sorted") [.ref a]) Q E s := by
  obtain ⟨⟨es, ep, t⟩, ho, F⟩ := S
  have sz : es.size = l.length := F.ok.sz
  have b1 : es.size < scanBound := by
    show es.size < 4096
    omega
  refine Calls.call_function_entry kind_sorted plain_sorted entry_sorted (args_sorted1 _) ?_
  unfold Builtin.«sorted»
  refine wpAny_bind (m := checkCount "sorted" 1 1 _) (wpAny_pure (wpAny_bind (collect_set (A := A.in1) hh ⟨_, ho, rfl, rfl⟩ F.ok.fit b1 F.ri F.le fun s1 vs k1 z1 g1 o1 pm => ?_)))
  have vl : vs.length = l.length := by
    rw [pm.length_eq, List.length_map, Array.length_toList]
    exact sz
  have hI : StrsAre vs (vs.map strOf) := strs_rev fun v hv => by
    obtain ⟨e, he, q⟩ := List.mem_map.mp (pm.mem_iff.mp hv)
    obtain ⟨⟨k, ik, _⟩, _⟩ := F.ok.el e he
    obtain ⟨u, hu⟩ := Value.isStrOf_shape ik
    exact ⟨k, u, q.symm.trans hu⟩
  have pk : (vs.map strOf).Perm l := by
    have q := pm.map strOf
    rw [List.map_map] at q
    exact q.trans F.pm
  refine wpAny_bind (wpAny_newList ?_ (by rw [vl, sizeLine_eq]; omega))
  have hoL : (s1.heap.push (seqObj "list" vs.toArray 0)).get? s1.heap.objs.size = some (seqObj "list" vs.toArray 0) := Heap.get?_push_size _ rfl
  have k0 : KeysOf PyProof.Rows.strKind (pairsOf vs) := fun p hp => by
    rw [pairsOf_toList] at hp
    obtain ⟨x, u, e⟩ := hI.all _ (mem_zip_self hp).2
    exact ⟨x.cps.toList, by rw [e]⟩
  have kk : ∀ v1 v2 rest, vs = v1 :: v2 :: rest → keyKind' (v1 :: v2 :: rest).toArray = pure oneType' := fun v1 v2 rest e => by
    rw [e] at hI
    exact keyKind_strs hI
  refine wpAny_bind (wpAny_holding (wpAny_call_entry slot_list_sort ⟨_, hoL, rfl⟩ entry_list_sort (list_sort_treeK strKind_oneLt hoL k0 kk (by rw [vl]; exact n64) fun st' a1 a2 => ⟨_, rfl, ?_⟩) (args_list_sort _)))
  obtain ⟨c, hc⟩ := sortedHeap_at (vs := vs) (out := (arrOf st').map (·.2)) hoL
  obtain ⟨ss, q1, q2, q3⟩ := sorted_out_str hI a1 a2
  refine wpAny_pure ⟨_, rfl, fin _ s1.heap.objs.size _ c ss (fun b u e => ?_) g1 o1 z1 hc q1 q3 (q2.trans pk)⟩
  have q := k1 b u e
  have lt := Heap.lt_size q
  show (sortedHeap (s1.heap.push (seqObj "list" vs.toArray 0)) s1.heap.objs.size vs _).get? b = some u
  rw [sortedHeap_old (Nat.ne_of_lt lt) (by rw [size_push']; exact Nat.lt_succ_of_lt lt)]
  exact Heap.get?_push_of_some _ q
end
end SX
set_option Elab.async false
set_option linter.all false
set_option maxRecDepth 100000
set_option maxHeartbeats 4000000
namespace SX
open PySem PySem.Spec PyProof.Rows PySem.Froz L2
/-- the set of texts at a -/
def SetTO (P : Program) (w : World) (a : Addr) (l : List Str) : HO := .ext fun h => SetT P w h a l
theorem setTO_new {w : World} {P : Program} {H : Hp} {h : Heap} {a : Addr} {l : List Str} (R : SetT P w h a l) : ObjOk P w H h a (SetTO P w a l) := by
  have ⟨D, ho, _⟩ := R
  exact ⟨R, ⟨_, ho⟩, fun h1 h2 p k => SetT.at p k⟩
theorem vals_of_texts : ∀ {us : List Value} {xs : List Str}, StrsAre us xs → Vals (xs.map V.str) us
  | _, _, .nil => .nil
  | _, _, .cons x t r => .cons ⟨t, rfl⟩ (vals_of_texts r)
theorem texts_of : ∀ {us : List Value} {xs : List Str}, Vals (xs.map V.str) us → StrsAre us xs
  | _, [], r => by
    cases r
    exact .nil
  | _, x :: xs, r => by
    cases r with
    | cons a b =>
      obtain ⟨t, rfl⟩ := a
      exact .cons x t (texts_of b)
section
variable {X : Cx}
/-- set(t) of a tuple of texts -/
def rSetTx (P : Program) (w : World) (K : PySem.W.Frag) : List V → Hp → VK → Prop := fun xs H Q => ∃ (a : Addr) (ws : List Str), xs = [V.ref a] ∧ SqT K H a (ws.map V.str) ∧ ws.length ≤ 1000 ∧
  ∀ p, H p = none → Q (.ref p) (upd H p (SetTO P w p (pack ws)))
theorem cr_setTx (hc : X.calm = true) : CallR X (.type "set") (rSetTx X.prog X.w X.K) := by
  intro pins s σ H xs us Q I r h
  obtain ⟨a, ws, rfl, hq, hn, q⟩ := h
  rw [Vals.ref1 r]
  obtain ⟨its, rv, pl, hz⟩ := I.tuple hq
  refine of_tuple (items := its.toArray) ws (I.ok.hd hc) pl (by rw [List.toList_toArray]; exact texts_of rv) (by show _ < 4096; omega) fun h' tk S k => ?_
  have hn : H s.heap.objs.size = none := I.hok.fresh (Nat.le_refl _)
  exact ⟨.ref _, upd H s.heap.objs.size (SetTO X.prog X.w s.heap.objs.size (pack ws)), I.laid (t' := tk) k (Nat.le_refl _) (setTO_new S), rfl, q _ hn⟩
/-- sorted(s) of a set of fewer than 64 texts -/
def rSortTx (P : Program) (w : World) : List V → Hp → VK → Prop := fun xs H Q => ∃ (a : Addr) (l : List Str), xs = [V.ref a] ∧ H a = some (SetTO P w a l) ∧ l.length < 64 ∧
  ∀ (ns : List Str) (p : Addr), sortedS ns = true → ns.Perm l → H p = none → Q (.ref p) (upd H p (.lst (ns.map V.str)))
theorem cr_sortTx (hc : X.calm = true) : CallR X (.builtin "sorted") (rSortTx X.prog X.w) := by
  intro pins s σ H xs us Q I r h
  obtain ⟨a, l, rfl, ha, n64, q⟩ := h
  have R : SetT X.prog X.w s.heap a l := (I.hok a _ ha).1
  rw [Vals.ref1 r]
  refine sorted_of R (I.ok.hd hc) n64 fun s' p out c ns k g o hp hg hi hs pm => ?_
  have nl : (ns.map V.str).length ≤ sizeLine := by
    rw [List.length_map, pm.length_eq, sizeLine_eq]
    omega
  have np : H p = none := I.hok.fresh hp
  obtain ⟨h2, g2, d2, t2, o2⟩ := s'
  obtain rfl : o2 = s.os := o
  have J : Inv X pins σ (upd H p (.lst (ns.map V.str))) { s with heap := h2, gens := g2, drawn := d2, toks := t2 } :=
    I.call (ch := []) (Un.laid k hp np) (I.hok.laid k hp ⟨nl, out.toList, c, vals_of_texts hi, hg⟩) (by rw [show g2 = s.gens from g]; exact I.bare) (fun _ z => nomatch z)
  exact ⟨.ref p, _, J, rfl, q ns p hs pm np⟩
end
end SX
set_option Elab.async false
set_option linter.all false
set_option maxRecDepth 100000
set_option maxHeartbeats 4000000
/-! text * 2 -/
namespace NI
open PySem PySem.Spec PyProof.Rows L2
section
variable {X : Cx}
def rDbl : R2 := fun a b H Q => ∃ x, a = .str x ∧ b = .int 2 ∧ x.length ≤ 1000000 ∧ ∀ y : Str, y.length ≤ 2 * x.length → (∀ c ∈ y.cps.toList, c ∈ x.cps.toList) → Q (.str y) H
theorem op_dbl : OpR X (binaryOp .Mult) rDbl := by
  intro pins s σ H a b v u Q I ra rb h
  obtain ⟨x, rfl, rfl, hx, q⟩ := h
  obtain ⟨t, rfl⟩ := ra
  obtain ⟨t', rfl⟩ := rb
  refine P.mul_str (by decide) (fun _ _ => by omega) (fun _ _ => ?_) ?_
  · show decide (x.length * (2 : Int).toNat > sizeLine) = false
    refine decide_eq_false ?_
    have e : (2 : Int).toNat = 2 := rfl
    rw [e]
    show ¬ x.length * 2 > 2 ^ 24
    omega
  · rw [if_neg (by decide)]
    split
    · exact ⟨.str x, H, I, ⟨_, rfl⟩, q x (by omega) fun c hc => hc⟩
    · have e : ((List.replicate (2 : Int).toNat x.cps).foldl (· ++ ·) #[]) = x.cps ++ x.cps := by
        show (#[] ++ x.cps) ++ x.cps = _
        rw [Array.empty_append]
      rw [e]
      have l2 : (⟨x.cps ++ x.cps⟩ : Str).length = 2 * x.length := by
        show (x.cps ++ x.cps).size = 2 * x.cps.size
        rw [Array.size_append]
        omega
      refine ⟨by rw [l2]; show _ ≤ 2 ^ 24; omega, ?_⟩
      exact ⟨.str _, H, I.tok _, ⟨_, rfl⟩, q _ (Nat.le_of_eq l2) fun c hc => by
        rw [show ((⟨x.cps ++ x.cps⟩ : Str).cps.toList) = x.cps.toList ++ x.cps.toList from Array.toList_append] at hc
        rcases List.mem_append.mp hc with h | h <;> exact h⟩
end
end NI
set_option Elab.async false
set_option linter.all false
set_option maxRecDepth 100000
set_option maxHeartbeats 4000000
/-! An own exception class whose maker says super() and keeps one field: made by position and by the field's name. -/
namespace XH
open PySem PySem.W PySem.Calls PyProof.Rows Builtin.ObjectAttr

def iArgs (f : Str) (p1 p2 : Pos) : Arguments :=
  { posonlyargs := [], args := [{ arg := "self", annotation := none, pos := p1 }, { arg := f, annotation := none, pos := p2 }],
    vararg := none, kwonlyargs := [], kw_defaults := [], kwarg := none, defaults := [] }
def iSup (txt : Str) (a0 a1 a2 a3 a4 a5 : Pos) : Stmt :=
  .Expr (.Call (.Attribute (.Call (.Name "super" a0) [] [] a1) "__init__" a2) [.Constant (.str txt) 0 a3] [] a4) a5
def iSet (f : Str) (b0 b1 b2 b3 : Pos) : Stmt := .Assign [.Attribute (.Name "self" b0) f b1] (.Name f b2) b3
def iScope (f : Str) : Scope :=
  { kind := .function, names := [("self", .local), (f, .local), ("__class__", .free), ("super", .globalImplicit)], isGenerator := false, isCoroutine := false, more := [] }
/-- an exception of the class at C: its args at t, its dict -/
abbrev exr (C t : Addr) (dv : Option Addr) : Obj := excRec (.ref C) t dv .none .none (.bool false)

/-- what the text's written part says of such a class -/
structure ExT (prog : Program) (K : Frag) (mg : Str → Option Value) (C fI : Addr) (fd : FuncData) (f qn : Str) (B newId initId : String) (bmB : List Value) : Prop where
  FB : ExcBaseFacts B newId initId bmB
  KF : KxsFacts B initId
  SF : StoreFacts B bmB "object.__setattr__" "object"
  q : excInitIn K C bmB newId = true
  ov : excOver K C bmB = true
  hd : hasDictIn K C = true
  iC : findIn K (.ref C) "__init__" = some (some (.ref fI))
  fn : ∃ (oc doc pm ct : Value) (od an : Option Addr) (cda cc : Addr) (osl : Array (Option Value)) (txt : Str) (p1 p2 a0 a1 a2 a3 a4 a5 b0 b1 b2 b3 : Pos), (a2.endLine == a4.line) = true ∧
    fd = ksFn "__init__" qn (iArgs f p1 p2) [iSup txt a0 a1 a2 a3 a4 a5, iSet f b0 b1 b2 b3] (iScope f) .none .none doc pm an (.ref cda) ct cc ∧
    K.lookup fI = some ⟨oc, od, .func fd, osl⟩ ∧ codeIn K (.ref cda) qn = true ∧
    (∃ (ccl : Value) (cdd : Option Addr) (vs : Array Value) (ccs : Array (Option Value)) (file : Str) (tf : Tok),
      K.lookup cda = some ⟨ccl, cdd, .fields vs, ccs⟩ ∧ vs[2]? = some (.str file tf) ∧ ((prog.main.file : Str) == file) = true) ∧
    ∃ (cl : Value) (cld : Option Addr) (csl : Array (Option Value)), K.lookup cc = some ⟨cl, cld, .cell (some (.ref C)), csl⟩
  isf : isFn K (.ref fI) = true
  sup : ks_superIn K C C "__init__" = some (some (.builtin initId))
  sB : subIn K (.ref C) (.type B) = some true
  sC : mroIn K C (.ref C) = some true
  op : nsIn K cStatics "thirdparty.any" = some none
  sa : findIn K (.ref C) "__setattr__" = some (some (.builtin "object.__setattr__"))
  nf : findIn K (.ref C) f = some none
  mgS : mg "super" = none
  tp : (prog.main.scope.names.lookup ("super" : Str)).isSome = false
  l0 : (iScope f).names.lookup ("self" : Str) = some .local
  l1 : (iScope f).names.lookup f = some .local
  l2 : (iScope f).names.lookup ("__class__" : Str) = some .free
  l3 : (iScope f).names.lookup ("super" : Str) = some .globalImplicit
  lc : ∀ x ∈ (iScope f).names, x.2 ≠ .cell
  ld : (f == ("__debug__" : Str)) = false
  lf : ¬ ("self" : Str) = f
  bp : ∀ (s : Shared) (x v : Value), BindsTo s fd ⟨[x, v], []⟩ [("self", x), (f, v)]
  bk : ∀ (s : Shared) (x v : Value), BindsTo s fd ⟨[x], [(f, v)]⟩ [("self", x), (f, v)]

/-- a method's call whose name and bracket stand in one row -/
theorem mc_eq (env : Env) {o c : Expr} {x : Str} {p2 p4 : Pos} (e : (p2.endLine == p4.line) = true) :
    eval (.Call (.Attribute o x p2) [c] [] p4) env = (do
      let ov ← attributeBase o x env (eval o env)
      standAt p2.atName
      let r ← holding [ov] (calleeOf (methodCallForm 1 (backTo p4 (starEach [c] env)) []) o env ov x)
      callWith p4 r.1 r.2 (backTo p4 (starEach [c] env)) []) := by
  rw [arm_eval_Call]
  have z : methodCallPos (methodCallForm 1 (backTo p4 (starEach [c] env)) []) o env p2 p4 = pure p4 := by
    unfold methodCallPos
    rw [if_pos (by rw [e, Bool.or_true])]
  show (attributeBase o x env (eval o env) >>= fun ov => standAt p2.atName >>= fun _ => methodCall o x p2 p4 env ov 1 (backTo p4 (starEach [c] env)) []) = _
  unfold methodCall
  rw [z]
  rfl
section
variable {prog : Program} {w : World} {A : Around} {E : Value → Shared → Prop} {h : Heap} {g : Array GenState} {d : Drawn} {t : Nat} {os : OsState}
variable {nm q : Str} {C N : Addr} {bs bm bmB : List Value} {hdct : Bool} {sn : List Str} {sub : List Value} {ab : Bool} {col : Option Bool} {dd : Option Addr} {k0 k1 k2 k3 k5 : Option Value} {B newId initId : String}
/-- the bound maker of the base, called -/
theorem mw_call (FB : ExcBaseFacts B newId initId bmB) {u e t0 : Addr} {ws : List Value} {Q : Value → Shared → Prop}
    (cC : h.get? C = some (excClassObj nm q C N bs bm hdct sn sub ab col dd k0 k1 k2 k3 k5 newId)) (ce : h.get? e = some (exr C t0 none)) (cu : h.get? u = some (kxs_mw initId e)) (hz : ws.length ≤ sizeLine)
    (k : ∀ h', (∀ b o, b ≠ e → h.get? b = some o → h'.get? b = some o) → h'.get? e = some (exr C h.objs.size none) → Q .none ⟨h', g, d, t, os⟩) :
    wpAny (model prog w) A (call (.ref u) ws) Q E ⟨h, g, d, t, os⟩ := by
  refine wpAny_call (codeAny_of_tree ?_)
  show wpAny _ A.in1 (callAny (.ref u) ⟨ws, []⟩) _ _ _
  unfold callAny
  refine wpAny_bind (wpAny_load cu ?_)
  simp only [kxs_mw, show (Value.type "method-wrapper" == Value.type "method" || Value.type "method-wrapper" == Value.type "builtin_function_or_method" ||
    Value.type "method-wrapper" == Value.type "method-wrapper") = true by decide, if_true]
  refine KFB.if_so (by decide) ?_
  refine wpAny_bind (check_bound_init FB.toExcCallFacts cC ce rfl (wpAny_bind (wpAny_pure (wpAny_pure ?_))))
  refine ⟨plainId_quiet FB.init.plain _, codeAny_builtin FB.initEntry ?_⟩
  exact exc_init_tree (cls := .ref C) (t0 := t0) (dv := none) (c2 := .none) (c3 := .none) (b4 := .bool false) ce hz fun h' a b _ => k h' a b
end

section
variable {prog : Program} {w : World} {K : Frag} {mg : Str → Option Value} {C fI : Addr} {fd : FuncData} {f qn : Str} {B newId initId : String} {bmB : List Value}
variable {A : Around} {R : Result → Shared → Prop}
/-- the maker runs on a fresh exception -/
theorem init_run (T : ExT prog K mg C fI fd f qn B newId initId bmB) {s : Shared} {v : Value} {ar : Args} {x t0 : Addr} (X : K.In s.heap) (hg : s.heap.Ns mainGlobals mg)
    (hb : ∃ mb, s.heap.Ns builtinsNs mb ∧ ∀ y : Str, y ≠ "__name__" → mb y = bootBuiltins y) (hlim : s.heap.NoLimit)
    (hx : s.heap.get? x = some (exr C t0 none)) (hnx : K.lookup x = none) (hroom : A.depth < recursionLimit) (hbind : BindsTo s fd ar [("self", .ref x), (f, v)])
    (k : ∀ h' tk dx t1, (∀ b o, b ≠ x → s.heap.get? b = some o → h'.get? b = some o) → s.heap.objs.size ≤ dx → dx ≠ x → h'.get? x = some (exr C t1 (some dx)) →
      h'.Ns1 dx (fun y => if y = f then some v else none) → R (.ok (.ret .none)) { s with heap := h', toks := tk }) :
    codeAny (model prog w) A (.call (.ref fI) ar) R s := by
  obtain ⟨oc, doc, pm, ct, od, an, cda, cc, osl, txt, p1, p2, a0, a1, a2, a3, a4, a5, b0, b1, b2, b3, hpos, rfl, lk, hcd, ⟨ccl, cdd, vs, ccs, file, tf, lcode, hvs, hfile⟩, cl, cld, csl, lcell⟩ := T.fn
  refine ks_codeAny_call_defAt hroom (X _ _ lk) rfl hlim (codeRec_of X hcd) rfl hbind T.lc (fun y hy => ?_) (fun h₀ hns hk₀ => ?_) rfl rfl rfl
  · rcases List.mem_cons.mp hy with rfl | hy
    · exact T.l0
    · rcases List.mem_cons.mp hy with rfl | hy
      · exact T.l1
      · cases hy
  have kL : ∀ b o, s.heap.get? b = some o → h₀.get? b = some o := hk₀
  have X0 : K.In h₀ := X.keeps kL
  have hC : ∃ nm N' qn' bs bm hdct sn sub ab col dd k0 k1 k2 k3 k5, s.heap.get? C = some (excClassObj nm qn' C N' bs bm hdct sn sub ab col dd k0 k1 k2 k3 k5 newId) ∧ ∀ Y : String, bm.contains (.type Y) = bmB.contains (.type Y) := excInit_of X T.q
  obtain ⟨nm, N', qn', bs, bm, hdct, sn, sub, ab, col, dd, k0, k1, k2, k3, k5, hC, hT⟩ := hC
  obtain ⟨cd, hcd', hhd⟩ : ∃ cd, clsIn K C = some cd ∧ cd.hasDict = true := any_some T.hd
  obtain ⟨oD, hD1, hD2⟩ : ∃ oD, s.heap.get? C = some oD ∧ oD.data = .cls cd := by
    have z := hcd'
    unfold clsIn at z
    split at z
    · rename_i c' d' cd' sl' ho
      cases z
      exact ⟨_, X _ _ ho, rfl⟩
    · cases z
  have hmf : ([(("self" : Str), Value.ref x), (f, v)].reverse).lookup f = some v := by
    show List.lookup f [(f, v), (("self" : Str), Value.ref x)] = _
    simp [List.lookup]
  have hms : List.lookup ("self" : Str) ([(("self" : Str), Value.ref x), (f, v)].reverse) = some (Value.ref x) := by
    show List.lookup ("self" : Str) [(f, v), (("self" : Str), Value.ref x)] = _
    have e1 : (("self" : Str) == f) = false := by simpa using T.lf
    simp [List.lookup, e1]
  have hx0 := kL _ _ hx
  have hxL : x < s.heap.objs.size := Heap.lt_size hx
  obtain ⟨mb, hb1, hb2⟩ := hb
  have sup : bootBuiltins "super" = some (.type "super") := by first | boot_by_name | rfl | kernel_rfl
  -- super().__init__(txt)
  refine ks_wpAt_execs_cons (ks_wpAt_Expr_any (ks_wpAt_MethodCall ?_ (mc_eq _ hpos)))
  refine ks_wpAt_super_base (env := ksEnv qn (iScope f) s.heap.objs.size fI (.ref cda) cc) T.l3 T.l2 (by decide) rfl (X0 _ _ lk) rfl rfl rfl (X0 _ _ lcode) rfl hvs hfile T.tp ?_
  refine ks_loadName_global rfl T.l3 (loadGlobal_builtin (env := ksEnv qn (iScope f) s.heap.objs.size fI (.ref cda) cc) (hg.keeps kL) T.mgS (hb1.keeps kL) ((hb2 _ (by decide)).trans sup) ⟨rfl, ?_⟩)
  refine wpAny_loadName_free rfl T.l2 rfl ⟨_, X0 _ _ lcell, rfl⟩ ?_
  refine wpAny_loadName_local rfl T.l0 hns hms ?_
  refine ks_wpAny_isType_cls (kL _ _ hD1) hD2 ⟨rfl, ?_⟩
  refine ks_wpAny_call_super (kL _ _ hD1) hD2 hx0 rfl (fun c e => by cases e) (looks_mroIn X0 T.sC) (fun h1 e1 k1 => ?_)
  have X1 : K.In h1 := X0.keeps k1
  have hx1 := k1 _ _ hx0
  have I1 : InstAt h1 x (exr C t0 none) C none := ⟨hx1, rfl, rfl, trivial⟩
  have hsup : alongIn K "__init__" ((cd.mro.dropWhile (· != .ref C)).drop 1) = some (some (.builtin initId)) := by
    have z := T.sup
    unfold ks_superIn at z
    rw [hcd'] at z
    exact z
  refine kxs_getMethod T.KF e1 (looks_opaque X1 T.op) (l₀ := cd.mro) (fun A Q E s k q => wpAny_bind ((looks_clsIn X1 hcd') A _ E s k (wpAny_pure q))) rfl X1 hsup (I1.type.andThen (looks_subIn X1 T.sB)) (ks_ne X1 I1 hcd') (by decide) ?_
  have k2 : ∀ b o, h1.get? b = some o → (h1.push (kxs_mw initId x)).get? b = some o := fun b o e => Heap.get?_push_of_some _ e
  have hmw : (h1.push (kxs_mw initId x)).get? h1.objs.size = some (kxs_mw initId x) := Heap.get?_push_at rfl rfl
  refine kxs_callWith (i := initId) (x := x) (by rfl) (evalArgs_plain ?_)
  show wpAny _ _ (spliced ((false, eval (.Constant (.str txt) 0 a3) _) :: backTo a4 (starEach [] _))) _ _ _
  refine spliced_cons (Calls.Constant_str (spliced_nil ⟨hmw, ?_⟩))
  have up : ∀ b o, s.heap.get? b = some o → (h1.push (kxs_mw initId x)).get? b = some o := fun b o e => k2 _ _ (k1 _ _ (kL _ _ e))
  refine mw_call T.FB (up _ _ hC) (up _ _ hx) hmw (by show 1 ≤ sizeLine; rw [sizeLine_eq]; omega) fun h3 k3 e3 => ?_
  -- self.f = f
  have up3 : ∀ b o, b ≠ x → s.heap.get? b = some o → h3.get? b = some o := fun b o hb e => k3 _ _ hb (up _ _ e)
  have X3 : K.In h3 := fun b o e => up3 b o (fun z => ?_) (X _ _ e)
  have hns3 : h3.Ns s.heap.objs.size (fun y => List.lookup y ([(("self" : Str), Value.ref x), (f, v)].reverse)) := by
    obtain ⟨o, es, ep, e, r⟩ := hns
    exact ⟨o, es, ep, k3 _ _ (Nat.ne_of_gt hxL) (k2 _ _ (k1 _ _ e)), r⟩
  refine wpAt_of_wpAny (wpAny_execs_cons (plainObj_wpAny_Assign_Attribute ?_))
  refine wpAny_Name (wpAny_loadName_local rfl T.l1 hns3 hmf ?_) T.ld
  refine wpAny_Name (wpAny_loadName_local rfl T.l0 hns3 hms ?_) (by decide)
  have I3 : InstAt h3 x (exr C (h1.push (kxs_mw initId x)).objs.size none) C none := ⟨e3, rfl, rfl, trivial⟩
  refine set_plain X3 I3 T.sa ?_
  refine osa_openX (r := none) T.SF X3 I3 T.ov (by unfold takerIn; rw [T.nf]; rfl) fun bb => ?_
  have hcls : Looks (model prog w) h3 (classData C) cd := looks_clsIn X3 hcd'
  have hxs : x ≠ h3.objs.size := Nat.ne_of_lt (Heap.lt_size e3)
  have big : s.heap.objs.size < h3.objs.size := by
    obtain ⟨o, es, ep, e, r⟩ := hns3
    exact Heap.lt_size e
  obtain ⟨cn, cbs, cmro, cns, cqn, chd, csn, csb, cab, ccol, cdel⟩ := cd
  dsimp only at hhd
  subst hhd
  show wpAny _ _ (storeInOwnDict (.ref x) (.ref C) (.str f _) f v bb) _ _ _
  unfold storeInOwnDict ownDictForStores
  repeat (first
    | with_reducible refine PX.store_in_new ?_ ?_
    | with_reducible refine wpAny_loadPart_at e3 ?_
    | with_reducible refine hcls.at ?_
    | wp_step)
  · have z := Heap.get?_push_at (h := h3) (o := ({ cls := .type "dict", data := .dict #[] } : Obj)) rfl rfl
    exact ⟨_, #[], _, (Heap.get?_update_ne _ _ _ _ hxs.symm).trans z, rfl, fun e he => absurd he (by simp), fun _ => rfl⟩
  · intro h4 tk4 hn4 hs4
    have hx4 : (h3.push { cls := .type "dict", data := .dict #[] }).get? x = some (exr C (h1.push (kxs_mw initId x)).objs.size none) := Heap.get?_push_of_some _ e3
    refine wpAny_execs_nil (k h4 tk4 h3.objs.size (h1.push (kxs_mw initId x)).objs.size (fun b o hb ho => ?_) (Nat.le_of_lt big) hxs.symm ?_ hn4)
    · refine (hs4.2 b (Nat.ne_of_lt (Heap.lt_size (up3 b o hb ho)))).trans ?_
      exact (Heap.get?_update_ne _ _ _ _ hb).trans (Heap.get?_push_of_some _ (up3 b o hb ho))
    · exact (hs4.2 x hxs).trans (Heap.get?_update_self _ hx4 rfl)
  rw [z, hnx] at e
  cases e
end
end XH
set_option Elab.async false
set_option linter.all false
set_option maxRecDepth 100000
set_option maxHeartbeats 4000000
namespace XH
open PySem PySem.W PySem.Calls PyProof.Rows Builtin.ObjectAttr
section
variable {prog : Program} {w : World} {M : Model} {A : Around} {E : Value → Shared → Prop} {R : Result → Shared → Prop} {h : Heap} {g : Array GenState} {d : Drawn} {t : Nat} {os : OsState}
variable {nm q : Str} {C N : Addr} {bs bm bmB : List Value} {hdct : Bool} {sn : List Str} {sub : List Value} {ab : Bool} {col : Option Bool} {dd : Option Addr} {k0 k1 k2 k3 k5 : Option Value} {B newId initId : String}

theorem kw_check (FB : ExcBaseFacts B newId initId bmB) (same : ∀ Y : String, bm.contains (.type Y) = bmB.contains (.type Y)) {f : Str} {v : Value} {Q : Unit → Shared → Prop}
    (cC : h.get? C = some (excClassObj nm q C N bs bm hdct sn sub ab col dd k0 k1 k2 k3 k5 newId)) (k : Q () ⟨h, g, d, t, os⟩) :
    wpAny M A (checkBuiltinCall newId ⟨[.ref C], [(f, v)]⟩) Q E ⟨h, g, d, t, os⟩ := by
  have has : (Value.ref C :: bm).contains (.type B) = true := by
    rw [List.contains_cons, same, FB.hasB, Bool.or_true]
  have star := FB.noStar
  simp only [checkBuiltinCall, FB.newKind, FB.newSplit, FB.newRow]
  repeat (first
    | refine wpAny_loadPart_at cC ?_
    | (refine wpAny_isSubtype_exc cC ?_; rw [has])
    | refine wpAny_staticBase_exc cC ?_
    | refine wpAny_madeBy_exc cC ?_
    | simp only [bne_self_eq_false, Bool.false_eq_true, if_false]
    | wp_step)
  exact k

theorem kw_new (FB : ExcBaseFacts B newId initId bmB) (same : ∀ Y : String, bm.contains (.type Y) = bmB.contains (.type Y)) {f : Str} {v : Value}
    (cC : h.get? C = some (excClassObj nm q C N bs bm hdct sn sub ab col dd k0 k1 k2 k3 k5 newId))
    (k : R (.ok (.ret (.ref (h.objs.size + 1)))) ⟨(h.push (excTup [])).push (exr C h.objs.size none), g, d, t, os⟩) :
    codeAny (model prog w) A (.builtin newId ⟨[.ref C], [(f, v)]⟩) R ⟨h, g, d, t, os⟩ := by
  have ends := FB.ends
  have hB : (Value.ref C :: bm).contains (.type B) = true := by
    rw [List.contains_cons, same, FB.hasB, Bool.or_true]
  have hA : (Value.ref C :: bm).contains (.type "AttributeError") = false := by
    rw [List.contains_cons, same, FB.noAttr]; rfl
  have hN : (Value.ref C :: bm).contains (.type "NameError") = false := by
    rw [List.contains_cons, same, FB.noName]; rfl
  have hz : ([] : List Value).length ≤ sizeLine := by show 0 ≤ sizeLine; omega
  refine codeAny_builtinAt FB.entry ?_
  unfold Builtin.«BaseException.__new__»
  refine _root_.PySem.wpAt_bind ?_
  show _root_.PySem.wpAt _ _ _ (stack >>= _) _ _ _
  refine _root_.PySem.wpAt_bind (_root_.PySem.wpAt_stack fun p below => _root_.PySem.wpAt_of_wpAny ?_)
  wp_walk
  refine _root_.PySem.wpAt_of_wpAny ?_
  rw [FB.owner]
  repeat (first
    | with_reducible refine wpAny_madeHere_exc FB.canon cC ?_
    | with_reducible refine wpAny_loadPart_at cC ?_
    | (with_reducible refine wpAny_isSubtype_exc cC ?_; first | rw [hB] | rw [hA] | rw [hN])
    | wp_step)
  show R _ _
  rw [Heap.size_push]
  exact k

theorem kw_type (FB : ExcBaseFacts B newId initId bmB) (same : ∀ Y : String, bm.contains (.type Y) = bmB.contains (.type Y)) {f : Str} {v : Value} {fI : Addr} {Q : Fin → Shared → Prop}
    (cC : h.get? C = some (excClassObj nm q C N bs bm hdct sn sub ab col dd k0 k1 k2 k3 k5 newId))
    (li : Looks (model prog w) h (typeLookup (.ref C) "__init__") (some (.ref fI))) (lb : ∀ self, Looks (model prog w) h (bindSpecial (.ref fI) self) (.ref fI, [self]))
    (k : codeAny (model prog w) A (.call (.ref fI) ⟨[.ref (h.objs.size + 1)], [(f, v)]⟩)
      (fun r s' => match r with | .ok (.ret u) => u = .none ∧ Q (.done (.ret (.ref (h.objs.size + 1)))) s' | .ok _ => False | .error e => E e s')
      ⟨(h.push (excTup [])).push (exr C h.objs.size none), g, d, t, os⟩) :
    wpAny (model prog w) A (Builtin.«type.__call__» ⟨[.ref C], [(f, v)]⟩) Q E ⟨h, g, d, t, os⟩ := by
  repeat (first | with_reducible refine wpAny_loadPart_at cC ?_ | with_reducible refine wpAny_madeBy_exc cC ?_ | wp_step)
  refine codeAny_call_builtin_code (Code.quiet_builtin _ FB.quiet) (kw_check FB same cC ?_)
  refine kw_new FB same cC ?_
  show wpAny _ _ _ _ _ _
  have up : ∀ b o, h.get? b = some o → ((h.push (excTup [])).push (exr C h.objs.size none)).get? b = some o :=
    fun b o e => Heap.get?_push_of_some _ (Heap.get?_push_of_some _ e)
  have cC1 := up _ _ cC
  have ge : ((h.push (excTup [])).push (exr C h.objs.size none)).get? (h.objs.size + 1) = some (exr C h.objs.size none) := by heap_get
  have cc : (Value.ref C :: bm).contains (.ref C) = true := by simp
  have li1 := li.keeps up
  have lb1 := (lb (.ref (h.objs.size + 1))).keeps up
  unfold isInstance
  repeat (first
    | with_reducible refine wpAny_loadPart_at ge ?_
    | (with_reducible refine wpAny_isSubtype_exc cC1 ?_; rw [cc])
    | wp_step)
  show wpAny _ _ (typeLookup (.ref C) _) _ _ _
  refine li1.at (wpAny_holding (wpAny_bind (lb1.at (wpAny_bind (wpAny_call (codeAny_mono k fun r s' z => ?_))))))
  rcases r with e | (v | _ | _ | _) <;> first | exact z | exact z.elim | skip
  obtain ⟨rfl, z⟩ := z
  first
    | exact wpAny_pure (wpAny_pure z)
    | (wp_walk; exact z)

theorem kw_call (FB : ExcBaseFacts B newId initId bmB) (same : ∀ Y : String, bm.contains (.type Y) = bmB.contains (.type Y)) {f : Str} {v : Value} {fI : Addr}
    (cC : h.get? C = some (excClassObj nm q C N bs bm hdct sn sub ab col dd k0 k1 k2 k3 k5 newId))
    (li : Looks (model prog w) h (typeLookup (.ref C) "__init__") (some (.ref fI))) (lb : ∀ self, Looks (model prog w) h (bindSpecial (.ref fI) self) (.ref fI, [self]))
    (k : codeAny (model prog w) (A.under (.builtin "type.__call__" ⟨[.ref C], [(f, v)]⟩)) (.call (.ref fI) ⟨[.ref (h.objs.size + 1)], [(f, v)]⟩) (InitBack (h.objs.size + 1) R)
      ⟨(h.push (excTup [])).push (exr C h.objs.size none), g, d, t, os⟩) :
    codeAny (model prog w) A (.call (.ref C) ⟨[], [(f, v)]⟩) R ⟨h, g, d, t, os⟩ := by
  have f1 := tc_lookup
  have f2 := tc_bind (.ref C)
  have ty : (⟨h, g, d, t, os⟩ : Shared).TypeIs (.ref C) "type" := ⟨_, cC, rfl⟩
  refine codeAny_of_tree ?_
  show wpAny _ _ (callAny (.ref C) _) _ _ _
  repeat (any_goals (first
    | assumption
    | with_reducible refine wpAny_loadPart_at cC ?_
    | wp_step))
  refine ⟨rfl, ?_⟩
  refine codeAny_call_builtin_at (Code.quiet_builtin _ (by decide +kernel)) entry_typeCall ?_
  have f3 := tc_sub
  have last : wpAny (model prog w) (A.under (.builtin "type.__call__" ⟨[.ref C], [(f, v)]⟩)) (Builtin.«type.__call__» ⟨[.ref C], [(f, v)]⟩)
      (fun fin s' => match fin with | .done fl => R (.ok fl) s' | .again c' => c'.quiet = true ∧ codeAny (model prog w) A c' R s') (fun e s' => R (.error e) s') ⟨h, g, d, t, os⟩ := by
    refine kw_type FB same cC li lb (codeAny_mono k fun r s' z => ?_)
    rcases r with e | (v | _ | _ | _) <;> exact z
  simp only [checkBuiltinCall, tc_kind, tc_split]
  repeat (any_goals (first
    | assumption
    | with_reducible refine wpAny_loadPart_at cC ?_
    | with_reducible refine wpAny_onRaise ?_
    | with_reducible refine wpAny_map ?_
    | wp_step))
end

section
variable {prog : Program} {w : World} {K : Frag} {mg : Str → Option Value} {C fI : Addr} {fd : FuncData} {f qn : Str} {B newId initId : String} {bmB : List Value}
variable {A : Around} {E : Value → Shared → Prop}
/-- what is there behind the making -/
structure Made (h h' : Heap) (C e dx : Addr) (f : Str) (v : Value) : Prop where
  keep : ∀ b o, h.get? b = some o → h'.get? b = some o
  eb : h.objs.size ≤ e
  db : h.objs.size ≤ dx
  ne : dx ≠ e
  ob : ∃ t1, h'.get? e = some (exr C t1 (some dx))
  ns : h'.Ns1 dx (fun y => if y = f then some v else none)
theorem fresh_out {h : Heap} {b : Addr} (X : K.In h) (hb : h.objs.size ≤ b) : K.lookup b = none := by
  cases e : K.lookup b with
  | none => rfl
  | some o => exact absurd (Heap.lt_size (X _ _ e)) (Nat.not_lt.mpr hb)
theorem made_pos (T : ExT prog K mg C fI fd f qn B newId initId bmB) {s : Shared} {v : Value} {Q : Value → Shared → Prop} (X : K.In s.heap) (hg : s.heap.Ns mainGlobals mg)
    (hb : ∃ mb, s.heap.Ns builtinsNs mb ∧ ∀ y : Str, y ≠ "__name__" → mb y = bootBuiltins y) (hlim : s.heap.NoLimit) (hroom : A.depth + 1 < recursionLimit)
    (k : ∀ h' tk e dx, Made s.heap h' C e dx f v → Q (.ref e) { s with heap := h', toks := tk }) : wpAny (model prog w) A (call (.ref C) [v]) Q E s := by
  obtain ⟨nm, N', qn', bs, bm, hdct, sn, sub, ab, col, dd, k0, k1, k2, k3, k5, hC, hT⟩ := excInit_of X T.q
  obtain ⟨oI, hoI, hcI⟩ : ∃ oI, s.heap.get? fI = some oI ∧ oI.cls = .type "function" := by
    obtain ⟨o, ho, hc⟩ := Option.map_eq_some_iff.mp (show (K.lookup fI).map (·.cls) = some (.type "function") from beq_iff_eq.mp T.isf)
    exact ⟨o, X _ _ ho, hc⟩
  have up : ∀ b o, s.heap.get? b = some o → ((s.heap.push (excTup [v])).push (exr C s.heap.objs.size none)).get? b = some o :=
    fun b o e => Heap.get?_push_of_some _ (Heap.get?_push_of_some _ e)
  have ge : ((s.heap.push (excTup [v])).push (exr C s.heap.objs.size none)).get? (s.heap.objs.size + 1) = some (exr C s.heap.objs.size none) := by heap_get
  have sz : ((s.heap.push (excTup [v])).push (exr C s.heap.objs.size none)).objs.size = s.heap.objs.size + 2 := by rw [Heap.size_push, Heap.size_push]
  have hg' : ((s.heap.push (excTup [v])).push (exr C s.heap.objs.size none)).Ns mainGlobals mg := hg.keeps up
  have hb' : ∃ mb, ((s.heap.push (excTup [v])).push (exr C s.heap.objs.size none)).Ns builtinsNs mb ∧ ∀ y : Str, y ≠ "__name__" → mb y = bootBuiltins y :=
    let ⟨mb, h1, h2⟩ := hb
    ⟨mb, h1.keeps up, h2⟩
  have out := fresh_out (b := s.heap.objs.size + 1) X (Nat.le_succ _)
  obtain ⟨hp, g, d, tk, os⟩ := s
  refine wpAny_call (PX.call_own T.FB hT hC (looks_findIn X T.iC) (fun self => exc_bind hoI hcI self) (by show 1 ≤ sizeLine; rw [sizeLine_eq]; omega) ?_)
  refine init_run (s := ⟨(hp.push (excTup [v])).push (exr C hp.objs.size none), g, d, tk, os⟩) T (X.keeps up) hg' hb' (hlim.keeps up) ge out hroom (T.bp _ _ _) fun h' tk' dx t1 kk db ne ob ns => ?_
  refine ⟨rfl, k h' tk' _ dx ⟨fun b o e => kk b o (Nat.ne_of_lt (Nat.lt_succ_of_lt (Heap.lt_size e))) (up b o e), Nat.le_succ _, Nat.le_trans (by rw [sz]; exact Nat.le_add_right _ _) db, ne, ⟨t1, ob⟩, ns⟩⟩
theorem made_kw (T : ExT prog K mg C fI fd f qn B newId initId bmB) {s : Shared} {v : Value} {Q : Value → Shared → Prop} (X : K.In s.heap) (hg : s.heap.Ns mainGlobals mg)
    (hb : ∃ mb, s.heap.Ns builtinsNs mb ∧ ∀ y : Str, y ≠ "__name__" → mb y = bootBuiltins y) (hlim : s.heap.NoLimit) (hroom : A.depth + 1 < recursionLimit)
    (k : ∀ h' tk e dx, Made s.heap h' C e dx f v → Q (.ref e) { s with heap := h', toks := tk }) : wpAny (model prog w) A (call (.ref C) [] [(f, v)]) Q E s := by
  obtain ⟨nm, N', qn', bs, bm, hdct, sn, sub, ab, col, dd, k0, k1, k2, k3, k5, hC, hT⟩ := excInit_of X T.q
  obtain ⟨oI, hoI, hcI⟩ : ∃ oI, s.heap.get? fI = some oI ∧ oI.cls = .type "function" := by
    obtain ⟨o, ho, hc⟩ := Option.map_eq_some_iff.mp (show (K.lookup fI).map (·.cls) = some (.type "function") from beq_iff_eq.mp T.isf)
    exact ⟨o, X _ _ ho, hc⟩
  have up : ∀ b o, s.heap.get? b = some o → ((s.heap.push (excTup [])).push (exr C s.heap.objs.size none)).get? b = some o :=
    fun b o e => Heap.get?_push_of_some _ (Heap.get?_push_of_some _ e)
  have ge : ((s.heap.push (excTup [])).push (exr C s.heap.objs.size none)).get? (s.heap.objs.size + 1) = some (exr C s.heap.objs.size none) := by heap_get
  have sz : ((s.heap.push (excTup [])).push (exr C s.heap.objs.size none)).objs.size = s.heap.objs.size + 2 := by rw [Heap.size_push, Heap.size_push]
  have hg' : ((s.heap.push (excTup [])).push (exr C s.heap.objs.size none)).Ns mainGlobals mg := hg.keeps up
  have hb' : ∃ mb, ((s.heap.push (excTup [])).push (exr C s.heap.objs.size none)).Ns builtinsNs mb ∧ ∀ y : Str, y ≠ "__name__" → mb y = bootBuiltins y :=
    let ⟨mb, h1, h2⟩ := hb
    ⟨mb, h1.keeps up, h2⟩
  have out := fresh_out (b := s.heap.objs.size + 1) X (Nat.le_succ _)
  obtain ⟨hp, g, d, tk, os⟩ := s
  refine wpAny_call (kw_call T.FB hT hC (looks_findIn X T.iC) (fun self => exc_bind hoI hcI self) ?_)
  refine init_run (s := ⟨(hp.push (excTup [])).push (exr C hp.objs.size none), g, d, tk, os⟩) T (X.keeps up) hg' hb' (hlim.keeps up) ge out hroom (T.bk _ _ _) fun h' tk' dx t1 kk db ne ob ns => ?_
  refine ⟨rfl, k h' tk' _ dx ⟨fun b o e => kk b o (Nat.ne_of_lt (Nat.lt_succ_of_lt (Heap.lt_size e))) (up b o e), Nat.le_succ _, Nat.le_trans (by rw [sz]; exact Nat.le_add_right _ _) db, ne, ⟨t1, ob⟩, ns⟩⟩
end
end XH
set_option Elab.async false
set_option linter.all false
set_option maxRecDepth 100000
set_option maxHeartbeats 4000000
/-! The rules over the hand layer: such an exception made as a value, asked by isinstance, its field read; repr of data. -/
namespace XH
open PySem PySem.W PySem.Calls PyProof.Rows L2
/-- at a: an exception of the class at C that keeps v in its field f -/
def ExcAt (H : Hp) (a C : Addr) (f : Str) (v : V) : Prop := ∃ d, H a = some (exo a C (some d)) ∧ H d = some (exd d [(f, v)])
theorem ExcAt.same {H H' : Hp} {a C : Addr} {f : Str} {v : V} (x : ExcAt H a C f v) (s : Same H H') : ExcAt H' a C f v :=
  let ⟨d, h1, h2⟩ := x
  ⟨d, s _ _ h1, s _ _ h2⟩
theorem same_refl {H : Hp} : Same H H := fun _ _ e => e
theorem same_trans {H H' H'' : Hp} (a : Same H H') (b : Same H' H'') : Same H H'' := fun x o e => b x o (a x o e)
theorem same_new {H : Hp} {a : Addr} {o : HO} (h : H a = none) : Same H (upd H a o) := fun b u e => by
  rw [upd_ne (ne_of_none e h)]
  exact e
section
variable {X : Cx} {pins : List (Addr × Obj)} {σ : L2.St} {H : Hp} {s : Shared}
theorem inv_made {h' : Heap} {tk : Nat} {C e dx : Addr} {f : Str} {v : V} {u : Value} (I : Inv X pins σ H s) (r : RelV v u) (m : Made s.heap h' C e dx f u) :
    Inv X pins σ (upd (upd H dx (exd dx [(f, v)])) e (exo e C (some dx))) { s with heap := h', toks := tk } := by
  obtain ⟨kp, eb, db, ne, ⟨t1, ob⟩, ns⟩ := m
  obtain ⟨G, g1, g2⟩ := restrict h' fun b => decide (b ≠ e)
  have gk : ∀ b, b ≠ e → G.get? b = h'.get? b := fun b hb => g1 b (decide_eq_true hb)
  have ge : G.get? e = none := g2 e (decide_eq_false fun z => z rfl)
  have gs : ∀ b o, G.get? b = some o → h'.get? b = some o := fun b o z => by
    by_cases hb : b = e
    · rw [hb, ge] at z
      cases z
    · rw [← gk b hb]
      exact z
  have old : ∀ b o, s.heap.get? b = some o → G.get? b = some o := fun b o z => by
    rw [gk b (Nat.ne_of_lt (Nat.lt_of_lt_of_le (Heap.lt_size z) eb))]
    exact kp b o z
  have od : ObjOk X.prog X.w (upd H dx (exd dx [(f, v)])) G dx (exd dx [(f, v)]) := by
    refine exd_ok (ns.at fun o z => (gk dx ne).trans z) fun g => ?_
    have z := relO_put (f := f) (fs := []) (mA := fun _ => none) r (fun _ => trivial) g
    exact z
  have I2 : Inv X pins σ (upd H dx (exd dx [(f, v)])) { s with heap := G, toks := tk } := I.laid (t' := tk) old db od
  have hn : (upd H dx (exd dx [(f, v)])) e = none := by
    rw [upd_ne (Ne.symm ne)]
    exact I.hok.fresh eb
  exact I2.laidN (t' := tk) gs ge hn (exo_ok ob)
theorem made_at {C e dx : Addr} {f : Str} {v : V} (h : e ≠ dx) : ExcAt (upd (upd H dx (exd dx [(f, v)])) e (exo e C (some dx))) e C f v :=
  ⟨dx, upd_same, by rw [upd_ne (Ne.symm h), upd_same]⟩
end
/-- C(e), C(f=e): a new exception; what was tracked stands -/
def tMk (C : Addr) (f : Str) (te : TE) : TE := fun σ H Q => te σ H fun v H1 => ∀ a H2, H1 a = none → Same H1 H2 → ExcAt H2 a C f v → Q (.ref a) H2
section
variable {X : Cx} {C fI : Addr} {fd : FuncData} {f qn : Str} {B newId initId : String} {bmB : List Value}
theorem inv_glob {pins : List (Addr × Obj)} {σ : L2.St} {H : Hp} {s : Shared} (I : Inv X pins σ H s) : s.heap.Ns mainGlobals X.mg ∧ ∃ mb, s.heap.Ns builtinsNs mb ∧ ∀ y : Str, y ≠ "__name__" → mb y = bootBuiltins y :=
  ⟨I.mod.glob.keeps I.bk, let ⟨mb, h1, h2⟩ := I.mod.blt; ⟨mb, h1.keeps I.bk, h2⟩⟩
theorem mk_run {pins : List (Addr × Obj)} {σ : L2.St} {H : Hp} {s : Shared} {v : V} {u : Value} {Q : VK} {kw : Bool} (T : ExT X.prog X.K X.mg C fI fd f qn B newId initId bmB) (dp : X.A.depth + 1 < recursionLimit)
    (I : Inv X pins σ H s) (r : RelV v u) (k : ∀ a H2, H a = none → Same H H2 → ExcAt H2 a C f v → Q (.ref a) H2) :
    ∀ h' tk e dx, Made s.heap h' C e dx f u → EP X pins σ Q (.ref e) { s with heap := h', toks := tk } := fun h' tk e dx m => by
  have he : H e = none := I.hok.fresh m.eb
  have hd : H dx = none := I.hok.fresh m.db
  refine ⟨.ref e, _, inv_made I r m, rfl, k e _ he ?_ (made_at (Ne.symm m.ne))⟩
  exact same_trans (same_new hd) (same_new (by rw [upd_ne (Ne.symm m.ne)]; exact he))
theorem pe_mkp {x : Str} {e : Expr} {te : TE} {p pos : Pos} (T : ExT X.prog X.K X.mg C fI fd f qn B newId initId bmB) (dp : X.A.depth + 1 < recursionLimit) (gC : X.mg x = some (.ref C)) (kC : keepIn X.K (.ref C) = true) (hg : Gl X x) (he : PE X e te)
    (hs : starEach [e] X.env = (false, eval e X.env) :: starEach [] X.env := by rfl) (hdb : (x == ("__debug__" : Str)) = false := by decide) :
    PE X (.Call (.Name x p) [e] [] pos) (tMk C f te) := by
  refine ⟨fun pins s σ H Q I h => ?_⟩
  refine wpAny_Call_Name_kw (ld_glob I hg gC ?_ hdb)
  refine callWith_K (h₀ := X.base) I.ok.mod.kin kC ?_ hs (by rfl)
  rw [hs]
  show wpAny _ _ (spliced ((false, eval e X.env) :: backTo pos (starEach [] X.env))) _ _ s
  refine spliced_cons (thn (he.run pins s σ H _ I h) fun u s1 ⟨v, H1, I1, r1, q1⟩ => ?_)
  refine spliced_nil ⟨I1.kIn, ?_⟩
  show wpAny _ _ (call (.ref C) [u]) _ _ _
  exact made_pos T I1.kIn (inv_glob I1).1 (inv_glob I1).2 I1.nolimit dp (mk_run (kw := false) T dp I1 r1 q1)
theorem pe_mkk {x : Str} {e : Expr} {te : TE} {p pos kp : Pos} (T : ExT X.prog X.K X.mg C fI fd f qn B newId initId bmB) (dp : X.A.depth + 1 < recursionLimit) (gC : X.mg x = some (.ref C)) (kC : keepIn X.K (.ref C) = true) (hg : Gl X x) (he : PE X e te)
    (hdb : (x == ("__debug__" : Str)) = false := by decide) :
    PE X (.Call (.Name x p) [] [⟨some f, e, kp⟩] pos) (tMk C f te) := by
  refine ⟨fun pins s σ H Q I h => ?_⟩
  refine wpAny_Call_Name_kw (ld_glob I hg gC ?_ hdb)
  refine callWith_KW0 (h₀ := X.base) I.ok.mod.kin kC rfl ?_ rfl
  refine thn ((pk_cons he pk_nil).run pos pins s σ H (fun vs H1 => match vs with | [v] => ∀ a H2, H1 a = none → Same H1 H2 → ExcAt H2 a C f v → Q (.ref a) H2 | _ => False) I h) fun ws s2 ⟨zs, H2, I2, rz, q2⟩ => ⟨I2.kIn, ?_⟩
  rcases zs with _ | ⟨v, _ | ⟨_, _⟩⟩
  · exact q2.elim
  · obtain ⟨u, rfl, ru⟩ := vals1 rz
    exact made_kw T I2.kIn (inv_glob I2).1 (inv_glob I2).2 I2.nolimit dp (mk_run (kw := true) T dp I2 ru q2)
  · exact q2.elim
end
/-- what a class says, so that its exceptions are asked and read rightly -/
structure ExQ (K : Frag) (C : Addr) : Prop where
  cl : (clsIn K C).isSome = true
  hd : hasDictIn K C = true
  ga : findIn K (.ref C) "__getattribute__" = some (some (.builtin "BaseException.__getattribute__"))
  gt : findIn K (.ref C) "__getattr__" = some none
  sb : subIn K (.ref C) (.type "BaseException") = some true
  hc : findIn K (.ref C) "__class__" = some (some (.builtin "object.__class__"))
  hn : specialIn K (.builtin "object.__class__") "__get__" = some (some (.builtin "getset_descriptor.__get__"))
  tk : takesIn K (.builtin "object.__class__") = some true
  hm : mroIn K C (.type "object") = some true
section
variable {X : Cx} {pins : List (Addr × Obj)} {σ : L2.St} {H : Hp} {s : Shared}
theorem ExcAt.inst {a C : Addr} {f : Str} {v : V} (I : Inv X pins σ H s) (x : ExcAt H a C f v) : ∃ (ox od : Obj) (u : Value), InstAt s.heap a ox C (some od) ∧ RelV v u ∧ lookIn f od = some (some u) := by
  obtain ⟨d, h1, h2⟩ := x
  obtain ⟨t1, e1⟩ := exo_at I.hok h1
  obtain ⟨mA, ns, rel⟩ := exd_at I.hok h2
  obtain ⟨od, ho, hl⟩ := lookIn_ns ns
  have z : RelO (some v) (mA f) := by
    have y := rel f
    simpa [List.lookup] using y
  obtain ⟨u, hu, ru⟩ := RelO.some_of (v := v) (o := mA f) z
  exact ⟨_, od, u, ⟨e1, rfl, rfl, ho⟩, ru, by rw [hl, hu]⟩
end
/-- isinstance(x, c), x such an exception -/
def rIsX (K : Frag) : List V → Hp → VK → Prop := fun xs H Q => ∃ (a C : Addr) (f : Str) (v c : V) (u : Value) (b : Bool), xs = [.ref a, c] ∧ ClsV c u ∧ ExQ K C ∧ ExcAt H a C f v ∧ kitOne K (.ref C) u = some b ∧ Q (.bl b) H
/-- isinstance(x, (c, ..)), the tuple just laid -/
def rIsXT (K : Frag) : List V → Hp → VK → Prop := fun xs H Q => ∃ (a C tp : Addr) (f : Str) (v : V) (cs : List V) (us : List Value) (b : Bool), xs = [.ref a, .ref tp] ∧ H tp = some (.tup cs) ∧ Paired ClsV cs us ∧ ExQ K C ∧ ExcAt H a C f v ∧ kitAny K (.ref C) us = some b ∧ Q (.bl b) H
section
variable {X : Cx}
theorem call_isX : CallR X (.builtin "isinstance") (rIsX X.K) := by
  intro pins s σ H xs us Q I r h
  obtain ⟨a, C, f, v, c, u, b, rfl, kc, T, x, e, q⟩ := h
  obtain ⟨u1, u2, rfl, r1, r2⟩ := vals2 r
  have e2 := kc.eq r2
  subst e2
  obtain rfl : u1 = Value.ref a := r1
  obtain ⟨ox, od, w', J, _, _⟩ := x.inst I
  exact kia_one (kitx_exc T.cl T.ga T.gt T.sb T.hc T.hn T.tk T.hm) I.kIn J e (fun z => nomatch z) fun tk => ⟨.bl b, H, I.tok tk, rfl, q⟩
theorem call_isXT : CallR X (.builtin "isinstance") (rIsXT X.K) := by
  intro pins s σ H xs us Q I r h
  obtain ⟨a, C, tp, f, v, cs, ws, b, rfl, hT, kc, T, x, e, q⟩ := h
  obtain ⟨u1, u2, rfl, r1, r2⟩ := vals2 r
  obtain rfl : u1 = Value.ref a := r1
  obtain rfl : u2 = Value.ref tp := r2
  obtain ⟨ox, od, w', J, _, _⟩ := x.inst I
  obtain ⟨_, its, rv, o, h1, h2, n, h3⟩ := (show ObjOk X.prog X.w H s.heap tp (.tup cs) from I.hok tp _ hT)
  have e3 := ClsV.all kc rv
  subst e3
  obtain ⟨oc, odd, dt, sl⟩ := o
  simp only at h2 h3
  subst h2 h3
  exact kia_tup (kitx_exc T.cl T.ga T.gt T.sb T.hc T.hn T.tk T.hm) I.kIn J h1 e (fun z => nomatch z) fun tk => ⟨.bl b, H, I.tok tk, rfl, q⟩
/-- e.f, e such an exception -/
def tXfl (K : Frag) (f : Str) (te : TE) : TE := fun σ H Q => te σ H fun x H1 => ∃ (a C : Addr) (v : V), x = .ref a ∧ ExQ K C ∧ findIn K (.ref C) f = some none ∧ ExcAt H1 a C f v ∧ Q v H1
theorem pe_xfl {e : Expr} {te : TE} {pos : Pos} {f : Str} (he : PE X e te) (hb : attributeBase e f X.env (eval e X.env) = eval e X.env := by rfl) : PE X (.Attribute e f pos) (tXfl X.K f te) := by
  refine ⟨fun pins s σ H Q I h => ?_⟩
  refine attr_of hb (thn (he.run pins s σ H _ I h) fun u s1 hh => ?_)
  obtain ⟨x, H1, I1, rx, a, C, v, rfl, T, hno, xa, q⟩ := hh
  obtain rfl : u = Value.ref a := rx
  obtain ⟨ox, od, w', J, rw', hl⟩ := xa.inst I1
  exact HandSPX.exc_get I1.kIn J T.ga T.gt T.sb (findObj_own T.hd hno rfl hl) (handed_of rw') ⟨v, H1, I1.tok _, rw', q⟩
/-- repr of data without dicts, where no repr is under way -/
def rReprD (K : Frag) : List V → Hp → VK → Prop := fun xs H Q => ∃ (v : V) (d : PyData), xs = [v] ∧ Dp K H v d ∧ d.showable = true ∧ d.depth ≤ 60 ∧ d.shown.length ≤ sizeLine ∧ Q (.str d.shown) H
mutual
theorem dp_plain {K : Frag} {H : Hp} : ∀ (d : PyData) (v : V), Dp K H v d → d.hasDict = false
  | .none, _, _ => by simp only [PyData.hasDict]
  | .bool _, _, _ => by simp only [PyData.hasDict]
  | .int _, _, _ => by simp only [PyData.hasDict]
  | .str _, _, _ => by simp only [PyData.hasDict]
  | .list ds, _, h => by
    cases h with
    | lst hs ha => simpa only [PyData.hasDict] using dp_plainAll ds _ ha
  | .tuple ds, _, h => by
    cases h with
    | tup hs ha => simpa only [PyData.hasDict] using dp_plainAll ds _ ha
  | .dict _, _, h => by cases h
theorem dp_plainAll {K : Frag} {H : Hp} : ∀ (ds : List PyData) (vs : List V), DpAll K H vs ds → PyData.hasDictAll ds = false
  | [], _, _ => by simp only [PyData.hasDictAll]
  | d :: ds, _, h => by
    cases h with
    | cons h1 h2 => rw [PyData.hasDictAll, dp_plain d _ h1, dp_plainAll ds _ h2, Bool.or_false]
end
theorem call_reprD (hg : X.A.guards = some []) (hu : X.A.units + 100 < cLine) : CallR X (.builtin "repr") (rReprD X.K) := by
  intro pins s σ H xs us Q I r h
  obtain ⟨v, d, rfl, hd, sh, dp, sz, q⟩ := h
  obtain ⟨u, rfl, ru⟩ := vals1 r
  have nd := dp_plain d v hd
  obtain ⟨as, rd⟩ := Dp.reads I d v u hd ru
  cases hd with
  | non =>
    cases (show u = Value.none from ru)
    exact PySem.P.repr_of_none ⟨.str _, H, I.tok _, ⟨_, rfl⟩, q⟩
  | bl b =>
    cases (show u = Value.bool b from ru)
    exact PySem.P.repr_of_bool ⟨.str _, H, I.tok _, ⟨_, rfl⟩, q⟩
  | int i =>
    obtain ⟨t, rfl⟩ := (show ∃ t, u = Value.int i t from ru)
    exact PySem.P.repr_of_int (by simpa [PyData.showable] using sh) ⟨.str _, H, I.tok _, ⟨_, rfl⟩, q⟩
  | str x =>
    obtain ⟨t, rfl⟩ := (show ∃ t, u = Value.str x t from ru)
    exact PySem.P.repr_of_str ⟨.str _, H, I.tok _, ⟨_, rfl⟩, q⟩ sz
  | lst hs ha =>
    cases ru
    exact repr_of_reads' rd sh (PyData.noDict_hsm nd) hg (by omega) (fun _ _ e => e) (fun h' t tk kp => ⟨.str _, H, I.kept kp, ⟨_, rfl⟩, q⟩) sz
  | tup hs ha =>
    cases ru
    exact repr_of_reads' rd sh (PyData.noDict_hsm nd) hg (by omega) (fun _ _ e => e) (fun h' t tk kp => ⟨.str _, H, I.kept kp, ⟨_, rfl⟩, q⟩) sz
/-- repr of an empty dict too -/
def rReprQ (K : Frag) : List V → Hp → VK → Prop := fun xs H Q => rReprD K xs H Q ∨ ∃ a, xs = [.ref a] ∧ H a = some (.dK []) ∧ Q (.str "{}") H
theorem call_reprQ (hg : X.A.guards = some []) (hu : X.A.units + 100 < cLine) : CallR X (.builtin "repr") (rReprQ X.K) := by
  intro pins s σ H xs us Q I r h
  rcases h with h | ⟨a, rfl, ha, q⟩
  · exact call_reprD hg hu pins s σ H xs us Q I r h
  · obtain ⟨u, rfl, ru⟩ := vals1 r
    obtain rfl : u = Value.ref a := ru
    obtain ⟨_, hsys, vs, kv, hd⟩ := (show ObjOk X.prog X.w H s.heap a (.dK []) from I.hok a _ ha)
    cases kv
    obtain ⟨o, es, ep, h1, h2, h3, _, h4, _⟩ := hd
    have e0 : es.toList = [] := by
      cases e : es.toList with
      | nil => rfl
      | cons x r =>
        rw [e] at h4
        cases h4
    have rd : Reads s.heap (.ref a) (.dict []) (a :: [] ++ []) := by
      refine Reads.dict h1 h2.1 h3 ?_ ?_
      · rw [e0]
        exact ReadsAll.nil
      · rw [e0]
        exact ReadsAll.nil
    have ns : sysModules ∉ a :: [] ++ [] := fun z => by
      rcases List.mem_cons.mp z with y | y
      · rw [← y] at hsys
        simp at hsys
      · cases y
    exact repr_of_reads' rd (by simp [PyData.showable, PyData.showableKv]) (fun _ => ns) hg (by simp [PyData.depth, PyData.depthKv]; omega) (fun _ _ e => e) (fun h' t tk kp => ⟨.str _, H, I.kept kp, ⟨_, rfl⟩, q⟩) (by decide +kernel)
end
end XH
set_option Elab.async false
set_option linter.all false
set_option maxRecDepth 100000
set_option maxHeartbeats 4000000
namespace K01
open PySem L2 L2H DQ
def top (i : Nat) : Stmt := PySem.Challenge.pw_onlyjoins_k03_whole_rules_made.main.body.getD i (.Pass ⟨0, 0, 0, 0⟩)
abbrev sJE : Stmt := top 1
abbrev sBR : Stmt := top 2
abbrev sBN : Stmt := top 3
abbrev sWord : Stmt := top 11
abbrev sMarks : Stmt := top 12
abbrev sTr : Stmt := top 13
abbrev sBo : Stmt := top 14
abbrev sShape : Stmt := top 15
abbrev sCount : Stmt := top 16
abbrev sNode : Stmt := top 17
abbrev sPair : Stmt := top 18
abbrev sCall : Stmt := top 19
abbrev sRules : Stmt := top 23
abbrev sNum : Stmt := top 24
abbrev sRow : Stmt := top 25
abbrev sWo : Stmt := top 26
abbrev sBeg : Stmt := top 28
abbrev sNext : Stmt := top 29
abbrev sOdd : Stmt := top 30
abbrev sBent : Stmt := top 31
abbrev sTree : Stmt := top 32
abbrev sBody : Stmt := top 33
abbrev sEas : Stmt := top 34
abbrev sDue : Stmt := top 35
abbrev sTold : Stmt := top 36
abbrev sFur : Stmt := top 37
abbrev sLaw : Stmt := top 38
def mkv (c l : Addr) (n : Int) : List (Key × V) := [(Sum.inr "cells", .ref c), (Sum.inr "left", .ref l), (Sum.inr "at", .int n)]
/-- the state of the draws at m: its cells, what is left, the counter -/
structure MAt (H : Hp) (m c l : Addr) (cs ls : List Int) (n : Int) : Prop where
  hm : H m = some (.dK (mkv c l n))
  hc : H c = some (.lst (cs.map V.int))
  hl : H l = some (.lst (ls.map V.int))
  ne : c ≠ l
  n0 : 0 ≤ n
  nb : n ≤ 1000000000
  cb : cs.length ≤ 63
  lb : ls.length ≤ 63
theorem MAt.mc {H : Hp} {m c l : Addr} {cs ls : List Int} {n : Int} (M : MAt H m c l cs ls n) : m ≠ c := ne_of M.hm M.hc (by intro z; cases z)
theorem MAt.ml {H : Hp} {m c l : Addr} {cs ls : List Int} {n : Int} (M : MAt H m c l cs ls n) : m ≠ l := ne_of M.hm M.hl (by intro z; cases z)
theorem MAt.same {H H' : Hp} {m c l : Addr} {cs ls : List Int} {n : Int} (M : MAt H m c l cs ls n) (s : Same H H') : MAt H' m c l cs ls n :=
  ⟨s _ _ M.hm, s _ _ M.hc, s _ _ M.hl, M.ne, M.n0, M.nb, M.cb, M.lb⟩
def spBeg (K : PySem.W.Frag) : Sp := fun vs H Q _ => ∃ (a : Addr) (ns : List Int), vs = [.ref a] ∧ SqL K H a (ns.map V.int) ∧ ns.length ≤ 63 ∧
  ∀ H' m c l cs ls, Same H H' → MAt H' m c l cs ls 0 → Q (.ref m) H'
structure TxtB (mg : Str → Option Value) : Prop where
  list : mg "list" = none
  int : mg "int" = none
  len : mg "len" = none
theorem kne1 : ¬ (("cells" : Str) = "left") := by decide +kernel
theorem kne2 : ¬ (("cells" : Str) = "at") := by decide +kernel
theorem kne3 : ¬ (("left" : Str) = "at") := by decide +kernel
theorem kne4 : ¬ (("left" : Str) = "cells") := by decide +kernel
theorem kne5 : ¬ (("at" : Str) = "cells") := by decide +kernel
theorem kne6 : ¬ (("at" : Str) = "left") := by decide +kernel
section
variable {P : Program} {w : World} {K : PySem.W.Frag} {mg : Str → Option Value} {base : Heap}
theorem scB : FnScope ["script", "cell"] ["script"] (defScope sBeg) := ⟨rfl, rfl, rfl, by decide +kernel, rfl, by decide +kernel, by decide +kernel⟩
theorem ok_beg {f : Addr} {fd : FuncData} (F : Fun K "_law_begun" "_law_begun" sBeg f fd) (T : TxtB mg) : FnOk P w K mg base CX0 1 f fd ["script"] (spBeg K) := by
  refine F.ok scB (fun vs H Q E h => ?_) (fun cdv A outer s H vs Q E hr h => ?_)
  · obtain ⟨a, ns, rfl, _⟩ := h
    rfl
  · obtain ⟨a, ns, rfl, hS, hlen, k⟩ := h
    refine ⟨_, pss_one (ps_ret (pe_disp (pps_cons pe_str (pe_callTy call_list_of (by rfl) T.list (by decide +kernel) (pa_cons (pv 0) pa_nil))
      (pps_cons pe_str (pe_lc (own := [("cell", 1)]) (g := gName 1) rfl scB.nd (pi_list (pv 0)) (blkOk_by (own := [("cell", 1)]) (N := ["script", "cell"]) (sc := defScope sBeg) (by decide +kernel))
        (fun _ _ _ _ _ => pg_name (i := 1) scB.nd rfl (Or.inl rfl)) (fun _ _ _ _ _ => pts_one (pt_cmpR op_ge (pv 1) (pe_op op_pow pe_int pe_int) (nomark _))) (fun _ _ _ _ _ => pv 1))
      (pps_cons pe_str pe_int pps_nil))) (by rfl) (by rfl) (fun z => by cases z) (by decide))), ?_⟩
    intro p hp
    refine ⟨_, rfl, a, _, rfl, .inl (same_new hp |>.seq hS), fun c hc => ?_⟩
    have s1 : Same H (upd (upd H p (.dK [])) c (.lst (ns.map V.int))) := same_trans (same_new hp) (same_new hc)
    have pc : p ≠ c := ne_of_none upd_same hc
    generalize hH1 : upd (upd H p (.dK [])) c (.lst (ns.map V.int)) = H1 at s1
    have h1p : H1 p = some (.dK []) := by rw [← hH1, upd_ne pc, upd_same]
    have h1c : H1 c = some (.lst (ns.map V.int)) := by rw [← hH1, upd_same]
    refine ⟨_, rfl, a, rfl, ⟨_, s1.seq hS⟩, fun l nl => ?_⟩
    refine lc_list (K := K) (a := a) (xs := ns.map V.int) (fun i H' => ∃ ls : List Int, ls.length ≤ i ∧ Same H1 H' ∧ H' l = some (.lst (ls.map V.int)))
      ⟨[], Nat.le_refl _, same_new nl, upd_same⟩ (fun i H' _ ⟨_, _, s2, _⟩ => s2.seq (s1.seq hS)) ?_ ?_
    · rintro i y H' hi ⟨ls, ll, s2, e2⟩
      obtain ⟨z, rfl⟩ : ∃ z, y = V.int z := by
        rw [List.getElem?_map] at hi
        cases e : ns[i]? with
        | none => rw [e] at hi; cases hi
        | some z => rw [e] at hi; exact ⟨z, (Option.some.inj hi).symm⟩
      have hil : i < (ns.map V.int).length := (List.getElem?_eq_some_iff.mp hi).1
      rw [List.length_map] at hil
      refine ⟨rfl, _, rfl, _, _, rfl, rfl, ⟨by decide, by decide, by decide⟩, _, _, rfl, rfl, _, rfl, ?_⟩
      refine ite2 (fun _ => ?_) (fun _ => ?_)
      · refine ⟨_, rfl, _, e2, small1000 (by rw [List.length_map]; omega), ls ++ [z], ?_, ?_, ?_⟩
        · rw [List.length_append]
          show ls.length + 1 ≤ i + 1
          omega
        · intro b o e
          rw [upd_ne (ne_of_none e nl)]
          exact s2 b o e
        · rw [upd_same, List.map_append]
          rfl
      · exact ⟨ls, by omega, s2, e2⟩
    · rintro H' ⟨ls, ll, s2, e2⟩
      rw [List.length_map] at ll
      refine ⟨s2 _ _ h1p, mkv c l 0, rfl, by show 3 ≤ 15; decide, ?_⟩
      have hm : mergeK [] (mkv c l 0) = mkv c l 0 := by
        simp [mkv, mergeK, putK, kne1, kne2, kne3]
      rw [hm]
      refine k _ p c l ns ls ?_ ⟨upd_same, ?_, ?_, ?_, by decide, by decide, hlen, by omega⟩
      · intro b o e
        rw [upd_ne (ne_of_none e hp)]
        exact s2 b o (s1 b o e)
      · rw [upd_ne pc.symm]
        exact s2 _ _ h1c
      · rw [upd_ne (ne_of_none h1p nl).symm]
        exact e2
      · exact ne_of_none h1c nl
end
theorem dp_ints {K : PySem.W.Frag} {H : Hp} : ∀ ns : List Int, DpAll K H (ns.map V.int) (ns.map PyData.int)
  | [] => .nil
  | n :: ns => .cons (.int n) (dp_ints ns)
theorem dp_list {K : PySem.W.Frag} {H : Hp} {a : Addr} {ns : List Int} (h : SqL K H a (ns.map V.int)) : Dp K H (.ref a) (.list (ns.map PyData.int)) := .lst h (dp_ints ns)
theorem dp_nil {K : PySem.W.Frag} {H : Hp} {a : Addr} (h : H a = some (.lst [])) : Dp K H (.ref a) (.list []) := .lst (SqL.of h) .nil
theorem shaped_ints (ns : List Int) : SeqAt.shaped (.list (ns.map PyData.int)) = true := by
  have h : ∀ l : List Int, PyData.canLayAll0 (l.map PyData.int) = true ∧ PyData.depthAll (l.map PyData.int) ≤ 1 := by
    intro l
    induction l with
    | nil => exact ⟨rfl, Nat.zero_le _⟩
    | cons a l ih =>
      refine ⟨by simp [PyData.canLayAll0, PyData.canLay0, ih.1], ?_⟩
      simp only [List.map_cons, PyData.depthAll, PyData.depth]
      have := ih.2
      omega
  have z := h ns
  refine Bool.and_eq_true_iff.mpr ⟨by simp only [PyData.canLay0]; exact z.1, decide_eq_true ?_⟩
  simp only [PyData.depth]
  exact Nat.le_trans (Nat.succ_le_succ z.2) (by decide)
theorem eqv_ints (ns : List Int) : (!PyData.eqv (.list (ns.map PyData.int)) (.list [])) = !ns.isEmpty := by
  cases ns <;> simp [PyData.eqv, PyData.eqvAll]
/-- all but two objects stand -/
structure But (H H' : Hp) (m l : Addr) : Prop where
  kp : ∀ b o, H b = some o → b ≠ m → b ≠ l → H' b = some o
  out : ∀ b, H' b = none → H b = none
theorem But.then {H H' H'' : Hp} {m l : Addr} (x : But H H' m l) (s : Same H' H'') : But H H'' m l :=
  ⟨fun b o e h1 h2 => s _ _ (x.kp b o e h1 h2), fun b h => x.out b (same_out s h)⟩
theorem But.at {H H' : Hp} {m l a : Addr} {o : HO} (x : But H H' m l) (h : a = m ∨ a = l ∨ H a = none) (n : H' a ≠ none) : But H (upd H' a o) m l := by
  refine ⟨fun b u e h1 h2 => ?_, fun b hb => ?_⟩
  · have na : b ≠ a := fun z => by
      rcases h with y | y | y
      · exact h1 (z.trans y)
      · exact h2 (z.trans y)
      · rw [z, y] at e; cases e
    rw [upd_ne na]
    exact x.kp b u e h1 h2
  · by_cases e : b = a
    · rw [e, upd_same] at hb
      cases hb
    · rw [upd_ne e] at hb
      exact x.out b hb
theorem But.refl {H : Hp} {m l : Addr} : But H H m l := ⟨fun _ _ e _ _ => e, fun _ e => e⟩
theorem val_c {c l : Addr} {n : Int} : valV (mkv c l n) (Sum.inr "cells") = some (.ref c) := by simp [mkv, valV]
theorem val_l {c l : Addr} {n : Int} : valV (mkv c l n) (Sum.inr "left") = some (.ref l) := by simp [mkv, valV, kne1]
theorem val_a {c l : Addr} {n : Int} : valV (mkv c l n) (Sum.inr "at") = some (.int n) := by simp [mkv, valV, kne2, kne3]
theorem put_l {c l l' : Addr} {n : Int} : putK (mkv c l n) (Sum.inr "left") (.ref l') = mkv c l' n := by simp [mkv, putK, kne1, kne6]
theorem put_a {c l : Addr} {n n' : Int} : putK (mkv c l n) (Sum.inr "at") (.int n') = mkv c l n' := by simp [mkv, putK, kne2, kne3]
theorem MAt.getL {H : Hp} {m c l : Addr} {cs ls : List Int} {n : Int} (M : MAt H m c l cs ls n) : DGet H m (.str "left") (some (.ref l)) := by
  have z := DGet.k (k := Sum.inr "left") M.hm
  rw [val_l] at z
  exact z
theorem MAt.getC {H : Hp} {m c l : Addr} {cs ls : List Int} {n : Int} (M : MAt H m c l cs ls n) : DGet H m (.str "cells") (some (.ref c)) := by
  have z := DGet.k (k := Sum.inr "cells") M.hm
  rw [val_c] at z
  exact z
theorem MAt.getA {H : Hp} {m c l : Addr} {cs ls : List Int} {n : Int} (M : MAt H m c l cs ls n) : DGet H m (.str "at") (some (.int n)) := by
  have z := DGet.k (k := Sum.inr "at") M.hm
  rw [val_a] at z
  exact z
theorem MAt.putL {H : Hp} {m c l l' : Addr} {cs ls ls' : List Int} {n : Int} (M : MAt H m c l cs ls n) (e : H l' = some (.lst (ls'.map V.int))) (ne : c ≠ l') (nb : ls'.length ≤ 63) :
    DPut H m (.str "left") (.ref l') (upd H m (.dK (mkv c l' n))) ∧ MAt (upd H m (.dK (mkv c l' n))) m c l' cs ls' n := by
  constructor
  · have z := DPut.k (k := Sum.inr "left") (v := .ref l') M.hm (by show 3 < sizeLine; decide)
    rw [put_l] at z
    exact z
  · have n1 : c ≠ m := M.mc.symm
    have n2 : l' ≠ m := ne_of e M.hm (by intro z; cases z)
    exact ⟨upd_same, by rw [upd_ne n1]; exact M.hc, by rw [upd_ne n2]; exact e, ne, M.n0, M.nb, M.cb, nb⟩
theorem MAt.putA {H : Hp} {m c l : Addr} {cs ls : List Int} {n n' : Int} (M : MAt H m c l cs ls n) (h0 : 0 ≤ n') (hb : n' ≤ 1000000000) :
    DPut H m (.str "at") (.int n') (upd H m (.dK (mkv c l n'))) ∧ MAt (upd H m (.dK (mkv c l n'))) m c l cs ls n' := by
  constructor
  · have z := DPut.k (k := Sum.inr "at") (v := .int n') M.hm (by show 3 < sizeLine; decide)
    rw [put_a] at z
    exact z
  · exact ⟨upd_same, by rw [upd_ne M.mc.symm]; exact M.hc, by rw [upd_ne M.ml.symm]; exact M.hl, M.ne, h0, hb, M.cb, M.lb⟩
def leftLen (H : Hp) (m : Addr) : Nat :=
  match H m with
  | some (.dK (_ :: (_, .ref l) :: _)) => (match H l with | some (.lst xs) => xs.length | _ => 0)
  | _ => 0
theorem MAt.len {H : Hp} {m c l : Addr} {cs ls : List Int} {n : Int} (M : MAt H m c l cs ls n) : leftLen H m = ls.length := by
  simp [leftLen, M.hm, mkv, M.hl]
theorem cut_one (x : V) (xs : List V) : cutV (x :: xs) (some 1) none = xs := by
  have e : HT.sIx (x :: xs).length 0 (some ((1 : Nat) : Int)) = 1 := by
    rw [HT.sIx_nat, List.length_cons]
    omega
  have e' : HT.sIx (x :: xs).length 0 (some 1) = 1 := e
  unfold cutV
  rw [e', HT.sIx_none, List.drop_succ_cons, List.drop_zero, List.length_cons]
  exact List.take_of_length_le (by omega)
theorem at_some {ns : List Int} {j : Int} (h0 : 0 ≤ j) (h1 : j < (ns.length : Int)) : ∃ y, atI (ns.map V.int) j = some (V.int y) := by
  have hj : j.toNat < ns.length := by omega
  refine ⟨ns[j.toNat], ?_⟩
  have z := atI_nat (xs := ns.map V.int) (j := j.toNat) (v := V.int ns[j.toNat]) (by rw [List.getElem?_map, List.getElem?_eq_getElem hj]; rfl)
  rw [Int.toNat_of_nonneg h0] at z
  exact z
theorem while_two {c : TT} {tb : TS} {D : Ends} {σ : L2.St} {H : Hp} (Pv : L2.St → Hp → Prop) (μ : L2.St → Hp → Nat) (h0 : Pv σ H) (exit : ∀ σ H, Pv σ H → D.nx σ H)
    (mono : ∀ σ H Q Q', (∀ b H1, Q b H1 → Q' b H1) → c σ H Q → c σ H Q')
    (hs : ∀ σ H, Pv σ H → c σ H fun b H1 => if b = true then tb { D with nx := fun σ' H' => Pv σ' H' ∧ μ σ' H' < μ σ H, ct := fun σ' H' => Pv σ' H' ∧ μ σ' H' < μ σ H, bk := D.nx } σ H1 else Pv σ H1) : tWhile c tb D σ H :=
  while_by Pv μ h0 (fun σ H p => mono _ _ _ _ (fun b H1 q => by
    cases b with
    | true => exact q
    | false => exact exit _ _ q) (hs σ H p)) mono
/-- _law_next: a number below many; the state again -/
def spNext : Sp := fun vs H Q _ => ∃ (m c l : Addr) (many : Int) (cs ls : List Int) (n : Int), vs = [.ref m, .int many] ∧ MAt H m c l cs ls n ∧ 0 < many ∧ many < 1000000 ∧ n + 1 ≤ 1000000000 ∧
  ∀ r H' l' ls' n', 0 ≤ r → r < many → MAt H' m c l' cs ls' n' → n' ≤ n + 1 → But H H' m l → (l' = l ∨ H l' = none) → Q (.int r) H'
section
variable {P : Program} {w : World} {K : PySem.W.Frag} {mg : Str → Option Value} {base : Heap}
theorem scN : FnScope ["m", "many", "rest", "at", "bits", "cell", "blend"] ["m", "many"] (defScope sNext) := ⟨rfl, rfl, rfl, by decide +kernel, rfl, by decide +kernel, by decide +kernel⟩
theorem ok_next {f : Addr} {fd : FuncData} (F : Fun K "_law_next" "_law_next" sNext f fd) (T : TxtB mg) : FnOk P w K mg base CX0 1 f fd ["m", "many"] spNext := by
  refine F.ok scN (fun vs H Q E h => ?_) (fun cdv A outer s H vs Q E hr h => ?_)
  · obtain ⟨m, c, l, many, cs, ls, n, rfl, _⟩ := h
    rfl
  · obtain ⟨m, c, l, many, cs, ls, n, rfl, M, q0, q1, qn, k⟩ := h
    have hu := hu_of hr
    have hu2 : (A.deeper (PyProof.Rows.envOfC "_law_next" (defScope sNext) s.heap.objs.size f cdv)).units + 64 < cLine := by have := hr.un; omega
    have bi : bootBuiltins ("int" : Str) = some (.type "int") := by decide +kernel
    refine ⟨_, pss_cons (ps_while PassesOwn.never (PW.pt (pw_and (pt_cmpR (op_neD hu2) (pe_dget hu (pv 0) pe_str (fun _ _ => rfl)) (pe_lst pa_nil) (nomark _))
        (pw_and1 (pt_cmpR op_eq (pe_ix ix_list (pe_dget hu (pv 0) pe_str (fun _ _ => rfl)) pe_int (fun _ _ => rfl)) pe_int (nomark _)))))
        (pss_one (ps_dput hu (pv 0) pe_str (pe_slice sl_list (pe_dget hu (pv 0) pe_str (fun _ _ => rfl)) (po_some pe_int) po_none) rfl)))
      (pss_cons (ps_if (pt_cmpR (op_neD hu2) (pe_dget hu (pv 0) pe_str (fun _ _ => rfl)) (pe_lst pa_nil) (nomark _))
        (pss_cons (ps_set (i := 2) scN.nd rfl (Or.inl rfl) (pe_ix ix_list (pe_dget hu (pv 0) pe_str (fun _ _ => rfl)) pe_int (fun _ _ => rfl)))
          (pss_cons (ps_asg (pe_op op_fdivN (pv 2) (pv 1)) (pg_sub (pe_dget hu (pv 0) pe_str (fun _ _ => rfl)) pe_int set_list))
          (pss_one (ps_ret (pe_op op_modN (pe_callTy call_int1 (by rfl) T.int bi (pa_cons (pv 2) pa_nil)) (pv 1)))))) pss_nil)
      (pss_cons (ps_par rfl scN.nd (i := 3) (j := 4) rfl rfl (by decide) rfl rfl (pa_cons (pe_op op_add (pe_dget hu (pv 0) pe_str (fun _ _ => rfl)) pe_int) (pa_cons (pe_dget hu (pv 0) pe_str (fun _ _ => rfl)) pa_nil)) rfl)
      (pss_cons (ps_dput hu (pv 0) pe_str (pv 3) rfl)
      (pss_cons (ps_set (i := 5) scN.nd rfl (Or.inl rfl) (pe_ifExp (pt_cmpR (op_neD hu2) (pv 4) (pe_lst pa_nil) (nomark _))
        (pe_callTy call_int1 (by rfl) T.int bi (pa_cons (pe_ix ix_list (pv 4) (pe_op op_modN (pe_callTy call_int1 (by rfl) T.int bi (pa_cons (pe_op op_add (pe_op op_mul (pv 3) (pv 3)) (pe_op op_fdivN (pv 3) pe_int)) pa_nil))
          (pe_callB call_len_seq (by rfl) T.len PySem.boot_len (pa_cons (pv 4) pa_nil))) (fun _ _ => rfl)) pa_nil)) pe_int))
      (pss_cons (ps_set (i := 6) scN.nd rfl (Or.inl rfl) (pe_op op_modN (pe_callTy call_int1 (by rfl) T.int bi (pa_cons (pe_op op_add (pe_op op_add (pe_op op_mul (pv 5) pe_int) (pe_op op_mul (pv 3) pe_int)) (pe_op op_mul (pe_op op_mul pe_int (pv 3)) (pv 3))) pa_nil)) pe_int))
      (pss_one (ps_ret (pe_op op_modN (pe_callTy call_int1 (by rfl) T.int bi (pa_cons (pe_op op_fdivN (pe_op op_modN (pe_callTy call_int1 (by rfl) T.int bi (pa_cons (pe_op op_add (pe_op op_mul (pv 6) pe_int) (pe_op op_mul pe_int (pv 3))) pa_nil)) pe_int) pe_int) pa_nil)) (pv 1))))))))), ?_⟩
    refine while_two (fun σ' H' => ∃ l' ls', σ' = [some (V.ref m), some (V.int many), none, none, none, none, none] ∧ MAt H' m c l' cs ls' n ∧ But H H' m l ∧ (l' = l ∨ H l' = none)) (fun _ H' => leftLen H' m)
      ⟨l, ls, rfl, M, .refl, .inl rfl⟩ ?_ ?_ ?_
    · rintro σ' H' ⟨l', ls', rfl, M', bt, hl'⟩
      -- behind the loop
      refine ⟨_, rfl, m, _, rfl, M'.getL, by decide, fun p hp => ⟨_, _, dp_list (SqL.of (same_new hp _ _ M'.hl)), dp_nil upd_same, shaped_ints _, shaped_ints [], _, rfl, ?_⟩⟩
      have M1 := M'.same (same_new (o := .lst []) hp)
      have b1 := bt.then (same_new (o := .lst []) hp)
      generalize hG : upd H' p (HO.lst []) = G at M1 b1
      rw [eqv_ints]
      cases ls' with
      | cons z ls' =>
        refine iteT ⟨_, rfl, m, _, rfl, M1.getL, l', _, 0, .int z, rfl, rfl, SqL.of M1.hl, atI_nat (j := 0) rfl, ?_⟩
        refine ⟨_, rfl, _, rfl, _, _, rfl, rfl, ⟨by omega, by omega⟩, _, rfl, m, _, rfl, M1.getL, l', _, 0, 0, rfl, rfl, M1.hl, ?_, ?_⟩
        · unfold ixN
          rw [if_pos (by omega), List.length_map, List.length_cons]
          rw [if_pos (by omega)]
          rfl
        · refine ⟨_, rfl, .inl ⟨_, rfl, _, rfl, _, _, rfl, rfl, by omega, ?_⟩⟩
          have nl : G l' ≠ none := by rw [M1.hl]; simp
          have e1 : c ≠ l' := M1.ne
          have e2 : m ≠ l' := M1.ml
          refine k _ _ l' (z.fdiv many :: ls') n (Int.fmod_nonneg_of_pos _ q0) (Int.fmod_lt_of_pos _ q0) ⟨by rw [upd_ne e2]; exact M1.hm, by rw [upd_ne e1]; exact M1.hc, upd_same, e1, M1.n0, M1.nb, M1.cb, M1.lb⟩ (by omega) (b1.at (.inr hl') nl) hl'
      | nil =>
        refine iteF ⟨_, rfl, m, _, rfl, M1.getA, _, _, rfl, rfl, _, rfl, m, _, rfl, M1.getC, _, _, rfl, ?_⟩
        obtain ⟨dp, M2⟩ := M1.putA (n' := n + 1) (by have := M.n0; omega) qn
        have b2 := b1.at (o := .dK (mkv c l' (n + 1))) (.inl rfl) (by rw [M1.hm]; simp)
        refine ⟨_, rfl, _, rfl, m, _, rfl, dp, ?_⟩
        generalize hG2 : upd G m (HO.dK (mkv c l' (n + 1))) = G2 at M2 b2
        -- cell
        refine ⟨_, rfl, by decide, fun t ht => ⟨_, _, dp_list (SqL.of (same_new ht _ _ M2.hc)), dp_nil upd_same, shaped_ints _, shaped_ints [], _, rfl, ?_⟩⟩
        have M3 := M2.same (same_new (o := .lst []) ht)
        have b3 := b2.then (same_new (o := .lst []) ht)
        generalize hG3 : upd G2 t (HO.lst []) = G3 at M3 b3
        rw [eqv_ints]
        have big1 : -(2 ^ 64) < n + 1 := by have := M.n0; omega
        have big2 : n + 1 < 2 ^ 64 := by omega
        cases cs with
        | nil =>
          refine iteF ?_
          refine ⟨_, rfl, _, _, rfl, rfl, .inr ⟨by decide, by decide⟩, _, rfl, _, _, rfl, rfl, .inr ⟨by decide, by decide⟩, _, _, rfl, rfl, _, rfl, _, _, rfl, rfl, .inl ⟨by decide, by decide⟩, _, rfl, _, _, rfl, rfl, .inr ⟨big1, big2⟩, _, _, rfl, rfl, .inl ⟨_, rfl, _, _, rfl, rfl, (by show (2147483399 : Int) ≠ 0; decide), ?_⟩⟩
          refine ⟨_, rfl, _, _, rfl, rfl, .inr ⟨by decide, by decide⟩, _, rfl, _, _, rfl, rfl, .inl ⟨by decide, by decide⟩, _, _, rfl, rfl, .inl ⟨_, rfl, _, _, rfl, rfl, (by show (2147483647 : Int) ≠ 0; decide), _, _, rfl, rfl, ⟨by decide, by decide⟩, .inl ⟨_, rfl, _, rfl, _, _, rfl, rfl, by omega, ?_⟩⟩⟩
          exact k _ _ l' [] (n + 1) (Int.fmod_nonneg_of_pos _ q0) (Int.fmod_lt_of_pos _ q0) M3 (Int.le_refl _) b3 hl'
        | cons x cs =>
          have hl0 : (0 : Int) < ((x :: cs).length : Int) := by rw [List.length_cons]; omega
          obtain ⟨y, hy⟩ := at_some (ns := x :: cs) (j := ((n + 1) * (n + 1) + (n + 1).fdiv 2).fmod ((x :: cs).length : Int)) (Int.fmod_nonneg_of_pos _ hl0) (Int.fmod_lt_of_pos _ hl0)
          refine iteT ?_
          refine ⟨_, rfl, _, rfl, _, rfl, _, _, rfl, rfl, .inl ⟨big1, big2⟩, _, rfl, _, _, rfl, rfl, ⟨by decide, by decide⟩, _, _, rfl, rfl, .inl ⟨_, rfl, ?_⟩⟩
          refine ⟨_, rfl, c, _, rfl, .inl (SqL.of M3.hc), _, _, rfl, rfl, by rw [List.length_map]; omega, c, _, _, .int y, rfl, rfl, SqL.of M3.hc, by rw [List.length_map]; exact hy, .inl ⟨_, rfl, ?_⟩⟩
          refine ⟨_, rfl, _, _, rfl, rfl, .inr ⟨by decide, by decide⟩, _, rfl, _, _, rfl, rfl, .inr ⟨by decide, by decide⟩, _, _, rfl, rfl, _, rfl, _, _, rfl, rfl, .inl ⟨by decide, by decide⟩, _, rfl, _, _, rfl, rfl, .inr ⟨big1, big2⟩, _, _, rfl, rfl, .inl ⟨_, rfl, _, _, rfl, rfl, (by show (2147483399 : Int) ≠ 0; decide), ?_⟩⟩
          refine ⟨_, rfl, _, _, rfl, rfl, .inr ⟨by decide, by decide⟩, _, rfl, _, _, rfl, rfl, .inl ⟨by decide, by decide⟩, _, _, rfl, rfl, .inl ⟨_, rfl, _, _, rfl, rfl, (by show (2147483647 : Int) ≠ 0; decide), _, _, rfl, rfl, ⟨by decide, by decide⟩, .inl ⟨_, rfl, _, rfl, _, _, rfl, rfl, by omega, ?_⟩⟩⟩
          exact k _ _ l' [] (n + 1) (Int.fmod_nonneg_of_pos _ q0) (Int.fmod_lt_of_pos _ q0) M3 (Int.le_refl _) b3 hl'
    · intro σ' H' Q1 Q2 hq h
      obtain ⟨v, e1, a, u, e2, e3, e4, h⟩ := h
      refine ⟨v, e1, a, u, e2, e3, e4, fun p hp => ?_⟩
      obtain ⟨d, e, d1, d2, d3, d4, b, e5, h⟩ := h p hp
      refine ⟨d, e, d1, d2, d3, d4, b, e5, ?_⟩
      cases b with
      | false => exact hq _ _ h
      | true =>
        obtain ⟨v, e1, a, u, e2, e3, p2, xs, i, z, f1, f2, f3, f4, f5, k2, e6, h⟩ := h
        exact ⟨v, e1, a, u, e2, e3, p2, xs, i, z, f1, f2, f3, f4, f5, k2, e6, hq _ _ h⟩
    · rintro σ' H' ⟨l', ls', rfl, M', bt, hl'⟩
      refine ⟨_, rfl, m, _, rfl, M'.getL, by decide, fun p hp => ⟨_, _, dp_list (SqL.of (same_new hp _ _ M'.hl)), dp_nil upd_same, shaped_ints _, shaped_ints [], _, rfl, ?_⟩⟩
      have M1 := M'.same (same_new (o := .lst []) hp)
      rw [eqv_ints]
      cases ls' with
      | nil =>
        refine iteF (iteF ⟨l', [], rfl, M1, bt.then (same_new hp), hl'⟩)
      | cons z ls' =>
        refine iteT ⟨_, rfl, m, _, rfl, M1.getL, l', _, 0, .int z, rfl, rfl, SqL.of M1.hl, atI_nat (j := 0) rfl, rfl, _, rfl, ?_⟩
        refine ite2 (fun hz => ?_) (fun hz => ?_)
        · refine ⟨_, rfl, m, _, rfl, M1.getL, 1, rfl, l', _, rfl, SqL.of M1.hl, fun t ht => ?_⟩
          rw [List.map_cons, cut_one]
          have M2 := M1.same (same_new (o := .lst (ls'.map V.int)) ht)
          have ct : c ≠ t := ne_of_none M1.hc ht
          have nb2 : ls'.length ≤ 63 := Nat.le_trans (Nat.le_succ _) M1.lb
          obtain ⟨dp, M3⟩ := M2.putL (l' := t) (ls' := ls') upd_same ct nb2
          have b1 := bt.then (same_new (o := .lst []) hp)
          refine ⟨_, rfl, m, _, rfl, dp, ⟨t, ls', rfl, M3, (b1.then (same_new ht)).at (.inl rfl) (by rw [M2.hm]; simp), .inr (b1.out t ht)⟩, ?_⟩
          show leftLen _ m < leftLen H' m
          rw [M3.len, M'.len]
          exact Nat.lt_succ_self _
        · exact ⟨l', z :: ls', rfl, M1, bt.then (same_new hp), hl'⟩
end
end K01
set_option Elab.async false
set_option linter.all false
set_option maxRecDepth 100000
set_option maxHeartbeats 4000000
namespace K01
open PySem L2 L2H DQ
/-! the program's own defs, as functions of data -/
def low (c : Nat) : Bool := decide (97 ≤ c) && decide (c ≤ 122)
def wordS (x : Str) : Bool := decide (1 ≤ x.length) && (decide (x.length ≤ 8) && x.cps.toList.all low)
def isWord : PyData → Bool | .str x => wordS x | _ => false
theorem lt_one (a b : Nat) : ([a] : List Nat) < [b] ↔ a < b := by
  constructor
  · intro h
    cases h with
    | rel h => exact h
    | cons h => cases h
  · intro h
    exact List.Lex.rel h
theorem le_a (c : Nat) : (!decide ((⟨#[c]⟩ : Str).cps.toList < ("a" : Str).cps.toList)) = decide (97 ≤ c) := by
  have e : ("a" : Str).cps.toList = [97] := by decide +kernel
  rw [e]
  show (!decide ([c] < [97])) = _
  rw [← decide_not]
  exact decide_eq_decide.mpr (by rw [lt_one]; omega)
theorem le_z (c : Nat) : (!decide (("z" : Str).cps.toList < (⟨#[c]⟩ : Str).cps.toList)) = decide (c ≤ 122) := by
  have e : ("z" : Str).cps.toList = [122] := by decide +kernel
  rw [e]
  show (!decide ([122] < [c])) = _
  rw [← decide_not]
  exact decide_eq_decide.mpr (by rw [lt_one]; omega)
structure TP (mg : Str → Option Value) : Prop where
  isi : mg "isinstance" = none
  str : mg "str" = none
  tuple : mg "tuple" = none
  len : mg "len" = none
  all : mg "all" = none
  zip : mg "zip" = none
  w8 : ∃ t, mg "LONGEST_WORD" = some (.int 8 t)
  m3 : ∃ t, mg "MOST_MARKS" = some (.int 3 t)
  b3 : ∃ t, mg "MOST_BRANCHES" = some (.int 3 t)
  n6 : ∃ t, mg "MOST_NODES" = some (.int 6 t)
  l3 : ∃ t, mg "MOST_LEVEL" = some (.int 3 t)
  ca : ∃ t, mg "CALL" = some (.str "call" t)
/-- a def of one argument that tells a truth of its data -/
def spB (φ : PyData → Bool) : Sp := fun vs H Q _ => ∃ (v : V) (d : PyData), vs = [v] ∧ Dq H v d ∧ ∀ H', Same H H' → Q (.bl (φ d)) H'
theorem bisi : bootBuiltins ("isinstance" : Str) = some (.builtin "isinstance") := by decide +kernel
theorem bstr : bootBuiltins ("str" : Str) = some (.type "str") := by decide +kernel
theorem btup : bootBuiltins ("tuple" : Str) = some (.type "tuple") := by decide +kernel
theorem ball : bootBuiltins ("all" : Str) = some (.builtin "all") := by decide +kernel
section
variable {P : Program} {w : World} {K : PySem.W.Frag} {mg : Str → Option Value} {base : Heap}
theorem scW : FnScope ["thing", "letter"] ["thing"] (defScope sWord) := ⟨rfl, rfl, rfl, by decide +kernel, rfl, by decide +kernel, by decide +kernel⟩
theorem ok_word {f : Addr} {fd : FuncData} (F : Fun K "is_word" "is_word" sWord f fd) (T : TP mg) : FnOk P w K mg base CX0 1 f fd ["thing"] (spB isWord) := by
  refine F.ok scW (fun vs H Q E h => ?_) (fun cdv A outer s H vs Q E hr h => ?_)
  · obtain ⟨v, d, rfl, _⟩ := h
    rfl
  · obtain ⟨v, d, rfl, hd, k⟩ := h
    obtain ⟨t8, g8⟩ := T.w8
    refine ⟨_, pss_cons (ps_if (PW.pt (pw_or (pt_not (pt_val (pe_callB call_isi (by rfl) T.isi bisi (pa_cons (pv 0) (pa_cons (pe_bltn (v := .ty "str") (by rfl) T.str bstr rfl) pa_nil)))))
        (pw_or1 (pt_not (pt_chain op_le op_le pe_int (pe_callB call_len_str (by rfl) T.len PySem.boot_len (pa_cons (pv 0) pa_nil)) (pe_glob (v := .int 8) (by rfl) g8 ⟨_, rfl⟩)))))) (pss_one (ps_ret pe_bl)) pss_nil)
      (pss_one (ps_ret (pe_callB (cr_all rfl) (by rfl) T.all ball (pa_cons (pe_lc (own := [("letter", 1)]) (g := gName 1) (tt := tYes) rfl scW.nd (pi_str (pv 0)) (blkOk_by (own := [("letter", 1)]) (N := ["thing", "letter"]) (sc := defScope sWord) (by decide +kernel))
        (fun _ _ _ _ _ => pg_name (i := 1) scW.nd rfl (Or.inl rfl)) (fun _ _ _ _ _ => pts_nil) (fun _ _ _ _ _ => pe_chain op_le_str op_le_str pe_str (pv 1) pe_str)) pa_nil)))), ?_⟩
    refine ⟨_, rfl, _, .ty "str", _, _, _, rfl, .ty _, hd.ty, kit_ty (ks d), _, rfl, ?_⟩
    cases hd with
    | str x hx =>
      refine iteF ⟨_, rfl, x, rfl, hx.1, _, _, rfl, rfl, _, rfl, ?_⟩
      by_cases h1 : 1 ≤ x.length
      · have e1 : decide ((1 : Int) ≤ (x.length : Int)) = true := decide_eq_true (by omega)
        rw [e1]
        refine iteT ⟨_, _, rfl, rfl, _, rfl, ?_⟩
        by_cases h8 : x.length ≤ 8
        · have e8 : decide ((x.length : Int) ≤ 8) = true := decide_eq_true (by omega)
          rw [e8]
          refine iteF ⟨_, rfl, x, rfl, fun D nD => ?_⟩
          refine lc_it walk_str (fun i H' => Same H H' ∧ H' D = some (.lst (((x.cps.toList.take i).map low).map V.bl))) ⟨same_new nD, upd_same⟩ (fun _ _ _ _ => trivial) ?_ ?_
          · rintro i y H1 H2 hi ⟨s1, e⟩ ⟨rfl, c, hc, rfl⟩
            refine ⟨rfl, ?_⟩
            unfold tYes
            try dsimp only
            rw [if_pos rfl]
            have hl : (((x.cps.toList.take i).map low).map V.bl).length < sizeLine := by
              rw [List.length_map, List.length_map, List.length_take]
              exact Nat.lt_of_le_of_lt (Nat.min_le_left _ _) (Nat.lt_of_lt_of_le hi hx.1)
            have tk : x.cps.toList.take (i + 1) = x.cps.toList.take i ++ [c] := by
              have hc' : x.cps.toList[i]? = some c := by rw [Array.getElem?_toList]; exact hc
              rw [List.take_add_one, hc']
              rfl
            refine ⟨_, rfl, _, _, rfl, rfl, _, rfl, ?_⟩
            rw [le_a]
            by_cases ha : 97 ≤ c
            · rw [decide_eq_true ha]
              refine iteT ⟨_, _, rfl, rfl, _, e, hl, fun b o z => ?_, ?_⟩
              · rw [upd_ne (ne_of_none z nD)]
                exact s1 b o z
              · rw [upd_same, tk, List.map_append, List.map_append, le_z]
                simp [low, ha]
            · rw [decide_eq_false ha]
              refine iteF ⟨_, e, hl, fun b o z => ?_, ?_⟩
              · rw [upd_ne (ne_of_none z nD)]
                exact s1 b o z
              · rw [upd_same, tk, List.map_append, List.map_append]
                simp [low, ha]
          · rintro H1 ⟨s1, e⟩
            have tk : x.cps.toList.take x.cps.size = x.cps.toList := List.take_of_length_le (by simp)
            rw [tk] at e
            refine ⟨_, _, rfl, SqL.of e, ?_⟩
            have z := k H1 s1
            have y : isWord (.str x) = (x.cps.toList.map low).all id := by
              show (decide (1 ≤ x.length) && (decide (x.length ≤ 8) && x.cps.toList.all low)) = _
              rw [decide_eq_true h1, decide_eq_true h8, List.all_map]
              rfl
            rw [y] at z
            exact z
        · have e8 : decide ((x.length : Int) ≤ 8) = false := decide_eq_false (by omega)
          rw [e8]
          have z := k H same_refl
          have y : isWord (.str x) = false := by
            show (decide (1 ≤ x.length) && (decide (x.length ≤ 8) && _)) = _
            rw [decide_eq_false h8, Bool.false_and, Bool.and_false]
          rw [y] at z
          exact iteT z
      · have e1 : decide ((1 : Int) ≤ (x.length : Int)) = false := decide_eq_false (by omega)
        rw [e1]
        have z := k H same_refl
        have y : isWord (.str x) = false := by
          show (decide (1 ≤ x.length) && _) = _
          rw [decide_eq_false h1, Bool.false_and]
        rw [y] at z
        exact iteF ⟨_, rfl, iteT z⟩
    | _ => exact iteT (k H same_refl)
end
end K01
set_option Elab.async false
set_option linter.all false
set_option maxRecDepth 100000
set_option maxHeartbeats 4000000
namespace K01
open PySem L2 L2H DQ RZ
def isPair : PyData → Bool | .tuple ds => decide (ds.length = 2) | _ => false
def isCallS : Option PyData → Bool | some (.str x) => decide (V.str x = V.str "call") | _ => false
def isCall : PyData → Bool | .tuple ds => decide (ds.length = 3) && isCallS ds[2]? | _ => false
def ltD : PyData → PyData → Bool | .str x, .str y => decide (x.cps.toList < y.cps.toList) | _, _ => false
def areMarks : PyData → Bool | .tuple ds => decide (ds.length ≤ 3) && (ds.all isWord && (ds.zip ds.tail).all fun p => ltD p.1 p.2) | _ => false
theorem vint {n m : Nat} : n = m ↔ V.int (n : Int) = V.int (m : Int) := ⟨fun e => by rw [e], fun e => Int.ofNat.inj (V.int.inj e)⟩
section
variable {P : Program} {w : World} {K : PySem.W.Frag} {mg : Str → Option Value} {base : Heap}
theorem scP : FnScope ["thing"] ["thing"] (defScope sPair) := ⟨rfl, rfl, rfl, by decide +kernel, rfl, by decide +kernel, by decide +kernel⟩
theorem ok_pair {f : Addr} {fd : FuncData} (F : Fun K "_is_pair" "_is_pair" sPair f fd) (T : TP mg) : FnOk P w K mg base CX0 1 f fd ["thing"] (spB isPair) := by
  refine F.ok scP (fun vs H Q E h => ?_) (fun cdv A outer s H vs Q E hr h => ?_)
  · obtain ⟨v, d, rfl, _⟩ := h
    rfl
  · obtain ⟨v, d, rfl, hd, k⟩ := h
    refine ⟨_, pss_one (ps_ret (pe_and (pe_callB call_isi (by rfl) T.isi bisi (pa_cons (pv 0) (pa_cons (pe_bltn (v := .ty "tuple") (by rfl) T.tuple btup rfl) pa_nil))) (pe_one (pe_cmpR op_eq (pe_callB call_len_seq (by rfl) T.len PySem.boot_len (pa_cons (pv 0) pa_nil)) pe_int (nomark _))))), ?_⟩
    refine ⟨_, rfl, _, .ty "tuple", _, _, _, rfl, .ty _, hd.ty, kit_ty (kt _), _, rfl, ?_⟩
    cases hd with
    | @tup ad xs ds e a =>
      refine iteT ⟨_, rfl, _, _, rfl, .inr (SqT.of e), rfl, ?_⟩
      have z := k H same_refl
      have y : isPair (.tuple ds) = decide (V.int (xs.length : Nat) = V.int 2) := decide_eq_decide.mpr (by rw [← a.len]; exact vint)
      rw [y] at z
      exact z
    | _ => exact iteF (k H same_refl)
theorem scC : FnScope ["thing"] ["thing"] (defScope sCall) := ⟨rfl, rfl, rfl, by decide +kernel, rfl, by decide +kernel, by decide +kernel⟩
theorem ok_call {f : Addr} {fd : FuncData} (F : Fun K "_is_call" "_is_call" sCall f fd) (T : TP mg) : FnOk P w K mg base CX0 1 f fd ["thing"] (spB isCall) := by
  refine F.ok scC (fun vs H Q E h => ?_) (fun cdv A outer s H vs Q E hr h => ?_)
  · obtain ⟨v, d, rfl, _⟩ := h
    rfl
  · obtain ⟨v, d, rfl, hd, k⟩ := h
    obtain ⟨tc, gc⟩ := T.ca
    refine ⟨_, pss_one (ps_ret (pe_and (pe_callB call_isi (by rfl) T.isi bisi (pa_cons (pv 0) (pa_cons (pe_bltn (v := .ty "tuple") (by rfl) T.tuple btup rfl) pa_nil))) (pe_and (pe_cmpR op_eq (pe_callB call_len_seq (by rfl) T.len PySem.boot_len (pa_cons (pv 0) pa_nil)) pe_int (nomark _))
      (pe_and (pe_callB call_isi (by rfl) T.isi bisi (pa_cons (pe_ix ix_tup (pv 0) pe_int (fun _ _ => rfl)) (pa_cons (pe_bltn (v := .ty "str") (by rfl) T.str bstr rfl) pa_nil))) (pe_one (pe_cmpR op_eq (pe_ix ix_tup (pv 0) pe_int (fun _ _ => rfl)) (pe_glob (v := .str "call") (by rfl) gc ⟨_, rfl⟩) (nomark _))))))), ?_⟩
    refine ⟨_, rfl, _, .ty "tuple", _, _, _, rfl, .ty _, hd.ty, kit_ty (kt _), _, rfl, ?_⟩
    cases hd with
    | @tup ad xs ds e a =>
      refine iteT ⟨_, rfl, _, _, rfl, .inr (SqT.of e), rfl, _, rfl, ?_⟩
      have z := k H same_refl
      by_cases h3 : ds.length = 3
      · have e3 : decide (V.int (xs.length : Nat) = V.int 3) = true := decide_eq_true (by rw [a.len, h3]; rfl)
        rw [e3]
        obtain ⟨x2, hx2⟩ : ∃ x2, ds[2]? = some x2 := ⟨ds[2], List.getElem?_eq_getElem (by omega)⟩
        obtain ⟨v2, hv2, q2⟩ := a.at hx2
        refine iteT ⟨_, rfl, ad, _, _, v2, rfl, rfl, SqT.of e, atI_nat (j := 2) hv2, _, .ty "str", _, _, _, rfl, .ty _, q2.ty, kit_ty (ks _), _, rfl, ?_⟩
        have y : isCall (.tuple ds) = isCallS (some x2) := by
          show (decide (ds.length = 3) && isCallS ds[2]?) = _
          rw [decide_eq_true h3, hx2, Bool.true_and]
        rw [y] at z
        cases q2 with
        | str x hx => exact iteT ⟨_, rfl, ad, _, _, .str x, rfl, rfl, SqT.of e, atI_nat (j := 2) hv2, rfl, z⟩
        | _ => exact iteF z
      · have e3 : decide (V.int (xs.length : Nat) = V.int 3) = false := decide_eq_false fun q => h3 (by rw [← a.len]; exact vint.mpr q)
        rw [e3]
        have y : isCall (.tuple ds) = false := by
          show (decide (ds.length = 3) && isCallS ds[2]?) = _
          rw [decide_eq_false h3, Bool.false_and]
        rw [y] at z
        exact iteF z
    | _ => exact iteF (k H same_refl)
theorem walk_zipT {K : PySem.W.Frag} {a b : Addr} {xs ys : List V} {n : Nat} (hn : n = min xs.length ys.length) : Walk (ItzT K a b) n (fun H => SqT K H a xs ∧ SqT K H b ys) (YPair (fun i => xs[i]?) (fun i => ys[i]?)) where
  goes := fun i H hi g => by
    have h1 : i < xs.length := by omega
    have h2 : i < ys.length := by omega
    exact ⟨xs, ys, xs[i], ys[i], g.1, g.2, List.getElem?_eq_getElem h1, List.getElem?_eq_getElem h2⟩
  stops := fun H g => ⟨xs, ys, g.1, g.2, by omega⟩
  yields := fun i H x H' hi g y => by
    obtain ⟨T, x, y, h1, h2, h3, h4, h5⟩ := y
    exact ⟨T, x, y, h1, h2, h3, h4 _ g.1, h5 _ g.2⟩
theorem sqt_same {K : PySem.W.Frag} {H H' : Hp} {a : Addr} {xs : List V} (h : SqT K H a xs) (s : Same H H') : SqT K H' a xs := by
  rcases h with (h | ⟨o, h⟩) | h
  · exact .inl (.inl (s _ _ h))
  · exact .inl (.inr ⟨o, s _ _ h⟩)
  · exact .inr h
theorem _root_.DQ.DqAll.tail {H : Hp} {vs : List V} {ds : List PyData} (h : DqAll H vs ds) : DqAll H vs.tail ds.tail := by
  cases h with
  | nil => exact .nil
  | cons _ t => exact t
theorem all_tail {ds : List PyData} (h : ds.all isWord = true) : ds.tail.all isWord = true := by
  cases ds with
  | nil => rfl
  | cons d ds => exact (Bool.and_eq_true_iff.mp h).2
/-- where all are words, the i-th value is a text -/
theorem strs_at {H : Hp} {vs : List V} {ds : List PyData} {i : Nat} {v : V} (a : DqAll H vs ds) (w : ds.all isWord = true) (hi : i < ds.length) (hv : vs[i]? = some v) : ∃ x, v = .str x ∧ ds[i]? = some (.str x) := by
  obtain ⟨u, hu, q⟩ := a.at (List.getElem?_eq_getElem hi)
  obtain rfl : u = v := Option.some.inj (hu.symm.trans hv)
  have wi : isWord ds[i] = true := List.all_eq_true.mp w _ (List.getElem_mem hi)
  cases e : ds[i] with
  | str x =>
    rw [e] at q
    cases q
    exact ⟨x, rfl, by rw [List.getElem?_eq_getElem hi, e]⟩
  | _ => rw [e] at wi; cases wi
theorem scM : FnScope ["thing", "least", "most", "word", "later"] ["thing", "least", "most"] (defScope sMarks) := ⟨rfl, rfl, rfl, by decide +kernel, rfl, by decide +kernel, by decide +kernel⟩
/-- are_words of a thing, from none to three -/
def spM (φ : PyData → Bool) : Sp := fun vs H Q _ => ∃ (v : V) (d : PyData), vs = [v, .int 0, .int 3] ∧ Dq H v d ∧ ∀ H', Same H H' → Q (.bl (φ d)) H'
theorem ok_marks {f fW : Addr} {fd fdW : FuncData} (F : Fun K "are_words" "are_words" sMarks f fd) (FW : Fun K "is_word" "is_word" sWord fW fdW) (bW : Binds K fdW ["thing"] []) (gW : mg "is_word" = some (.ref fW)) (T : TP mg) :
    FnOk P w K mg base CX0 3 f fd ["thing", "least", "most"] (spM areMarks) := by
  have GW : FnOk P w K mg base CX0 1 fW fdW ["thing"] (spB isWord) := ok_word FW T
  refine F.ok scM (fun vs H Q E h => ?_) (fun cdv A outer s H vs Q E hr h => ?_)
  · obtain ⟨v, d, rfl, _⟩ := h
    rfl
  · obtain ⟨v, d, rfl, hd, k⟩ := h
    refine ⟨_, pss_cons (ps_if (PW.pt (pw_or (pt_not (pt_val (pe_callB call_isi (by rfl) T.isi bisi (pa_cons (pv 0) (pa_cons (pe_bltn (v := .ty "tuple") (by rfl) T.tuple btup rfl) pa_nil))))) (pw_or1 (pt_not (pt_chain op_le op_le (pv 1) (pe_callB call_len_seq (by rfl) T.len PySem.boot_len (pa_cons (pv 0) pa_nil)) (pv 2)))))) (pss_one (ps_ret pe_bl)) pss_nil)
      (pss_cons (ps_if (pt_not (pt_val (pe_callB (cr_all rfl) (by rfl) T.all ball (pa_cons (pe_lc (own := [("word", 3)]) (g := gName 3) (tt := tYes) rfl scM.nd (pi_tup (pv 0)) (blkOk_by (own := [("word", 3)]) (N := ["thing", "least", "most", "word", "later"]) (sc := defScope sMarks) (by decide +kernel))
        (fun _ _ _ _ _ => pg_name (i := 3) scM.nd rfl (Or.inl rfl)) (fun _ _ _ _ _ => pts_nil) (fun _ _ _ _ _ => pe_call GW (hr.mono (by decide)) (by rfl) gW FW.kp bW .nil pass0 (pa_cons (pv 3) pa_nil))) pa_nil)))) (pss_one (ps_ret pe_bl)) pss_nil)
      (pss_one (ps_ret (pe_callB (cr_all rfl) (by rfl) T.all ball (pa_cons (pe_lc (own := [("word", 3), ("later", 4)]) (g := gTup K 2 (gCons (gName 3) (gCons (gName 4) gNil))) (tt := tYes) rfl scM.nd (pi_zipA (by rfl) T.zip (pa_cons (pv 0) (pa_cons (pe_slice sl_tupA (pv 0) (po_some pe_int) po_none) pa_nil)))
        (blkOk_by (own := [("word", 3), ("later", 4)]) (N := ["thing", "least", "most", "word", "later"]) (sc := defScope sMarks) (by decide +kernel))
        (fun _ _ _ _ _ => pg_tup rfl (pgs_cons (pg_name (i := 3) scM.nd rfl (Or.inl rfl)) (pgs_cons (pg_name (i := 4) scM.nd rfl (Or.inl rfl)) pgs_nil))) (fun _ _ _ _ _ => pts_nil) (fun _ _ _ _ _ => pe_cmpR op_lt_str (pv 3) (pv 4) (nomark _))) pa_nil))))), ?_⟩
    refine ⟨_, rfl, _, .ty "tuple", _, _, _, rfl, .ty _, hd.ty, kit_ty (kt _), _, rfl, ?_⟩
    cases hd with
    | @tup ad xs ds e a =>
      refine iteF ⟨_, rfl, _, rfl, _, _, rfl, .inr (SqT.of e), _, _, rfl, rfl, _, rfl, ?_⟩
      rw [decide_eq_true (show (0 : Int) ≤ (xs.length : Int) by omega)]
      refine iteT ⟨_, rfl, _, _, rfl, rfl, _, rfl, ?_⟩
      by_cases h3 : ds.length ≤ 3
      · have e3 : decide ((xs.length : Int) ≤ 3) = true := decide_eq_true (by rw [a.len]; omega)
        rw [e3]
        refine iteF ⟨_, rfl, ad, rfl, ⟨_, SqT.of e⟩, fun D nD => ?_⟩
        refine lc_it (walk_tup (xs := xs)) (fun i H' => Same H H' ∧ H' D = some (.lst (((ds.take i).map isWord).map V.bl))) ⟨same_new nD, upd_same⟩ (fun i H' _ p => SqT.of (p.1 _ _ e)) ?_ ?_
        · rintro i y H1 H2 hi ⟨s1, e1⟩ ⟨rfl, hx⟩
          refine ⟨rfl, ?_⟩
          unfold tYes
          try dsimp only
          rw [if_pos rfl]
          obtain ⟨di, hdi⟩ : ∃ di, ds[i]? = some di := ⟨ds[i]'(by rw [← a.len]; exact hi), List.getElem?_eq_getElem _⟩
          obtain ⟨v, hv, qv⟩ := a.at hdi
          obtain rfl : v = y := Option.some.inj (hv.symm.trans hx)
          refine ⟨_, rfl, v, di, rfl, qv.same s1, fun H3 s3 => ?_⟩
          have tk : ds.take (i + 1) = ds.take i ++ [di] := by rw [List.take_add_one, hdi]; rfl
          refine ⟨_, s3 _ _ e1, small1000 ?_, fun b o z => ?_, ?_⟩
          · rw [List.length_map, List.length_map, List.length_take]
            omega
          · rw [upd_ne (ne_of_none z nD)]
            exact s3 _ _ (s1 _ _ z)
          · rw [upd_same, tk, List.map_append, List.map_append]
            rfl
        rintro H1 ⟨s1, e1⟩
        have tk : ds.take xs.length = ds := List.take_of_length_le (by rw [a.len]; exact Nat.le_refl _)
        rw [tk] at e1
        refine ⟨_, _, rfl, SqL.of e1, _, rfl, ?_⟩
        have al : (ds.map isWord).all id = ds.all isWord := by rw [List.all_map]; rfl
        rw [al]
        cases aw : ds.all isWord with
        | false =>
          have z := k H1 s1
          have y : areMarks (.tuple ds) = false := by
            show (decide (ds.length ≤ 3) && (ds.all isWord && _)) = _
            rw [aw, Bool.false_and, Bool.and_false]
          rw [y] at z
          exact iteT z
        | true =>
        refine iteF ⟨_, rfl, _, rfl, 1, rfl, ad, xs, rfl, SqT.of (s1 _ _ e), fun wh => ?_, fun nw p np => ?_⟩
        · have x0 : xs = [] := by
            cases xs with
            | nil => rfl
            | cons x xs =>
              have z := wh.1
              have y : HT.sIx (x :: xs).length 0 (some ((1 : Nat) : Int)) = 0 := z
              rw [HT.sIx_nat, List.length_cons] at y
              omega
          have sq : SqT K H1 ad xs.tail := by rw [x0]; rw [x0] at e; exact SqT.of (s1 _ _ e)
          refine ⟨ad, ad, xs, xs.tail, rfl, .inr ⟨SqT.of (s1 _ _ e), sq, fun D2 nD2 => lc_it (walk_zipT (xs := xs) (ys := xs.tail) rfl) (fun i H' => Same H1 H' ∧ H' D2 = some (.lst ((((ds.zip ds.tail).take i).map fun p => ltD p.1 p.2).map V.bl))) ⟨same_new nD2, upd_same⟩ (fun i H' _ p => ⟨SqT.of (p.1 _ _ (s1 _ _ e)), sqt_same sq p.1⟩) ?_ ?_⟩⟩
          · rintro i vv H3 H4 hi ⟨s3, e3⟩ ⟨tt, x, y, rfl, ntt, rfl, hx, hy⟩
            refine ⟨tt, _, rfl, SqT.of upd_same, rfl, _, _, rfl, _, _, rfl, rfl, rfl, ?_⟩
            unfold tYes
            try dsimp only
            rw [if_pos rfl]
            have ix : i < ds.length := by
              have := (List.getElem?_eq_some_iff.mp hx).1
              rw [a.len] at this
              exact this
            have iy : i < ds.tail.length := by
              have := (List.getElem?_eq_some_iff.mp hy).1
              rw [List.length_tail, a.len] at this
              rw [List.length_tail]
              exact this
            obtain ⟨x1, rfl, dx⟩ := strs_at a aw ix hx
            obtain ⟨y1, rfl, dy⟩ := strs_at a.tail (all_tail aw) iy (by exact hy)
            have tk : (ds.zip ds.tail).take (i + 1) = (ds.zip ds.tail).take i ++ [(PyData.str x1, PyData.str y1)] := by
              rw [List.take_add_one, List.getElem?_zip_eq_some (z := (PyData.str x1, PyData.str y1)) |>.mpr ⟨dx, dy⟩]
              rfl
            refine ⟨_, rfl, _, rfl, _, _, rfl, rfl, _, same_new ntt _ _ e3, small1000 ?_, fun b o z => ?_, ?_⟩
            · rw [List.length_map, List.length_map, List.length_take]
              have : (ds.zip ds.tail).length ≤ 3 := by rw [List.length_zip]; omega
              omega
            · rw [upd_ne (ne_of_none z nD2)]
              exact same_new ntt _ _ (s3 _ _ z)
            · rw [upd_same, tk, List.map_append, List.map_append]
              rfl
          · rintro H3 ⟨s3, e3⟩
            have n0 : min xs.length xs.tail.length = (ds.zip ds.tail).length := by rw [List.length_zip, List.length_tail, List.length_tail, a.len]
            rw [n0, List.take_length] at e3
            refine ⟨_, _, rfl, SqL.of e3, ?_⟩
            have z := k H3 (same_trans s1 s3)
            have y : areMarks (.tuple ds) = ((ds.zip ds.tail).map fun p => ltD p.1 p.2).all id := by
              show (decide (ds.length ≤ 3) && (ds.all isWord && (ds.zip ds.tail).all fun p => ltD p.1 p.2)) = _
              rw [decide_eq_true h3, aw, List.all_map]
              rfl
            rw [y] at z
            exact z

        · have cu : cutV xs (some 1) none = xs.tail := by
            cases xs with
            | nil => exact absurd ⟨by rfl, rfl⟩ nw
            | cons x xs => exact cut_one x xs
          rw [cu]
          have s2 : Same H (upd H1 p (.tup xs.tail)) := same_trans s1 (same_new np)
          have sq : SqT K (upd H1 p (.tup xs.tail)) p xs.tail := SqT.of upd_same
          generalize upd H1 p (HO.tup xs.tail) = H2 at s2 sq ⊢
          refine ⟨ad, p, xs, xs.tail, rfl, .inr ⟨SqT.of (s2 _ _ e), sq, fun D2 nD2 => lc_it (walk_zipT (xs := xs) (ys := xs.tail) rfl) (fun i H' => Same H2 H' ∧ H' D2 = some (.lst ((((ds.zip ds.tail).take i).map fun p => ltD p.1 p.2).map V.bl))) ⟨same_new nD2, upd_same⟩ (fun i H' _ p => ⟨SqT.of (p.1 _ _ (s2 _ _ e)), sqt_same sq p.1⟩) ?_ ?_⟩⟩
          · rintro i vv H3 H4 hi ⟨s3, e3⟩ ⟨tt, x, y, rfl, ntt, rfl, hx, hy⟩
            refine ⟨tt, _, rfl, SqT.of upd_same, rfl, _, _, rfl, _, _, rfl, rfl, rfl, ?_⟩
            unfold tYes
            try dsimp only
            rw [if_pos rfl]
            have ix : i < ds.length := by
              have := (List.getElem?_eq_some_iff.mp hx).1
              rw [a.len] at this
              exact this
            have iy : i < ds.tail.length := by
              have := (List.getElem?_eq_some_iff.mp hy).1
              rw [List.length_tail, a.len] at this
              rw [List.length_tail]
              exact this
            obtain ⟨x1, rfl, dx⟩ := strs_at a aw ix hx
            obtain ⟨y1, rfl, dy⟩ := strs_at a.tail (all_tail aw) iy (by exact hy)
            have tk : (ds.zip ds.tail).take (i + 1) = (ds.zip ds.tail).take i ++ [(PyData.str x1, PyData.str y1)] := by
              rw [List.take_add_one, List.getElem?_zip_eq_some (z := (PyData.str x1, PyData.str y1)) |>.mpr ⟨dx, dy⟩]
              rfl
            refine ⟨_, rfl, _, rfl, _, _, rfl, rfl, _, same_new ntt _ _ e3, small1000 ?_, fun b o z => ?_, ?_⟩
            · rw [List.length_map, List.length_map, List.length_take]
              have : (ds.zip ds.tail).length ≤ 3 := by rw [List.length_zip]; omega
              omega
            · rw [upd_ne (ne_of_none z nD2)]
              exact same_new ntt _ _ (s3 _ _ z)
            · rw [upd_same, tk, List.map_append, List.map_append]
              rfl
          · rintro H3 ⟨s3, e3⟩
            have n0 : min xs.length xs.tail.length = (ds.zip ds.tail).length := by rw [List.length_zip, List.length_tail, List.length_tail, a.len]
            rw [n0, List.take_length] at e3
            refine ⟨_, _, rfl, SqL.of e3, ?_⟩
            have z := k H3 (same_trans s2 s3)
            have y : areMarks (.tuple ds) = ((ds.zip ds.tail).map fun p => ltD p.1 p.2).all id := by
              show (decide (ds.length ≤ 3) && (ds.all isWord && (ds.zip ds.tail).all fun p => ltD p.1 p.2)) = _
              rw [decide_eq_true h3, aw, List.all_map]
              rfl
            rw [y] at z
            exact z

      · have e3 : decide ((xs.length : Int) ≤ 3) = false := decide_eq_false (by rw [a.len]; omega)
        rw [e3]
        have z := k H same_refl
        have y : areMarks (.tuple ds) = false := by
          show (decide (ds.length ≤ 3) && _) = _
          rw [decide_eq_false h3, Bool.false_and]
        rw [y] at z
        exact iteT z
    | _ => exact iteT (k H same_refl)
end
end K01
set_option Elab.async false
set_option linter.all false
set_option maxRecDepth 100000
set_option maxHeartbeats 4000000
namespace K01
open PySem L2 L2H DQ RZ
def fewB : PyData → Bool | .tuple bs => decide (bs.length ≤ 3) | _ => false
def nodeB : Option PyData → Option PyData → Bool | some a, some b => areMarks a && fewB b | _, _ => false
def isNode (l : Int) (d : PyData) : Bool := (isPair d || (decide (0 < l) && isCall d)) && (match d with | .tuple ds => nodeB ds[0]? ds[1]? | _ => false)
def spNode : Sp := fun vs H Q _ => ∃ (v : V) (d : PyData) (l : Int), vs = [v, .int l] ∧ Dq H v d ∧ ∀ H', Same H H' → Q (.bl (isNode l d)) H'
theorem pair_or_call {l : Int} {d : PyData} (h : (isPair d || (decide (0 < l) && isCall d)) = true) : ∃ a b r, d = .tuple (a :: b :: r) := by
  cases d with
  | tuple ds =>
    have n : 2 ≤ ds.length := by
      rcases Bool.or_eq_true_iff.mp h with z | z
      · have y : ds.length = 2 := of_decide_eq_true z
        omega
      · have z2 := (Bool.and_eq_true_iff.mp z).2
        have y : ds.length = 3 := of_decide_eq_true (Bool.and_eq_true_iff.mp z2).1
        omega
    match ds, n with
    | a :: b :: r, _ => exact ⟨a, b, r, rfl⟩
  | _ => simp [isPair, isCall] at h
theorem le3 {H : Hp} {vs : List V} {bs : List PyData} (a : DqAll H vs bs) : bs.length ≤ 3 ↔ (vs.length : Int) ≤ 3 := by
  rw [← a.len]
  omega
section
variable {P : Program} {w : World} {K : PySem.W.Frag} {mg : Str → Option Value} {base : Heap}
/-- the program's small defs, as they stand -/
structure PF (K : PySem.W.Frag) (mg : Str → Option Value) (fW fP fC fM : Addr) (dW dP dC dM : FuncData) : Prop where
  W : Fun K "is_word" "is_word" sWord fW dW
  bW : Binds K dW ["thing"] []
  gW : mg "is_word" = some (.ref fW)
  P : Fun K "_is_pair" "_is_pair" sPair fP dP
  bP : Binds K dP ["thing"] []
  gP : mg "_is_pair" = some (.ref fP)
  C : Fun K "_is_call" "_is_call" sCall fC dC
  bC : Binds K dC ["thing"] []
  gC : mg "_is_call" = some (.ref fC)
  M : Fun K "are_words" "are_words" sMarks fM dM
  bM : Binds K dM ["thing", "least", "most"] []
  gM : mg "are_words" = some (.ref fM)
theorem scNd : FnScope ["thing", "level", "marks", "branches"] ["thing", "level"] (defScope sNode) := ⟨rfl, rfl, rfl, by decide +kernel, rfl, by decide +kernel, by decide +kernel⟩
theorem ok_node {f fW fP fC fM : Addr} {fd dW dP dC dM : FuncData} (F : Fun K "_is_node" "_is_node" sNode f fd) (PFs : PF K mg fW fP fC fM dW dP dC dM) (T : TP mg) : FnOk P w K mg base CX0 4 f fd ["thing", "level"] spNode := by
  have GP : FnOk P w K mg base CX0 1 fP dP ["thing"] (spB isPair) := ok_pair PFs.P T
  have GC : FnOk P w K mg base CX0 1 fC dC ["thing"] (spB isCall) := ok_call PFs.C T
  have GM : FnOk P w K mg base CX0 3 fM dM ["thing", "least", "most"] (spM areMarks) := ok_marks PFs.M PFs.W PFs.bW PFs.gW T
  refine F.ok scNd (fun vs H Q E h => ?_) (fun cdv A outer s H vs Q E hr h => ?_)
  · obtain ⟨v, d, l, rfl, _⟩ := h
    rfl
  · obtain ⟨v, d, l, rfl, hd, k⟩ := h
    obtain ⟨t3, g3⟩ := T.b3
    obtain ⟨tm, gm⟩ := T.m3
    refine ⟨_, pss_cons (ps_if (PW.pt (pw_and (pt_not (pt_val (pe_call GP (hr.mono (by decide)) (by rfl) PFs.gP PFs.P.kp PFs.bP .nil pass0 (pa_cons (pv 0) pa_nil))))
        (pw_and1 (pt_not (PW.pt (pw_and (pt_cmpR op_gt (pv 1) pe_int (nomark _)) (pw_and1 (pt_val (pe_call GC (hr.mono (by decide)) (by rfl) PFs.gC PFs.C.kp PFs.bC .nil pass0 (pa_cons (pv 0) pa_nil)))))))))) (pss_one (ps_ret pe_bl)) pss_nil)
      (pss_cons (ps_par rfl scNd.nd (i := 2) (j := 3) rfl rfl (by decide) rfl rfl (pa_cons (pe_ix ix_tup (pv 0) pe_int (fun _ _ => rfl)) (pa_cons (pe_ix ix_tup (pv 0) pe_int (fun _ _ => rfl)) pa_nil)) rfl)
      (pss_one (ps_ret (pe_and (pe_call GM hr (by rfl) PFs.gM PFs.M.kp PFs.bM .nil pass0 (pa_cons (pv 2) (pa_cons pe_int (pa_cons (pe_glob (v := .int 3) (by rfl) gm ⟨_, rfl⟩) pa_nil)))) (pe_and (pe_callB call_isi (by rfl) T.isi bisi (pa_cons (pv 3) (pa_cons (pe_bltn (v := .ty "tuple") (by rfl) T.tuple btup rfl) pa_nil))) (pe_one (pe_cmpR op_le (pe_callB call_len_seq (by rfl) T.len PySem.boot_len (pa_cons (pv 3) pa_nil)) (pe_glob (v := .int 3) (by rfl) g3 ⟨_, rfl⟩) (nomark _)))))))), ?_⟩
    have rest : ∀ H1, Same H H1 → (isPair d || (decide (0 < l) && isCall d)) = true → ∃ a b r va vb vr, d = .tuple (a :: b :: r) ∧ v = .ref vr ∧ (∃ vs, H1 vr = some (.tup (va :: vb :: vs))) ∧ Dq H1 va a ∧ Dq H1 vb b := by
      intro H1 s1 hh
      obtain ⟨a, b, r, rfl⟩ := pair_or_call hh
      have hd1 := hd.same s1
      cases hd1 with
      | tup e q =>
        cases q with
        | cons qa q =>
          cases q with
          | cons qb q => exact ⟨a, b, r, _, _, _, rfl, rfl, ⟨_, e⟩, qa, qb⟩
    refine ⟨_, rfl, v, d, rfl, hd, fun H1 s1 => ⟨_, rfl, ?_⟩⟩
    have no : (isPair d || (decide (0 < l) && isCall d)) = false → isNode l d = false := fun e => by unfold isNode; rw [e, Bool.false_and]
    cases hp : isPair d with
    | true =>
      have hc : (isPair d || (decide (0 < l) && isCall d)) = true := by rw [hp, Bool.true_or]
      refine iteF (iteF ?_)
      obtain ⟨a, b, r, va, vb, vr, rfl, rfl, ⟨vs, e⟩, qa, qb⟩ := rest H1 s1 hc
      refine ⟨_, rfl, vr, _, 0, va, rfl, rfl, SqT.of e, atI_nat (j := 0) rfl, _, rfl, vr, _, 1, vb, rfl, rfl, SqT.of e, atI_nat (j := 1) rfl, _, _, rfl, ?_⟩
      refine ⟨_, rfl, va, a, rfl, qa, fun K2 t2 => ⟨_, rfl, ?_⟩⟩
      have qb2 := qb.same t2
      have yes : isNode l (.tuple (a :: b :: r)) = (areMarks a && fewB b) := by
        unfold isNode
        rw [hc, Bool.true_and]
        rfl
      cases ma : areMarks a with
      | false =>
        have z := k K2 (same_trans s1 t2)
        rw [yes, ma, Bool.false_and] at z
        exact iteF z
      | true =>
        refine iteT ⟨_, rfl, _, .ty "tuple", _, _, _, rfl, .ty _, qb2.ty, kit_ty (kt _), _, rfl, ?_⟩
        have z := k K2 (same_trans s1 t2)
        rw [yes, ma, Bool.true_and] at z
        cases qb2 with
        | tup eb ab =>
          refine iteT ⟨_, rfl, _, _, rfl, .inr (SqT.of eb), _, _, rfl, rfl, ?_⟩
          have y : fewB (.tuple _) = decide ((_ : Int) ≤ 3) := decide_eq_decide.mpr (le3 ab)
          rw [y] at z
          exact z
        | _ => exact iteF z
    | false =>
      refine iteT ⟨_, rfl, _, _, rfl, rfl, _, rfl, ?_⟩
      by_cases h0 : 0 < l
      · rw [decide_eq_true h0]
        refine iteT ⟨_, rfl, v, d, rfl, hd.same s1, fun H2 s2 => ⟨_, rfl, ?_⟩⟩
        cases hcl : isCall d with
        | true =>
          have hc : (isPair d || (decide (0 < l) && isCall d)) = true := by rw [hcl, decide_eq_true h0, Bool.and_true, Bool.or_true]
          refine iteF ?_
          obtain ⟨a, b, r, va, vb, vr, rfl, rfl, ⟨vs, e⟩, qa, qb⟩ := rest H2 (same_trans s1 s2) hc
          refine ⟨_, rfl, vr, _, 0, va, rfl, rfl, SqT.of e, atI_nat (j := 0) rfl, _, rfl, vr, _, 1, vb, rfl, rfl, SqT.of e, atI_nat (j := 1) rfl, _, _, rfl, ?_⟩
          refine ⟨_, rfl, va, a, rfl, qa, fun K2 t2 => ⟨_, rfl, ?_⟩⟩
          have qb2 := qb.same t2
          have yes : isNode l (.tuple (a :: b :: r)) = (areMarks a && fewB b) := by
            unfold isNode
            rw [hc, Bool.true_and]
            rfl
          cases ma : areMarks a with
          | false =>
            have z := k K2 (same_trans (same_trans s1 s2) t2)
            rw [yes, ma, Bool.false_and] at z
            exact iteF z
          | true =>
            refine iteT ⟨_, rfl, _, .ty "tuple", _, _, _, rfl, .ty _, qb2.ty, kit_ty (kt _), _, rfl, ?_⟩
            have z := k K2 (same_trans (same_trans s1 s2) t2)
            rw [yes, ma, Bool.true_and] at z
            cases qb2 with
            | tup eb ab =>
              refine iteT ⟨_, rfl, _, _, rfl, .inr (SqT.of eb), _, _, rfl, rfl, ?_⟩
              have y : fewB (.tuple _) = decide ((_ : Int) ≤ 3) := decide_eq_decide.mpr (le3 ab)
              rw [y] at z
              exact z
            | _ => exact iteF z
        | false =>
          have z := k H2 (same_trans s1 s2)
          rw [no (by rw [hp, hcl, Bool.and_false, Bool.or_false])] at z
          exact iteT z
      · rw [decide_eq_false h0]
        have z := k H1 s1
        rw [no (by rw [hp, decide_eq_false h0, Bool.false_and, Bool.or_false])] at z
        exact iteF (iteT z)
end
end K01
set_option Elab.async false
set_option linter.all false
set_option maxRecDepth 100000
set_option maxHeartbeats 4000000
namespace K01
open PySem L2 L2H DQ RZ
def stepB (c : PyData → Option (Int × Int)) (acc : Option (Int × Int)) (b : PyData) : Option (Int × Int) :=
  match acc with
  | none => none
  | some xy => match b with
    | .tuple [.str u, t] => if wordS u = true then (match c t with | some pq => some (xy.1 + pq.1, xy.2 + pq.2) | none => none) else none
    | _ => none
def cntOf (c : PyData → Option (Int × Int)) : PyData → Option (Int × Int)
  | .tuple (_ :: .tuple bs :: r) => bs.foldl (stepB c) (some (1, (r.length : Int)))
  | _ => none
def cnt : Nat → PyData → Option (Int × Int)
  | 0, _ => none
  | n + 1, d => if isNode (3 - (n : Int)) d = true then cntOf (cnt n) d else none
theorem fold_none (c : PyData → Option (Int × Int)) : ∀ bs : List PyData, bs.foldl (stepB c) none = none
  | [] => rfl
  | b :: bs => fold_none c bs
theorem fold_stop {c : PyData → Option (Int × Int)} {bs : List PyData} {i : Nat} {b : PyData} {acc xy : Option (Int × Int)} (hb : bs[i]? = some b) (h : (bs.take i).foldl (stepB c) acc = xy) (hs : stepB c xy b = none) : bs.foldl (stepB c) acc = none := by
  have e : bs = bs.take i ++ b :: bs.drop (i + 1) := by
    have hi : i < bs.length := (List.getElem?_eq_some_iff.mp hb).1
    have eb : bs[i] = b := (List.getElem?_eq_some_iff.mp hb).2
    rw [← eb, ← List.drop_eq_getElem_cons hi, List.take_append_drop]
  rw [e, List.foldl_append, h, List.foldl_cons, hs]
  exact fold_none c _
/-- what _counts hands back -/
def CntV (H : Hp) (r : V) : Option (Int × Int) → Prop
  | none => r = .non
  | some xy => ∃ p, r = .ref p ∧ H p = some (.tup [.int xy.1, .int xy.2])
def spCnt (m : Nat) : Sp := fun vs H Q _ => ∃ (v : V) (d : PyData) (l : Int), vs = [v, .int l] ∧ l + (m : Int) = 4 ∧ Dq H v d ∧ ∀ r H', Same H H' → CntV H' r (cnt m d) → Q r H'
section
variable {P : Program} {w : World} {K : PySem.W.Frag} {mg : Str → Option Value} {base : Heap}
theorem scCt : FnScope ["thing", "level", "nodes", "calls", "branch", "below"] ["thing", "level"] (defScope sCount) := ⟨rfl, rfl, rfl, by decide +kernel, rfl, by decide +kernel, by decide +kernel⟩
theorem ok_counts {f fN fW fP fC fM : Addr} {fd dN dW dP dC dM : FuncData} (F : Fun K "_counts" "_counts" sCount f fd) (bF : Binds K fd ["thing", "level"] []) (gF : mg "_counts" = some (.ref f))
    (FN : Fun K "_is_node" "_is_node" sNode fN dN) (bN : Binds K dN ["thing", "level"] []) (gN : mg "_is_node" = some (.ref fN)) (PFs : PF K mg fW fP fC fM dW dP dC dM) (T : TP mg) :
    ∀ m, m ≤ 4 → FnOk P w K mg base CX0 (5 + m) f fd ["thing", "level"] (spCnt m) := by
  have GN : FnOk P w K mg base CX0 4 fN dN ["thing", "level"] spNode := ok_node FN PFs T
  have GP : FnOk P w K mg base CX0 1 fP dP ["thing"] (spB isPair) := ok_pair PFs.P T
  have GW : FnOk P w K mg base CX0 1 fW dW ["thing"] (spB isWord) := ok_word PFs.W T
  obtain ⟨tl, gl⟩ := T.l3
  intro m
  induction m with
  | zero =>
    intro _
    refine F.ok scCt (fun vs H Q E h => ?_) (fun cdv A outer s H vs Q E hr h => ?_)
    · obtain ⟨v, d, l, rfl, _⟩ := h
      rfl
    · obtain ⟨v, d, l, rfl, hl, hd, k⟩ := h
      refine ⟨_, pss_cons (ps_if (PW.pt (pw_or (pt_cmpR op_gt (pv 1) (pe_glob (v := .int 3) (by rfl) gl ⟨_, rfl⟩) (nomark _)) (pw_or1 (pt_not (pt_val (pe_call GN (hr.mono (by omega)) (by rfl) gN FN.kp bN .nil pass0 (pa_cons (pv 0) (pa_cons (pv 1) pa_nil)))))))) (pss_one (ps_ret pe_non)) pss_nil)
        (pss_cons ps_never (pss_cons ps_never (pss_one ps_never))), ?_⟩
      refine ⟨_, rfl, _, _, rfl, rfl, _, rfl, ?_⟩
      rw [decide_eq_true (show (3 : Int) < l by omega)]
      exact iteT (k .non H same_refl rfl)
  | succ n ih =>
    intro hm
    have GS : FnOk P w K mg base CX0 (5 + n) f fd ["thing", "level"] (spCnt n) := ih (by omega)
    refine F.ok (k := 5 + n) scCt (fun vs H Q E h => ?_) (fun cdv A outer s H vs Q E hr h => ?_)
    · obtain ⟨v, d, l, rfl, _⟩ := h
      rfl
    · obtain ⟨v, d, l, rfl, hl, hd, k⟩ := h
      refine ⟨_, pss_cons (ps_if (PW.pt (pw_or (pt_cmpR op_gt (pv 1) (pe_glob (v := .int 3) (by rfl) gl ⟨_, rfl⟩) (nomark _)) (pw_or1 (pt_not (pt_val (pe_call GN (hr.mono (by omega)) (by rfl) gN FN.kp bN .nil pass0 (pa_cons (pv 0) (pa_cons (pv 1) pa_nil)))))))) (pss_one (ps_ret pe_non)) pss_nil)
        (pss_cons (ps_par rfl scCt.nd (i := 2) (j := 3) rfl rfl (by decide) rfl rfl (pa_cons pe_int (pa_cons (pe_op op_sub (pe_callB call_len_seq (by rfl) T.len PySem.boot_len (pa_cons (pv 0) pa_nil)) pe_int) pa_nil)) rfl)
        (pss_cons (ps_for PassesOwn.never rfl (pi_tup (pe_ix ix_tup (pv 0) pe_int (fun _ _ => rfl))) (pg_name (i := 4) scCt.nd rfl (Or.inl rfl))
          (pss_cons (ps_if (PW.pt (pw_or (pt_not (pt_val (pe_call GP (hr.mono (by omega)) (by rfl) PFs.gP PFs.P.kp PFs.bP .nil pass0 (pa_cons (pv 4) pa_nil)))) (pw_or1 (pt_not (pt_val (pe_call GW (hr.mono (by omega)) (by rfl) PFs.gW PFs.W.kp PFs.bW .nil pass0 (pa_cons (pe_ix ix_tup (pv 4) pe_int (fun _ _ => rfl)) pa_nil))))))) (pss_one (ps_ret pe_non)) pss_nil)
          (pss_cons (ps_set (i := 5) scCt.nd rfl (Or.inl rfl) (pe_call GS hr (by rfl) gF F.kp bF .nil pass0 (pa_cons (pe_ix ix_tup (pv 4) pe_int (fun _ _ => rfl)) (pa_cons (pe_op op_add (pv 1) pe_int) pa_nil))))
          (pss_cons (ps_if (pt_cmpR op_isN (pv 5) pe_non (nomark _)) (pss_one (ps_ret pe_non)) pss_nil)
          (pss_cons (ps_aug (i := 2) scCt.nd rfl (.inl rfl) (pe_ix ix_tup (pv 5) pe_int (fun _ _ => rfl)) ip_add)
          (pss_one (ps_aug (i := 3) scCt.nd rfl (.inl rfl) (pe_ix ix_tup (pv 5) pe_int (fun _ _ => rfl)) ip_add)))))))
        (pss_one (ps_ret (pe_tup (pa_cons (pv 2) (pa_cons (pv 3) pa_nil))))))), ?_⟩
      have l3 : ¬ (3 : Int) < l := by omega
      have ll : l = 3 - (n : Int) := by omega
      refine ⟨_, rfl, _, _, rfl, rfl, _, rfl, ?_⟩
      rw [decide_eq_false l3]
      refine iteF ⟨_, rfl, _, rfl, v, d, l, rfl, hd, fun H1 s1 => ⟨_, rfl, ?_⟩⟩
      cases nd : isNode l d with
      | false =>
        have z : cnt (n + 1) d = none := by
          show (if isNode (3 - (n : Int)) d = true then _ else none) = none
          rw [← ll, nd]
          rfl
        exact iteT (k .non H1 s1 (by rw [z]; rfl))
      | true =>
        have hc : (isPair d || (decide (0 < l) && isCall d)) = true := (Bool.and_eq_true_iff.mp nd).1
        have hn := (Bool.and_eq_true_iff.mp nd).2
        obtain ⟨a, b, r, rfl⟩ := pair_or_call hc
        have hf : (areMarks a && fewB b) = true := hn
        have zc : cnt (n + 1) (.tuple (a :: b :: r)) = cntOf (cnt n) (.tuple (a :: b :: r)) := by
          show (if isNode (3 - (n : Int)) _ = true then _ else none) = _
          rw [← ll, nd]
          rfl
        rw [zc] at k
        have hd1 := hd.same s1
        cases hd1 with
        | @tup vr xs _ e q =>
        cases q with
        | @cons va _ _ _ qa q =>
        cases q with
        | @cons vb vs _ _ qb q =>
        have fb := (Bool.and_eq_true_iff.mp hf).2
        cases qb with
        | @tup pb ys bs eb ab =>
        have b3 : bs.length ≤ 3 := of_decide_eq_true fb
        refine iteF ⟨_, rfl, vr, _, rfl, .inr (SqT.of e), _, _, rfl, rfl, _, _, rfl, ?_⟩
        refine ⟨_, rfl, vr, _, 1, .ref pb, rfl, rfl, SqT.of e, atI_nat (j := 1) rfl, pb, rfl, ⟨_, SqT.of eb⟩, ?_⟩
        have rl : (((va :: V.ref pb :: vs).length : Nat) : Int) - 2 = (r.length : Int) := by
          rw [List.length_cons, List.length_cons, q.len]
          omega
        refine for_tup (K := K) (a := pb) (xs := ys) (fun i σ' H' => ∃ (x y : Int) (w4 w5 : Option V), σ' = [some (V.ref vr), some (V.int l), some (V.int x), some (V.int y), w4, w5] ∧ Same H1 H' ∧ (bs.take i).foldl (stepB (cnt n)) (some (1, (r.length : Int))) = some (x, y))
          ⟨1, (r.length : Int), none, none, ?_, same_refl, rfl⟩ (fun i σ' H' _ ⟨_, _, _, _, _, t, _⟩ => SqT.of (t _ _ eb)) ?_ ?_
        · rw [← rl]
          rfl
        · rintro i y0 σ' H' hi ⟨x, y, w4, w5, rfl, t, hx⟩
          have ib : i < bs.length := by
            have := (List.getElem?_eq_some_iff.mp hi).1
            rw [ab.len] at this
            exact this
          obtain ⟨bi, hbi⟩ : ∃ bi, bs[i]? = some bi := ⟨bs[i], List.getElem?_eq_getElem ib⟩
          obtain ⟨v0, hv0, qv⟩ := ab.at hbi
          obtain rfl : v0 = y0 := Option.some.inj (hv0.symm.trans hi)
          have stop : ∀ H'', Same H1 H'' → stepB (cnt n) (some (x, y)) bi = none → Q .non H'' := fun H'' s2 hs => k .non H'' (same_trans s1 s2) (by
            have z : cntOf (cnt n) (.tuple (a :: .tuple bs :: r)) = none := fold_stop hbi hx hs
            rw [z]
            rfl)
          refine ⟨_, rfl, v0, bi, rfl, qv.same t, fun H2 s2 => ⟨_, rfl, ?_⟩⟩
          cases hp : isPair bi with
          | false =>
            refine iteT (stop H2 (same_trans t s2) ?_)
            unfold stepB
            split
            · rfl
            · split
              · simp [isPair] at hp
              · rfl
          | true =>
            have qv2 := (qv.same t).same s2
            cases qv2 with
            | @tup p2 zs es e2 a2 =>
              have n2 : es.length = 2 := of_decide_eq_true hp
              match es, n2, a2 with
              | [u, tt], _, a2 =>
              cases a2 with
              | @cons vu _ _ _ qu a2 =>
              cases a2 with
              | @cons vt _ _ _ qt a2 =>
              cases a2
              refine iteF ⟨_, rfl, p2, _, 0, vu, rfl, rfl, SqT.of e2, atI_nat (j := 0) rfl, vu, u, rfl, qu, fun H3 s3 => ⟨_, rfl, ?_⟩⟩
              have t3 : Same H1 H3 := same_trans t (same_trans s2 s3)
              cases hw : isWord u with
              | false =>
                refine iteT (stop H3 t3 ?_)
                cases u with
                | str x0 =>
                  have hw' : wordS x0 = false := hw
                  simp [stepB, hw']
                | _ => rfl
              | true =>
                cases u with
                | str x0 =>
                  have hw' : wordS x0 = true := hw
                  refine iteF ⟨_, rfl, p2, _, 1, vt, rfl, rfl, SqT.of (s3 _ _ e2), atI_nat (j := 1) rfl, _, rfl, _, _, rfl, rfl, vt, tt, l + 1, rfl, by omega, qt.same s3, fun r5 H4 s4 cv => ?_⟩
                  have t4 : Same H1 H4 := same_trans t3 s4
                  have st : stepB (cnt n) (some (x, y)) (.tuple [.str x0, tt]) = (match cnt n tt with | some pq => some (x + pq.1, y + pq.2) | none => none) := by
                    simp [stepB, hw']
                  cases hcn : cnt n tt with
                  | none =>
                    rw [hcn] at cv st
                    obtain rfl : r5 = V.non := cv
                    exact ⟨_, rfl, rfl, _, rfl, iteT (stop H4 t4 st)⟩
                  | some pq =>
                    rw [hcn] at cv st
                    obtain ⟨p5, rfl, e5⟩ := cv
                    refine ⟨_, rfl, rfl, _, rfl, iteF ?_⟩
                    refine ⟨_, rfl, _, rfl, p5, _, 0, .int pq.1, rfl, rfl, SqT.of e5, atI_nat (j := 0) rfl, _, _, rfl, rfl, ?_⟩
                    refine ⟨_, rfl, _, rfl, p5, _, 1, .int pq.2, rfl, rfl, SqT.of e5, atI_nat (j := 1) rfl, _, _, rfl, rfl, ?_⟩
                    refine ⟨x + pq.1, y + pq.2, _, _, rfl, t4, ?_⟩
                    rw [List.take_add_one, hbi]
                    show ((bs.take i) ++ [PyData.tuple [.str x0, tt]]).foldl _ _ = _
                    rw [List.foldl_append, hx]
                    exact st
                | _ => cases hw
            | _ => cases hp
        · rintro σ' H' ⟨x, y, w4, w5, rfl, t, hx⟩
          have tk : bs.take ys.length = bs := List.take_of_length_le (by rw [ab.len]; exact Nat.le_refl _)
          rw [tk] at hx
          refine ⟨_, rfl, _, rfl, by show 2 ≤ sizeLine; decide, fun p np => ?_⟩
          have z : cntOf (cnt n) (.tuple (a :: .tuple bs :: r)) = some (x, y) := hx
          exact k (.ref p) _ (same_trans s1 (same_trans t (same_new np))) (by rw [z]; exact ⟨p, rfl, upd_same⟩)
        | _ => cases fb
end
end K01
set_option Elab.async false
set_option linter.all false
set_option maxRecDepth 100000
set_option maxHeartbeats 4000000
namespace K01
open PySem L2 L2H DQ RZ
def shape (c : Int) (d : PyData) : Bool := match cnt 4 d with | some xy => decide (xy.1 ≤ 6) && decide (V.int xy.2 = V.int c) | none => false
def spShape : Sp := fun vs H Q _ => ∃ (v : V) (d : PyData) (c : Int), vs = [v, .int c] ∧ Dq H v d ∧ ∀ H', Same H H' → Q (.bl (shape c d)) H'
section
variable {P : Program} {w : World} {K : PySem.W.Frag} {mg : Str → Option Value} {base : Heap}
theorem scSh : FnScope ["thing", "calls", "counts"] ["thing", "calls"] (defScope sShape) := ⟨rfl, rfl, rfl, by decide +kernel, rfl, by decide +kernel, by decide +kernel⟩
theorem ok_shape {f fc : Addr} {fd dc : FuncData} (F : Fun K "_is_shape" "_is_shape" sShape f fd) (FC : Fun K "_counts" "_counts" sCount fc dc) (bC : Binds K dc ["thing", "level"] []) (gC : mg "_counts" = some (.ref fc))
    (GC : FnOk P w K mg base CX0 9 fc dc ["thing", "level"] (spCnt 4)) (T : TP mg) : FnOk P w K mg base CX0 10 f fd ["thing", "calls"] spShape := by
  refine F.ok scSh (fun vs H Q E h => ?_) (fun cdv A outer s H vs Q E hr h => ?_)
  · obtain ⟨v, d, c, rfl, _⟩ := h
    rfl
  · obtain ⟨v, d, c, rfl, hd, k⟩ := h
    obtain ⟨t6, g6⟩ := T.n6
    refine ⟨_, pss_cons (ps_set (i := 2) scSh.nd rfl (Or.inl rfl) (pe_call GC hr (by rfl) gC FC.kp bC .nil pass0 (pa_cons (pv 0) (pa_cons pe_int pa_nil))))
      (pss_one (ps_ret (pe_and (pe_cmpR op_notN (pv 2) pe_non (nomark _)) (pe_and (pe_cmpR op_le (pe_ix ix_tup (pv 2) pe_int (fun _ _ => rfl)) (pe_glob (v := .int 6) (by rfl) g6 ⟨_, rfl⟩) (nomark _))
        (pe_one (pe_cmpR op_eq (pe_ix ix_tup (pv 2) pe_int (fun _ _ => rfl)) (pv 1) (nomark _))))))), ?_⟩
    refine ⟨_, rfl, v, d, 0, rfl, rfl, hd, fun r H1 s1 cv => ?_⟩
    have z := k H1 s1
    cases hc : cnt 4 d with
    | none =>
      rw [hc] at cv
      obtain rfl : r = V.non := cv
      have y : shape c d = false := by unfold shape; rw [hc]
      rw [y] at z
      exact ⟨_, rfl, rfl, _, rfl, iteF z⟩
    | some xy =>
      rw [hc] at cv
      obtain ⟨p, rfl, e⟩ := cv
      have y : shape c d = (decide (xy.1 ≤ 6) && decide (V.int xy.2 = V.int c)) := by unfold shape; rw [hc]
      rw [y] at z
      refine ⟨_, rfl, rfl, _, rfl, iteT ⟨_, rfl, p, _, 0, .int xy.1, rfl, rfl, SqT.of e, atI_nat (j := 0) rfl, _, _, rfl, rfl, _, rfl, ?_⟩⟩
      by_cases h6 : xy.1 ≤ 6
      · rw [decide_eq_true h6] at z ⊢
        exact iteT ⟨_, rfl, p, _, 1, .int xy.2, rfl, rfl, SqT.of e, atI_nat (j := 1) rfl, _, rfl, rfl, z⟩
      · rw [decide_eq_false h6] at z ⊢
        exact iteF z
theorem scTr : FnScope ["thing"] ["thing"] (defScope sTr) := ⟨rfl, rfl, rfl, by decide +kernel, rfl, by decide +kernel, by decide +kernel⟩
theorem ok_tr {f fs : Addr} {fd ds : FuncData} (F : Fun K "is_tree" "is_tree" sTr f fd) (FS : Fun K "_is_shape" "_is_shape" sShape fs ds) (bS : Binds K ds ["thing", "calls"] []) (gS : mg "_is_shape" = some (.ref fs))
    (GS : FnOk P w K mg base CX0 10 fs ds ["thing", "calls"] spShape) : FnOk P w K mg base CX0 11 f fd ["thing"] (spB (shape 0)) := by
  refine F.ok scTr (fun vs H Q E h => ?_) (fun cdv A outer s H vs Q E hr h => ?_)
  · obtain ⟨v, d, rfl, _⟩ := h
    rfl
  · obtain ⟨v, d, rfl, hd, k⟩ := h
    refine ⟨_, pss_one (ps_ret (pe_call GS hr (by rfl) gS FS.kp bS .nil pass0 (pa_cons (pv 0) (pa_cons pe_int pa_nil)))), ?_⟩
    exact ⟨_, rfl, v, d, 0, rfl, hd, k⟩
theorem scBo : FnScope ["thing"] ["thing"] (defScope sBo) := ⟨rfl, rfl, rfl, by decide +kernel, rfl, by decide +kernel, by decide +kernel⟩
theorem ok_bo {f fs : Addr} {fd ds : FuncData} (F : Fun K "is_body" "is_body" sBo f fd) (FS : Fun K "_is_shape" "_is_shape" sShape fs ds) (bS : Binds K ds ["thing", "calls"] []) (gS : mg "_is_shape" = some (.ref fs))
    (GS : FnOk P w K mg base CX0 10 fs ds ["thing", "calls"] spShape) : FnOk P w K mg base CX0 11 f fd ["thing"] (spB (shape 1)) := by
  refine F.ok scBo (fun vs H Q E h => ?_) (fun cdv A outer s H vs Q E hr h => ?_)
  · obtain ⟨v, d, rfl, _⟩ := h
    rfl
  · obtain ⟨v, d, rfl, hd, k⟩ := h
    refine ⟨_, pss_one (ps_ret (pe_call GS hr (by rfl) gS FS.kp bS .nil pass0 (pa_cons (pv 0) (pa_cons pe_int pa_nil)))), ?_⟩
    exact ⟨_, rfl, v, d, 1, rfl, hd, k⟩
end
end K01
set_option Elab.async false
set_option linter.all false
set_option maxRecDepth 100000
set_option maxHeartbeats 4000000
namespace K01
open PySem L2 L2H DQ RZ
theorem bset : bootBuiltins ("set" : Str) = some (.type "set") := by decide +kernel
theorem blist : bootBuiltins ("list" : Str) = some (.type "list") := by decide +kernel
theorem bsorted : bootBuiltins ("sorted" : Str) = some (.builtin "sorted") := by decide +kernel
theorem brepr : bootBuiltins ("repr" : Str) = some (.builtin "repr") := by decide +kernel
def OkD (d : PyData) : Prop := d.showable = true ∧ d.depth ≤ 60 ∧ d.shown.length ≤ sizeLine
inductive Within : PyData → PyData → Prop
  | self (d : PyData) : Within d d
  | tup {x y : PyData} {ds : List PyData} : y ∈ ds → Within x y → Within x (.tuple ds)
  | lst {x y : PyData} {ds : List PyData} : y ∈ ds → Within x y → Within x (.list ds)
def OkT (d : PyData) : Prop := ∀ x, Within x d → OkD x
theorem OkT.self {d : PyData} (h : OkT d) : OkD d := h d (.self d)
theorem OkT.tup {x : PyData} {ds : List PyData} (h : OkT (.tuple ds)) (hx : x ∈ ds) : OkT x := fun y w => h y (.tup hx w)
section
variable {P : Program} {w : World} {K : PySem.W.Frag} {mg : Str → Option Value} {base : Heap}
theorem cr_setP {X : Cx} (hP : X.prog = P) (hw : X.w = w) (hK : X.K = K) (hc : X.calm = true) : CallR X (.type "set") (SX.rSetTx P w K) := by
  subst hP hw hK
  exact SX.cr_setTx hc
theorem cr_sortP {X : Cx} (hP : X.prog = P) (hw : X.w = w) (hc : X.calm = true) : CallR X (.builtin "sorted") (SX.rSortTx P w) := by
  subst hP hw
  exact SX.cr_sortTx hc
end
end K01
set_option Elab.async false
set_option linter.all false
set_option maxRecDepth 100000
set_option maxHeartbeats 4000000
/-! slices and sums of tuples that are tracked -/
namespace K01
open PySem L2 L2H DQ RZ
def rSlF : V → Option Int → Option Int → Hp → VK → Prop := fun x lo hi H Q => ∃ a xs, x = .ref a ∧ H a = some (.tup xs) ∧ ∀ p H', Same H H' → H' p = some (.tup (cutV xs lo hi)) → Q (.ref p) H'
theorem sl_tupF {X : Cx} : SlR X rSlF := by
  intro pins s σ H x v vl vu lo hi sl Q I rx hs pl pu h
  obtain ⟨a, xs, rfl, sq, g⟩ := h
  refine sl_tupA pins s σ H _ v vl vu lo hi sl Q I rx hs pl pu ⟨a, xs, rfl, SqT.of sq, fun wh => g a H same_refl ?_, fun _ p np => g p _ (same_new np) upd_same⟩
  have z : cutV xs lo hi = xs := by
    unfold cutV
    rw [wh.1, wh.2, List.drop_zero, Nat.sub_zero, List.take_length]
  rw [z]
  exact sq
def rCatF : R2 := fun x y H Q => ∃ a b xs ys, x = .ref a ∧ y = .ref b ∧ H a = some (.tup xs) ∧ H b = some (.tup ys) ∧ xs.length + ys.length ≤ sizeLine ∧ ∀ p H', Same H H' → H' p = some (.tup (xs ++ ys)) → Q (.ref p) H'
theorem op_catF {X : Cx} : OpR X (binaryOp .Add) rCatF := by
  intro pins s σ H x y v u Q I rx ry h
  obtain ⟨a, b, xs, ys, rfl, rfl, ha, hb, hz, g⟩ := h
  refine op_catA pins s σ H _ _ v u Q I rx ry ⟨a, b, xs, ys, rfl, rfl, SqT.of ha, SqT.of hb, hz, fun hx => g b H same_refl ?_, fun _ hy => g a H same_refl ?_, fun _ _ p np => g p _ (same_new np) upd_same⟩
  · rw [hx]
    exact hb
  · rw [hy, List.append_nil]
    exact ha
theorem cut_to (xs : List V) {j : Nat} : cutV xs none (some (j : Int)) = xs.take j := by
  unfold cutV
  rw [HT.sIx_nat, HT.sIx_none, List.drop_zero, Nat.sub_zero]
  by_cases h : j ≤ xs.length
  · rw [Nat.min_eq_left h]
  · rw [Nat.min_eq_right (by omega), List.take_length, List.take_of_length_le (by omega)]
theorem cut_from (xs : List V) {j : Nat} : cutV xs (some (j : Int)) none = xs.drop j := by
  unfold cutV
  rw [HT.sIx_nat, HT.sIx_none]
  by_cases h : j ≤ xs.length
  · rw [Nat.min_eq_left h]
    exact List.take_of_length_le (by rw [List.length_drop]; exact Nat.le_refl _)
  · rw [Nat.min_eq_right (by omega), List.drop_of_length_le (Nat.le_refl _), List.drop_of_length_le (by omega)]
    exact List.take_nil
theorem cut_at (xs : List V) {j : Nat} (h : j < xs.length) : cutV xs (some (j : Int)) (some ((j : Int) + 1)) = (xs.drop j).take 1 := by
  unfold cutV
  have e : ((j : Int) + 1) = ((j + 1 : Nat) : Int) := by omega
  rw [e, HT.sIx_nat, HT.sIx_nat, Nat.min_eq_left (by omega), Nat.min_eq_left (by omega)]
  congr 1
  omega
end K01
set_option Elab.async false
set_option linter.all false
set_option maxRecDepth 100000
set_option maxHeartbeats 4000000
namespace K01
open PySem L2 L2H DQ RZ
/-! a bound of how long repr of such data is -/
mutual
def sz : PyData → Nat
  | .none => 5
  | .bool _ => 5
  | .int _ => 1921
  | .str x => 10 * x.length + 2
  | .list xs => szAll xs + 4
  | .tuple xs => szAll xs + 4
  | .dict _ => 2
def szAll : List PyData → Nat
  | [] => 0
  | x :: xs => sz x + 2 + szAll xs
end
mutual
/-- ints of at most N, texts of signs, dicts that are empty -/
def gd (N : Nat) : PyData → Bool
  | .none => true
  | .bool _ => true
  | .int i => decide (i.natAbs ≤ N)
  | .str x => PyData.strOk x
  | .list xs => gdAll N xs
  | .tuple xs => gdAll N xs
  | .dict kvs => kvs.isEmpty
def gdAll (N : Nat) : List PyData → Bool
  | [] => true
  | x :: xs => gd N x && gdAll N xs
end
theorem gdAll_iff {N : Nat} : ∀ {xs : List PyData}, gdAll N xs = true ↔ ∀ x ∈ xs, gd N x = true
  | [] => by simp [gdAll]
  | x :: xs => by
    simp only [gdAll, Bool.and_eq_true, List.mem_cons, gdAll_iff (xs := xs)]
    constructor
    · rintro ⟨h1, h2⟩ y (rfl | hy)
      · exact h1
      · exact h2 y hy
    · intro h
      exact ⟨h x (.inl rfl), fun y hy => h y (.inr hy)⟩
theorem sz_mem : ∀ {xs : List PyData} {x : PyData}, x ∈ xs → sz x + 2 ≤ szAll xs
  | y :: xs, x, h => by
    rcases List.mem_cons.mp h with rfl | h
    · simp only [szAll]
      omega
    · have := sz_mem h
      simp only [szAll]
      omega
theorem dp_mem : ∀ {xs : List PyData} {x : PyData}, x ∈ xs → x.depth ≤ PyData.depthAll xs
  | y :: xs, x, h => by
    simp only [PyData.depthAll]
    rcases List.mem_cons.mp h with rfl | h
    · omega
    · have := dp_mem h
      omega
theorem within_le {N : Nat} {x d : PyData} (w : Within x d) : gd N d = true → gd N x = true ∧ sz x ≤ sz d ∧ x.depth ≤ d.depth := by
  induction w with
  | self => exact fun h => ⟨h, Nat.le_refl _, Nat.le_refl _⟩
  | tup hy _ ih =>
    intro h
    simp only [gd] at h
    obtain ⟨a, b, c⟩ := ih (gdAll_iff.mp h _ hy)
    have z1 := sz_mem hy
    have z2 := dp_mem hy
    simp only [sz, PyData.depth]
    exact ⟨a, by omega, by omega⟩
  | lst hy _ ih =>
    intro h
    simp only [gd] at h
    obtain ⟨a, b, c⟩ := ih (gdAll_iff.mp h _ hy)
    have z1 := sz_mem hy
    have z2 := dp_mem hy
    simp only [sz, PyData.depth]
    exact ⟨a, by omega, by omega⟩
theorem from_le : ∀ (ts : List Str) (k : Nat) (acc : Str), (textFrom k acc ts).length ≤ acc.length + piled ts
  | [], k, acc => by
    show acc.length ≤ _
    omega
  | t :: ts, k, acc => by
    have ih := from_le ts (k + 1) (acc ++ (if k > 0 then ", " else "" : String) ++ t)
    rw [strLen_append, strLen_append] at ih
    have e : ((if k > 0 then ", " else "" : String) : Str).length ≤ 2 := by
      split
      · exact (by decide +kernel : ((", " : String) : Str).length ≤ 2)
      · exact (by decide +kernel : (("" : String) : Str).length ≤ 2)
    rw [piled_cons]
    show (textFrom (k + 1) (acc ++ (if k > 0 then ", " else "" : String) ++ t) ts).length ≤ _
    omega
theorem join_le (ts : List Str) : (Str.join ", " ts).length ≤ piled ts := by
  by_cases h : ts = []
  · subst h
    exact (by decide +kernel : (Str.join ", " ([] : List Str)).length ≤ 0)
  · have := join_length_add ts h
    omega
theorem log_le {i : Int} {N : Nat} (h : i.natAbs ≤ N) (hN : N ≤ 10 ^ 40) : i.natAbs.log2 < 1920 := by
  by_cases z : i.natAbs = 0
  · rw [z]
    decide
  · refine (Nat.log2_lt z).mpr (Nat.lt_of_le_of_lt (Nat.le_trans h hN) ?_)
    exact Nat.lt_of_lt_of_le (by decide +kernel : 10 ^ 40 < 2 ^ 200) (Nat.pow_le_pow_right (by decide) (by decide))
mutual
theorem shown_le {N : Nat} (hN : N ≤ 10 ^ 40) : ∀ (d : PyData), gd N d = true → d.showable = true ∧ d.shown.length ≤ sz d
  | .none, _ => ⟨rfl, by decide +kernel⟩
  | .bool b, _ => ⟨rfl, by cases b <;> decide +kernel⟩
  | .int i, h => by
    have z := log_le (of_decide_eq_true (by simpa [gd] using h)) hN
    refine ⟨decide_eq_true z, ?_⟩
    have y := PyProof.Rows.int_text_len_1921 z
    simpa [PyData.shown, sz] using y
  | .str x, h => by
    refine ⟨rfl, ?_⟩
    simp only [PyData.shown, sz]
    have h1 : PyData.strOk x = true := by simpa [gd] using h
    refine StrLaws.reprText_len x fun c hc => ?_
    have z : x.cps.all (fun c => decide (c < 0x110000)) = true := h1
    rw [← Array.all_toList] at z
    have y := of_decide_eq_true (List.all_eq_true.mp z c hc)
    exact Nat.lt_of_lt_of_le y (by decide)
  | .list xs, h => by
    have h' : gdAll N xs = true := by simpa [gd] using h
    obtain ⟨a, b⟩ := shownAll_le hN xs h'
    refine ⟨a, ?_⟩
    simp only [PyData.shown, sz]
    unfold listText
    rw [strLen_append]
    have z := from_le (PyData.shownAll xs) 0 "["
    have e1 : (("[" : String) : Str).length = 1 := by decide +kernel
    have e2 : (("]" : String) : Str).length = 1 := by decide +kernel
    omega
  | .tuple xs, h => by
    have h' : gdAll N xs = true := by simpa [gd] using h
    obtain ⟨a, b⟩ := shownAll_le hN xs h'
    refine ⟨a, ?_⟩
    simp only [PyData.shown, sz]
    unfold tupleText
    rw [strLen_append, strLen_append]
    have z := join_le (PyData.shownAll xs)
    have e1 : (("(" : String) : Str).length = 1 := by decide +kernel
    have e2 : ((if (PyData.shownAll xs).length == 1 then ",)" else ")" : String) : Str).length ≤ 2 := by
      split
      · exact (by decide +kernel : ((",)" : String) : Str).length ≤ 2)
      · exact (by decide +kernel : ((")" : String) : Str).length ≤ 2)
    omega
  | .dict kvs, h => by
    have h' : kvs.isEmpty = true := by simpa [gd] using h
    cases kvs with
    | nil => exact ⟨rfl, by decide +kernel⟩
    | cons a b => cases h'
theorem shownAll_le {N : Nat} (hN : N ≤ 10 ^ 40) : ∀ (xs : List PyData), gdAll N xs = true → PyData.showableAll xs = true ∧ piled (PyData.shownAll xs) ≤ szAll xs
  | [], _ => ⟨rfl, Nat.le_refl _⟩
  | x :: xs, h => by
    have h' := Bool.and_eq_true_iff.mp (by simpa [gdAll] using h)
    obtain ⟨a1, b1⟩ := shown_le hN x h'.1
    obtain ⟨a2, b2⟩ := shownAll_le hN xs h'.2
    refine ⟨?_, ?_⟩
    · simp only [PyData.showableAll, a1, a2, Bool.and_self]
    · simp only [PyData.shownAll, szAll]
      rw [piled_cons]
      omega
end
theorem okT_of {N : Nat} {d : PyData} (hN : N ≤ 10 ^ 40) (h : gd N d = true) (hs : sz d ≤ 1000000) (hd : d.depth ≤ 60) : OkT d := fun x w => by
  obtain ⟨a, b, c⟩ := within_le w h
  obtain ⟨e, f⟩ := shown_le hN x a
  refine ⟨e, Nat.le_trans c hd, Nat.le_trans f (Nat.le_trans b (Nat.le_trans hs (by decide)))⟩
theorem szAll_app : ∀ xs ys : List PyData, szAll (xs ++ ys) = szAll xs + szAll ys
  | [], ys => by simp [szAll]
  | x :: xs, ys => by
    simp only [List.cons_append, szAll, szAll_app xs ys]
    omega
theorem gdAll_app {N : Nat} : ∀ xs ys : List PyData, gdAll N (xs ++ ys) = (gdAll N xs && gdAll N ys)
  | [], ys => by simp [gdAll]
  | x :: xs, ys => by simp only [List.cons_append, gdAll, gdAll_app xs ys, Bool.and_assoc]
theorem depthAll_app : ∀ xs ys : List PyData, PyData.depthAll (xs ++ ys) = max (PyData.depthAll xs) (PyData.depthAll ys)
  | [], ys => by simp [PyData.depthAll]
  | x :: xs, ys => by
    simp only [List.cons_append, PyData.depthAll, depthAll_app xs ys]
    omega
end K01
set_option Elab.async false
set_option linter.all false
set_option maxRecDepth 100000
set_option maxHeartbeats 4000000
namespace K01
open PySem L2 L2H DQ RZ
/-- all but the state of the draws -/
def fr (H : Hp) (m l : Addr) : Hp := fun b => if b = m ∨ b = l then none else H b
theorem fr_same {H : Hp} {m l : Addr} : Same (fr H m l) H := fun b o e => by
  unfold fr at e
  split at e
  · cases e
  · exact e
theorem fr_some {H : Hp} {m l b : Addr} {o : HO} (h : H b = some o) (hm : b ≠ m) (hl : b ≠ l) : fr H m l b = some o := by
  unfold fr
  rw [if_neg fun z => z.elim hm hl]
  exact h
theorem fr_of {H : Hp} {m l b : Addr} {o : HO} (h : fr H m l b = some o) : b ≠ m ∧ b ≠ l ∧ H b = some o := by
  unfold fr at h
  split at h
  · cases h
  · rename_i z
    exact ⟨fun e => z (.inl e), fun e => z (.inr e), h⟩
/-- all but the state of the draws stands, and what was there is there -/
def Fs (H : Hp) (m l : Addr) (H' : Hp) (l' : Addr) : Prop := Same (fr H m l) (fr H' m l') ∧ ∀ b, H' b = none → H b = none
theorem Fs.refl {H : Hp} {m l : Addr} : Fs H m l H l := ⟨same_refl, fun _ h => h⟩
theorem Fs.trans {H H' H'' : Hp} {m l l' l'' : Addr} (x : Fs H m l H' l') (y : Fs H' m l' H'' l'') : Fs H m l H'' l'' := ⟨same_trans x.1 y.1, fun b h => x.2 b (y.2 b h)⟩
theorem Fs.new {H : Hp} {m l : Addr} {H' : Hp} (x : Same H H') (y : Same (fr H m l) (fr H' m l)) : Fs H m l H' l := ⟨y, fun b h => same_out x h⟩
theorem But.fr {H H' : Hp} {m l l' : Addr} (x : But H H' m l) (h : l' = l ∨ H l' = none) : Fs H m l H' l' := by
  refine ⟨fun b o e => ?_, x.out⟩
  obtain ⟨h1, h2, h3⟩ := fr_of e
  refine fr_some (x.kp b o h3 h1 h2) h1 fun z => ?_
  rcases h with y | y
  · exact h2 (z.trans y)
  · rw [← z, h3] at y
    cases y
theorem MAt.fresh {H : Hp} {m c l p : Addr} {cs ls : List Int} {n : Int} {o : HO} (M : MAt H m c l cs ls n) (hp : H p = none) : MAt (upd H p o) m c l cs ls n ∧ Same (fr H m l) (fr (upd H p o) m l) ∧ fr (upd H p o) m l p = some o := by
  refine ⟨M.same (same_new hp), fun b u e => ?_, fr_some upd_same (ne_of_none M.hm hp).symm (ne_of_none M.hl hp).symm⟩
  obtain ⟨h1, h2, h3⟩ := fr_of e
  exact fr_some (same_new hp _ _ h3) h1 h2
/-- a number below many; the state again -/
def spNx : Sp := fun vs H Q _ => ∃ (m c l : Addr) (many : Int) (cs ls : List Int) (n : Int), vs = [.ref m, .int many] ∧ MAt H m c l cs ls n ∧ 0 < many ∧ many < 1000000 ∧ n + 1 ≤ 1000000000 ∧
  ∀ r H' l' ls' n', 0 ≤ r → r < many → MAt H' m c l' cs ls' n' → n' ≤ n + 1 → Fs H m l H' l' → Q (.int r) H'
theorem nx_of {vs : List V} {H : Hp} {Q : VK} {E : XK} (h : spNx vs H Q E) : spNext vs H Q E := by
  obtain ⟨m, c, l, many, cs, ls, n, rfl, M, h1, h2, h3, k⟩ := h
  exact ⟨m, c, l, many, cs, ls, n, rfl, M, h1, h2, h3, fun r H' l' ls' n' r0 r1 M' nn bt hl => k r H' l' ls' n' r0 r1 M' nn (bt.fr hl)⟩
/-- a def that draws data: of k draws at most; what is told of the data -/
def spDr (k : Int) (Φ : PyData → Prop) : Sp := fun vs H Q _ => ∃ (m c l : Addr) (cs ls : List Int) (n : Int), vs = [.ref m] ∧ MAt H m c l cs ls n ∧ n + k ≤ 1000000000 ∧
  ∀ r d H' l' ls' n', MAt H' m c l' cs ls' n' → n' ≤ n + k → Fs H m l H' l' → Dq (fr H' m l') r d → Φ d → Q r H'
def OddD (d : PyData) : Prop := gd (10 ^ 30) d = true ∧ sz d ≤ 5000 ∧ d.depth ≤ 3
instance (d : PyData) : Decidable (OddD d) := by
  unfold OddD
  infer_instance
/-- things of a list that is drawn from -/
inductive DqL (H : Hp) (Φ : PyData → Prop) : List V → Prop
  | nil : DqL H Φ []
  | cons {v : V} {vs : List V} {d : PyData} : Dq H v d → Φ d → DqL H Φ vs → DqL H Φ (v :: vs)
theorem DqL.at {H : Hp} {Φ : PyData → Prop} : ∀ {vs : List V} {i : Nat}, DqL H Φ vs → i < vs.length → ∃ v d, vs[i]? = some v ∧ Dq H v d ∧ Φ d
  | _ :: _, 0, .cons h p _, _ => ⟨_, _, rfl, h, p⟩
  | _ :: _, i + 1, .cons _ _ t, hi => t.at (i := i) (Nat.lt_of_succ_lt_succ hi)
theorem DqL.same {H H' : Hp} {Φ : PyData → Prop} (s : Same H H') : ∀ {vs : List V}, DqL H Φ vs → DqL H' Φ vs
  | _, .nil => .nil
  | _, .cons h p t => .cons (h.same s) p (t.same s)
theorem DqL.app {H : Hp} {Φ : PyData → Prop} : ∀ {vs ws : List V}, DqL H Φ vs → DqL H Φ ws → DqL H Φ (vs ++ ws)
  | _, _, .nil, b => b
  | _, _, .cons h p t, b => .cons h p (t.app b)
/-- the same state of the draws, all else stands -/
structure Gw (m c l : Addr) (cs ls : List Int) (n : Int) (H H' : Hp) : Prop where
  mat : MAt H' m c l cs ls n
  sm : Fs H m l H' l
theorem Gw.new {m c l p : Addr} {cs ls : List Int} {n : Int} {H H' : Hp} {o : HO} (G : Gw m c l cs ls n H H') (hp : H' p = none) : Gw m c l cs ls n H (upd H' p o) ∧ Same (fr H' m l) (fr (upd H' p o) m l) ∧ fr (upd H' p o) m l p = some o := by
  obtain ⟨a, b, d⟩ := G.mat.fresh (o := o) hp
  exact ⟨⟨a, G.sm.trans (.new (same_new hp) b)⟩, b, d⟩
theorem odd_str {x : Str} (h1 : PyData.strOk x = true) (h2 : x.length ≤ 10) : OddD (.str x) := by
  refine ⟨?_, ?_, Nat.zero_le _⟩
  · simp only [gd, h1]
  · simp only [sz]
    omega
theorem dq_str {H : Hp} {x : Str} (h1 : PyData.strOk x = true) (h2 : x.length ≤ 10) : Dq H (.str x) (.str x) := .str x ⟨Nat.le_trans h2 (by decide), h1⟩
section
variable {P : Program} {w : World} {K : PySem.W.Frag} {mg : Str → Option Value} {base : Heap}
theorem scOd : FnScope ["m", "some"] ["m"] (defScope sOdd) := ⟨rfl, rfl, rfl, by decide +kernel, rfl, by decide +kernel, by decide +kernel⟩
theorem ok_odd {f fN : Addr} {fd dN : FuncData} (F : Fun K "_law_odd" "_law_odd" sOdd f fd) (FN : Fun K "_law_next" "_law_next" sNext fN dN) (bN : Binds K dN ["m", "many"] []) (gN : mg "_law_next" = some (.ref fN)) (T : TxtB mg) :
    FnOk P w K mg base CX0 3 f fd ["m"] (spDr 1 OddD) := by
  have GN : FnOk P w K mg base CX0 1 fN dN ["m", "many"] spNx := (ok_next FN T).imp fun _ _ _ _ => nx_of
  refine F.ok scOd (fun vs H Q E h => ?_) (fun cdv A outer s H vs Q E hr h => ?_)
  · obtain ⟨m, c, l, cs, ls, n, rfl, _⟩ := h
    rfl
  · obtain ⟨m, c, l, cs, ls, n, rfl, M, hn, k⟩ := h
    refine ⟨_, pss_cons (ps_set (i := 1) scOd.nd rfl (Or.inl rfl) (pe_lst (pa_cons pe_non (pa_cons pe_int (pa_cons pe_int (pa_cons pe_int (pa_cons pe_int (pa_cons (pe_un un_neg pe_int) (pa_cons pe_int (pa_cons (pe_un un_neg pe_int) (pa_cons pe_bl (pa_cons pe_bl
        (pa_cons pe_str (pa_cons pe_str (pa_cons pe_str (pa_cons pe_str (pa_cons pe_str (pa_cons pe_str (pa_cons (pe_tup pa_nil) (pa_cons (pe_tup (pa_cons (pe_tup pa_nil) pa_nil)) pa_nil))))))))))))))))))))
      (pss_cons (ps_set (i := 1) scOd.nd rfl (Or.inl rfl) (pe_op op_cat (pv 1) (pe_lst (pa_cons (pe_tup (pa_cons pe_str (pa_cons pe_int pa_nil))) (pa_cons (pe_lst pa_nil) (pa_cons pe_dnewK (pa_cons (pe_op op_pow pe_int pe_int)
          (pa_cons (pe_tup (pa_cons (pe_tup pa_nil) (pa_cons (pe_tup pa_nil) pa_nil))) (pa_cons (pe_tup (pa_cons (pe_tup pa_nil) (pa_cons (pe_tup pa_nil) (pa_cons pe_str pa_nil)))) (pa_cons pe_str (pa_cons (pe_tup (pa_cons pe_non pa_nil)) (pa_cons (pe_tup (pa_cons pe_int pa_nil))
          (pa_cons (pe_tup (pa_cons pe_int (pa_cons pe_int pa_nil))) (pa_cons (pe_tup (pa_cons (pe_tup (pa_cons pe_str pa_nil)) (pa_cons (pe_tup pa_nil) pa_nil))) pa_nil))))))))))))))
      (pss_one (ps_ret (pe_ix ix_list (pv 1) (pe_call GN (hr.mono (by decide)) (by rfl) gN FN.kp bN .nil pass0 (pa_cons (pv 0) (pa_cons pe_int pa_nil))) (fun _ _ => rfl))))), ?_⟩
    refine ⟨_, rfl, _, rfl, Nat.zero_le _, fun p1 n1 => ⟨Nat.zero_le _, fun p2 n2 => ⟨by show 1 ≤ sizeLine; decide, fun p3 n3 => ⟨by show 18 ≤ sizeLine; decide, fun q1 m1 => ?_⟩⟩⟩⟩
    have G0 : Gw m c l cs ls n H H := ⟨M, .refl⟩
    obtain ⟨G1, t1, e1⟩ := G0.new (o := .tup []) n1
    obtain ⟨G2, t2, e2⟩ := G1.new (o := .tup []) n2
    obtain ⟨G3, t3, e3⟩ := G2.new (o := .tup [.ref p2]) n3
    obtain ⟨G4, t4, e4⟩ := G3.new (o := .lst _) m1
    have L1 := DqL.same t4 (H := fr _ m l) (Φ := OddD) (vs := [.non, .int 0, .int 1, .int 2, .int 3, .int (-1), .int 41, .int (-10), .bl true, .bl false, .str "", .str "a", .str "call", .str "never", .str "needed", .str "e", .ref p1, .ref p3])
      (.cons .non (by decide +kernel) (.cons (.int 0) (by decide +kernel) (.cons (.int 1) (by decide +kernel) (.cons (.int 2) (by decide +kernel) (.cons (.int 3) (by decide +kernel) (.cons (.int (-1)) (by decide +kernel) (.cons (.int 41) (by decide +kernel) (.cons (.int (-10)) (by decide +kernel)
      (.cons (.bl true) (by decide +kernel) (.cons (.bl false) (by decide +kernel) (.cons (dq_str (by decide +kernel) (by decide +kernel)) (odd_str (by decide +kernel) (by decide +kernel)) (.cons (dq_str (by decide +kernel) (by decide +kernel)) (odd_str (by decide +kernel) (by decide +kernel))
      (.cons (dq_str (by decide +kernel) (by decide +kernel)) (odd_str (by decide +kernel) (by decide +kernel)) (.cons (dq_str (by decide +kernel) (by decide +kernel)) (odd_str (by decide +kernel) (by decide +kernel)) (.cons (dq_str (by decide +kernel) (by decide +kernel)) (odd_str (by decide +kernel) (by decide +kernel))
      (.cons (dq_str (by decide +kernel) (by decide +kernel)) (odd_str (by decide +kernel) (by decide +kernel)) (.cons (.tup (t3 _ _ (t2 _ _ e1)) .nil) (by decide +kernel) (.cons (.tup e3 (.cons (.tup (t3 _ _ e2) .nil) .nil)) (by decide +kernel) .nil))))))))))))))))))
    generalize upd (upd (upd (upd H p1 (HO.tup [])) p2 (HO.tup [])) p3 (HO.tup [V.ref p2])) q1 (HO.lst _) = H4 at G4 L1 e4
    clear e1 e2 e3 t1 t2 t3 t4 G1 G2 G3
    refine ⟨_, rfl, by show 2 ≤ sizeLine; decide, fun a1 n1 => ⟨Nat.zero_le _, fun a2 n2 => fun a3 n3 => ⟨_, _, rfl, rfl, ⟨by decide, by decide, by decide⟩, ?_⟩⟩⟩
    refine ⟨Nat.zero_le _, fun a4 n4 => ⟨Nat.zero_le _, fun a5 n5 => ⟨by show 2 ≤ sizeLine; decide, fun a6 n6 => ⟨Nat.zero_le _, fun a7 n7 => ⟨Nat.zero_le _, fun a8 n8 => ⟨by show 3 ≤ sizeLine; decide, fun a9 n9 => ?_⟩⟩⟩⟩⟩⟩
    refine ⟨by show 1 ≤ sizeLine; decide, fun b1 k1 => ⟨by show 1 ≤ sizeLine; decide, fun b2 k2 => ⟨by show 2 ≤ sizeLine; decide, fun b3 k3 => ⟨by show 1 ≤ sizeLine; decide, fun b4 k4 => ⟨Nat.zero_le _, fun b5 k5 => ⟨by show 2 ≤ sizeLine; decide, fun b6 k6 => ?_⟩⟩⟩⟩⟩⟩
    refine ⟨by show 11 ≤ sizeLine; decide, fun q2 m2 => ?_⟩
    obtain ⟨F1, t1, f1⟩ := G4.new (o := .tup [.str "a", .int 0]) n1
    obtain ⟨F2, t2, f2⟩ := F1.new (o := .lst []) n2
    obtain ⟨F3, t3, f3⟩ := F2.new (o := .dK []) n3
    obtain ⟨F4, t4, f4⟩ := F3.new (o := .tup []) n4
    obtain ⟨F5, t5, f5⟩ := F4.new (o := .tup []) n5
    obtain ⟨F6, t6, f6⟩ := F5.new (o := .tup [.ref a4, .ref a5]) n6
    obtain ⟨F7, t7, f7⟩ := F6.new (o := .tup []) n7
    obtain ⟨F8, t8, f8⟩ := F7.new (o := .tup []) n8
    obtain ⟨F9, t9, f9⟩ := F8.new (o := .tup [.ref a7, .ref a8, .str "call"]) n9
    obtain ⟨E1, u1, g1⟩ := F9.new (o := .tup [.non]) k1
    obtain ⟨E2, u2, g2⟩ := E1.new (o := .tup [.int 0]) k2
    obtain ⟨E3, u3, g3⟩ := E2.new (o := .tup [.int 0, .int 0]) k3
    obtain ⟨E4, u4, g4⟩ := E3.new (o := .tup [.str "a"]) k4
    obtain ⟨E5, u5, g5⟩ := E4.new (o := .tup []) k5
    obtain ⟨E6, u6, g6⟩ := E5.new (o := .tup [.ref b4, .ref b5]) k6
    obtain ⟨E7, u7, g7⟩ := E6.new (o := .lst _) m2
    have v6 := u7
    have v5 := same_trans u6 v6
    have v4 := same_trans u5 v5
    have v3 := same_trans u4 v4
    have v2 := same_trans u3 v3
    have v1 := same_trans u2 v2
    have s9 := same_trans u1 v1
    have s8 := same_trans t9 s9
    have s7 := same_trans t8 s8
    have s6 := same_trans t7 s7
    have s5 := same_trans t6 s6
    have s4 := same_trans t5 s5
    have s3 := same_trans t4 s4
    have s2 := same_trans t3 s3
    have s1 := same_trans t2 s2
    have s0 := same_trans t1 s1
    have da : ∀ {G : Hp}, Dq G (.str "a") (.str "a") := dq_str (by decide +kernel) (by decide +kernel)
    have dc : ∀ {G : Hp}, Dq G (.str "call") (.str "call") := dq_str (by decide +kernel) (by decide +kernel)
    have d1 : ∀ {G : Hp}, Dq G (.str "a1") (.str "a1") := dq_str (by decide +kernel) (by decide +kernel)
    have L2 : DqL (fr _ m l) OddD [.ref a1, .ref a2, .ref a3, .int (10 ^ (30 : Int).toNat), .ref a6, .ref a9, .str "a1", .ref b1, .ref b2, .ref b3, .ref b6] :=
      .cons (.tup (s1 _ _ f1) (.cons da (.cons (.int 0) .nil))) (by decide +kernel) (.cons (.lst (s2 _ _ f2) .nil) (by decide +kernel) (.cons (.dic (s3 _ _ f3)) (by decide +kernel) (.cons (.int _) (by decide +kernel)
      (.cons (.tup (s6 _ _ f6) (.cons (.tup (s4 _ _ f4) .nil) (.cons (.tup (s5 _ _ f5) .nil) .nil))) (by decide +kernel) (.cons (.tup (s9 _ _ f9) (.cons (.tup (s7 _ _ f7) .nil) (.cons (.tup (s8 _ _ f8) .nil) (.cons dc .nil)))) (by decide +kernel)
      (.cons d1 (by decide +kernel) (.cons (.tup (v1 _ _ g1) (.cons .non .nil)) (by decide +kernel) (.cons (.tup (v2 _ _ g2) (.cons (.int 0) .nil)) (by decide +kernel) (.cons (.tup (v3 _ _ g3) (.cons (.int 0) (.cons (.int 0) .nil))) (by decide +kernel)
      (.cons (.tup (v6 _ _ g6) (.cons (.tup (v4 _ _ g4) (.cons da .nil)) (.cons (.tup (v5 _ _ g5) .nil) .nil))) (by decide +kernel) .nil))))))))))
    have L := (L1.same s0).app L2
    refine ⟨q1, q2, _, _, rfl, rfl, (fr_of (s0 _ _ e4)).2.2, (fr_of g7).2.2, by show 18 + 11 ≤ sizeLine; decide, fun q3 m3 => ?_⟩
    obtain ⟨E8, u8, g8⟩ := E7.new (o := .lst _) m3
    have L' := L.same u8
    refine ⟨_, rfl, _, rfl, m, c, l, 29, cs, ls, n, rfl, E8.mat, by decide, by decide, hn, fun r H' l' ls' n' r0 r1 M' nn sm => ?_⟩
    obtain ⟨v, d, hv, dv, dΦ⟩ := (L'.same sm.1).at (i := r.toNat) (by show r.toNat < 29; omega)
    refine ⟨q3, _, r, v, rfl, rfl, SqL.of (fr_of (sm.1 _ _ g8)).2.2, ?_, k v d H' l' ls' n' M' nn (E8.sm.trans sm) dv dΦ⟩
    have z := atI_nat hv
    rw [Int.toNat_of_nonneg r0] at z
    exact z
end
end K01
set_option Elab.async false
set_option linter.all false
set_option maxRecDepth 100000
set_option maxHeartbeats 4000000
namespace K01
open PySem L2 L2H DQ RZ
/-- the marks that the law draws from -/
def abc3 : List Str := ["a", "b", "c"]
def efS (u : Str) : Prop := u = "e" ∨ u = "f"
def restC (c : Nat) (r : List PyData) : Prop := (r = [] ∧ c = 0) ∨ (r = [.str "call"] ∧ c = 1)
mutual
/-- a tree of texts and tuples: at most k levels below its root, n nodes, c calls -/
inductive Tc : Nat → Nat → Nat → PyData → Prop
  | mk {k n c n0 c0 c1 : Nat} {ms : List Str} {bs r : List PyData} : ms.Sublist abc3 → bs.length ≤ 3 → restC c0 r → TcB k n0 c1 bs → n = n0 + 1 → c = c1 + c0 → Tc k n c (.tuple (.tuple (ms.map PyData.str) :: .tuple bs :: r))
/-- branches, the nodes below them at most k - 1 levels high -/
inductive TcB : Nat → Nat → Nat → List PyData → Prop
  | nil {k : Nat} : TcB k 0 0 []
  | cons {k n c n' c' N C : Nat} {u : Str} {t : PyData} {bs : List PyData} : efS u → Tc k n c t → TcB (k + 1) n' c' bs → N = n + n' → C = c + c' → TcB (k + 1) N C (.tuple [.str u, t] :: bs)
end
theorem TcB.app : ∀ {k n c n' c' : Nat} {bs es : List PyData}, TcB k n c bs → TcB k n' c' es → TcB k (n + n') (c + c') (bs ++ es)
  | k, _, _, n', c', _, es, .nil, h => by
    rw [Nat.zero_add, Nat.zero_add]
    exact h
  | _, _, _, _, _, _, _, .cons hu ht hb e1 e2, h => .cons hu ht (hb.app h) (by omega) (by omega)
mutual
theorem Tc.mono : ∀ {k n c : Nat} {d : PyData}, Tc k n c d → Tc (k + 1) n c d
  | _, _, _, _, .mk h1 h2 h3 h4 e1 e2 => .mk h1 h2 h3 h4.mono e1 e2
theorem TcB.mono : ∀ {k n c : Nat} {bs : List PyData}, TcB k n c bs → TcB (k + 1) n c bs
  | _, _, _, _, .nil => .nil
  | _, _, _, _, .cons hu ht hb e1 e2 => .cons hu ht.mono hb.mono e1 e2
end
theorem TcB.take : ∀ {k n c : Nat} {bs : List PyData} (j : Nat), TcB k n c bs → ∃ n1 c1 n2 c2, TcB k n1 c1 (bs.take j) ∧ TcB k n2 c2 (bs.drop j) ∧ n = n1 + n2 ∧ c = c1 + c2
  | _, n, c, _, 0, h => ⟨0, 0, n, c, .nil, h, by omega, by omega⟩
  | _, _, _, _, j + 1, .nil => ⟨0, 0, 0, 0, .nil, .nil, rfl, rfl⟩
  | _, _, _, _, j + 1, .cons hu ht hb e1 e2 => by
    obtain ⟨n1, c1, n2, c2, a, b, d1, d2⟩ := hb.take j
    exact ⟨_, _, n2, c2, .cons hu ht a rfl rfl, b, by omega, by omega⟩
theorem TcB.at : ∀ {k n c : Nat} {bs : List PyData} {j : Nat} {b : PyData}, TcB k n c bs → bs[j]? = some b → ∃ k' u t n1 c1, k = k' + 1 ∧ b = .tuple [.str u, t] ∧ efS u ∧ Tc k' n1 c1 t
  | _, _, _, _, _, _, .nil, h => by simp at h
  | _, _, _, _, 0, _, .cons hu ht _ _ _, h => by
    cases h
    exact ⟨_, _, _, _, _, rfl, rfl, hu, ht⟩
  | _, _, _, _, j + 1, _, .cons _ _ hb _ _, h => hb.at (j := j) h
theorem Tc.pos : ∀ {k n c : Nat} {d : PyData}, Tc k n c d → 1 ≤ n
  | _, _, _, _, .mk _ _ _ _ e1 _ => by omega
def smS (x : Str) : Prop := PyData.strOk x = true ∧ x.length = 1
instance (x : Str) : Decidable (smS x) := by
  unfold smS
  infer_instance
theorem abc_sm {x : Str} (h : x ∈ abc3) : smS x := by
  simp only [abc3, List.mem_cons, List.not_mem_nil, or_false] at h
  rcases h with rfl | rfl | rfl <;> decide +kernel
theorem ef_sm {u : Str} (h : efS u) : smS u := by
  rcases h with rfl | rfl <;> decide +kernel
theorem sub_sm {ms : List Str} (h : ms.Sublist abc3) : ∀ x ∈ ms, smS x := fun x hx => abc_sm (h.subset hx)
theorem sub_len {ms : List Str} (h : ms.Sublist abc3) : ms.length ≤ 3 := h.length_le
/-- how many draws at most -/
def dn : Nat → Int
  | 0 => 10
  | k + 1 => 10 + 3 * (4 + dn k)
def spTr (k : Nat) : Sp := fun vs H Q _ => ∃ (m c l : Addr) (cs ls : List Int) (n size : Int), vs = [.ref m, .int size, .int (k : Int)] ∧ MAt H m c l cs ls n ∧ n + dn k ≤ 1000000000 ∧ 1 ≤ size ∧ size ≤ 1000 ∧
  ∀ r d q H' l' ls' n', MAt H' m c l' cs ls' n' → n' ≤ n + dn k → Fs H m l H' l' → Dq (fr H' m l') r d → Tc k q 0 d → (q : Int) ≤ size → Q r H'
theorem MAt.at {H : Hp} {m c l D : Addr} {cs ls : List Int} {n : Int} {o : HO} (M : MAt H m c l cs ls n) (hm : D ≠ m) (hc : D ≠ c) (hl : D ≠ l) : MAt (upd H D o) m c l cs ls n :=
  ⟨by rw [upd_ne hm.symm]; exact M.hm, by rw [upd_ne hc.symm]; exact M.hc, by rw [upd_ne hl.symm]; exact M.hl, M.ne, M.n0, M.nb, M.cb, M.lb⟩
/-- a list that is written while numbers are drawn -/
structure Dl (H : Hp) (m c l : Addr) (cs : List Int) (n : Int) (k : Int) (D : Addr) (xs : List V) (H' : Hp) (l' : Addr) (ls' : List Int) (n' : Int) : Prop where
  mat : MAt H' m c l' cs ls' n'
  le : n' ≤ n + k
  sm : Fs H m l H' l'
  dd : fr H' m l' D = some (.lst xs)
theorem Dl.next {H H' H6 : Hp} {m c l l' l6 D : Addr} {cs ls' ls6 : List Int} {n k n' n6 j k' : Int} {xs : List V} (d : Dl H m c l cs n k D xs H' l' ls' n') (M : MAt H6 m c l6 cs ls6 n6) (h : n6 ≤ n' + j) (s : Fs H' m l' H6 l6) (hk : k + j ≤ k') : Dl H m c l cs n k' D xs H6 l6 ls6 n6 :=
  ⟨M, by have := d.le; omega, d.sm.trans s, s.1 _ _ d.dd⟩
theorem Dl.put {H H' : Hp} {m c l l' D : Addr} {cs ls' : List Int} {n k n' : Int} {xs ys : List V} (d : Dl H m c l cs n k D xs H' l' ls' n') (hD : H D = none) (hm : D ≠ m) (hc : D ≠ c) : Dl H m c l cs n k D ys (upd H' D (.lst ys)) l' ls' n' := by
  obtain ⟨h1, h2, h3⟩ := fr_of d.dd
  refine ⟨d.mat.at h1 hc h2, d.le, ⟨fun b o e => ?_, fun b hb => ?_⟩, fr_some upd_same h1 h2⟩
  rotate_left
  · refine d.sm.2 b ?_
    by_cases z : b = D
    · rw [z, upd_same] at hb
      cases hb
    · rw [upd_ne z] at hb
      exact hb
  have nb : b ≠ D := fun z => by
    have y := (fr_of e).2.2
    rw [z, hD] at y
    cases y
  obtain ⟨g1, g2, g3⟩ := fr_of (d.sm.1 _ _ e)
  exact fr_some (by rw [upd_ne nb]; exact g3) g1 g2
theorem dn_pos : ∀ j, 0 ≤ dn j
  | 0 => by decide
  | j + 1 => by
    have := dn_pos j
    show 0 ≤ 10 + 3 * (4 + dn j)
    omega
def leftOf (σ : L2.St) : Nat := match σ[5]? with | some (some (V.int n)) => n.toNat | _ => 0
mutual
def tupO : PyData → Bool
  | .str _ => true
  | .tuple ds => tupA ds
  | _ => false
def tupA : List PyData → Bool
  | [] => true
  | d :: ds => tupO d && tupA ds
end
mutual
theorem _root_.DQ.Dq.tups {H H' : Hp} (s : ∀ b xs, H b = some (.tup xs) → H' b = some (.tup xs)) : ∀ {v : V} {d : PyData}, Dq H v d → tupO d = true → Dq H' v d
  | _, _, .non, h => by cases h
  | _, _, .bl b, h => by cases h
  | _, _, .int i, h => by cases h
  | _, _, .str x hx, _ => .str x hx
  | _, _, .lst _ _, h => by cases h
  | _, _, .tup e a, h => .tup (s _ _ e) (a.tups s (by simpa [tupO] using h))
  | _, _, .dic _, h => by cases h
theorem _root_.DQ.DqAll.tups {H H' : Hp} (s : ∀ b xs, H b = some (.tup xs) → H' b = some (.tup xs)) : ∀ {vs : List V} {ds : List PyData}, DqAll H vs ds → tupA ds = true → DqAll H' vs ds
  | _, _, .nil, _ => .nil
  | _, _, .cons a b, h => by
    have h' := Bool.and_eq_true_iff.mp (by simpa [tupA] using h)
    exact .cons (a.tups s h'.1) (b.tups s h'.2)
end
theorem tupA_iff : ∀ {ds : List PyData}, tupA ds = true ↔ ∀ d ∈ ds, tupO d = true
  | [] => by simp [tupA]
  | d :: ds => by
    simp only [tupA, Bool.and_eq_true, List.mem_cons, tupA_iff (ds := ds)]
    constructor
    · rintro ⟨h1, h2⟩ y (rfl | hy)
      · exact h1
      · exact h2 y hy
    · intro h
      exact ⟨h d (.inl rfl), fun y hy => h y (.inr hy)⟩
theorem tup_strs (ms : List Str) : tupA (ms.map PyData.str) = true := tupA_iff.mpr fun d hd => by
  obtain ⟨x, _, rfl⟩ := List.mem_map.mp hd
  rfl
mutual
theorem Tc.tup : ∀ {k n c : Nat} {d : PyData}, Tc k n c d → tupO d = true
  | _, _, _, _, .mk _ _ hr hb _ _ => by
    have z := hb.tup
    rcases hr with ⟨rfl, _⟩ | ⟨rfl, _⟩
    · simp only [tupO, tupA, tup_strs, z, Bool.and_self]
    · simp only [tupO, tupA, tup_strs, z, Bool.and_self]
theorem TcB.tup : ∀ {k n c : Nat} {bs : List PyData}, TcB k n c bs → tupA bs = true
  | _, _, _, _, .nil => rfl
  | _, _, _, _, .cons _ ht hb _ _ => by simp only [tupO, tupA, ht.tup, hb.tup, Bool.and_self]
end
theorem abc_at (y : V) (i : Nat) (h : [V.str "a", V.str "b", V.str "c"][i]? = some y) : ∃ x, y = V.str x ∧ abc3[i]? = some x := by
  have z : (abc3.map V.str)[i]? = some y := h
  rw [List.getElem?_map] at z
  obtain ⟨x, hx, e⟩ := Option.map_eq_some_iff.mp z
  exact ⟨x, e.symm, hx⟩
theorem dq_marks {H : Hp} {ms : List Str} (h : ms.Sublist abc3) : DqAll H (ms.map V.str) (ms.map PyData.str) :=
  DqAll.strs ms fun x hx => ⟨by rw [(sub_sm h x hx).2]; decide, (sub_sm h x hx).1⟩
section
variable {P : Program} {w : World} {K : PySem.W.Frag} {mg : Str → Option Value} {base : Heap}
theorem scTe : FnScope ["m", "size", "deep", "marks", "one", "left", "branches", "part", "below"] ["m", "size", "deep"] (defScope sTree) := ⟨rfl, rfl, rfl, by decide +kernel, rfl, by decide +kernel, by decide +kernel⟩
theorem ok_tree {f fN : Addr} {fd dN : FuncData} (F : Fun K "_law_tree" "_law_tree" sTree f fd) (bF : Binds K fd ["m", "size", "deep"] []) (gF : mg "_law_tree" = some (.ref f)) (FN : Fun K "_law_next" "_law_next" sNext fN dN) (bN : Binds K dN ["m", "many"] []) (gN : mg "_law_next" = some (.ref fN)) (T : TxtB mg) (tT : mg "tuple" = none) :
    ∀ k, k ≤ 4 → FnOk P w K mg base CX0 (3 + k) f fd ["m", "size", "deep"] (spTr k) := by
  have GN : FnOk P w K mg base CX0 1 fN dN ["m", "many"] spNx := (ok_next FN T).imp fun _ _ _ _ => nx_of
  have bi : bootBuiltins ("int" : Str) = some (.type "int") := by decide +kernel
  intro k
  induction k with
  | zero =>
    intro _
    refine F.ok (k := 2) scTe (fun vs H Q E h => ?_) (fun cdv A outer s H vs Q E hr h => ?_)
    · obtain ⟨m, c, l, cs, ls, n, size, rfl, _⟩ := h
      rfl
    · obtain ⟨m, c, l, cs, ls, n, size, rfl, M, hn, sz1, sz9, kk⟩ := h
      refine ⟨_, pss_cons (ps_set (i := 3) scTe.nd rfl (Or.inl rfl) (pe_callTy call_tuple_of (by rfl) tT btup (pa_cons (pe_lc (own := [("one", 4)]) (g := gName 4) rfl scTe.nd (pi_tup (pe_tup (pa_cons pe_str (pa_cons pe_str (pa_cons pe_str pa_nil))))) (blkOk_by (own := [("one", 4)]) (N := ["m", "size", "deep", "marks", "one", "left", "branches", "part", "below"]) (sc := defScope sTree) (by decide +kernel))
          (fun _ _ _ _ _ => pg_name (i := 4) scTe.nd rfl (Or.inl rfl)) (fun _ _ _ _ _ => pts_one (pt_cmpR op_eq (pe_call GN (hr.mono (by omega)) (by rfl) gN FN.kp bN .nil pass0 (pa_cons (pv 0) (pa_cons pe_int pa_nil))) pe_int (by rfl))) (fun _ _ _ _ _ => pv 4)) pa_nil)))
        (pss_cons (ps_par rfl scTe.nd (i := 5) (j := 6) rfl rfl (by decide) rfl rfl (pa_cons (pe_op op_sub (pv 1) pe_int) (pa_cons (pe_lst pa_nil) pa_nil)) rfl)
        (pss_cons (ps_while PassesOwn.never (PW.pt (pw_and (pt_cmpR op_gt (pv 5) pe_int (by rfl)) (pw_and (pt_cmpR op_gt (pv 2) pe_int (by rfl)) (pw_and (pt_cmpR op_lt (pe_callB call_len_seq (by rfl) T.len PySem.boot_len (pa_cons (pv 6) pa_nil)) pe_int (by rfl))
            (pw_and1 (pt_cmpR op_gt (pe_call GN (hr.mono (by omega)) (by rfl) gN FN.kp bN .nil pass0 (pa_cons (pv 0) (pa_cons pe_int pa_nil))) pe_int (by rfl)))))))
          (pss_cons ps_never (pss_cons ps_never (pss_cons ps_never (pss_one ps_never)))))
        (pss_one (ps_ret (pe_tup (pa_cons (pv 3) (pa_cons (pe_callTy call_tuple_of (by rfl) tT btup (pa_cons (pv 6) pa_nil)) pa_nil))))))), ?_⟩
      refine ⟨by show 3 ≤ sizeLine; decide, fun p0 np0 => ⟨p0, rfl, ⟨_, SqT.of upd_same⟩, fun D nD => ?_⟩⟩
      have G0 : Gw m c l cs ls n H H := ⟨M, .refl⟩
      obtain ⟨G1, t1, e1⟩ := G0.new (o := .tup [.str "a", .str "b", .str "c"]) np0
      obtain ⟨G2, t2, e2⟩ := G1.new (o := .lst []) nD
      have hD0 : H D = none := same_out (same_new (o := .tup [.str "a", .str "b", .str "c"]) np0) nD
      have Dm : D ≠ m := (ne_of_none M.hm hD0).symm
      have Dc : D ≠ c := (ne_of_none M.hc hD0).symm
      have sm1 : ∀ y (i : Nat), [V.str "a", V.str "b", V.str "c"][i]? = some y → ∃ x, y = V.str x ∧ abc3[i]? = some x := abc_at
      refine lc_it (walk_tup (xs := [.str "a", .str "b", .str "c"])) (fun i H' => ∃ (l' : Addr) (ls' : List Int) (n' : Int) (ys : List Str), Dl H m c l cs n i D (ys.map V.str) H' l' ls' n' ∧ fr H' m l' p0 = some (.tup [.str "a", .str "b", .str "c"]) ∧ ys.Sublist (abc3.take i))
        ⟨l, ls, n, [], ⟨G2.mat, by omega, G2.sm, e2⟩, t2 _ _ e1, List.nil_sublist _⟩ (fun i H' _ ⟨_, _, _, _, _, e, _⟩ => SqT.of (fr_of e).2.2) ?_ ?_
      · rintro i y H5 H6 hi ⟨l', ls', n', ys, d, e, hy⟩ ⟨rfl, hx⟩
        have i3 : i < 3 := hi
        have dk : (10 : Int) ≤ dn 0 := Int.le_refl _
        refine ⟨rfl, _, rfl, m, c, l', 5, cs, ls', n', rfl, d.mat, by decide, by decide, by have := d.le; omega, fun r H7 l7 ls7 n7 r0 r1 M7 nn s7 => ⟨rfl, _, rfl, ?_⟩⟩
        have d7 : Dl H m c l cs n ((i + 1 : Nat) : Int) D (ys.map V.str) H7 l7 ls7 n7 := d.next M7 nn s7 (by omega)
        obtain ⟨x, rfl, hsx⟩ := sm1 y i hx
        have tk : abc3.take (i + 1) = abc3.take i ++ [x] := by rw [List.take_add_one, hsx]; rfl
        have ly : ys.length ≤ 3 := (hy.trans (List.take_sublist _ _)).length_le
        refine ite2 (fun _ => ?_) (fun _ => ?_)
        · have ld : ((ys.map V.str)).length < sizeLine := small1000 (by rw [List.length_map]; omega)
          refine ⟨_, rfl, _, (fr_of d7.dd).2.2, ld, l7, ls7, n7, ys ++ [x], ?_, ?_, ?_⟩
          · have z := d7.put (ys := (ys ++ [x]).map V.str) hD0 Dm Dc
            rw [List.map_append] at z ⊢
            exact z
          · obtain ⟨g1, g2, g3⟩ := fr_of (s7.1 _ _ e)
            have pD : p0 ≠ D := ne_of_none (upd_same (H := H) (a := p0) (o := .tup [.str "a", .str "b", .str "c"])) nD
            exact fr_some (by rw [upd_ne pD]; exact g3) g1 g2
          · rw [tk]
            exact hy.append (List.Sublist.refl _)
        · exact ⟨l7, ls7, n7, ys, d7, s7.1 _ _ e, by rw [tk]; exact hy.trans (List.sublist_append_left _ _)⟩
      rintro H5 ⟨l5, ls5, n5, ms, d5, e5, hms0⟩
      have hms : ms.Sublist abc3 := hms0
      refine ⟨D, _, rfl, .inl ⟨SqL.of (fr_of d5.dd).2.2, fun p1 np1 => ?_⟩⟩
      refine ⟨_, rfl, _, _, rfl, rfl, Nat.zero_le _, fun br nbr => ⟨_, _, rfl, ?_⟩⟩
      have G5 : Gw m c l5 cs ls5 n5 H5 H5 := ⟨d5.mat, .refl⟩
      obtain ⟨G6, t6, e6⟩ := G5.new (o := .tup (ms.map V.str)) np1
      obtain ⟨G7, t7, e7⟩ := G6.new (o := .lst []) nbr
      have hb0 : H br = none := d5.sm.2 _ (G6.sm.2 _ nbr)
      refine while_by (fun σ' H' => σ' = [some (V.ref m), some (V.int size), some (V.int ((0 : Nat) : Int)), some (V.ref p1), none, some (V.int (size - 1)), some (V.ref br), none, none] ∧ H' = upd (upd H5 p1 (.tup (ms.map V.str))) br (.lst [])) (fun _ _ => 0) ⟨rfl, rfl⟩ ?_ ?_
      · rintro σ' H' ⟨rfl, rfl⟩
        have fin : ∀ p2 p3, upd (upd H5 p1 (.tup (ms.map V.str))) br (.lst []) p2 = none → upd (upd (upd H5 p1 (.tup (ms.map V.str))) br (.lst [])) p2 (.tup []) p3 = none → Q (.ref p3) (upd (upd (upd (upd H5 p1 (.tup (ms.map V.str))) br (.lst [])) p2 (.tup [])) p3 (.tup [.ref p1, .ref p2])) := fun p2 p3 np2 np3 => by
          obtain ⟨GA, tA, eA⟩ := G7.new (o := .tup []) np2
          obtain ⟨GB, tB, eB⟩ := GA.new (o := .tup [.ref p1, .ref p2]) np3
          have h5 : n5 ≤ n + 3 := d5.le
          refine kk (.ref p3) _ _ _ _ _ _ GB.mat (by show n5 ≤ n + 10; omega) (d5.sm.trans GB.sm) (.tup eB (.cons (.tup (tB _ _ (tA _ _ (t7 _ _ e6))) (dq_marks hms)) (.cons (.tup (tB _ _ eA) .nil) .nil))) (.mk hms (Nat.zero_le _) (.inl ⟨rfl, rfl⟩) .nil rfl rfl) (by omega)
        refine ⟨_, rfl, _, _, rfl, rfl, _, rfl, ?_⟩
        refine ite2 (fun _ => ?_) (fun _ => ?_)
        · refine ⟨_, rfl, _, _, rfl, rfl, _, rfl, ?_⟩
          refine iteF (iteF ?_)
          exact ⟨_, rfl, _, rfl, br, _, rfl, .inl ⟨SqL.of (fr_of e7).2.2, fun p2 np2 => ⟨by show 2 ≤ sizeLine; decide, fun p3 np3 => fin p2 p3 np2 np3⟩⟩⟩
        · exact iteF ⟨_, rfl, _, rfl, br, _, rfl, .inl ⟨SqL.of (fr_of e7).2.2, fun p2 np2 => ⟨by show 2 ≤ sizeLine; decide, fun p3 np3 => fin p2 p3 np2 np3⟩⟩⟩
      · intro σ' H' Q1 Q2 hq h
        obtain ⟨v, e1, i, j, e2, e3, b, e4, h⟩ := h
        refine ⟨v, e1, i, j, e2, e3, b, e4, ?_⟩
        cases b with
        | false => exact hq _ _ h
        | true =>
        obtain ⟨v, e1, i, j, e2, e3, b, e4, h⟩ := h
        refine ⟨v, e1, i, j, e2, e3, b, e4, ?_⟩
        cases b with
        | false => exact hq _ _ h
        | true =>
        obtain ⟨v, e1, p, ys, e2, sq, i, j, e3, e4, b, e5, h⟩ := h
        refine ⟨v, e1, p, ys, e2, sq, i, j, e3, e4, b, e5, ?_⟩
        cases b with
        | false => exact hq _ _ h
        | true =>
        obtain ⟨v, e1, m, c, l, many, cs, ls, n, e2, M, h1, h2, h3, kk⟩ := h
        refine ⟨v, e1, m, c, l, many, cs, ls, n, e2, M, h1, h2, h3, fun r H' l' ls' n' r0 r1 M' nn s => ?_⟩
        obtain ⟨i, j, f1, f2, b, f3, q⟩ := kk r H' l' ls' n' r0 r1 M' nn s
        exact ⟨i, j, f1, f2, b, f3, hq _ _ q⟩
  | succ k ih =>
    intro hk
    have GS : FnOk P w K mg base CX0 (3 + k) f fd ["m", "size", "deep"] (spTr k) := ih (by omega)
    refine F.ok (k := 3 + k) scTe (fun vs H Q E h => ?_) (fun cdv A outer s H vs Q E hr h => ?_)
    · obtain ⟨m, c, l, cs, ls, n, size, rfl, _⟩ := h
      rfl
    · obtain ⟨m, c, l, cs, ls, n, size, rfl, M, hn, sz1, sz9, kk⟩ := h
      refine ⟨_, pss_cons (ps_set (i := 3) scTe.nd rfl (Or.inl rfl) (pe_callTy call_tuple_of (by rfl) tT btup (pa_cons (pe_lc (own := [("one", 4)]) (g := gName 4) rfl scTe.nd (pi_tup (pe_tup (pa_cons pe_str (pa_cons pe_str (pa_cons pe_str pa_nil))))) (blkOk_by (own := [("one", 4)]) (N := ["m", "size", "deep", "marks", "one", "left", "branches", "part", "below"]) (sc := defScope sTree) (by decide +kernel))
          (fun _ _ _ _ _ => pg_name (i := 4) scTe.nd rfl (Or.inl rfl)) (fun _ _ _ _ _ => pts_one (pt_cmpR op_eq (pe_call GN (hr.mono (by omega)) (by rfl) gN FN.kp bN .nil pass0 (pa_cons (pv 0) (pa_cons pe_int pa_nil))) pe_int (by rfl))) (fun _ _ _ _ _ => pv 4)) pa_nil)))
        (pss_cons (ps_par rfl scTe.nd (i := 5) (j := 6) rfl rfl (by decide) rfl rfl (pa_cons (pe_op op_sub (pv 1) pe_int) (pa_cons (pe_lst pa_nil) pa_nil)) rfl)
        (pss_cons (ps_while PassesOwn.never (PW.pt (pw_and (pt_cmpR op_gt (pv 5) pe_int (by rfl)) (pw_and (pt_cmpR op_gt (pv 2) pe_int (by rfl)) (pw_and (pt_cmpR op_lt (pe_callB call_len_seq (by rfl) T.len PySem.boot_len (pa_cons (pv 6) pa_nil)) pe_int (by rfl))
            (pw_and1 (pt_cmpR op_gt (pe_call GN (hr.mono (by omega)) (by rfl) gN FN.kp bN .nil pass0 (pa_cons (pv 0) (pa_cons pe_int pa_nil))) pe_int (by rfl)))))))
          (pss_cons (ps_set (i := 7) scTe.nd rfl (Or.inl rfl) (pe_op op_add pe_int (pe_call GN (hr.mono (by omega)) (by rfl) gN FN.kp bN .nil pass0 (pa_cons (pv 0) (pa_cons (pv 5) pa_nil)))))
          (pss_cons (ps_set (i := 8) scTe.nd rfl (Or.inl rfl) (pe_call GS hr (by rfl) gF F.kp bF .nil pass0 (pa_cons (pv 0) (pa_cons (pv 7) (pa_cons (pe_op op_sub (pv 2) pe_int) pa_nil)))))
          (pss_cons (ps_expr (pe_bm PySem.F.plainAttrs_list PySem.F.slot_list_append PySem.F.type_list_append mt_append (pv 6) (pa_cons (pe_tup (pa_cons (pe_ix ix_list (pe_lst (pa_cons pe_str (pa_cons pe_str pa_nil))) (pe_callTy call_int1 (by rfl) T.int bi (pa_cons (pe_cmpR op_eq (pe_call GN (hr.mono (by omega)) (by rfl) gN FN.kp bN .nil pass0 (pa_cons (pv 0) (pa_cons pe_int pa_nil))) pe_int (by rfl)) pa_nil)) (fun _ _ => rfl))
              (pa_cons (pv 8) pa_nil))) pa_nil)))
          (pss_one (ps_set (i := 5) scTe.nd rfl (Or.inl rfl) (pe_op op_sub (pv 5) (pv 7))))))))
        (pss_one (ps_ret (pe_tup (pa_cons (pv 3) (pa_cons (pe_callTy call_tuple_of (by rfl) tT btup (pa_cons (pv 6) pa_nil)) pa_nil))))))), ?_⟩
      refine ⟨by show 3 ≤ sizeLine; decide, fun p0 np0 => ⟨p0, rfl, ⟨_, SqT.of upd_same⟩, fun D nD => ?_⟩⟩
      have G0 : Gw m c l cs ls n H H := ⟨M, .refl⟩
      obtain ⟨G1, t1, e1⟩ := G0.new (o := .tup [.str "a", .str "b", .str "c"]) np0
      obtain ⟨G2, t2, e2⟩ := G1.new (o := .lst []) nD
      have hD0 : H D = none := same_out (same_new (o := .tup [.str "a", .str "b", .str "c"]) np0) nD
      have Dm : D ≠ m := (ne_of_none M.hm hD0).symm
      have Dc : D ≠ c := (ne_of_none M.hc hD0).symm
      have sm1 : ∀ y (i : Nat), [V.str "a", V.str "b", V.str "c"][i]? = some y → ∃ x, y = V.str x ∧ abc3[i]? = some x := abc_at
      refine lc_it (walk_tup (xs := [.str "a", .str "b", .str "c"])) (fun i H' => ∃ (l' : Addr) (ls' : List Int) (n' : Int) (ys : List Str), Dl H m c l cs n i D (ys.map V.str) H' l' ls' n' ∧ fr H' m l' p0 = some (.tup [.str "a", .str "b", .str "c"]) ∧ ys.Sublist (abc3.take i))
        ⟨l, ls, n, [], ⟨G2.mat, by omega, G2.sm, e2⟩, t2 _ _ e1, List.nil_sublist _⟩ (fun i H' _ ⟨_, _, _, _, _, e, _⟩ => SqT.of (fr_of e).2.2) ?_ ?_
      · rintro i y H5 H6 hi ⟨l', ls', n', ys, d, e, hy⟩ ⟨rfl, hx⟩
        have i3 : i < 3 := hi
        have dk : (10 : Int) ≤ dn (k + 1) := by
          have : ∀ j, 0 ≤ dn j := fun j => by induction j with | zero => decide | succ j ih => show 0 ≤ 10 + 3 * (4 + dn j); omega
          have := this k
          show 10 ≤ 10 + 3 * (4 + dn k)
          omega
        refine ⟨rfl, _, rfl, m, c, l', 5, cs, ls', n', rfl, d.mat, by decide, by decide, by have := d.le; omega, fun r H7 l7 ls7 n7 r0 r1 M7 nn s7 => ⟨rfl, _, rfl, ?_⟩⟩
        have d7 : Dl H m c l cs n ((i + 1 : Nat) : Int) D (ys.map V.str) H7 l7 ls7 n7 := d.next M7 nn s7 (by omega)
        obtain ⟨x, rfl, hsx⟩ := sm1 y i hx
        have tk : abc3.take (i + 1) = abc3.take i ++ [x] := by rw [List.take_add_one, hsx]; rfl
        have ly : ys.length ≤ 3 := (hy.trans (List.take_sublist _ _)).length_le
        refine ite2 (fun _ => ?_) (fun _ => ?_)
        · have ld : ((ys.map V.str)).length < sizeLine := small1000 (by rw [List.length_map]; omega)
          refine ⟨_, rfl, _, (fr_of d7.dd).2.2, ld, l7, ls7, n7, ys ++ [x], ?_, ?_, ?_⟩
          · have z := d7.put (ys := (ys ++ [x]).map V.str) hD0 Dm Dc
            rw [List.map_append] at z ⊢
            exact z
          · obtain ⟨g1, g2, g3⟩ := fr_of (s7.1 _ _ e)
            have pD : p0 ≠ D := ne_of_none (upd_same (H := H) (a := p0) (o := .tup [.str "a", .str "b", .str "c"])) nD
            exact fr_some (by rw [upd_ne pD]; exact g3) g1 g2
          · rw [tk]
            exact hy.append (List.Sublist.refl _)
        · exact ⟨l7, ls7, n7, ys, d7, s7.1 _ _ e, by rw [tk]; exact hy.trans (List.sublist_append_left _ _)⟩
      rintro H5 ⟨l5, ls5, n5, ms, d5, e5, hms0⟩
      have hms : ms.Sublist abc3 := hms0
      refine ⟨D, _, rfl, .inl ⟨SqL.of (fr_of d5.dd).2.2, fun p1 np1 => ?_⟩⟩
      refine ⟨_, rfl, _, _, rfl, rfl, Nat.zero_le _, fun br nbr => ⟨_, _, rfl, ?_⟩⟩
      have G5 : Gw m c l5 cs ls5 n5 H5 H5 := ⟨d5.mat, .refl⟩
      obtain ⟨G6, t6, e6⟩ := G5.new (o := .tup (ms.map V.str)) np1
      obtain ⟨G7, t7, e7⟩ := G6.new (o := .lst []) nbr
      have hb0 : H br = none := d5.sm.2 _ (G6.sm.2 _ nbr)
      have brm : br ≠ m := (ne_of_none M.hm hb0).symm
      have brc : br ≠ c := (ne_of_none M.hc hb0).symm
      have dp := dn_pos k
      refine while_by (fun σ' H' => ∃ (left : Int) (l' : Addr) (ls' : List Int) (n' : Int) (vs : List V) (bs : List PyData) (nb : Nat) (w4 w7 w8 : Option V), σ' = [some (V.ref m), some (V.int size), some (V.int ((k + 1 : Nat) : Int)), some (V.ref p1), w4, some (V.int left), some (V.ref br), w7, w8] ∧
        Dl H m c l cs n (3 + (bs.length : Int) * (4 + dn k)) br vs H' l' ls' n' ∧ fr H' m l' p1 = some (.tup (ms.map V.str)) ∧ DqAll (fr H' m l') vs bs ∧ bs.length ≤ 3 ∧ TcB (k + 1) nb 0 bs ∧ left ≤ 1000 ∧ 0 ≤ left ∧ (nb : Int) + 1 + left ≤ size) (fun σ' _ => leftOf σ')
        ⟨_, l5, ls5, n5, [], [], 0, _, _, _, rfl, ⟨G7.mat, by have h5 : n5 ≤ n + 3 := d5.le; rw [List.length_nil]; omega, d5.sm.trans G7.sm, e7⟩, t7 _ _ e6, .nil, by decide, .nil, by omega, by omega, by omega⟩ ?_ ?_
      · rintro σ' H' ⟨left, l', ls', n', vs, bs, nb, w4, w7, w8, rfl, d, eM, qd, b3, hbs, l1000, l0, lsz⟩
        have jn : (0 : Int) ≤ (bs.length : Int) * (4 + dn k) := Int.mul_nonneg (by omega) (by omega)
        have j3 : (bs.length : Int) * (4 + dn k) ≤ 3 * (4 + dn k) := Int.mul_le_mul_of_nonneg_right (by omega) (by omega)
        have hn' : n + (10 + 3 * (4 + dn k)) ≤ 1000000000 := hn
        have nle := d.le
        have vb : vs.length = bs.length := qd.len
        refine ⟨_, rfl, _, _, rfl, rfl, _, rfl, ?_⟩
        by_cases hl : ¬ 0 < left
        · rw [decide_eq_false hl]
          refine iteF ?_
          have dE : Dl H m c l cs n (4 + (bs.length : Int) * (4 + dn k)) br vs H' l' ls' n' := ⟨d.mat, by omega, d.sm, d.dd⟩
          have qE := qd
          refine ⟨_, rfl, _, rfl, br, _, rfl, .inl ⟨SqL.of (fr_of dE.dd).2.2, fun p2 np2 => ⟨by show 2 ≤ sizeLine; decide, fun p3 np3 => ?_⟩⟩⟩
          have GE : Gw m c _ cs _ _ _ _ := ⟨dE.mat, .refl⟩
          obtain ⟨GA, tA, eA⟩ := GE.new (o := .tup vs) np2
          obtain ⟨GB, tB, eB⟩ := GA.new (o := .tup [.ref p1, .ref p2]) np3
          refine kk (.ref p3) _ _ _ _ _ _ GB.mat ?_ (dE.sm.trans GB.sm) (.tup eB (.cons (.tup (tB _ _ (tA _ _ eM)) (dq_marks hms)) (.cons (.tup (tB _ _ eA) ((qE.same tA).same tB)) .nil))) (.mk hms b3 (.inl ⟨rfl, rfl⟩) hbs rfl rfl) (by omega)
          have := dE.le
          have := dn_pos k
          show _ ≤ n + (10 + 3 * (4 + dn k))
          have j3 : (bs.length : Int) * (4 + dn k) ≤ 3 * (4 + dn k) := Int.mul_le_mul_of_nonneg_right (by omega) (by omega)
          omega
        have hl' := Classical.not_not.mp hl
        rw [decide_eq_true hl']
        refine iteT ⟨_, rfl, _, _, rfl, rfl, _, rfl, ?_⟩
        rw [decide_eq_true (show (0 : Int) < ((k + 1 : Nat) : Int) by omega)]
        refine iteT ⟨_, rfl, br, _, rfl, .inl (SqL.of (fr_of d.dd).2.2), _, _, rfl, rfl, _, rfl, ?_⟩
        by_cases hb3 : ¬ (vs.length : Int) < 3
        · rw [decide_eq_false hb3]
          refine iteF ?_
          have dE : Dl H m c l cs n (4 + (bs.length : Int) * (4 + dn k)) br vs H' l' ls' n' := ⟨d.mat, by omega, d.sm, d.dd⟩
          have qE := qd
          refine ⟨_, rfl, _, rfl, br, _, rfl, .inl ⟨SqL.of (fr_of dE.dd).2.2, fun p2 np2 => ⟨by show 2 ≤ sizeLine; decide, fun p3 np3 => ?_⟩⟩⟩
          have GE : Gw m c _ cs _ _ _ _ := ⟨dE.mat, .refl⟩
          obtain ⟨GA, tA, eA⟩ := GE.new (o := .tup vs) np2
          obtain ⟨GB, tB, eB⟩ := GA.new (o := .tup [.ref p1, .ref p2]) np3
          refine kk (.ref p3) _ _ _ _ _ _ GB.mat ?_ (dE.sm.trans GB.sm) (.tup eB (.cons (.tup (tB _ _ (tA _ _ eM)) (dq_marks hms)) (.cons (.tup (tB _ _ eA) ((qE.same tA).same tB)) .nil))) (.mk hms b3 (.inl ⟨rfl, rfl⟩) hbs rfl rfl) (by omega)
          have := dE.le
          have := dn_pos k
          show _ ≤ n + (10 + 3 * (4 + dn k))
          have j3 : (bs.length : Int) * (4 + dn k) ≤ 3 * (4 + dn k) := Int.mul_le_mul_of_nonneg_right (by omega) (by omega)
          omega
        have hb3' := Classical.not_not.mp hb3
        rw [decide_eq_true hb3']
        refine iteT ⟨_, rfl, m, c, l', 3, cs, ls', n', rfl, d.mat, by decide, by decide, by omega, fun r H6 l6 ls6 n6 r0 r1 M6 nn s6 => ⟨_, _, rfl, rfl, _, rfl, ?_⟩⟩
        have d6 : Dl H m c l cs n (4 + (bs.length : Int) * (4 + dn k)) br vs H6 l6 ls6 n6 := d.next M6 nn s6 (by omega)
        have eM6 := s6.1 _ _ eM
        have qd6 := qd.same s6.1
        by_cases hr0 : ¬ 0 < r
        · rw [decide_eq_false hr0]
          refine iteF ?_
          have dE := d6
          have qE := qd6
          have eM := eM6
          refine ⟨_, rfl, _, rfl, br, _, rfl, .inl ⟨SqL.of (fr_of dE.dd).2.2, fun p2 np2 => ⟨by show 2 ≤ sizeLine; decide, fun p3 np3 => ?_⟩⟩⟩
          have GE : Gw m c _ cs _ _ _ _ := ⟨dE.mat, .refl⟩
          obtain ⟨GA, tA, eA⟩ := GE.new (o := .tup vs) np2
          obtain ⟨GB, tB, eB⟩ := GA.new (o := .tup [.ref p1, .ref p2]) np3
          refine kk (.ref p3) _ _ _ _ _ _ GB.mat ?_ (dE.sm.trans GB.sm) (.tup eB (.cons (.tup (tB _ _ (tA _ _ eM)) (dq_marks hms)) (.cons (.tup (tB _ _ eA) ((qE.same tA).same tB)) .nil))) (.mk hms b3 (.inl ⟨rfl, rfl⟩) hbs rfl rfl) (by omega)
          have := dE.le
          have := dn_pos k
          show _ ≤ n + (10 + 3 * (4 + dn k))
          have j3 : (bs.length : Int) * (4 + dn k) ≤ 3 * (4 + dn k) := Int.mul_le_mul_of_nonneg_right (by omega) (by omega)
          omega
        rw [decide_eq_true (Classical.not_not.mp hr0)]
        have eK : ((bs.length : Int) + 1) * (4 + dn k) = (bs.length : Int) * (4 + dn k) + (4 + dn k) := by rw [Int.add_mul, Int.one_mul]
        have nle6 := d6.le
        have j2 : (bs.length : Int) * (4 + dn k) ≤ 2 * (4 + dn k) := Int.mul_le_mul_of_nonneg_right (by omega) (by omega)
        refine iteT ⟨_, rfl, _, rfl, m, c, l6, left, cs, ls6, n6, rfl, M6, hl', by omega, by omega, fun r7 H7 l7 ls7 n7 r70 r71 M7 nn7 s7 => ⟨_, _, rfl, rfl, ?_⟩⟩
        have d7 : Dl H m c l cs n (5 + (bs.length : Int) * (4 + dn k)) br vs H7 l7 ls7 n7 := d6.next M7 nn7 s7 (by omega)
        have nle7 := d7.le
        refine ⟨_, rfl, _, rfl, _, rfl, _, _, rfl, rfl, m, c, l7, cs, ls7, n7, 1 + r7, ?_, M7, by omega, by omega, by omega, fun r8 d8 qn8 H8 l8 ls8 n8 M8 nn8 s8 q8 t8 hq8 => ?_⟩
        · show [V.ref m, V.int (1 + r7), V.int (((k + 1 : Nat) : Int) - 1)] = _
          rw [show ((k + 1 : Nat) : Int) - 1 = (k : Int) by omega]
        have e8 : Dl H m c l cs n (5 + dn k + (bs.length : Int) * (4 + dn k)) br vs H8 l8 ls8 n8 := d7.next M8 nn8 s8 (by omega)
        have nle8 := e8.le
        have eM8 := s8.1 _ _ (s7.1 _ _ eM6)
        have qd8 := (qd6.same s7.1).same s8.1
        refine ⟨_, rfl, .inl ⟨rfl, _, SqL.of (fr_of e8.dd).2.2⟩, by show 2 ≤ sizeLine; decide, fun pl npl => ?_⟩
        have G8 : Gw m c l8 cs ls8 n8 H8 H8 := ⟨M8, .refl⟩
        obtain ⟨G9, t9, e9⟩ := G8.new (o := .lst [.str "e", .str "f"]) npl
        refine ⟨_, rfl, m, c, l8, 4, cs, ls8, n8, rfl, G9.mat, by decide, by decide, by omega, fun r9 H9 l9 ls9 n9 r90 r91 M9 nn9 s9 => ⟨rfl, .inr ⟨_, rfl, ?_⟩⟩⟩
        have d9 : Dl H m c l cs n (6 + dn k + (bs.length : Int) * (4 + dn k)) br vs H9 l9 ls9 n9 := e8.next M9 nn9 (G9.sm.trans s9) (by omega)
        have hx : ∃ u : Str, atI [V.str "e", V.str "f"] (if decide (V.int r9 = V.int 0) = true then 1 else 0) = some (V.str u) ∧ efS u := by
          cases decide (V.int r9 = V.int 0) with
          | true => exact ⟨"f", atI_nat (j := 1) rfl, .inr rfl⟩
          | false => exact ⟨"e", atI_nat (j := 0) rfl, .inl rfl⟩
        obtain ⟨u, hu, hfu⟩ := hx
        have hsu := ef_sm hfu
        have sA : Same (fr H8 m l8) (fr H9 m l9) := same_trans t9 s9.1
        refine ⟨pl, _, _, .str u, rfl, rfl, SqL.of (fr_of (s9.1 _ _ e9)).2.2, hu, _, rfl, by show 2 ≤ sizeLine; decide, fun pt npt => ?_⟩
        have GA : Gw m c l9 cs ls9 n9 H9 H9 := ⟨M9, .refl⟩
        obtain ⟨GB, tB, eB⟩ := GA.new (o := .tup [.str u, r8]) npt
        have dA : Dl H m c l cs n (6 + dn k + (bs.length : Int) * (4 + dn k)) br vs (upd H9 pt (.tup [.str u, r8])) l9 ls9 n9 := d9.next GB.mat (j := 0) (by omega) GB.sm (by omega)
        refine ⟨br, _, .ref pt, rfl, rfl, (fr_of dA.dd).2.2, small1000 (by omega), ?_⟩
        have dB := dA.put (ys := vs ++ [.ref pt]) hb0 brm brc
        have tA9 : TcB (k + 1) (nb + qn8) 0 (bs ++ [.tuple [.str u, d8]]) := hbs.app (.cons hfu t8 .nil rfl rfl)
        have kt : ∀ b xs, fr (upd H9 pt (.tup [.str u, r8])) m l9 b = some (.tup xs) → fr (upd (upd H9 pt (.tup [.str u, r8])) br (.lst (vs ++ [.ref pt]))) m l9 b = some (.tup xs) := fun b xs z => by
          obtain ⟨h1, h2, h3⟩ := fr_of z
          refine fr_some ?_ h1 h2
          rw [upd_ne fun y => by rw [y, dA.dd] at z; cases z]
          exact h3
        refine ⟨_, rfl, _, rfl, _, _, rfl, rfl, ⟨_, l9, ls9, n9, vs ++ [.ref pt], bs ++ [.tuple [.str u, d8]], nb + qn8, _, _, _, rfl, ⟨dB.mat, ?_, dB.sm, dB.dd⟩, kt _ _ (tB _ _ (sA _ _ eM8)), ?_, ?_, tA9, ?_, ?_, ?_⟩, ?_⟩
        · have := dB.le
          rw [List.length_append, List.length_singleton]
          have ec : (((bs.length + 1 : Nat) : Int)) * (4 + dn k) = ((bs.length : Int) + 1) * (4 + dn k) := by rw [Int.natCast_add]; rfl
          rw [ec, eK]
          omega
        · have qAll : DqAll (fr (upd H9 pt (.tup [.str u, r8])) m l9) (vs ++ [.ref pt]) (bs ++ [.tuple [.str u, d8]]) :=
            ((qd8.same sA).same tB).app (.cons (.tup eB (.cons (.str u ⟨by rw [hsu.2]; decide, hsu.1⟩) (.cons ((q8.same sA).same tB) .nil))) .nil)
          exact qAll.tups kt tA9.tup
        · rw [List.length_append, List.length_singleton]
          omega
        · omega
        · omega
        · omega
        · show (left - (1 + r7)).toNat < left.toNat
          omega
      · intro σ' H' Q1 Q2 hq h
        obtain ⟨v, e1, i, j, e2, e3, b, e4, h⟩ := h
        refine ⟨v, e1, i, j, e2, e3, b, e4, ?_⟩
        cases b with
        | false => exact hq _ _ h
        | true =>
        obtain ⟨v, e1, i, j, e2, e3, b, e4, h⟩ := h
        refine ⟨v, e1, i, j, e2, e3, b, e4, ?_⟩
        cases b with
        | false => exact hq _ _ h
        | true =>
        obtain ⟨v, e1, p, ys, e2, sq, i, j, e3, e4, b, e5, h⟩ := h
        refine ⟨v, e1, p, ys, e2, sq, i, j, e3, e4, b, e5, ?_⟩
        cases b with
        | false => exact hq _ _ h
        | true =>
        obtain ⟨v, e1, m, c, l, many, cs, ls, n, e2, M, h1, h2, h3, kk⟩ := h
        refine ⟨v, e1, m, c, l, many, cs, ls, n, e2, M, h1, h2, h3, fun r H' l' ls' n' r0 r1 M' nn s => ?_⟩
        obtain ⟨i, j, f1, f2, b, f3, q⟩ := kk r H' l' ls' n' r0 r1 M' nn s
        exact ⟨i, j, f1, f2, b, f3, hq _ _ q⟩
end
end K01
set_option Elab.async false
set_option linter.all false
set_option maxRecDepth 100000
set_option maxHeartbeats 4000000
/-! t[::-1] of a tuple -/
namespace RT
open PySem PySem.Spec PyProof.Rows L2 HT
section
variable {prog : Program} {w : World} {A : Around} {E : Value → Shared → Prop} {s : Shared}
theorem applied_rev {sl : Addr} {u : Tok} {n : Nat} {Q : Int × Int × Nat → Shared → Prop} (hs : s.heap.IsSliceOf sl .none .none (.int (-1) u)) (h : Q ((n : Int) - 1, -1, n) s) :
    wpAny (model prog w) A (Builtin.Slice.sliceApplied (.ref sl) (pure (n : Int))) Q E s := by
  obtain ⟨os, hos, hcs, hds⟩ := id hs
  unfold Builtin.Slice.sliceApplied Builtin.Slice.sliceFields
  refine wpAny_bind (wpAny_bind (wpAny_field hos hds (x := .none) rfl (wpAny_bind (wpAny_field hos hds (x := .none) rfl (wpAny_bind (wpAny_field hos hds (x := .int (-1) u) rfl (wpAny_pure ?_)))))))
  refine wpAny_bind (slicePart_int ?_)
  show wpAny _ _ (if ((-1 : Int) == 0) = true then _ else _) _ _ s
  rw [if_neg (by decide)]
  refine wpAny_bind (slicePart_none (wpAny_bind (slicePart_none (wpAny_bind (wpAny_pure ?_)))))
  have e : Builtin.Slice.sliceAdjust none none (-1) (n : Int) = ((n : Int) - 1, -1) := by
    unfold Builtin.Slice.sliceAdjust
    simp
  show wpAny _ _ (match Builtin.Slice.sliceAdjust none none (-1) (n : Int) with | (lo, hi) => pure (lo, (-1 : Int), Builtin.Slice.slicePlaces lo hi (-1))) _ _ s
  rw [e]
  show wpAny _ _ (pure ((n : Int) - 1, (-1 : Int), Builtin.Slice.slicePlaces ((n : Int) - 1) (-1) (-1))) _ _ s
  have p : Builtin.Slice.slicePlaces ((n : Int) - 1) (-1) (-1) = n := by
    unfold Builtin.Slice.slicePlaces
    simp
    omega
  rw [p]
  exact wpAny_pure h
theorem fm_congr {α β : Type} {f g : α → Option β} : ∀ {l : List α}, (∀ x ∈ l, f x = g x) → l.filterMap f = l.filterMap g
  | [], _ => rfl
  | x :: l, h => by
    rw [List.filterMap_cons, List.filterMap_cons, h x (List.mem_cons_self ..), fm_congr fun y hy => h y (List.mem_cons_of_mem _ hy)]
theorem pick_rev (xs : Array Value) : ((List.range xs.size).filterMap fun (m : Nat) => xs[((xs.size : Int) - 1 + (m : Int) * -1).toNat]?).toArray = xs.toList.reverse.toArray := by
  congr 1
  have z := pick_run xs.toList.reverse.toArray 0 xs.size
  rw [List.filterMap_map] at z
  rw [List.drop_zero, List.take_of_length_le (by simp)] at z
  refine Eq.trans (fm_congr fun m hm => ?_) z
  have hm' : m < xs.size := List.mem_range.mp hm
  have e : ((xs.size : Int) - 1 + (m : Int) * -1).toNat = xs.size - 1 - m := by omega
  rw [e]
  show _ = (xs.toList.reverse.toArray)[0 + m]?
  have e2 : (xs.toList.reverse.toArray)[m]? = xs.toList.reverse[m]? := by
    rw [← Array.getElem?_toList]
  rw [Nat.zero_add, e2, List.getElem?_reverse (by simpa using hm'), Array.length_toList, Array.getElem?_toList]
theorem getItem_rev {t sl : Addr} {items : Array Value} {u : Tok} {Q : Value → Shared → Prop} (ht : IsTup s.heap t items) (hs : s.heap.IsSliceOf sl .none .none (.int (-1) u)) (hsz : items.size ≤ sizeLine)
    (h : Q (.ref s.heap.objs.size) { s with heap := s.heap.push { cls := .type "tuple", data := .seq items.toList.reverse.toArray } }) : wpAny (model prog w) A (getItem (.ref t) (.ref sl)) Q E s := by
  obtain ⟨os, hos, hcs, hds⟩ := id hs
  have ts : s.TypeIs (.ref sl) "slice" := ⟨os, hos, hcs⟩
  unfold getItem
  try with_reducible refine wpAny_holding ?_
  first | refine wpAny_bind (wpAny_pure ?_) | skip
  refine wpAny_bind (wpAny_sequenceKey ht.typeIs (by decide) ?_)
  refine wpAny_bind (wpAny_callSpecial?_slot (name := Str.ofString "__getitem__") ht.typeIs PyProof.Rows.slot_tuple_getitem (wpAny_call_entry PyProof.Rows.slot_tuple_getitem ht.typeIs entry_tuple_getitem ?_ (args_tuple_getitem _ _)))
  show wpAny _ _ (Builtin.Tuple.tupleItemsOf (.ref t) >>= _) _ _ s
  refine wpAny_bind (tupleItemsOf_ ht (wpAny_bind (wpAny_typeOf ts ?_)))
  rw [if_pos (by decide)]
  refine wpAny_bind (applied_rev hs ?_)
  have no : ¬ ((((items.size : Int) - 1) == 0 && (-1 : Int) == 1 && items.size == items.size) = true) := by simp
  show wpAny _ _ (if (((items.size : Int) - 1) == 0 && (-1 : Int) == 1 && items.size == items.size) = true then _ else _) _ _ s
  rw [if_neg no, pick_rev]
  have ok : sizeOk (.seq items.toList.reverse.toArray) := by
    show items.toList.reverse.toArray.size ≤ sizeLine
    simpa using hsz
  first
    | exact wpAny_bind (m := Builtin.Tuple.tupleExact _) (wpAny_newObj_type (wpAny_pure ⟨_, rfl, wpAny_pure h⟩) ok)
    | exact wpAny_bind (m := Builtin.Tuple.tupleExact _) (wpAny_newObj_type (wpAny_bind (wpAny_pure (wpAny_pure ⟨_, rfl, wpAny_pure h⟩))) ok)
    | exact wpAny_bind (wpAny_bind (m := Builtin.Tuple.tupleExact _) (wpAny_newObj_type (wpAny_pure (wpAny_pure ⟨_, rfl, wpAny_pure h⟩)) ok))
    | exact wpAny_bind (wpAny_bind (m := Builtin.Tuple.tupleExact _) (wpAny_newObj_type (wpAny_pure ⟨_, rfl, wpAny_pure h⟩) ok))
end
section
variable {X : Cx}
def tRevT (te : TE) : TE := fun σ H Q => te σ H fun x H1 => ∃ a xs, x = .ref a ∧ H1 a = some (.tup xs) ∧ ∀ p, H1 p = none → Q (.ref p) (upd H1 p (.tup xs.reverse))
theorem pe_revT {e : Expr} {te : TE} {k : Nat} {p1 p2 p3 pos : Pos} (he : PE X e te) : PE X (.Subscript e (.Slice none none (some (.UnaryOp .USub (.Constant (.int 1) k p1) p2)) p3) pos) (tRevT te) := by
  refine ⟨fun pins s σ H Q I h => Subscript_ (thn (he.run pins s σ H _ I h) fun v s1 ⟨x, H1, I1, r1, a, xs, ex, hx, q⟩ => ?_)⟩
  subst ex
  cases r1
  have st : PO X (some (.UnaryOp .USub (.Constant (.int 1) k p1) p2)) (tPart (tUn (rU fun i => .int (-i)) (tC (.int 1)))) := po_some (pe_un un_neg pe_int)
  refine wpAny_Slice (thn (po_none.run pins s1 σ H1 (fun o H2 => o = none ∧ H2 = H1) I1 ⟨rfl, rfl⟩) fun vl s2 ⟨l, H2, I2, pl, el, e2⟩ => ?_)
  subst el e2
  refine thn (po_none.run pins s2 σ H2 (fun o H3 => o = none ∧ H3 = H2) I2 ⟨rfl, rfl⟩) fun vu s3 ⟨u, H3, I3, pu, eu, e3⟩ => ?_
  subst eu e3
  refine thn (st.run pins s3 σ H3 (fun o H4 => o = some (-1) ∧ H4 = H3) I3 ⟨1, rfl, -1, rfl, rfl, rfl⟩) fun vs s4 ⟨o, H4, I4, ps, eo, e4⟩ => ?_
  subst eo e4
  have I5 : Inv X pins σ H4 { s4 with heap := s4.heap.push { cls := .type "slice", data := .fields #[vl, vu, vs] } } := I4.kept (t' := s4.toks) fun b ob q => Heap.get?_push_of_some _ q
  obtain ⟨its, r, ht, hz⟩ := I5.tuple (SqT.of (K := X.K) hx)
  show wpAny (model X.prog X.w) X.A (subscriptTail e (.Slice none none (some (.UnaryOp .USub (.Constant (.int 1) k p1) p2)) p3) (.ref a) (.ref s4.heap.objs.size)) (EP X pins σ Q) X.xe { s4 with heap := s4.heap.push { cls := .type "slice", data := .fields #[vl, vu, vs] } }
  cases pl
  cases pu
  cases ps
  refine tail_any (ops := [.ref a, .ref s4.heap.objs.size]) ht.typeIs (PyProof.Rows.slot_tuple_getitem.lookup) ?_ (by with_unfolding_all rfl)
  refine getItem_rev ht (Heap.IsSliceOf.new _ _ _ _) (by rw [List.size_toArray, ← r.length]; exact hz) ?_
  refine ⟨.ref _, _, I5.laid (t' := s4.toks) (o := .tup xs.reverse) (fun b ob q => Heap.get?_push_of_some _ q) (Nat.le_refl _) ?_, rfl, q _ (I5.hok.fresh (Nat.le_refl _))⟩
  exact ⟨by rw [List.length_reverse]; exact hz, its.reverse, r.reverse, ⟨_, Heap.get?_push_size _ rfl, rfl, _, rfl⟩⟩
end
end RT
set_option Elab.async false
set_option linter.all false
set_option maxRecDepth 100000
set_option maxHeartbeats 4000000
namespace K01
open PySem L2 L2H DQ RZ
theorem Gw.grow {m c l : Addr} {cs ls : List Int} {n : Int} {H H' H'' : Hp} (G : Gw m c l cs ls n H H') (s : Same H' H'') : Gw m c l cs ls n H H'' ∧ Same (fr H' m l) (fr H'' m l) := by
  have y : Same (fr H' m l) (fr H'' m l) := fun b o e => by
    obtain ⟨h1, h2, h3⟩ := fr_of e
    exact fr_some (s _ _ h3) h1 h2
  exact ⟨⟨G.mat.same s, G.sm.trans (.new s y)⟩, y⟩
theorem Gw.tupAt {m c l p : Addr} {cs ls : List Int} {n : Int} {H H' : Hp} {xs : List V} (G : Gw m c l cs ls n H H') (e : H' p = some (.tup xs)) : fr H' m l p = some (.tup xs) :=
  fr_some e (ne_of e G.mat.hm (by intro z; cases z)) (ne_of e G.mat.hl (by intro z; cases z))
/-- what bending does to data: bounds -/
def Bnt (N n : Nat) (d d' : PyData) : Prop := gd (N + 10) d' = true ∧ sz d' ≤ 2 * sz d + 6000 ∧ d'.depth ≤ n + 3
mutual
theorem gd_mono {N M : Nat} (h : N ≤ M) : ∀ d : PyData, gd N d = true → gd M d = true
  | .none, _ => rfl
  | .bool _, _ => rfl
  | .int i, z => by
    have y : i.natAbs ≤ N := of_decide_eq_true (by simpa [gd] using z)
    simp only [gd]
    exact decide_eq_true (Nat.le_trans y h)
  | .str _, z => by simpa [gd] using z
  | .list xs, z => by
    simp only [gd] at z ⊢
    exact gdAll_mono h xs z
  | .tuple xs, z => by
    simp only [gd] at z ⊢
    exact gdAll_mono h xs z
  | .dict _, z => by simpa [gd] using z
theorem gdAll_mono {N M : Nat} (h : N ≤ M) : ∀ ds : List PyData, gdAll N ds = true → gdAll M ds = true
  | [], _ => rfl
  | d :: ds, z => by
    have z' := Bool.and_eq_true_iff.mp (by simpa [gdAll] using z)
    simp only [gdAll, gd_mono h d z'.1, gdAll_mono h ds z'.2, Bool.and_self]
end
theorem bnt_odd {N n : Nat} (hN : 10 ^ 30 ≤ N) {d d' : PyData} (h : OddD d') : Bnt N n d d' := by
  obtain ⟨h1, h2, h3⟩ := h
  exact ⟨gd_mono (by omega) _ h1, by omega, by omega⟩
theorem szAll_len : ∀ ds : List PyData, 2 * ds.length ≤ szAll ds
  | [] => Nat.le_refl _
  | d :: ds => by
    have := szAll_len ds
    simp only [szAll, List.length_cons]
    omega
theorem szAll_split (ds : List PyData) (j : Nat) : szAll (ds.take j) + szAll (ds.drop j) = szAll ds := by
  rw [← szAll_app, List.take_append_drop]
theorem szAll_rev : ∀ ds : List PyData, szAll ds.reverse = szAll ds
  | [] => rfl
  | d :: ds => by
    rw [List.reverse_cons, szAll_app, szAll_rev ds]
    simp only [szAll]
    omega
theorem dp_all {ds : List PyData} {k : Nat} : PyData.depthAll ds ≤ k ↔ ∀ d ∈ ds, d.depth ≤ k := by
  induction ds with
  | nil => simp [PyData.depthAll]
  | cons d ds ih =>
    simp only [PyData.depthAll, List.mem_cons, forall_eq_or_imp, ← ih]
    omega
theorem drop_at {ds : List PyData} {j : Nat} {e : PyData} (h : ds[j]? = some e) : ds.drop j = e :: ds.drop (j + 1) := by
  obtain ⟨h1, h2⟩ := List.getElem?_eq_some_iff.mp h
  rw [← h2, ← List.drop_eq_getElem_cons h1]
section
variable {N n : Nat} {ds : List PyData} (hg : gdAll N ds = true) (hd : PyData.depthAll ds + 1 + 1 ≤ n)
include hg hd
theorem bnt_cut (j : Nat) : Bnt N n (.tuple ds) (.tuple (ds.take j ++ ds.drop (j + 1))) := by
  have h := gdAll_iff.mp hg
  have hk := dp_all.mp (Nat.le_refl (PyData.depthAll ds))
  have mem : ∀ x ∈ ds.take j ++ ds.drop (j + 1), x ∈ ds := fun x hx => (List.mem_append.mp hx).elim List.mem_of_mem_take List.mem_of_mem_drop
  refine ⟨?_, ?_, ?_⟩
  · simp only [gd]
    exact gdAll_iff.mpr fun x hx => gd_mono (by omega) _ (h x (mem x hx))
  · have z := szAll_split ds j
    have z2 := szAll_split (ds.drop j) 1
    rw [List.drop_drop] at z2
    simp only [sz, szAll_app]
    omega
  · have : PyData.depthAll (ds.take j ++ ds.drop (j + 1)) ≤ PyData.depthAll ds := dp_all.mpr fun x hx => hk x (mem x hx)
    simp only [PyData.depth]
    omega
theorem bnt_twice (j : Nat) : Bnt N n (.tuple ds) (.tuple (ds ++ (ds.drop j).take 1)) := by
  have h := gdAll_iff.mp hg
  have hk := dp_all.mp (Nat.le_refl (PyData.depthAll ds))
  have mem : ∀ x ∈ ds ++ (ds.drop j).take 1, x ∈ ds := fun x hx => (List.mem_append.mp hx).elim id fun y => List.mem_of_mem_drop (List.mem_of_mem_take y)
  refine ⟨?_, ?_, ?_⟩
  · simp only [gd]
    exact gdAll_iff.mpr fun x hx => gd_mono (by omega) _ (h x (mem x hx))
  · have z := szAll_split ds j
    have z2 := szAll_split (ds.drop j) 1
    simp only [sz, szAll_app]
    omega
  · have : PyData.depthAll (ds ++ (ds.drop j).take 1) ≤ PyData.depthAll ds := dp_all.mpr fun x hx => hk x (mem x hx)
    simp only [PyData.depth]
    omega
theorem bnt_list : Bnt N n (.tuple ds) (.list ds) := by
  refine ⟨?_, ?_, ?_⟩
  · simp only [gd]
    exact gdAll_mono (by omega) _ hg
  · simp only [sz]
    omega
  · simp only [PyData.depth]
    omega
theorem bnt_rev : Bnt N n (.tuple ds) (.tuple ds.reverse) := by
  have h := gdAll_iff.mp hg
  have hk := dp_all.mp (Nat.le_refl (PyData.depthAll ds))
  refine ⟨?_, ?_, ?_⟩
  · simp only [gd]
    exact gdAll_iff.mpr fun x hx => gd_mono (by omega) _ (h x (List.mem_reverse.mp hx))
  · simp only [sz, szAll_rev]
    omega
  · have : PyData.depthAll ds.reverse ≤ PyData.depthAll ds := dp_all.mpr fun x hx => hk x (List.mem_reverse.mp hx)
    simp only [PyData.depth]
    omega
theorem bnt_put (j : Nat) {o : PyData} (hN : 10 ^ 30 ≤ N) (ho : OddD o) : Bnt N n (.tuple ds) (.tuple (ds.take j ++ [o] ++ ds.drop j)) := by
  have h := gdAll_iff.mp hg
  have hk := dp_all.mp (Nat.le_refl (PyData.depthAll ds))
  obtain ⟨h1, h2, h3⟩ := ho
  have mem : ∀ x ∈ ds.take j ++ [o] ++ ds.drop j, x ∈ ds ∨ x = o := fun x hx => by
    rcases List.mem_append.mp hx with hx | hx
    · rcases List.mem_append.mp hx with hx | hx
      · exact .inl (List.mem_of_mem_take hx)
      · exact .inr (List.mem_singleton.mp hx)
    · exact .inl (List.mem_of_mem_drop hx)
  refine ⟨?_, ?_, ?_⟩
  · simp only [gd]
    refine gdAll_iff.mpr fun x hx => ?_
    rcases mem x hx with z | rfl
    · exact gd_mono (by omega) _ (h x z)
    · exact gd_mono (by omega) _ h1
  · have z := szAll_split ds j
    simp only [sz, szAll_app, szAll]
    omega
  · have : PyData.depthAll (ds.take j ++ [o] ++ ds.drop j) ≤ max (PyData.depthAll ds) 3 := dp_all.mpr fun x hx => by
      rcases mem x hx with z | rfl
      · have := hk x z
        omega
      · omega
    simp only [PyData.depth]
    omega
theorem bnt_in {j : Nat} {e o : PyData} (he : ds[j]? = some e) (ho : Bnt N (n - 1) e o) : Bnt N n (.tuple ds) (.tuple (ds.take j ++ [o] ++ ds.drop (j + 1))) := by
  have h := gdAll_iff.mp hg
  have hk := dp_all.mp (Nat.le_refl (PyData.depthAll ds))
  obtain ⟨h1, h2, h3⟩ := ho
  have mem : ∀ x ∈ ds.take j ++ [o] ++ ds.drop (j + 1), x ∈ ds ∨ x = o := fun x hx => by
    rcases List.mem_append.mp hx with hx | hx
    · rcases List.mem_append.mp hx with hx | hx
      · exact .inl (List.mem_of_mem_take hx)
      · exact .inr (List.mem_singleton.mp hx)
    · exact .inl (List.mem_of_mem_drop hx)
  refine ⟨?_, ?_, ?_⟩
  · simp only [gd]
    refine gdAll_iff.mpr fun x hx => ?_
    rcases mem x hx with z | rfl
    · exact gd_mono (by omega) _ (h x z)
    · exact h1
  · have z := szAll_split ds j
    rw [drop_at he] at z
    simp only [szAll] at z
    simp only [sz, szAll_app, szAll]
    omega
  · have : PyData.depthAll (ds.take j ++ [o] ++ ds.drop (j + 1)) ≤ n + 2 := dp_all.mpr fun x hx => by
      rcases mem x hx with z | rfl
      · have := hk x z
        omega
      · omega
    simp only [PyData.depth]
    omega
end
theorem ok_app {x y : Str} (hx : PyData.strOk x = true) (hy : PyData.strOk y = true) : PyData.strOk (x ++ y) = true := by
  have e : ((x ++ y : Str).cps) = x.cps ++ y.cps := rfl
  unfold PyData.strOk at *
  rw [e]
  simp only [Array.all_append, Bool.and_eq_true]
  exact ⟨hx, hy⟩
theorem ok_sub {x y : Str} (hx : PyData.strOk x = true) (h : ∀ c ∈ y.cps.toList, c ∈ x.cps.toList) : PyData.strOk y = true := by
  unfold PyData.strOk at *
  rw [← Array.all_toList] at hx ⊢
  exact List.all_eq_true.mpr fun c hc => List.all_eq_true.mp hx c (h c hc)
theorem ok_cut {x : Str} {lo hi : Option Int} (hx : PyData.strOk x = true) : PyData.strOk (cutS x lo hi) = true := by
  refine ok_sub hx fun c hc => ?_
  have hc' : c ∈ (x.cps.toList.drop (HT.sIx x.length 0 lo)).take (HT.sIx x.length x.length hi - HT.sIx x.length 0 lo) := hc
  exact List.mem_of_mem_drop (List.mem_of_mem_take hc')
theorem bnt_str {N n : Nat} {x y : Str} (ok : PyData.strOk y = true) (hl : y.length ≤ 2 * x.length + 10) : Bnt N n (.str x) (.str y) := by
  refine ⟨?_, ?_, Nat.zero_le _⟩
  · simpa [gd] using ok
  · simp only [sz]
    omega
theorem bnt_int {N n : Nat} {i j : Int} (h : gd N (.int i) = true) (hj : j.natAbs ≤ 10) : Bnt N n (.int i) (.int (i + j)) := by
  have y : i.natAbs ≤ N := of_decide_eq_true (by simpa [gd] using h)
  refine ⟨?_, ?_, Nat.zero_le _⟩
  · simp only [gd]
    exact decide_eq_true (by omega)
  · simp only [sz]
    omega
end K01
set_option Elab.async false
set_option linter.all false
set_option maxRecDepth 100000
set_option maxHeartbeats 4000000
namespace K01
open PySem L2 L2H DQ RZ
/-- _law_bent: data of depth below n; the same with something otherwise -/
def spBe (N n : Nat) : Sp := fun vs H Q _ => ∃ (m c l : Addr) (cs ls : List Int) (k : Int) (v : V) (d : PyData), vs = [.ref m, v] ∧ MAt H m c l cs ls k ∧ k + 10 * (n : Int) ≤ 1000000000 ∧ Dq (fr H m l) v d ∧ gd N d = true ∧ sz d ≤ 400000 ∧ d.depth + 1 ≤ n ∧
  ∀ r d' H' l' ls' k', MAt H' m c l' cs ls' k' → k' ≤ k + 10 * (n : Int) → Fs H m l H' l' → Dq (fr H' m l') r d' → Bnt N n d d' → Q r H'
section
variable {P : Program} {w : World} {K : PySem.W.Frag} {mg : Str → Option Value} {base : Heap}
theorem scBe : FnScope ["m", "thing", "at", "pick"] ["m", "thing"] (defScope sBent) := ⟨rfl, rfl, rfl, by decide +kernel, rfl, by decide +kernel, by decide +kernel⟩
theorem ok_bent {f fN fO : Addr} {fd dN dO : FuncData} (F : Fun K "_law_bent" "_law_bent" sBent f fd) (bF : Binds K fd ["m", "thing"] []) (gF : mg "_law_bent" = some (.ref f)) (FN : Fun K "_law_next" "_law_next" sNext fN dN) (bN : Binds K dN ["m", "many"] []) (gN : mg "_law_next" = some (.ref fN))
    (FO : Fun K "_law_odd" "_law_odd" sOdd fO dO) (bO : Binds K dO ["m"] []) (gO : mg "_law_odd" = some (.ref fO)) (T : TxtB mg) (TT : TP mg) (tB : mg "bool" = none) {N : Nat} (hN : 10 ^ 30 ≤ N) : ∀ n, n ≤ 40 → FnOk P w K mg base CX0 (4 + n) f fd ["m", "thing"] (spBe N n) := by
  have GN : FnOk P w K mg base CX0 1 fN dN ["m", "many"] spNx := (ok_next FN T).imp fun _ _ _ _ => nx_of
  have GO : FnOk P w K mg base CX0 3 fO dO ["m"] (spDr 1 OddD) := ok_odd FO FN bN gN T
  have bb : bootBuiltins ("bool" : Str) = some (.type "bool") := by decide +kernel
  have bi : bootBuiltins ("int" : Str) = some (.type "int") := by decide +kernel
  intro n
  induction n with
  | zero =>
    intro _
    refine ⟨fun vs H Q E h => ?_, fun A outer s H args us vs Q E hr he hb hv h => ?_⟩
    · obtain ⟨m, c, l, cs, ls, k, v, d, rfl, _⟩ := h
      rfl
    · obtain ⟨m, c, l, cs, ls, k, v, d, rfl, _, _, _, _, _, h0, _⟩ := h
      omega
  | succ n ih =>
    intro hk
    have GS : FnOk P w K mg base CX0 (4 + n) f fd ["m", "thing"] (spBe N n) := ih (by omega)
    refine F.ok (k := 4 + n) scBe (fun vs H Q E h => ?_) (fun cdv A outer s H vs Q E hr h => ?_)
    · obtain ⟨m, c, l, cs, ls, k, v, d, rfl, _⟩ := h
      rfl
    · have hu1 : (A.deeper (PyProof.Rows.envOfC "_law_bent" (defScope sBent) s.heap.objs.size f cdv)).units < cLine := by have := hr.un; omega
      refine ⟨_, pss_cons (ps_if (PW.pt (pw_and (pt_val (pe_callB call_isi (by rfl) TT.isi bisi (pa_cons (pv 1) (pa_cons (pe_bltn (v := .ty "str") (by rfl) TT.str bstr rfl) pa_nil)))) (pw_and1 (pt_cmpR op_eq (pe_call GN (hr.mono (by omega)) (by rfl) gN FN.kp bN .nil pass0 (pa_cons (pv 0) (pa_cons pe_int pa_nil))) pe_int (by rfl)))))
          (pss_one (ps_ret (pe_ix ix_list (pe_lst (pa_cons (pe_op op_add_str (pv 1) pe_str) (pa_cons (pe_slice sl_str (pv 1) (po_some pe_int) po_none) (pa_cons (pe_op op_add_str (pv 1) pe_str) (pa_cons (pe_op op_add_str (pv 1) pe_str) (pa_cons (pe_op NI.op_dbl (pv 1) pe_int) (pa_cons (pe_op op_add_str (pv 1) pe_str) pa_nil)))))))
            (pe_call GN (hr.mono (by omega)) (by rfl) gN FN.kp bN .nil pass0 (pa_cons (pv 0) (pa_cons pe_int pa_nil))) (fun _ _ => rfl)))) pss_nil)
        (pss_cons (ps_if (PW.pt (pw_and (pt_val (pe_callB call_isi (by rfl) TT.isi bisi (pa_cons (pv 1) (pa_cons (pe_bltn (v := .ty "int") (by rfl) T.int bi rfl) pa_nil)))) (pw_and (pt_not (pt_val (pe_callB call_isi (by rfl) TT.isi bisi (pa_cons (pv 1) (pa_cons (pe_bltn (v := .ty "bool") (by rfl) tB bb rfl) pa_nil)))))
            (pw_and1 (pt_cmpR op_eq (pe_call GN (hr.mono (by omega)) (by rfl) gN FN.kp bN .nil pass0 (pa_cons (pv 0) (pa_cons pe_int pa_nil))) pe_int (by rfl))))))
          (pss_one (ps_ret (pe_op op_add (pv 1) (pe_ix ix_list (pe_lst (pa_cons pe_int (pa_cons (pe_un un_neg pe_int) (pa_cons pe_int (pa_cons (pe_un un_neg pe_int) (pa_cons pe_int (pa_cons (pe_un un_neg pe_int) pa_nil)))))))
            (pe_call GN (hr.mono (by omega)) (by rfl) gN FN.kp bN .nil pass0 (pa_cons (pv 0) (pa_cons pe_int pa_nil))) (fun _ _ => rfl))))) pss_nil)
        (pss_cons (ps_if (PW.pt (pw_or (pt_not (pt_val (pe_callB call_isi (by rfl) TT.isi bisi (pa_cons (pv 1) (pa_cons (pe_bltn (v := .ty "tuple") (by rfl) TT.tuple btup rfl) pa_nil))))) (pw_or (pt_cmpR (NI.op_eqNilT hu1) (pv 1) (pe_tup pa_nil) (by rfl))
            (pw_or1 (pt_cmpR op_eq (pe_call GN (hr.mono (by omega)) (by rfl) gN FN.kp bN .nil pass0 (pa_cons (pv 0) (pa_cons pe_int pa_nil))) pe_int (by rfl))))))
          (pss_one (ps_ret (pe_call GO (hr.mono (by omega)) (by rfl) gO FO.kp bO .nil pass0 (pa_cons (pv 0) pa_nil)))) pss_nil)
        (pss_cons (ps_par rfl scBe.nd (i := 2) (j := 3) rfl rfl (by decide) rfl rfl (pa_cons (pe_call GN (hr.mono (by omega)) (by rfl) gN FN.kp bN .nil pass0 (pa_cons (pv 0) (pa_cons (pe_callB call_len_seq (by rfl) T.len PySem.boot_len (pa_cons (pv 1) pa_nil)) pa_nil)))
            (pa_cons (pe_call GN (hr.mono (by omega)) (by rfl) gN FN.kp bN .nil pass0 (pa_cons (pv 0) (pa_cons pe_int pa_nil))) pa_nil)) rfl)
        (pss_cons (ps_if (pt_cmpR op_eq (pv 3) pe_int (by rfl)) (pss_one (ps_ret (pe_op op_catF (pe_slice sl_tupF (pv 1) po_none (po_some (pv 2))) (pe_slice sl_tupF (pv 1) (po_some (pe_op op_add (pv 2) pe_int)) po_none)))) pss_nil)
        (pss_cons (ps_if (pt_cmpR op_eq (pv 3) pe_int (by rfl)) (pss_one (ps_ret (pe_op op_catF (pv 1) (pe_slice sl_tupF (pv 1) (po_some (pv 2)) (po_some (pe_op op_add (pv 2) pe_int)))))) pss_nil)
        (pss_cons (ps_if (pt_cmpR op_eq (pv 3) pe_int (by rfl)) (pss_one (ps_ret (pe_callTy call_list_of (by rfl) T.list blist (pa_cons (pv 1) pa_nil)))) pss_nil)
        (pss_cons (ps_if (pt_cmpR op_eq (pv 3) pe_int (by rfl)) (pss_one (ps_ret (pe_op op_catF (pe_op op_catF (pe_slice sl_tupF (pv 1) po_none (po_some (pv 2))) (pe_tup (pa_cons (pe_call GO (hr.mono (by omega)) (by rfl) gO FO.kp bO .nil pass0 (pa_cons (pv 0) pa_nil)) pa_nil))) (pe_slice sl_tupF (pv 1) (po_some (pv 2)) po_none)))) pss_nil)
        (pss_cons (ps_if (pt_cmpR op_eq (pv 3) pe_int (by rfl)) (pss_one (ps_ret (RT.pe_revT (pv 1)))) pss_nil)
        (pss_one (ps_ret (pe_op op_catF (pe_op op_catF (pe_slice sl_tupF (pv 1) po_none (po_some (pv 2))) (pe_tup (pa_cons (pe_call GS hr (by rfl) gF F.kp bF .nil pass0 (pa_cons (pv 0) (pa_cons (pe_ix ix_tup (pv 1) (pv 2) (fun _ _ => rfl)) pa_nil))) pa_nil))) (pe_slice sl_tupF (pv 1) (po_some (pe_op op_add (pv 2) pe_int)) po_none)))))))))))), ?_⟩
      obtain ⟨m, c, l, cs, ls, k0, v, d, rfl, M, hn, hd, hg, hz, hdp, k⟩ := h
      have odd : ∀ H1 l1 ls1 k1, MAt H1 m c l1 cs ls1 k1 → k1 ≤ k0 + 5 → Fs H m l H1 l1 → spDr 1 OddD [V.ref m] H1 Q (fun _ _ _ => False) := fun H1 l1 ls1 k1 M1 h1 s1 =>
        ⟨m, c, l1, cs, ls1, k1, rfl, M1, by omega, fun r d' H' l' ls' k' M' hk' s' hq' ho => k r d' H' l' ls' k' M' (by omega) (s1.trans s') hq' (bnt_odd hN ho)⟩
      have hdF : ∀ {H1 l1}, Fs H m l H1 l1 → Dq H1 v d := fun s => (hd.same s.1).same fr_same
      refine ⟨_, rfl, _, .ty "str", _, _, _, rfl, .ty _, (hdF .refl).ty, kit_ty (ks d), _, rfl, ?_⟩
      cases d with
      | none => 
        refine iteF (iteF ⟨_, rfl, _, .ty "int", _, _, _, rfl, .ty _, (hdF .refl).ty, kit_ty (ki _), _, rfl, iteF (iteF ⟨_, rfl, _, .ty "tuple", _, _, _, rfl, .ty _, (hdF .refl).ty, kit_ty (kt _), _, rfl, iteT (iteT ⟨_, rfl, odd H l ls k0 M (by omega) .refl⟩)⟩)⟩)
      | bool b =>
        refine iteF (iteF ⟨_, rfl, _, .ty "int", _, _, _, rfl, .ty _, (hdF .refl).ty, kit_ty (ki _), _, rfl, iteT ⟨_, rfl, _, .ty "bool", _, _, _, rfl, .ty _, (hdF .refl).ty, kit_ty (kb _), _, rfl, iteF (iteF ⟨_, rfl, _, .ty "tuple", _, _, _, rfl, .ty _, (hdF .refl).ty, kit_ty (kt _), _, rfl, iteT (iteT ⟨_, rfl, odd H l ls k0 M (by omega) .refl⟩)⟩)⟩⟩)
      | list xs =>
        refine iteF (iteF ⟨_, rfl, _, .ty "int", _, _, _, rfl, .ty _, (hdF .refl).ty, kit_ty (ki _), _, rfl, iteF (iteF ⟨_, rfl, _, .ty "tuple", _, _, _, rfl, .ty _, (hdF .refl).ty, kit_ty (kt _), _, rfl, iteT (iteT ⟨_, rfl, odd H l ls k0 M (by omega) .refl⟩)⟩)⟩)
      | dict xs =>
        refine iteF (iteF ⟨_, rfl, _, .ty "int", _, _, _, rfl, .ty _, (hdF .refl).ty, kit_ty (ki _), _, rfl, iteF (iteF ⟨_, rfl, _, .ty "tuple", _, _, _, rfl, .ty _, (hdF .refl).ty, kit_ty (kt _), _, rfl, iteT (iteT ⟨_, rfl, odd H l ls k0 M (by omega) .refl⟩)⟩)⟩)
      | int i =>
        refine iteF (iteF ⟨_, rfl, _, .ty "int", _, _, _, rfl, .ty _, (hdF .refl).ty, kit_ty (ki _), _, rfl, iteT ⟨_, rfl, _, .ty "bool", _, _, _, rfl, .ty _, (hdF .refl).ty, kit_ty (kb _), _, rfl, iteT ?_⟩⟩)
        refine ⟨_, rfl, m, c, l, 2, cs, ls, k0, rfl, M, by decide, by decide, by omega, fun r H1 l1 ls1 k1 r0 r1 M1 nn1 s1 => ⟨rfl, _, rfl, ?_⟩⟩
        refine ite2 (fun _ => ?_) (fun _ => ?_)
        · have ev : v = V.int i := by cases hd; rfl
          subst ev
          refine ⟨_, rfl, _, rfl, _, rfl, _, rfl, by show 6 ≤ sizeLine; decide, fun pl npl => ?_⟩
          have G1 : Gw m c l1 cs ls1 k1 H1 H1 := ⟨M1, .refl⟩
          obtain ⟨G2, t2, e2⟩ := G1.new (o := .lst [.int 1, .int (-1), .int 2, .int (-2), .int 10, .int (-10)]) npl
          refine ⟨_, rfl, m, c, l1, 6, cs, ls1, k1, rfl, G2.mat, by decide, by decide, by omega, fun r2 H2 l2 ls2 k2 r20 r21 M2 nn2 s2 => ?_⟩
          obtain ⟨j, hj, hj10⟩ : ∃ j : Int, atI [V.int 1, V.int (-1), V.int 2, V.int (-2), V.int 10, V.int (-10)] r2 = some (V.int j) ∧ j.natAbs ≤ 10 := by
            obtain ⟨u, hu⟩ : ∃ u : Nat, r2 = (u : Int) := ⟨r2.toNat, by omega⟩
            subst hu
            have h6 : u < 6 := by omega
            match u, h6 with
            | 0, _ => exact ⟨_, atI_nat (j := 0) rfl, by decide⟩
            | 1, _ => exact ⟨_, atI_nat (j := 1) rfl, by decide⟩
            | 2, _ => exact ⟨_, atI_nat (j := 2) rfl, by decide⟩
            | 3, _ => exact ⟨_, atI_nat (j := 3) rfl, by decide⟩
            | 4, _ => exact ⟨_, atI_nat (j := 4) rfl, by decide⟩
            | 5, _ => exact ⟨_, atI_nat (j := 5) rfl, by decide⟩
          refine ⟨pl, _, r2, _, rfl, rfl, SqL.of (fr_of (s2.1 _ _ e2)).2.2, hj, _, _, rfl, rfl, ?_⟩
          exact k _ (.int (i + j)) H2 l2 ls2 k2 M2 (by omega) (s1.trans (G2.sm.trans s2)) (.int _) (bnt_int hg hj10)
        · refine ⟨_, rfl, _, .ty "tuple", _, _, _, rfl, .ty _, (hdF s1).ty, kit_ty (kt _), _, rfl, iteT (iteT ⟨_, rfl, odd H1 l1 ls1 k1 M1 (by omega) s1⟩)⟩
      | str x =>
        refine iteT ⟨_, rfl, m, c, l, 2, cs, ls, k0, rfl, M, by decide, by decide, by omega, fun r H1 l1 ls1 k1 r0 r1 M1 nn1 s1 => ⟨rfl, _, rfl, ?_⟩⟩
        refine ite2 (fun _ => ?_) (fun _ => ?_)
        · have ev : v = V.str x ∧ x.length ≤ sizeLine := by
            cases hd with
            | str _ hx => exact ⟨rfl, hx.1⟩
          obtain ⟨ev, _⟩ := ev
          subst ev
          have okx : PyData.strOk x = true := by simpa [gd] using hg
          have hx : x.length ≤ 40000 := by
            simp only [sz] at hz
            omega
          have app : ∀ y : Str, y.length = 1 → (x ++ y).length = x.length + 1 := fun y hy => by rw [strLen_append, hy]
          have l1' : ∀ y : Str, y.length = 1 → x.length + y.length ≤ sizeLine := fun y hy => by
            rw [hy]
            exact Nat.le_trans (show x.length + 1 ≤ 40001 by omega) (by decide)
          refine ⟨_, rfl, _, _, rfl, rfl, l1' _ (by decide +kernel), _, rfl, 1, rfl, x, rfl, Nat.le_trans hx (by decide), _, rfl, _, _, rfl, rfl, l1' _ (by decide +kernel), _, rfl, _, _, rfl, rfl, l1' _ (by decide +kernel), _, rfl, x, rfl, rfl, by omega, fun y hy1 hy2 => ?_⟩
          refine ⟨_, rfl, _, _, rfl, rfl, l1' _ (by decide +kernel), by show 6 ≤ sizeLine; decide, fun pl npl => ?_⟩
          have G1 : Gw m c l1 cs ls1 k1 H1 H1 := ⟨M1, .refl⟩
          obtain ⟨G2, t2, e2⟩ := G1.new (o := .lst [.str (x ++ "b"), .str (cutS x (some 1) none), .str (x ++ "A"), .str (x ++ " "), .str y, .str (x ++ "1")]) npl
          refine ⟨_, rfl, m, c, l1, 6, cs, ls1, k1, rfl, G2.mat, by decide, by decide, by omega, fun r2 H2 l2 ls2 k2 r20 r21 M2 nn2 s2 => ?_⟩
          obtain ⟨z, hj, okz, hzl⟩ : ∃ z : Str, atI [V.str (x ++ "b"), V.str (cutS x (some 1) none), V.str (x ++ "A"), V.str (x ++ " "), V.str y, V.str (x ++ "1")] r2 = some (V.str z) ∧ PyData.strOk z = true ∧ z.length ≤ 2 * x.length + 10 := by
            obtain ⟨u, hu⟩ : ∃ u : Nat, r2 = (u : Int) := ⟨r2.toNat, by omega⟩
            subst hu
            have h6 : u < 6 := by omega
            match u, h6 with
            | 0, _ => exact ⟨_, atI_nat (j := 0) rfl, ok_app okx (by decide +kernel), by rw [app _ (by decide +kernel)]; omega⟩
            | 1, _ => exact ⟨_, atI_nat (j := 1) rfl, ok_cut okx, by have := cutS_length x (some 1) none; omega⟩
            | 2, _ => exact ⟨_, atI_nat (j := 2) rfl, ok_app okx (by decide +kernel), by rw [app _ (by decide +kernel)]; omega⟩
            | 3, _ => exact ⟨_, atI_nat (j := 3) rfl, ok_app okx (by decide +kernel), by rw [app _ (by decide +kernel)]; omega⟩
            | 4, _ => exact ⟨_, atI_nat (j := 4) rfl, ok_sub okx hy2, by omega⟩
            | 5, _ => exact ⟨_, atI_nat (j := 5) rfl, ok_app okx (by decide +kernel), by rw [app _ (by decide +kernel)]; omega⟩
          refine ⟨pl, _, r2, _, rfl, rfl, SqL.of (fr_of (s2.1 _ _ e2)).2.2, hj, ?_⟩
          exact k _ (.str z) H2 l2 ls2 k2 M2 (by omega) (s1.trans (G2.sm.trans s2)) (.str z ⟨Nat.le_trans (show z.length ≤ 80010 by omega) (by decide), okz⟩) (bnt_str okz hzl)
        · refine ⟨_, rfl, _, .ty "int", _, _, _, rfl, .ty _, (hdF s1).ty, kit_ty (ki _), _, rfl, iteF (iteF ⟨_, rfl, _, .ty "tuple", _, _, _, rfl, .ty _, (hdF s1).ty, kit_ty (kt _), _, rfl, iteT (iteT ⟨_, rfl, odd H1 l1 ls1 k1 M1 (by omega) s1⟩)⟩)⟩
      | tuple ds =>
        have hcs : ∃ ad xs, v = .ref ad ∧ fr H m l ad = some (.tup xs) ∧ DqAll (fr H m l) xs ds := by
          cases hd with
          | tup e a => exact ⟨_, _, rfl, e, a⟩
        obtain ⟨ad, xs, rfl, e, a⟩ := hcs
        have hgA : gdAll N ds = true := by simpa [gd] using hg
        have hdA : PyData.depthAll ds + 1 + 1 ≤ n + 1 := hdp
        have hlen : ds.length ≤ 200000 := by
          have := szAll_len ds
          simp only [sz] at hz
          omega
        have xl : xs.length = ds.length := a.len
        refine iteF (iteF ⟨_, rfl, _, .ty "int", _, _, _, rfl, .ty _, (hdF .refl).ty, kit_ty (ki _), _, rfl, iteF (iteF ⟨_, rfl, _, .ty "tuple", _, _, _, rfl, .ty _, (hdF .refl).ty, kit_ty (kt _), _, rfl, iteF ?_⟩)⟩)
        refine ⟨_, rfl, Nat.zero_le _, fun p np => ⟨ad, p, xs, rfl, rfl, SqT.of (same_new np _ _ (fr_of e).2.2), SqT.of upd_same, _, rfl, ?_⟩⟩
        have G0 : Gw m c l cs ls k0 H H := ⟨M, .refl⟩
        obtain ⟨G1, t1, _⟩ := G0.new (o := .tup []) np
        generalize upd H p (HO.tup []) = H1 at G1 t1
        by_cases he : xs = []
        · subst he
          exact iteT (iteT ⟨_, rfl, odd H1 l ls k0 G1.mat (by omega) G1.sm⟩)
        have hpos : 0 < xs.length := List.length_pos_iff.mpr he
        have hne : xs.isEmpty = false := by cases xs with | nil => exact absurd rfl he | cons _ _ => rfl
        rw [show id xs.isEmpty = false from hne]
        refine iteF ⟨_, rfl, m, c, l, 6, cs, ls, k0, rfl, G1.mat, by decide, by decide, by omega, fun r H2 l2 ls2 k2 r0 r1 M2 nn2 s2 => ⟨rfl, _, rfl, ?_⟩⟩
        refine ite2 (fun _ => ⟨_, rfl, odd H2 l2 ls2 k2 M2 (by omega) (G1.sm.trans s2)⟩) (fun _ => ?_)
        have e2 := s2.1 _ _ (t1 _ _ e)
        refine ⟨_, rfl, _, rfl, ad, _, rfl, .inr (SqT.of (fr_of e2).2.2), m, c, l2, _, cs, ls2, k2, rfl, M2, by omega, by omega, by omega, fun ia H3 l3 ls3 k3 ia0 ia1 M3 nn3 s3 => ?_⟩
        refine ⟨_, rfl, m, c, l3, 11, cs, ls3, k3, rfl, M3, by decide, by decide, by omega, fun pick H4 l4 ls4 k4 pk0 pk1 M4 nn4 s4 => ⟨_, _, rfl, ?_⟩⟩
        obtain ⟨j, rfl⟩ : ∃ j : Nat, ia = (j : Int) := ⟨ia.toNat, by omega⟩
        have hj : j < ds.length := by omega
        have F4 : Fs H m l H4 l4 := G1.sm.trans (s2.trans (s3.trans s4))
        have e4 : fr H4 m l4 ad = some (.tup xs) := s4.1 _ _ (s3.1 _ _ e2)
        have a4 : DqAll (fr H4 m l4) xs ds := a.same F4.1
        have G4 : Gw m c l4 cs ls4 k4 H4 H4 := ⟨M4, .refl⟩
        clear e2 s2 s3 s4 M2 M3
        have big : ∀ q : Nat, q ≤ 3 → ds.length + q ≤ sizeLine := fun q hq => Nat.le_trans (show ds.length + q ≤ 200003 by omega) (by decide)
        have fin : ∀ r d' H5, Same H4 H5 → Dq (fr H5 m l4) r d' → Bnt N (n + 1) (.tuple ds) d' → Q r H5 := fun r d' H5 s5 q5 b5 =>
          k r d' H5 l4 ls4 k4 (M4.same s5) (by omega) (F4.trans (G4.grow s5).1.sm) q5 b5
        refine ⟨_, rfl, rfl, _, rfl, ite2 (fun _ => ?_) (fun _ => ?_)⟩
        · refine ⟨_, rfl, _, rfl, j, rfl, ad, xs, rfl, (fr_of e4).2.2, fun p1 H5 s5 e5 => ?_⟩
          refine ⟨_, rfl, _, rfl, _, _, rfl, rfl, _, rfl, ad, xs, rfl, s5 _ _ (fr_of e4).2.2, fun p2 H6 s6 e6 => ?_⟩
          rw [cut_to] at e5
          rw [show ((j : Int) + 1) = ((j + 1 : Nat) : Int) by omega, cut_from] at e6
          refine ⟨p1, p2, _, _, rfl, rfl, s6 _ _ e5, e6, by rw [List.length_take, List.length_drop]; have := big 0 (by omega); omega, fun p3 H7 s7 e7 => ?_⟩
          have s47 := same_trans s5 (same_trans s6 s7)
          obtain ⟨G7, t7⟩ := G4.grow s47
          exact fin _ _ H7 s47 (.tup (G7.tupAt e7) (((a4.take j).app (a4.drop (j + 1))).same t7)) (bnt_cut hgA hdA j)
        refine ⟨_, rfl, rfl, _, rfl, ite2 (fun _ => ?_) (fun _ => ?_)⟩
        · refine ⟨_, rfl, _, rfl, _, rfl, j, rfl, _, rfl, _, _, rfl, rfl, _, rfl, ad, xs, rfl, (fr_of e4).2.2, fun p2 H6 s6 e6 => ?_⟩
          rw [cut_at xs (by omega)] at e6
          refine ⟨ad, p2, _, _, rfl, rfl, s6 _ _ (fr_of e4).2.2, e6, by rw [List.length_take]; have := big 1 (by omega); omega, fun p3 H7 s7 e7 => ?_⟩
          have s47 := same_trans s6 s7
          obtain ⟨G7, t7⟩ := G4.grow s47
          exact fin _ _ H7 s47 (.tup (G7.tupAt e7) ((a4.app ((a4.drop j).take 1)).same t7)) (bnt_twice hgA hdA j)
        refine ⟨_, rfl, rfl, _, rfl, ite2 (fun _ => ?_) (fun _ => ?_)⟩
        · refine ⟨_, rfl, ad, _, rfl, .inr (SqT.of (fr_of e4).2.2), fun p3 np3 => ?_⟩
          obtain ⟨G7, t7, e7⟩ := G4.new (o := .lst xs) np3
          exact fin _ _ _ (same_new np3) (.lst e7 (a4.same t7)) (bnt_list hgA hdA)
        refine ⟨_, rfl, rfl, _, rfl, ite2 (fun _ => ?_) (fun _ => ?_)⟩
        · refine ⟨_, rfl, _, rfl, j, rfl, ad, xs, rfl, (fr_of e4).2.2, fun p1 H5 s5 e5 => ?_⟩
          rw [cut_to] at e5
          obtain ⟨G5, t5⟩ := G4.grow s5
          refine ⟨_, rfl, m, c, l4, cs, ls4, k4, rfl, G5.mat, by omega, fun ro od H6 l6 ls6 k6 M6 nn6 s6 q6 ho => ?_⟩
          refine ⟨by show 1 ≤ sizeLine; decide, fun p2 np2 => ?_⟩
          have G6 : Gw m c l6 cs ls6 k6 H6 H6 := ⟨M6, .refl⟩
          obtain ⟨G7, t7, e7⟩ := G6.new (o := .tup [ro]) np2
          generalize upd H6 p2 (HO.tup [ro]) = H7 at G7 t7 e7
          have e5' := t7 _ _ (s6.1 _ _ (G5.tupAt e5))
          have e4' := t7 _ _ (s6.1 _ _ (t5 _ _ e4))
          have a7 := ((a4.same t5).same s6.1).same t7
          refine ⟨p1, p2, _, _, rfl, rfl, (fr_of e5').2.2, (fr_of e7).2.2, by rw [List.length_take]; have := big 1 (by omega); show _ + 1 ≤ _; omega, fun p3 H8 s8 e8 => ?_⟩
          refine ⟨_, rfl, _, rfl, j, rfl, ad, xs, rfl, s8 _ _ (fr_of e4').2.2, fun p4 H9 s9 e9 => ?_⟩
          rw [cut_from] at e9
          refine ⟨p3, p4, _, _, rfl, rfl, s9 _ _ e8, e9, by rw [List.length_append, List.length_take, List.length_drop]; have := big 1 (by omega); show _ + 1 + _ ≤ _; omega, fun p5 Ha sa ea => ?_⟩
          obtain ⟨Ga, ta⟩ := G7.grow (same_trans s8 (same_trans s9 sa))
          exact k _ _ Ha l6 ls6 k6 Ga.mat (by omega) (F4.trans (G5.sm.trans (s6.trans Ga.sm))) (.tup (Ga.tupAt ea) ((((a7.take j).app (.cons (q6.same t7) .nil)).app (a7.drop j)).same ta)) (bnt_put hgA hdA j hN ho)
        refine ⟨_, rfl, rfl, _, rfl, ite2 (fun _ => ?_) (fun _ => ?_)⟩
        · refine ⟨_, rfl, ad, xs, rfl, (fr_of e4).2.2, fun p3 np3 => ?_⟩
          obtain ⟨G7, t7, e7⟩ := G4.new (o := .tup xs.reverse) np3
          exact fin _ _ _ (same_new np3) (.tup e7 (a4.rev.same t7)) (bnt_rev hgA hdA)
        · refine ⟨_, rfl, _, rfl, j, rfl, ad, xs, rfl, (fr_of e4).2.2, fun p1 H5 s5 e5 => ?_⟩
          rw [cut_to] at e5
          obtain ⟨G5, t5⟩ := G4.grow s5
          obtain ⟨ve, hve, qe⟩ := (a4.same t5).at (List.getElem?_eq_getElem hj)
          have hej : ds[j]? = some ds[j] := List.getElem?_eq_getElem hj
          have memj : ds[j] ∈ ds := List.getElem_mem hj
          have gj := gdAll_iff.mp hgA _ memj
          have zj := sz_mem memj
          have dj := dp_mem memj
          generalize ds[j] = dj0 at qe hej gj zj dj
          have szj : sz dj0 ≤ 400000 := by
            simp only [sz] at hz
            omega
          refine ⟨_, rfl, _, rfl, _, rfl, ad, xs, (j : Int), ve, rfl, rfl, SqT.of (fr_of (t5 _ _ e4)).2.2, atI_nat hve, ?_⟩
          refine ⟨m, c, l4, cs, ls4, k4, ve, dj0, rfl, G5.mat, by omega, qe, gj, szj, by omega, fun ro od H6 l6 ls6 k6 M6 nn6 s6 q6 ho => ?_⟩
          refine ⟨by show 1 ≤ sizeLine; decide, fun p2 np2 => ?_⟩
          have G6 : Gw m c l6 cs ls6 k6 H6 H6 := ⟨M6, .refl⟩
          obtain ⟨G7, t7, e7⟩ := G6.new (o := .tup [ro]) np2
          generalize upd H6 p2 (HO.tup [ro]) = H7 at G7 t7 e7
          have e5' := t7 _ _ (s6.1 _ _ (G5.tupAt e5))
          have e4' := t7 _ _ (s6.1 _ _ (t5 _ _ e4))
          have a7 := ((a4.same t5).same s6.1).same t7
          refine ⟨p1, p2, _, _, rfl, rfl, (fr_of e5').2.2, (fr_of e7).2.2, by rw [List.length_take]; have := big 1 (by omega); show _ + 1 ≤ _; omega, fun p3 H8 s8 e8 => ?_⟩
          refine ⟨_, rfl, _, rfl, _, _, rfl, rfl, _, rfl, ad, xs, rfl, s8 _ _ (fr_of e4').2.2, fun p4 H9 s9 e9 => ?_⟩
          rw [show ((j : Int) + 1) = ((j + 1 : Nat) : Int) by omega, cut_from] at e9
          refine ⟨p3, p4, _, _, rfl, rfl, s9 _ _ e8, e9, by rw [List.length_append, List.length_take, List.length_drop]; have := big 1 (by omega); show _ + 1 + _ ≤ _; omega, fun p5 Ha sa ea => ?_⟩
          obtain ⟨Ga, ta⟩ := G7.grow (same_trans s8 (same_trans s9 sa))
          exact k _ _ Ha l6 ls6 k6 Ga.mat (by omega) (F4.trans (G5.sm.trans (s6.trans Ga.sm))) (.tup (Ga.tupAt ea) ((((a7.take j).app (.cons (q6.same t7) .nil)).app (a7.drop (j + 1))).same ta)) (bnt_in hgA hdA hej ho)
end
end K01
set_option Elab.async false
set_option linter.all false
set_option maxRecDepth 100000
set_option maxHeartbeats 4000000
/-! readings hand on what is wanted: monotone -/
namespace MO
open PySem L2
def MonoE (te : TE) : Prop := ∀ (σ : L2.St) (H : Hp) (Q Q' : VK), (∀ v H1, Q v H1 → Q' v H1) → te σ H Q → te σ H Q'
def MonoA (ta : TA) : Prop := ∀ (σ : L2.St) (H : Hp) (Q Q' : List V → Hp → Prop), (∀ v H1, Q v H1 → Q' v H1) → ta σ H Q → ta σ H Q'
def MonoT (tt : TT) : Prop := ∀ (σ : L2.St) (H : Hp) (Q Q' : Bool → Hp → Prop), (∀ b H1, Q b H1 → Q' b H1) → tt σ H Q → tt σ H Q'
def MonoR (r : R2) : Prop := ∀ (x y : V) (H : Hp) (Q Q' : VK), (∀ v H1, Q v H1 → Q' v H1) → r x y H Q → r x y H Q'
def MonoC (r : List V → Hp → VK → Prop) : Prop := ∀ (vs : List V) (H : Hp) (Q Q' : VK), (∀ v H1, Q v H1 → Q' v H1) → r vs H Q → r vs H Q'
theorem mo_var {i : Nat} : MonoE (tVar i) := fun σ H Q Q' h ⟨v, e, q⟩ => ⟨v, e, h _ _ q⟩
theorem mo_c {v : V} : MonoE (tC v) := fun σ H Q Q' h q => h _ _ q
theorem mo_nil : MonoA tNil := fun σ H Q Q' h q => h _ _ q
theorem mo_cons {te : TE} {ta : TA} (a : MonoE te) (b : MonoA ta) : MonoA (tCons te ta) := fun σ H Q Q' h q => a σ H _ _ (fun v H1 q1 => b σ H1 _ _ (fun vs H2 q2 => h _ _ q2) q1) q
theorem mo_tup {ta : TA} (a : MonoA ta) : MonoE (tTup ta) := fun σ H Q Q' h q => a σ H _ _ (fun vs H1 q1 => ⟨q1.1, fun p np => h _ _ (q1.2 p np)⟩) q
theorem mo_lst {ta : TA} (a : MonoA ta) : MonoE (tLst ta) := fun σ H Q Q' h q => a σ H _ _ (fun vs H1 q1 => ⟨q1.1, fun p np => h _ _ (q1.2 p np)⟩) q
theorem mo_op {r : R2} {ta tb : TE} (hr : MonoR r) (a : MonoE ta) (b : MonoE tb) : MonoE (tOp r ta tb) := fun σ H Q Q' h q => a σ H _ _ (fun v H1 q1 => b σ H1 _ _ (fun u H2 q2 => hr _ _ _ _ _ h q2) q1) q
theorem mo_test {te : TE} (a : MonoE te) : MonoT (tTest te) := fun σ H Q Q' h q => a σ H _ _ (fun v H1 ⟨k, e, q1⟩ => ⟨k, e, h _ _ q1⟩) q
theorem mo_and {t u : TT} (a : MonoT t) (b : MonoT u) : MonoT (tAnd t u) := fun σ H Q Q' h q => a σ H _ _ (fun c H1 q1 => by
  cases c with
  | true =>
    rw [if_pos rfl] at q1 ⊢
    exact b σ H1 _ _ h q1
  | false => exact h _ _ q1) q
theorem mo_or {t u : TT} (a : MonoT t) (b : MonoT u) : MonoT (tOr t u) := fun σ H Q Q' h q => a σ H _ _ (fun c H1 q1 => by
  cases c with
  | true => exact h _ _ q1
  | false => exact b σ H1 _ _ h q1) q
theorem mo_if {t : TT} {ta tb : TE} (a : MonoT t) (b : MonoE ta) (c : MonoE tb) : MonoE (tIf t ta tb) := fun σ H Q Q' h q => a σ H _ _ (fun k H1 q1 => by
  cases k with
  | true =>
    rw [if_pos rfl] at q1 ⊢
    exact b σ H1 _ _ h q1
  | false => exact c σ H1 _ _ h q1) q
theorem mr_ix {K : PySem.W.Frag} : MonoR (rIxT K) := fun x y H Q Q' h ⟨p, xs, i, v, e1, e2, e3, e4, q⟩ => ⟨p, xs, i, v, e1, e2, e3, e4, h _ _ q⟩
theorem mr_nilT {K : PySem.W.Frag} {f : Bool → Bool} : MonoR (NI.rNilT K f) := fun x y H Q Q' h ⟨a, b, xs, e1, e2, e3, e4, q⟩ => ⟨a, b, xs, e1, e2, e3, e4, h _ _ q⟩
theorem mr_i0 {g : Int → Int → V} : MonoR (rI0 g) := fun x y H Q Q' h ⟨i, j, e1, e2, q⟩ => ⟨i, j, e1, e2, h _ _ q⟩
theorem mc_nx (E : XK) : ∀ (vs : List V) (H : Hp) (Q Q' : VK), (∀ v H1, Q v H1 → Q' v H1) → K01.spNx vs H Q E → K01.spNx vs H Q' E := fun vs H Q Q' h ⟨m, c, l, many, cs, ls, n, e, M, h1, h2, h3, k⟩ =>
  ⟨m, c, l, many, cs, ls, n, e, M, h1, h2, h3, fun r H' l' ls' n' r0 r1 M' nn s => h _ _ (k r H' l' ls' n' r0 r1 M' nn s)⟩
end MO
namespace MO
open PySem L2
theorem mo_cb {r : List V → Hp → VK → Prop} {ta : TA} (hr : MonoC r) (a : MonoA ta) : MonoE (tCB r ta) := fun σ H Q Q' h q => a σ H _ _ (fun vs H1 q1 => hr _ _ _ _ h q1) q
theorem mo_call {sp : Sp} {dvs : List V} {E : XK} {ta : TA} (hr : ∀ vs H Q Q', (∀ v H1, Q v H1 → Q' v H1) → sp vs H Q E → sp vs H Q' E) (a : MonoA ta) : MonoE (tCall sp dvs E ta) := fun σ H Q Q' h q => a σ H _ _ (fun vs H1 q1 => hr _ _ _ _ h q1) q
theorem mc_len {K : PySem.W.Frag} : MonoC (fun xs H Q => ∃ p ys, xs = [.ref p] ∧ (SqL K H p ys ∨ SqT K H p ys) ∧ Q (.int ys.length) H) := fun vs H Q Q' h ⟨p, ys, e, s, q⟩ => ⟨p, ys, e, s, h _ _ q⟩
end MO
set_option Elab.async false
set_option linter.all false
set_option maxRecDepth 100000
set_option maxHeartbeats 4000000
namespace K01
open PySem L2 L2H DQ RZ
/-- a pair: a tree that is no call, n nodes, c calls -/
def Tp (k n c : Nat) (d : PyData) : Prop := ∃ (ms : List Str) (bs : List PyData) (n0 : Nat), d = .tuple [.tuple (ms.map PyData.str), .tuple bs] ∧ ms.Sublist abc3 ∧ bs.length ≤ 3 ∧ TcB k n0 c bs ∧ n = n0 + 1
theorem Tp.tc {k n c : Nat} {d : PyData} (h : Tp k n c d) : Tc k n c d := by
  obtain ⟨ms, bs, n0, rfl, h1, h2, h3, h4⟩ := h
  exact .mk h1 h2 (.inl ⟨rfl, rfl⟩) h3 h4 rfl
theorem Tc.tp {k n : Nat} {d : PyData} (h : Tc k n 0 d) : Tp k n 0 d := by
  cases h with
  | @mk _ _ _ n0 c0 c1 ms bs r h1 h2 h3 h4 e1 e2 =>
    rcases h3 with ⟨rfl, rfl⟩ | ⟨rfl, rfl⟩
    · obtain rfl : c1 = 0 := by omega
      exact ⟨ms, bs, n0, rfl, h1, h2, h4, e1⟩
    · omega
theorem tp_tup {ms : List Str} {bs : List PyData} (h : tupA bs = true) : tupO (.tuple [.tuple (ms.map PyData.str), .tuple bs]) = true := by
  simp only [tupO, tupA, tup_strs, h, Bool.and_self]
/-- the way down: what stands above, level by level; o nodes beside the way -/
inductive Spn (H : Hp) : List V → Nat → Nat → Prop
  | nil : Spn H [] 3 0
  | snoc {es : List V} {k o a b o' : Nat} {e : Addr} {v : V} {j : Nat} {ms : List Str} {bs : List PyData} {u : Str} {t : PyData} : Spn H es (k + 1) o → H e = some (.tup [v, .int (j : Int)]) → Dq H v (.tuple [.tuple (ms.map PyData.str), .tuple bs]) → tupA bs = true →
      ms.Sublist abc3 → bs.length ≤ 3 → bs[j]? = some (.tuple [.str u, t]) → efS u → TcB (k + 1) a 0 (bs.take j) → TcB (k + 1) b 0 (bs.drop (j + 1)) → o' = o + 1 + a + b → Spn H (es ++ [.ref e]) k o'
theorem Spn.keep {H H' : Hp} (s : ∀ b xs, H b = some (.tup xs) → H' b = some (.tup xs)) {es : List V} {k o : Nat} (h : Spn H es k o) : Spn H' es k o := by
  induction h with
  | nil => exact .nil
  | snoc h h1 h2 ht h3 h4 h5 h6 h7 h8 h9 ih => exact .snoc ih (s _ _ h1) (h2.tups s (tp_tup ht)) ht h3 h4 h5 h6 h7 h8 h9
theorem Spn.same {H H' : Hp} (s : Same H H') {es : List V} {k o : Nat} (h : Spn H es k o) : Spn H' es k o := h.keep fun b xs e => s _ _ e
theorem TcB.cut {k n c : Nat} {bs : List PyData} {j : Nat} (h : TcB k n c bs) (hj : j < bs.length) : ∃ k' u t n1 c1 a ca b cb, k = k' + 1 ∧ bs[j]? = some (.tuple [.str u, t]) ∧ efS u ∧ Tc k' n1 c1 t ∧ TcB k a ca (bs.take j) ∧ TcB k b cb (bs.drop (j + 1)) ∧ n = a + n1 + b ∧ c = ca + c1 + cb := by
  obtain ⟨n1, c1, n2, c2, hA, hB, e1, e2⟩ := h.take j
  have hd : bs.drop j = bs[j] :: bs.drop (j + 1) := List.drop_eq_getElem_cons hj
  rw [hd] at hB
  have hb : bs[j]? = some bs[j] := List.getElem?_eq_getElem hj
  generalize bs[j] = x at hB hb
  cases hB with
  | @cons k n c n' c' N C u t r hu ht hr f1 f2 => exact ⟨k, u, t, n, c, n1, c1, n', c', rfl, hb, hu, ht, hA, hr, by omega, by omega⟩
/-- trees of at most one level below the root -/
def spT1 : Sp := fun vs H Q _ => ∃ (m c l : Addr) (cs ls : List Int) (n e : Int), vs = [.ref m, .int 2, .int e] ∧ (e = 0 ∨ e = 1) ∧ MAt H m c l cs ls n ∧ n + 52 ≤ 1000000000 ∧
  ∀ r d q H' l' ls' n', MAt H' m c l' cs ls' n' → n' ≤ n + 52 → Fs H m l H' l' → Dq (fr H' m l') r d → Tc 1 q 0 d → (q : Int) ≤ 2 → Q r H'
theorem t1_or {vs : List V} {H : Hp} {Q : VK} {E : XK} (h : spT1 vs H Q E) : spTr 0 vs H Q E ∨ spTr 1 vs H Q E := by
  obtain ⟨m, c, l, cs, ls, n, e, rfl, he, M, hn, k⟩ := h
  have d0 : dn 0 = 10 := by decide
  have d1 : dn 1 = 52 := by decide
  rcases he with rfl | rfl
  · exact .inl ⟨m, c, l, cs, ls, n, 2, rfl, M, by omega, by decide, by decide, fun r d q H' l' ls' n' M' nn s q' t hq => k r d q H' l' ls' n' M' (by omega) s q' t.mono hq⟩
  · exact .inr ⟨m, c, l, cs, ls, n, 2, rfl, M, by omega, by decide, by decide, fun r d q H' l' ls' n' M' nn s q' t hq => k r d q H' l' ls' n' M' (by omega) s q' t hq⟩
theorem dq_tup {H : Hp} {v : V} {ds : List PyData} (h : Dq H v (.tuple ds)) : ∃ p xs, v = .ref p ∧ H p = some (.tup xs) ∧ DqAll H xs ds := by
  cases h with
  | tup e a => exact ⟨_, _, rfl, e, a⟩
theorem dq_pair {H : Hp} {v : V} {a b : PyData} (h : Dq H v (.tuple [a, b])) : ∃ p va vb, v = .ref p ∧ H p = some (.tup [va, vb]) ∧ Dq H va a ∧ Dq H vb b := by
  obtain ⟨p, xs, rfl, e, a⟩ := dq_tup h
  cases a with
  | cons qa q =>
  cases q with
  | cons qb q =>
  cases q
  exact ⟨p, _, _, rfl, e, qa, qb⟩
theorem dq_node {H : Hp} {v : V} {A B : List PyData} (h : Dq H v (.tuple [.tuple A, .tuple B])) : ∃ p va pb xs, v = .ref p ∧ H p = some (.tup [va, .ref pb]) ∧ Dq H va (.tuple A) ∧ H pb = some (.tup xs) ∧ DqAll H xs B := by
  obtain ⟨p, va, vb, rfl, e, qa, qb⟩ := dq_pair h
  obtain ⟨pb, xs, rfl, e2, a⟩ := dq_tup qb
  exact ⟨p, va, pb, xs, rfl, e, qa, e2, a⟩
def lenAt (H : Hp) (p : Addr) : Nat := match H p with | some (.lst xs) => xs.length | _ => 0
theorem gw_put {H : Hp} {m l D : Addr} {xs ys : List V} (h : fr H m l D = some (.lst xs)) : ∀ b zs, fr H m l b = some (.tup zs) → fr (upd H D (.lst ys)) m l b = some (.tup zs) := fun b zs z => by
  obtain ⟨h1, h2, h3⟩ := fr_of z
  refine fr_some ?_ h1 h2
  rw [upd_ne fun y => by rw [y, h] at z; cases z]
  exact h3
/-- a drawn body -/
def spBy : Sp := fun vs H Q _ => ∃ (m c l : Addr) (cs ls : List Int) (n size : Int), vs = [.ref m, .int size] ∧ MAt H m c l cs ls n ∧ n + 700 ≤ 1000000000 ∧ 2 ≤ size ∧ size ≤ 1000 ∧
  ∀ r d q H' l' ls' n', MAt H' m c l' cs ls' n' → n' ≤ n + 700 → Fs H m l H' l' → Dq (fr H' m l') r d → Tp 3 q 1 d → (q : Int) ≤ size + 1 → Q r H'
abbrev nBy : List Str := ["m", "size", "tree", "spine", "call", "at", "word", "above"]
theorem drop_atV {es : List V} {j : Nat} {e : V} (h : es[j]? = some e) : es.drop j = e :: es.drop (j + 1) := by
  obtain ⟨h1, h2⟩ := List.getElem?_eq_some_iff.mp h
  rw [← h2, ← List.drop_eq_getElem_cons h1]
section
variable {P : Program} {w : World} {K : PySem.W.Frag} {mg : Str → Option Value} {base : Heap}
theorem scBy : FnScope nBy ["m", "size"] (defScope sBody) := ⟨rfl, rfl, rfl, by decide +kernel, rfl, by decide +kernel, by decide +kernel⟩
theorem ok_body {f fN fT : Addr} {fd dN dT : FuncData} (F : Fun K "_law_body" "_law_body" sBody f fd) (FN : Fun K "_law_next" "_law_next" sNext fN dN) (bN : Binds K dN ["m", "many"] []) (gN : mg "_law_next" = some (.ref fN))
    (FT : Fun K "_law_tree" "_law_tree" sTree fT dT) (bT : Binds K dT ["m", "size", "deep"] []) (gT : mg "_law_tree" = some (.ref fT)) (T : TxtB mg) (tT : mg "tuple" = none) : FnOk P w K mg base CX0 7 f fd ["m", "size"] spBy := by
  have GN : FnOk P w K mg base CX0 1 fN dN ["m", "many"] spNx := (ok_next FN T).imp fun _ _ _ _ => nx_of
  have GT : FnOk P w K mg base CX0 6 fT dT ["m", "size", "deep"] (spTr 3) := ok_tree FT bT gT FN bN gN T tT 3 (by decide)
  have GA : FnOk P w K mg base CX0 3 fT dT ["m", "size", "deep"] (spTr 0) := ok_tree FT bT gT FN bN gN T tT 0 (by decide)
  have GB : FnOk P w K mg base CX0 4 fT dT ["m", "size", "deep"] (spTr 1) := ok_tree FT bT gT FN bN gN T tT 1 (by decide)
  have G1 : FnOk P w K mg base CX0 4 fT dT ["m", "size", "deep"] spT1 := ⟨fun vs H Q E h => (t1_or h).elim (GA.len vs H Q E) (GB.len vs H Q E), fun A outer s H args us vs Q E hr he hb hv h => (t1_or h).elim (GA.run A outer s H args us vs Q E (hr.mono (by decide)) he hb hv) (GB.run A outer s H args us vs Q E hr he hb hv)⟩
  have bi : bootBuiltins ("int" : Str) = some (.type "int") := by decide +kernel
  refine F.ok (k := 6) scBy (fun vs H Q E h => ?_) (fun cdv A outer s H vs Q E hr h => ?_)
  · obtain ⟨m, c, l, cs, ls, n, size, rfl, _⟩ := h
    rfl
  · obtain ⟨m, c, l, cs, ls, n, size, rfl, M, hn, sz2, sz9, kk⟩ := h
    have hu1 : (A.deeper (PyProof.Rows.envOfC "_law_body" (defScope sBody) s.heap.objs.size f cdv)).units < cLine := by have := hr.un; omega
    refine ⟨_, pss_cons (ps_set (i := 2) scBy.nd rfl (Or.inl rfl) (pe_call GT hr (by rfl) gT FT.kp bT .nil pass0 (pa_cons (pv 0) (pa_cons (pe_op op_sub (pv 1) pe_int) (pa_cons pe_int pa_nil)))))
      (pss_cons (ps_par rfl scBy.nd (i := 3) (j := 4) rfl rfl (by decide) rfl rfl (pa_cons (pe_lst pa_nil) (pa_cons (pe_op op_catF (pe_call G1 (hr.mono (by decide)) (by rfl) gT FT.kp bT .nil pass0 (pa_cons (pv 0) (pa_cons pe_int (pa_cons (pe_callTy call_int1 (by rfl) T.int bi (pa_cons (pe_cmpR op_eq (pe_call GN (hr.mono (by decide)) (by rfl) gN FN.kp bN .nil pass0 (pa_cons (pv 0) (pa_cons pe_int pa_nil))) pe_int (by rfl)) pa_nil)) pa_nil))))
          (pe_tup (pa_cons pe_str pa_nil))) pa_nil)) rfl)
      (pss_cons (ps_while PassesOwn.never (PW.pt (pw_and (pt_cmpR (NI.op_neNilT hu1) (pe_ix ix_tup (pv 2) pe_int (fun _ _ => rfl)) (pe_tup pa_nil) (by rfl)) (pw_and (pt_cmpR op_lt (pe_callB call_len_seq (by rfl) T.len PySem.boot_len (pa_cons (pv 3) pa_nil)) (pe_ifExp (pt_cmpR (NI.op_eqNilT hu1) (pe_ix ix_tup (pv 4) pe_int (fun _ _ => rfl)) (pe_tup pa_nil) (by rfl)) pe_int pe_int) (by rfl))
          (pw_and1 (pt_cmpR op_gt (pe_call GN (hr.mono (by decide)) (by rfl) gN FN.kp bN .nil pass0 (pa_cons (pv 0) (pa_cons pe_int pa_nil))) pe_int (by rfl))))))
        (pss_cons (ps_set (i := 5) scBy.nd rfl (Or.inl rfl) (pe_call GN (hr.mono (by decide)) (by rfl) gN FN.kp bN .nil pass0 (pa_cons (pv 0) (pa_cons (pe_callB call_len_seq (by rfl) T.len PySem.boot_len (pa_cons (pe_ix ix_tup (pv 2) pe_int (fun _ _ => rfl)) pa_nil)) pa_nil))))
        (pss_cons (ps_expr (pe_bm PySem.F.plainAttrs_list PySem.F.slot_list_append PySem.F.type_list_append mt_append (pv 3) (pa_cons (pe_tup (pa_cons (pv 2) (pa_cons (pv 5) pa_nil))) pa_nil)))
        (pss_one (ps_set (i := 2) scBy.nd rfl (Or.inl rfl) (pe_ix ix_tup (pe_ix ix_tup (pe_ix ix_tup (pv 2) pe_int (fun _ _ => rfl)) (pv 5) (fun _ _ => rfl)) pe_int (fun _ _ => rfl)))))))
      (pss_cons (ps_set (i := 6) scBy.nd rfl (Or.inl rfl) (pe_ix ix_list (pe_lst (pa_cons pe_str (pa_cons pe_str pa_nil))) (pe_callTy call_int1 (by rfl) T.int bi (pa_cons (pe_cmpR op_eq (pe_call GN (hr.mono (by decide)) (by rfl) gN FN.kp bN .nil pass0 (pa_cons (pv 0) (pa_cons pe_int pa_nil))) pe_int (by rfl)) pa_nil)) (fun _ _ => rfl)))
      (pss_cons (ps_set (i := 2) scBy.nd rfl (Or.inl rfl) (pe_tup (pa_cons (pe_ix ix_tup (pv 2) pe_int (fun _ _ => rfl)) (pa_cons (pe_op op_catF (pe_slice sl_tupF (pe_ix ix_tup (pv 2) pe_int (fun _ _ => rfl)) po_none (po_some pe_int)) (pe_tup (pa_cons (pe_tup (pa_cons (pv 6) (pa_cons (pv 4) pa_nil))) pa_nil))) pa_nil))))
      (pss_cons (ps_for PassesOwn.never rfl (pi_list (pe_revL (pv 3))) (pg_tup (n := 2) rfl (pgs_cons (pg_name (i := 7) scBy.nd rfl (Or.inl rfl)) (pgs_cons (pg_name (i := 5) scBy.nd rfl (Or.inl rfl)) pgs_nil)))
        (pss_one (ps_set (i := 2) scBy.nd rfl (Or.inl rfl) (pe_tup (pa_cons (pe_ix ix_tup (pv 7) pe_int (fun _ _ => rfl)) (pa_cons (pe_op op_catF (pe_op op_catF (pe_slice sl_tupF (pe_ix ix_tup (pv 7) pe_int (fun _ _ => rfl)) po_none (po_some (pv 5)))
            (pe_tup (pa_cons (pe_tup (pa_cons (pe_ix ix_tup (pe_ix ix_tup (pe_ix ix_tup (pv 7) pe_int (fun _ _ => rfl)) (pv 5) (fun _ _ => rfl)) pe_int (fun _ _ => rfl)) (pa_cons (pv 2) pa_nil))) pa_nil))) (pe_slice sl_tupF (pe_ix ix_tup (pv 7) pe_int (fun _ _ => rfl)) (po_some (pe_op op_add (pv 5) pe_int)) po_none)) pa_nil))))))
      (pss_one (ps_ret (pv 2)))))))), ?_⟩
    have d3 : dn 3 = 556 := by decide
    refine ⟨_, rfl, _, rfl, _, _, rfl, rfl, m, c, l, cs, ls, n, size - 1, rfl, M, by omega, by omega, by omega, fun vt dt nt H1 l1 ls1 n1 M1 nn1 s1 q1 t1 ht1 => ?_⟩
    refine ⟨Nat.zero_le _, fun sp nsp => ?_⟩
    have G1 : Gw m c l1 cs ls1 n1 H1 H1 := ⟨M1, .refl⟩
    obtain ⟨G2, u2, e2⟩ := G1.new (o := .lst []) nsp
    have q2 := q1.same u2
    have sp0 : H sp = none := s1.2 _ nsp
    have F2 := s1.trans G2.sm
    generalize upd H1 sp (HO.lst []) = H2 at G2 u2 e2 q2 F2
    have M2 := G2.mat
    clear G1 G2 u2 q1 s1 nsp
    refine ⟨_, rfl, _, rfl, m, c, l1, 4, cs, ls1, n1, rfl, M2, by decide, by decide, by omega, fun rb H3 l3 ls3 n3 rb0 rb1 M3 nn3 s3 => ⟨rfl, .inr ⟨_, rfl, ?_⟩⟩⟩
    refine ⟨m, c, l3, cs, ls3, n3, _, rfl, by split <;> simp, M3, by omega, fun vc0 dc0 nc H4 l4 ls4 n4 M4 nn4 s4 q4 t4 hc4 => ?_⟩
    refine ⟨by show 1 ≤ sizeLine; decide, fun pk npk => ?_⟩
    obtain ⟨msC, bsC, nbC, rfl, hmC, lbC, tbC, enC⟩ := t4.tp
    obtain ⟨pc, xc, rfl, ec, ac⟩ := dq_tup q4
    have G4 : Gw m c l4 cs ls4 n4 H4 H4 := ⟨M4, .refl⟩
    obtain ⟨G5, u5, e5⟩ := G4.new (o := .tup [.str "call"]) npk
    refine ⟨pc, pk, _, _, rfl, rfl, (fr_of (u5 _ _ ec)).2.2, upd_same, by rw [ac.len]; show 2 + 1 ≤ sizeLine; decide, fun vcA H6 s6 e6 => ⟨_, _, rfl, ?_⟩⟩
    obtain ⟨G6, u6⟩ := G5.grow s6
    have dcall : Dq (fr H6 m l4) (.ref vcA) (.tuple (.tuple (msC.map PyData.str) :: .tuple bsC :: [.str "call"])) :=
      .tup (G6.tupAt e6) (((ac.same u5).same u6).app (.cons (.str _ ⟨by decide +kernel, by decide +kernel⟩) .nil))
    have tcall : ∀ k, (bsC = [] ∨ 1 ≤ k) → Tc k nc 1 (.tuple (.tuple (msC.map PyData.str) :: .tuple bsC :: [.str "call"])) := fun k hk => by
      have zero : bsC = [] → Tc 0 nc 1 (.tuple (.tuple (msC.map PyData.str) :: .tuple bsC :: [.str "call"])) := fun z => by
        subst z
        cases tbC
        exact .mk hmC (Nat.zero_le _) (.inr ⟨rfl, rfl⟩) .nil enC rfl
      have one : Tc 1 nc 1 (.tuple (.tuple (msC.map PyData.str) :: .tuple bsC :: [.str "call"])) := .mk hmC lbC (.inr ⟨rfl, rfl⟩) tbC enC rfl
      have up : ∀ {a b d : _} (j : Nat), Tc a b 1 d → Tc (a + j) b 1 d := fun j h => by
        induction j with
        | zero => exact h
        | succ j ih => exact ih.mono
      rcases hk with z | z
      · have := up k (zero z)
        rwa [Nat.zero_add] at this
      · have := up (k - 1) one
        rwa [show 1 + (k - 1) = k by omega] at this
    have F6 : Fs H m l H6 l4 := F2.trans (s3.trans (s4.trans (G5.sm.trans (.new s6 u6))))
    have e6s : fr H6 m l4 sp = some (.lst []) := u6 _ _ (u5 _ _ (s4.1 _ _ (s3.1 _ _ e2)))
    have q6 : Dq (fr H6 m l4) vt dt := ((((q2.same s3.1).same s4.1).same u5).same u6)
    have spm : sp ≠ m := (ne_of_none M.hm sp0).symm
    have spc : sp ≠ c := (ne_of_none M.hc sp0).symm
    obtain ⟨dC, hdC⟩ : ∃ dC, dC = PyData.tuple (.tuple (msC.map PyData.str) :: .tuple bsC :: [.str "call"]) := ⟨_, rfl⟩
    rw [← hdC] at dcall
    have tcall' := tcall
    rw [← hdC] at tcall'
    have M6 := G6.mat
    have n4' : n4 ≤ n + 609 := by omega
    clear tcall G4 G5 G6 u5 u6 s6 e6 e5 ac ec M4 q4 t4 s4 s3 M3 e2 q2 F2 M2
    let lim : Nat := if bsC = [] then 2 else 1
    refine while_by (fun σ' H' => ∃ (vt : V) (dt : PyData) (k o nt : Nat) (es : List V) (l' : Addr) (ls' : List Int) (n' : Int) (w5 : Option V), σ' = [some (V.ref m), some (V.int size), some vt, some (V.ref sp), some (V.ref vcA), w5, none, none] ∧
        Dl H m c l cs n (609 + 2 * (es.length : Int)) sp es H' l' ls' n' ∧ Dq (fr H' m l') vt dt ∧ Tp k nt 0 dt ∧ Spn (fr H' m l') es k o ∧ es.length + k = 3 ∧ (o : Int) + nt ≤ size - 1 ∧ Dq (fr H' m l') (.ref vcA) dC ∧ es.length ≤ lim)
      (fun _ H' => 3 - lenAt H' sp) ⟨vt, dt, 3, 0, nt, [], l4, ls4, n4, _, rfl, ⟨M6, by rw [List.length_nil]; omega, F6, e6s⟩, q6, t1.tp, .nil, rfl, by omega, dcall, Nat.zero_le _⟩ ?_ ?_
    · rintro σ' H' ⟨vt, dt, k, o, nt, es, l', ls', n', w5, rfl, d, qt, tp, spn, ek, osz, qc, elim⟩
      have lim2 : lim ≤ 2 := by show (if bsC = [] then 2 else 1) ≤ 2; split <;> decide
      have dle := d.le
      obtain ⟨ms, bs, nb, rfl, hms, lb, tb, en⟩ := tp
      obtain ⟨pt, va, pb, xb, rfl, ept, qa, epb, ab⟩ := dq_node qt
      refine ⟨_, rfl, pt, _, 1, .ref pb, rfl, rfl, SqT.of (fr_of ept).2.2, atI_nat (j := 1) rfl, Nat.zero_le _, fun p np => ⟨pb, p, xb, rfl, rfl, SqT.of (same_new np _ _ (fr_of epb).2.2), SqT.of upd_same, _, rfl, ?_⟩⟩
      have Gx : Gw m c l' cs ls' n' H' H' := ⟨d.mat, .refl⟩
      obtain ⟨Gy, ty, _⟩ := Gx.new (o := .tup []) np
      have d1 : Dl H m c l cs n (609 + 2 * (es.length : Int)) sp es (upd H' p (.tup [])) l' ls' n' := d.next Gy.mat (j := 0) (by omega) Gy.sm (by omega)
      have ept1 := ty _ _ ept
      have epb1 := ty _ _ epb
      have ab1 := ab.same ty
      have qa1 := qa.same ty
      have spn1 := spn.same ty
      have qc1 := qc.same ty
      generalize upd H' p (HO.tup []) = H1 at d1 ept1 epb1 ab1 qa1 spn1 qc1
      clear Gx Gy ty np
      by_cases hx : xb = []
      · rw [show (not xb.isEmpty) = false by rw [hx]; rfl]
        refine iteF ?_
        have dE : Dl H m c l cs n (610 + 2 * (es.length : Int)) sp es H1 l' ls' n' := d1.next d1.mat (j := 0) (by omega) .refl (by omega)
        have eptE := ept1
        have epbE := epb1
        have abE := ab1
        have qaE := qa1
        have spnE := spn1
        have qcE := qc1
        have dleE := dE.le
        refine ⟨by show 2 ≤ sizeLine; decide, fun pl npl => ?_⟩
        have GE : Gw m c _ cs _ _ _ _ := ⟨dE.mat, .refl⟩
        obtain ⟨GF, tF, eF⟩ := GE.new (o := .lst [.str "e", .str "f"]) npl
        refine ⟨_, rfl, m, c, _, 4, cs, _, _, rfl, GF.mat, by decide, by decide, by omega, fun r9 H9 l9 ls9 n9 r90 r91 M9 nn9 s9 => ⟨rfl, .inr ⟨_, rfl, ?_⟩⟩⟩
        have hx : ∃ u : Str, atI [V.str "e", V.str "f"] (if decide (V.int r9 = V.int 0) = true then 1 else 0) = some (V.str u) ∧ efS u := by
          cases decide (V.int r9 = V.int 0) with
          | true => exact ⟨"f", atI_nat (j := 1) rfl, .inr rfl⟩
          | false => exact ⟨"e", atI_nat (j := 0) rfl, .inl rfl⟩
        obtain ⟨u, hu, hfu⟩ := hx
        have hsu := ef_sm hfu
        have sA := same_trans tF s9.1
        have F9 : Fs H m l H9 l9 := dE.sm.trans (GF.sm.trans s9)
        have ept9 := sA _ _ eptE
        have epb9 := sA _ _ epbE
        refine ⟨pl, _, _, .str u, rfl, rfl, SqL.of (fr_of (s9.1 _ _ eF)).2.2, hu, ?_⟩
        refine ⟨_, rfl, pt, _, 0, va, rfl, rfl, SqT.of (fr_of ept9).2.2, atI_nat (j := 0) rfl, _, rfl, pt, _, 1, .ref pb, rfl, rfl, SqT.of (fr_of ept9).2.2, atI_nat (j := 1) rfl, 2, rfl, pb, xb, rfl, (fr_of epb9).2.2, fun p1 Ha sa ea => ?_⟩
        rw [show (2 : Int) = ((2 : Nat) : Int) from rfl, cut_to] at ea
        have G9 : Gw m c l9 cs ls9 n9 H9 H9 := ⟨M9, .refl⟩
        obtain ⟨Ga, ta⟩ := G9.grow sa
        have ea' := Ga.tupAt ea
        refine ⟨_, rfl, _, rfl, by show 2 ≤ sizeLine; decide, fun p2 np2 => ⟨by show 1 ≤ sizeLine; decide, fun p3 np3 => ?_⟩⟩
        obtain ⟨Gb, tb2, eb2⟩ := Ga.new (o := .tup [.str u, .ref vcA]) np2
        obtain ⟨Gc, tc3, ec3⟩ := Gb.new (o := .tup [.ref p2]) np3
        refine ⟨p1, p3, _, _, rfl, rfl, (fr_of (tc3 _ _ (tb2 _ _ ea'))).2.2, upd_same, by rw [List.length_take]; exact Nat.le_trans (Nat.add_le_add_right (Nat.min_le_left _ _) _) (show 2 + 1 ≤ sizeLine by decide), fun p4 Hb sb eb => ⟨by show 2 ≤ sizeLine; decide, fun p5 np5 => ?_⟩⟩
        obtain ⟨Gd, td⟩ := Gc.grow sb
        obtain ⟨Gf, tf, ef⟩ := Gd.new (o := .tup [va, .ref p4]) np5
        have c9 : Same (fr H9 m l9) (fr (upd Hb p5 (.tup [va, .ref p4])) m l9) := same_trans ta (same_trans tb2 (same_trans tc3 (same_trans td tf)))
        have cE := same_trans sA c9
        have e4f := tf _ _ (Gd.tupAt eb)
        have e2f := tf _ _ (td _ _ (tc3 _ _ eb2))
        obtain ⟨n1, c1, n2, c2, tB1, tB2, eN, eC⟩ := tb.take 2
        obtain ⟨k', rfl⟩ : ∃ k', k = k' + 1 := ⟨k - 1, by omega⟩
        have tcl : Tc k' nc 1 dC := tcall' k' (by
          by_cases z : bsC = []
          · exact .inl z
          · have e1 : lim = 1 := if_neg z
            exact .inr (by omega))
        have dNew : Dq (fr (upd Hb p5 (.tup [va, .ref p4])) m l9) (.ref p5) (.tuple [.tuple (ms.map PyData.str), .tuple (bs.take 2 ++ [.tuple [.str u, dC]])]) :=
          .tup ef (.cons (qaE.same cE) (.cons (.tup e4f (((abE.take 2).same cE).app (.cons (.tup e2f (.cons (.str u ⟨by rw [hsu.2]; decide, hsu.1⟩) (.cons (qcE.same cE) .nil))) .nil))) .nil))
        have tNew : Tp (k' + 1) (n1 + nc + 1) 1 (.tuple [.tuple (ms.map PyData.str), .tuple (bs.take 2 ++ [.tuple [.str u, dC]])]) :=
          ⟨ms, _, n1 + nc, rfl, hms, by rw [List.length_append, List.length_take]; show _ + 1 ≤ 3; omega, by
            have z := tB1.app (.cons hfu tcl .nil rfl rfl)
            rw [show c1 + (1 + 0) = 1 by omega] at z
            exact z, rfl⟩
        have spn9 := spnE.same cE
        have sp9 := cE _ _ dE.dd
        have FL : Fs H m l (upd Hb p5 (.tup [va, .ref p4])) l9 := F9.trans (Ga.sm.trans ⟨same_trans tb2 (same_trans tc3 (same_trans td tf)), fun b z => same_out (same_trans (same_new np2) (same_trans (same_new np3) (same_trans sb (same_new np5)))) z⟩)
        have ML := Gf.mat
        have szN : (o : Int) + ((n1 + nc + 1 : Nat) : Int) ≤ size + 1 := by omega
        generalize PyData.tuple [.tuple (ms.map PyData.str), .tuple (bs.take 2 ++ [.tuple [.str u, dC]])] = dtN at dNew tNew
        generalize upd Hb p5 (HO.tup [va, .ref p4]) = HL0 at dNew spn9 sp9 FL ML
        refine ⟨_, rfl, sp, es, rfl, SqL.of (fr_of sp9).2.2, fun pr npr => ?_⟩
        have GL0 : Gw m c l9 cs ls9 n9 HL0 HL0 := ⟨ML, .refl⟩
        obtain ⟨GL, tL, eL⟩ := GL0.new (o := .lst es.reverse) npr
        have FL2 := FL.trans GL.sm
        have MLL := GL.mat
        generalize upd HL0 pr (HO.lst es.reverse) = HL at GL tL eL FL2 MLL
        refine ⟨pr, rfl, ⟨_, SqL.of (fr_of eL).2.2⟩, for_list (xs := es.reverse) (fun i σ' H' => ∃ (es' : List V) (k o nt : Nat) (vt : V) (dt : PyData) (w5 w7 : Option V), es.reverse.drop i = es'.reverse ∧ σ' = [some (V.ref m), some (V.int size), some vt, some (V.ref sp), some (V.ref vcA), w5, some (V.str u), w7] ∧
            Gw m c l9 cs ls9 n9 HL H' ∧ Dq (fr H' m l9) vt dt ∧ Tp k nt 1 dt ∧ Spn (fr H' m l9) es' k o ∧ es'.length + k = 3 ∧ (o : Int) + nt ≤ size + 1)
          ⟨es, k' + 1, o, n1 + nc + 1, .ref p5, dtN, _, _, rfl, rfl, ⟨MLL, .refl⟩, dNew.same tL, tNew, spn9.same tL, ek, szN⟩ (fun i σ H _ ⟨_, _, _, _, _, _, _, _, _, _, G, _⟩ => SqL.of (fr_of (G.sm.1 _ _ eL)).2.2) ?_ ?_⟩
        · rintro i x σ' H' hix ⟨es', k, o, nt, vt, dt, w5, w7, hdr, rfl, G, qt, tp, spn, ek, osz⟩
          cases spn with
          | nil =>
            rw [List.reverse_nil] at hdr
            have := List.drop_eq_nil_iff.mp hdr
            have := (List.getElem?_eq_some_iff.mp hix).1
            omega
          | @snoc es0 _ o0 a b _ e v j ms bs uu tt sp0 h1 h2 h2t h3 h4 h5 h6 h7 h8 h9 =>
          have hx : x = V.ref e ∧ es.reverse.drop (i + 1) = es0.reverse := by
            rw [List.reverse_append, List.reverse_singleton, List.singleton_append, drop_atV hix] at hdr
            exact List.cons.inj hdr
          obtain ⟨rfl, hdr'⟩ := hx
          obtain ⟨pt, va, pb, xb, rfl, ept, qa, epb, ab⟩ := dq_node h2
          obtain ⟨vj, hvj, qj⟩ := ab.at h5
          obtain ⟨pj, vu, vtt, rfl, epj, qu, qtt⟩ := dq_pair qj
          have lx : xb.length ≤ 3 := by rw [ab.len]; exact h4
          refine ⟨e, _, rfl, SqT.of (fr_of h1).2.2, rfl, _, _, rfl, _, _, rfl, rfl, ?_⟩
          have ixA : ∀ {H5 : Hp}, Same H' H5 → SqT K H5 pt [va, .ref pb] := fun s => SqT.of (s _ _ (fr_of ept).2.2)
          refine ⟨_, rfl, pt, _, 0, va, rfl, rfl, SqT.of (fr_of ept).2.2, atI_nat (j := 0) rfl, _, rfl, pt, _, 1, .ref pb, rfl, rfl, SqT.of (fr_of ept).2.2, atI_nat (j := 1) rfl, _, rfl, j, rfl, pb, xb, rfl, (fr_of epb).2.2, fun p1 H5 s5 e5 => ?_⟩
          rw [cut_to] at e5
          obtain ⟨G5, t5⟩ := G.grow s5
          refine ⟨_, rfl, pt, _, 1, .ref pb, rfl, rfl, SqT.of (fr_of (t5 _ _ ept)).2.2, atI_nat (j := 1) rfl, _, rfl, pb, xb, (j : Int), .ref pj, rfl, rfl, SqT.of (fr_of (t5 _ _ epb)).2.2, atI_nat hvj, pj, _, 0, vu, rfl, rfl, SqT.of (fr_of (t5 _ _ epj)).2.2, atI_nat (j := 0) rfl, _, rfl, by show 2 ≤ sizeLine; decide, fun p2 np2 => ⟨by show 1 ≤ sizeLine; decide, fun p3 np3 => ?_⟩⟩
          obtain ⟨G6, t6, e6⟩ := G5.new (o := .tup [vu, vt]) np2
          obtain ⟨G7, t7, e7⟩ := G6.new (o := .tup [.ref p2]) np3
          refine ⟨p1, p3, _, _, rfl, rfl, (fr_of (t7 _ _ (t6 _ _ (G5.tupAt e5)))).2.2, upd_same, by rw [List.length_take]; exact Nat.le_trans (show min j xb.length + 1 ≤ 4 by omega) (by decide), fun p4 H8 s8 e8 => ?_⟩
          obtain ⟨G8, t8⟩ := G7.grow s8
          have t48 := same_trans t5 (same_trans t6 (same_trans t7 t8))
          refine ⟨_, rfl, pt, _, 1, .ref pb, rfl, rfl, SqT.of (fr_of (t48 _ _ ept)).2.2, atI_nat (j := 1) rfl, _, rfl, _, _, rfl, rfl, _, rfl, pb, xb, rfl, (fr_of (t48 _ _ epb)).2.2, fun p5 H9 s9 e9 => ?_⟩
          rw [show ((j : Int) + 1) = ((j + 1 : Nat) : Int) by omega, cut_from] at e9
          obtain ⟨G9, t9⟩ := G8.grow s9
          refine ⟨p4, p5, _, _, rfl, rfl, s9 _ _ e8, e9, by rw [List.length_append, List.length_take, List.length_drop]; exact Nat.le_trans (show min j xb.length + 1 + (xb.length - (j + 1)) ≤ 7 by omega) (by decide), fun p6 Ha sa ea => ⟨by show 2 ≤ sizeLine; decide, fun p7 np7 => ?_⟩⟩
          obtain ⟨Ga, ta⟩ := G9.grow sa
          obtain ⟨Gb, tb, eb⟩ := Ga.new (o := .tup [va, .ref p6]) np7
          have tab := same_trans t9 (same_trans ta tb)
          have tall := same_trans t48 tab
          have e2f := (same_trans t7 (same_trans t8 tab)) _ _ e6
          have dN : Dq (fr (upd Ha p7 (.tup [va, .ref p6])) m l9) (.ref p7) (.tuple [.tuple (ms.map PyData.str), .tuple (bs.take j ++ [.tuple [.str uu, dt]] ++ bs.drop (j + 1))]) :=
            .tup eb (.cons (qa.same tall) (.cons (.tup (tb _ _ (Ga.tupAt ea)) (((((ab.take j).same tall).app (.cons (.tup e2f (.cons (qu.same tall) (.cons (qt.same tall) .nil))) .nil)).app ((ab.drop (j + 1)).same tall)))) .nil))
          refine ⟨es0, k + 1, o0, _, .ref p7, _, _, _, hdr', rfl, Gb, dN, ⟨ms, _, a + nt + b, rfl, h3, ?_, ?_, rfl⟩, sp0.same tall, ?_, ?_⟩
          · have hj := (List.getElem?_eq_some_iff.mp h5).1
            rw [List.length_append, List.length_append, List.length_take, List.length_drop]
            show _ + 1 + _ ≤ 3
            omega
          · have z := (h7.app (.cons h6 tp.tc .nil rfl rfl)).app h8
            rw [show 0 + (1 + 0) + 0 = 1 by omega, show a + (nt + 0) + b = a + nt + b by omega] at z
            exact z
          · rw [List.length_append, List.length_singleton] at ek
            omega
          · omega
        · rintro σ' H' ⟨es', k, o, nt, vt, dt, w5, w7, hdr, rfl, G, qt, tp, spn, ek, osz⟩
          rw [List.drop_length] at hdr
          obtain rfl : es' = [] := List.reverse_eq_nil_iff.mp hdr.symm
          obtain rfl : k = 3 := by simpa using ek
          exact ⟨_, rfl, kk vt dt nt H' l9 ls9 n9 G.mat (by omega) (FL2.trans G.sm) qt tp (by omega)⟩
      have xpos : 0 < xb.length := List.length_pos_iff.mpr hx
      rw [show (not xb.isEmpty) = true by cases xb with | nil => exact absurd rfl hx | cons _ _ => rfl]
      rw [hdC] at qc1
      obtain ⟨vcA', xc, evc, ec, ac⟩ := dq_tup qc1
      obtain rfl : vcA = vcA' := V.ref.inj evc
      have hc1 : ∃ cb xcb, xc[1]? = some (.ref cb) ∧ fr H1 m l' cb = some (.tup xcb) ∧ (xcb = [] ↔ bsC = []) := by
        obtain ⟨u, hu, qu⟩ := ac.at (i := 1) rfl
        obtain ⟨cb, xcb, rfl, e, a⟩ := dq_tup qu
        refine ⟨cb, xcb, hu, e, ?_⟩
        constructor
        · intro z
          have := a.len
          rw [z] at this
          exact List.length_eq_zero_iff.mp this.symm
        · intro z
          have := a.len
          rw [z] at this
          exact List.length_eq_zero_iff.mp this
      obtain ⟨cb, xcb, hcb, ecb, iffC⟩ := hc1
      rw [← hdC] at qc1
      refine iteT ⟨_, rfl, sp, es, rfl, .inl (SqL.of (fr_of d1.dd).2.2), _, rfl, vcA, xc, 1, .ref cb, rfl, rfl, SqT.of (fr_of ec).2.2, atI_nat (j := 1) hcb, Nat.zero_le _, fun p np => ⟨cb, p, xcb, rfl, rfl, SqT.of (same_new np _ _ (fr_of ecb).2.2), SqT.of upd_same, _, rfl, ?_⟩⟩
      have Gx : Gw m c l' cs ls' n' H1 H1 := ⟨d1.mat, .refl⟩
      obtain ⟨Gy, ty, _⟩ := Gx.new (o := .tup []) np
      have d2 : Dl H m c l cs n (609 + 2 * (es.length : Int)) sp es (upd H1 p (.tup [])) l' ls' n' := d1.next Gy.mat (j := 0) (by omega) Gy.sm (by omega)
      have ept2 := ty _ _ ept1
      have epb2 := ty _ _ epb1
      have ab2 := ab1.same ty
      have qa2 := qa1.same ty
      have spn2 := spn1.same ty
      have qc2 := qc1.same ty
      generalize upd H1 p (HO.tup []) = H2 at d2 ept2 epb2 ab2 qa2 spn2 qc2
      clear Gx Gy ty np d1 ept1 epb1 ab1 qa1 spn1 qc1 ec ac ecb hcb evc
      have hl : (if xcb = [] then (2 : Int) else 1) = (lim : Int) := by
        show _ = (((if bsC = [] then 2 else 1 : Nat)) : Int)
        by_cases z : xcb = []
        · rw [if_pos z, if_pos (iffC.mp z)]
          rfl
        · rw [if_neg z, if_neg fun y => z (iffC.mpr y)]
          rfl
      have test2 : ∀ {A B : Prop}, (decide ((es.length : Int) < (lim : Int)) = true → A) → (decide ((es.length : Int) < (lim : Int)) = false → B) → if decide ((es.length : Int) < (lim : Int)) = true then A else B := fun a b => by
        cases hd : decide ((es.length : Int) < (lim : Int)) with
        | true => exact iteT (a hd)
        | false => exact iteF (b hd)
      have pick : ∀ {σ : L2.St} {H : Hp} {Q : VK}, Q (V.int (lim : Int)) H → (if id xcb.isEmpty = true then tC (V.int 2) σ H Q else tC (V.int 1) σ H Q) := fun {σ H Q} h => by
        rw [← hl] at h
        cases xcb with
        | nil => exact iteT h
        | cons a b => exact iteF h
      refine pick ⟨_, _, rfl, rfl, _, rfl, ?_⟩
      refine test2 (fun hd => ?_) (fun hd => ?_)
      rotate_left
      · have dE : Dl H m c l cs n (610 + 2 * (es.length : Int)) sp es H2 l' ls' n' := d2.next d2.mat (j := 0) (by omega) .refl (by omega)
        have eptE := ept2
        have epbE := epb2
        have abE := ab2
        have qaE := qa2
        have spnE := spn2
        have qcE := qc2
        have dleE := dE.le
        refine ⟨by show 2 ≤ sizeLine; decide, fun pl npl => ?_⟩
        have GE : Gw m c _ cs _ _ _ _ := ⟨dE.mat, .refl⟩
        obtain ⟨GF, tF, eF⟩ := GE.new (o := .lst [.str "e", .str "f"]) npl
        refine ⟨_, rfl, m, c, _, 4, cs, _, _, rfl, GF.mat, by decide, by decide, by omega, fun r9 H9 l9 ls9 n9 r90 r91 M9 nn9 s9 => ⟨rfl, .inr ⟨_, rfl, ?_⟩⟩⟩
        have hx : ∃ u : Str, atI [V.str "e", V.str "f"] (if decide (V.int r9 = V.int 0) = true then 1 else 0) = some (V.str u) ∧ efS u := by
          cases decide (V.int r9 = V.int 0) with
          | true => exact ⟨"f", atI_nat (j := 1) rfl, .inr rfl⟩
          | false => exact ⟨"e", atI_nat (j := 0) rfl, .inl rfl⟩
        obtain ⟨u, hu, hfu⟩ := hx
        have hsu := ef_sm hfu
        have sA := same_trans tF s9.1
        have F9 : Fs H m l H9 l9 := dE.sm.trans (GF.sm.trans s9)
        have ept9 := sA _ _ eptE
        have epb9 := sA _ _ epbE
        refine ⟨pl, _, _, .str u, rfl, rfl, SqL.of (fr_of (s9.1 _ _ eF)).2.2, hu, ?_⟩
        refine ⟨_, rfl, pt, _, 0, va, rfl, rfl, SqT.of (fr_of ept9).2.2, atI_nat (j := 0) rfl, _, rfl, pt, _, 1, .ref pb, rfl, rfl, SqT.of (fr_of ept9).2.2, atI_nat (j := 1) rfl, 2, rfl, pb, xb, rfl, (fr_of epb9).2.2, fun p1 Ha sa ea => ?_⟩
        rw [show (2 : Int) = ((2 : Nat) : Int) from rfl, cut_to] at ea
        have G9 : Gw m c l9 cs ls9 n9 H9 H9 := ⟨M9, .refl⟩
        obtain ⟨Ga, ta⟩ := G9.grow sa
        have ea' := Ga.tupAt ea
        refine ⟨_, rfl, _, rfl, by show 2 ≤ sizeLine; decide, fun p2 np2 => ⟨by show 1 ≤ sizeLine; decide, fun p3 np3 => ?_⟩⟩
        obtain ⟨Gb, tb2, eb2⟩ := Ga.new (o := .tup [.str u, .ref vcA]) np2
        obtain ⟨Gc, tc3, ec3⟩ := Gb.new (o := .tup [.ref p2]) np3
        refine ⟨p1, p3, _, _, rfl, rfl, (fr_of (tc3 _ _ (tb2 _ _ ea'))).2.2, upd_same, by rw [List.length_take]; exact Nat.le_trans (Nat.add_le_add_right (Nat.min_le_left _ _) _) (show 2 + 1 ≤ sizeLine by decide), fun p4 Hb sb eb => ⟨by show 2 ≤ sizeLine; decide, fun p5 np5 => ?_⟩⟩
        obtain ⟨Gd, td⟩ := Gc.grow sb
        obtain ⟨Gf, tf, ef⟩ := Gd.new (o := .tup [va, .ref p4]) np5
        have c9 : Same (fr H9 m l9) (fr (upd Hb p5 (.tup [va, .ref p4])) m l9) := same_trans ta (same_trans tb2 (same_trans tc3 (same_trans td tf)))
        have cE := same_trans sA c9
        have e4f := tf _ _ (Gd.tupAt eb)
        have e2f := tf _ _ (td _ _ (tc3 _ _ eb2))
        obtain ⟨n1, c1, n2, c2, tB1, tB2, eN, eC⟩ := tb.take 2
        obtain ⟨k', rfl⟩ : ∃ k', k = k' + 1 := ⟨k - 1, by omega⟩
        have tcl : Tc k' nc 1 dC := tcall' k' (by
          by_cases z : bsC = []
          · exact .inl z
          · have e1 : lim = 1 := if_neg z
            exact .inr (by omega))
        have dNew : Dq (fr (upd Hb p5 (.tup [va, .ref p4])) m l9) (.ref p5) (.tuple [.tuple (ms.map PyData.str), .tuple (bs.take 2 ++ [.tuple [.str u, dC]])]) :=
          .tup ef (.cons (qaE.same cE) (.cons (.tup e4f (((abE.take 2).same cE).app (.cons (.tup e2f (.cons (.str u ⟨by rw [hsu.2]; decide, hsu.1⟩) (.cons (qcE.same cE) .nil))) .nil))) .nil))
        have tNew : Tp (k' + 1) (n1 + nc + 1) 1 (.tuple [.tuple (ms.map PyData.str), .tuple (bs.take 2 ++ [.tuple [.str u, dC]])]) :=
          ⟨ms, _, n1 + nc, rfl, hms, by rw [List.length_append, List.length_take]; show _ + 1 ≤ 3; omega, by
            have z := tB1.app (.cons hfu tcl .nil rfl rfl)
            rw [show c1 + (1 + 0) = 1 by omega] at z
            exact z, rfl⟩
        have spn9 := spnE.same cE
        have sp9 := cE _ _ dE.dd
        have FL : Fs H m l (upd Hb p5 (.tup [va, .ref p4])) l9 := F9.trans (Ga.sm.trans ⟨same_trans tb2 (same_trans tc3 (same_trans td tf)), fun b z => same_out (same_trans (same_new np2) (same_trans (same_new np3) (same_trans sb (same_new np5)))) z⟩)
        have ML := Gf.mat
        have szN : (o : Int) + ((n1 + nc + 1 : Nat) : Int) ≤ size + 1 := by omega
        generalize PyData.tuple [.tuple (ms.map PyData.str), .tuple (bs.take 2 ++ [.tuple [.str u, dC]])] = dtN at dNew tNew
        generalize upd Hb p5 (HO.tup [va, .ref p4]) = HL0 at dNew spn9 sp9 FL ML
        refine ⟨_, rfl, sp, es, rfl, SqL.of (fr_of sp9).2.2, fun pr npr => ?_⟩
        have GL0 : Gw m c l9 cs ls9 n9 HL0 HL0 := ⟨ML, .refl⟩
        obtain ⟨GL, tL, eL⟩ := GL0.new (o := .lst es.reverse) npr
        have FL2 := FL.trans GL.sm
        have MLL := GL.mat
        generalize upd HL0 pr (HO.lst es.reverse) = HL at GL tL eL FL2 MLL
        refine ⟨pr, rfl, ⟨_, SqL.of (fr_of eL).2.2⟩, for_list (xs := es.reverse) (fun i σ' H' => ∃ (es' : List V) (k o nt : Nat) (vt : V) (dt : PyData) (w5 w7 : Option V), es.reverse.drop i = es'.reverse ∧ σ' = [some (V.ref m), some (V.int size), some vt, some (V.ref sp), some (V.ref vcA), w5, some (V.str u), w7] ∧
            Gw m c l9 cs ls9 n9 HL H' ∧ Dq (fr H' m l9) vt dt ∧ Tp k nt 1 dt ∧ Spn (fr H' m l9) es' k o ∧ es'.length + k = 3 ∧ (o : Int) + nt ≤ size + 1)
          ⟨es, k' + 1, o, n1 + nc + 1, .ref p5, dtN, _, _, rfl, rfl, ⟨MLL, .refl⟩, dNew.same tL, tNew, spn9.same tL, ek, szN⟩ (fun i σ H _ ⟨_, _, _, _, _, _, _, _, _, _, G, _⟩ => SqL.of (fr_of (G.sm.1 _ _ eL)).2.2) ?_ ?_⟩
        · rintro i x σ' H' hix ⟨es', k, o, nt, vt, dt, w5, w7, hdr, rfl, G, qt, tp, spn, ek, osz⟩
          cases spn with
          | nil =>
            rw [List.reverse_nil] at hdr
            have := List.drop_eq_nil_iff.mp hdr
            have := (List.getElem?_eq_some_iff.mp hix).1
            omega
          | @snoc es0 _ o0 a b _ e v j ms bs uu tt sp0 h1 h2 h2t h3 h4 h5 h6 h7 h8 h9 =>
          have hx : x = V.ref e ∧ es.reverse.drop (i + 1) = es0.reverse := by
            rw [List.reverse_append, List.reverse_singleton, List.singleton_append, drop_atV hix] at hdr
            exact List.cons.inj hdr
          obtain ⟨rfl, hdr'⟩ := hx
          obtain ⟨pt, va, pb, xb, rfl, ept, qa, epb, ab⟩ := dq_node h2
          obtain ⟨vj, hvj, qj⟩ := ab.at h5
          obtain ⟨pj, vu, vtt, rfl, epj, qu, qtt⟩ := dq_pair qj
          have lx : xb.length ≤ 3 := by rw [ab.len]; exact h4
          refine ⟨e, _, rfl, SqT.of (fr_of h1).2.2, rfl, _, _, rfl, _, _, rfl, rfl, ?_⟩
          have ixA : ∀ {H5 : Hp}, Same H' H5 → SqT K H5 pt [va, .ref pb] := fun s => SqT.of (s _ _ (fr_of ept).2.2)
          refine ⟨_, rfl, pt, _, 0, va, rfl, rfl, SqT.of (fr_of ept).2.2, atI_nat (j := 0) rfl, _, rfl, pt, _, 1, .ref pb, rfl, rfl, SqT.of (fr_of ept).2.2, atI_nat (j := 1) rfl, _, rfl, j, rfl, pb, xb, rfl, (fr_of epb).2.2, fun p1 H5 s5 e5 => ?_⟩
          rw [cut_to] at e5
          obtain ⟨G5, t5⟩ := G.grow s5
          refine ⟨_, rfl, pt, _, 1, .ref pb, rfl, rfl, SqT.of (fr_of (t5 _ _ ept)).2.2, atI_nat (j := 1) rfl, _, rfl, pb, xb, (j : Int), .ref pj, rfl, rfl, SqT.of (fr_of (t5 _ _ epb)).2.2, atI_nat hvj, pj, _, 0, vu, rfl, rfl, SqT.of (fr_of (t5 _ _ epj)).2.2, atI_nat (j := 0) rfl, _, rfl, by show 2 ≤ sizeLine; decide, fun p2 np2 => ⟨by show 1 ≤ sizeLine; decide, fun p3 np3 => ?_⟩⟩
          obtain ⟨G6, t6, e6⟩ := G5.new (o := .tup [vu, vt]) np2
          obtain ⟨G7, t7, e7⟩ := G6.new (o := .tup [.ref p2]) np3
          refine ⟨p1, p3, _, _, rfl, rfl, (fr_of (t7 _ _ (t6 _ _ (G5.tupAt e5)))).2.2, upd_same, by rw [List.length_take]; exact Nat.le_trans (show min j xb.length + 1 ≤ 4 by omega) (by decide), fun p4 H8 s8 e8 => ?_⟩
          obtain ⟨G8, t8⟩ := G7.grow s8
          have t48 := same_trans t5 (same_trans t6 (same_trans t7 t8))
          refine ⟨_, rfl, pt, _, 1, .ref pb, rfl, rfl, SqT.of (fr_of (t48 _ _ ept)).2.2, atI_nat (j := 1) rfl, _, rfl, _, _, rfl, rfl, _, rfl, pb, xb, rfl, (fr_of (t48 _ _ epb)).2.2, fun p5 H9 s9 e9 => ?_⟩
          rw [show ((j : Int) + 1) = ((j + 1 : Nat) : Int) by omega, cut_from] at e9
          obtain ⟨G9, t9⟩ := G8.grow s9
          refine ⟨p4, p5, _, _, rfl, rfl, s9 _ _ e8, e9, by rw [List.length_append, List.length_take, List.length_drop]; exact Nat.le_trans (show min j xb.length + 1 + (xb.length - (j + 1)) ≤ 7 by omega) (by decide), fun p6 Ha sa ea => ⟨by show 2 ≤ sizeLine; decide, fun p7 np7 => ?_⟩⟩
          obtain ⟨Ga, ta⟩ := G9.grow sa
          obtain ⟨Gb, tb, eb⟩ := Ga.new (o := .tup [va, .ref p6]) np7
          have tab := same_trans t9 (same_trans ta tb)
          have tall := same_trans t48 tab
          have e2f := (same_trans t7 (same_trans t8 tab)) _ _ e6
          have dN : Dq (fr (upd Ha p7 (.tup [va, .ref p6])) m l9) (.ref p7) (.tuple [.tuple (ms.map PyData.str), .tuple (bs.take j ++ [.tuple [.str uu, dt]] ++ bs.drop (j + 1))]) :=
            .tup eb (.cons (qa.same tall) (.cons (.tup (tb _ _ (Ga.tupAt ea)) (((((ab.take j).same tall).app (.cons (.tup e2f (.cons (qu.same tall) (.cons (qt.same tall) .nil))) .nil)).app ((ab.drop (j + 1)).same tall)))) .nil))
          refine ⟨es0, k + 1, o0, _, .ref p7, _, _, _, hdr', rfl, Gb, dN, ⟨ms, _, a + nt + b, rfl, h3, ?_, ?_, rfl⟩, sp0.same tall, ?_, ?_⟩
          · have hj := (List.getElem?_eq_some_iff.mp h5).1
            rw [List.length_append, List.length_append, List.length_take, List.length_drop]
            show _ + 1 + _ ≤ 3
            omega
          · have z := (h7.app (.cons h6 tp.tc .nil rfl rfl)).app h8
            rw [show 0 + (1 + 0) + 0 = 1 by omega, show a + (nt + 0) + b = a + nt + b by omega] at z
            exact z
          · rw [List.length_append, List.length_singleton] at ek
            omega
          · omega
        · rintro σ' H' ⟨es', k, o, nt, vt, dt, w5, w7, hdr, rfl, G, qt, tp, spn, ek, osz⟩
          rw [List.drop_length] at hdr
          obtain rfl : es' = [] := List.reverse_eq_nil_iff.mp hdr.symm
          obtain rfl : k = 3 := by simpa using ek
          exact ⟨_, rfl, kk vt dt nt H' l9 ls9 n9 G.mat (by omega) (FL2.trans G.sm) qt tp (by omega)⟩
      have hlt : es.length < lim := by
        have := of_decide_eq_true hd
        omega
      refine ⟨_, rfl, m, c, l', 3, cs, ls', n', rfl, d2.mat, by decide, by decide, by omega, fun r3 H3 l3 ls3 n3 r30 r31 M3 nn3 s3 => ⟨_, _, rfl, rfl, _, rfl, ?_⟩⟩
      have d3' : Dl H m c l cs n (610 + 2 * (es.length : Int)) sp es H3 l3 ls3 n3 := d2.next M3 nn3 s3 (by omega)
      have ept3 := s3.1 _ _ ept2
      have epb3 := s3.1 _ _ epb2
      have ab3 := ab2.same s3.1
      have qa3 := qa2.same s3.1
      have spn3 := spn2.same s3.1
      have qc3 := qc2.same s3.1
      refine ite2 (fun _ => ?_) (fun _ => ?_)
      rotate_left
      · have dE := d3'
        have eptE := ept3
        have epbE := epb3
        have abE := ab3
        have qaE := qa3
        have spnE := spn3
        have qcE := qc3
        have dleE := dE.le
        refine ⟨by show 2 ≤ sizeLine; decide, fun pl npl => ?_⟩
        have GE : Gw m c _ cs _ _ _ _ := ⟨dE.mat, .refl⟩
        obtain ⟨GF, tF, eF⟩ := GE.new (o := .lst [.str "e", .str "f"]) npl
        refine ⟨_, rfl, m, c, _, 4, cs, _, _, rfl, GF.mat, by decide, by decide, by omega, fun r9 H9 l9 ls9 n9 r90 r91 M9 nn9 s9 => ⟨rfl, .inr ⟨_, rfl, ?_⟩⟩⟩
        have hx : ∃ u : Str, atI [V.str "e", V.str "f"] (if decide (V.int r9 = V.int 0) = true then 1 else 0) = some (V.str u) ∧ efS u := by
          cases decide (V.int r9 = V.int 0) with
          | true => exact ⟨"f", atI_nat (j := 1) rfl, .inr rfl⟩
          | false => exact ⟨"e", atI_nat (j := 0) rfl, .inl rfl⟩
        obtain ⟨u, hu, hfu⟩ := hx
        have hsu := ef_sm hfu
        have sA := same_trans tF s9.1
        have F9 : Fs H m l H9 l9 := dE.sm.trans (GF.sm.trans s9)
        have ept9 := sA _ _ eptE
        have epb9 := sA _ _ epbE
        refine ⟨pl, _, _, .str u, rfl, rfl, SqL.of (fr_of (s9.1 _ _ eF)).2.2, hu, ?_⟩
        refine ⟨_, rfl, pt, _, 0, va, rfl, rfl, SqT.of (fr_of ept9).2.2, atI_nat (j := 0) rfl, _, rfl, pt, _, 1, .ref pb, rfl, rfl, SqT.of (fr_of ept9).2.2, atI_nat (j := 1) rfl, 2, rfl, pb, xb, rfl, (fr_of epb9).2.2, fun p1 Ha sa ea => ?_⟩
        rw [show (2 : Int) = ((2 : Nat) : Int) from rfl, cut_to] at ea
        have G9 : Gw m c l9 cs ls9 n9 H9 H9 := ⟨M9, .refl⟩
        obtain ⟨Ga, ta⟩ := G9.grow sa
        have ea' := Ga.tupAt ea
        refine ⟨_, rfl, _, rfl, by show 2 ≤ sizeLine; decide, fun p2 np2 => ⟨by show 1 ≤ sizeLine; decide, fun p3 np3 => ?_⟩⟩
        obtain ⟨Gb, tb2, eb2⟩ := Ga.new (o := .tup [.str u, .ref vcA]) np2
        obtain ⟨Gc, tc3, ec3⟩ := Gb.new (o := .tup [.ref p2]) np3
        refine ⟨p1, p3, _, _, rfl, rfl, (fr_of (tc3 _ _ (tb2 _ _ ea'))).2.2, upd_same, by rw [List.length_take]; exact Nat.le_trans (Nat.add_le_add_right (Nat.min_le_left _ _) _) (show 2 + 1 ≤ sizeLine by decide), fun p4 Hb sb eb => ⟨by show 2 ≤ sizeLine; decide, fun p5 np5 => ?_⟩⟩
        obtain ⟨Gd, td⟩ := Gc.grow sb
        obtain ⟨Gf, tf, ef⟩ := Gd.new (o := .tup [va, .ref p4]) np5
        have c9 : Same (fr H9 m l9) (fr (upd Hb p5 (.tup [va, .ref p4])) m l9) := same_trans ta (same_trans tb2 (same_trans tc3 (same_trans td tf)))
        have cE := same_trans sA c9
        have e4f := tf _ _ (Gd.tupAt eb)
        have e2f := tf _ _ (td _ _ (tc3 _ _ eb2))
        obtain ⟨n1, c1, n2, c2, tB1, tB2, eN, eC⟩ := tb.take 2
        obtain ⟨k', rfl⟩ : ∃ k', k = k' + 1 := ⟨k - 1, by omega⟩
        have tcl : Tc k' nc 1 dC := tcall' k' (by
          by_cases z : bsC = []
          · exact .inl z
          · have e1 : lim = 1 := if_neg z
            exact .inr (by omega))
        have dNew : Dq (fr (upd Hb p5 (.tup [va, .ref p4])) m l9) (.ref p5) (.tuple [.tuple (ms.map PyData.str), .tuple (bs.take 2 ++ [.tuple [.str u, dC]])]) :=
          .tup ef (.cons (qaE.same cE) (.cons (.tup e4f (((abE.take 2).same cE).app (.cons (.tup e2f (.cons (.str u ⟨by rw [hsu.2]; decide, hsu.1⟩) (.cons (qcE.same cE) .nil))) .nil))) .nil))
        have tNew : Tp (k' + 1) (n1 + nc + 1) 1 (.tuple [.tuple (ms.map PyData.str), .tuple (bs.take 2 ++ [.tuple [.str u, dC]])]) :=
          ⟨ms, _, n1 + nc, rfl, hms, by rw [List.length_append, List.length_take]; show _ + 1 ≤ 3; omega, by
            have z := tB1.app (.cons hfu tcl .nil rfl rfl)
            rw [show c1 + (1 + 0) = 1 by omega] at z
            exact z, rfl⟩
        have spn9 := spnE.same cE
        have sp9 := cE _ _ dE.dd
        have FL : Fs H m l (upd Hb p5 (.tup [va, .ref p4])) l9 := F9.trans (Ga.sm.trans ⟨same_trans tb2 (same_trans tc3 (same_trans td tf)), fun b z => same_out (same_trans (same_new np2) (same_trans (same_new np3) (same_trans sb (same_new np5)))) z⟩)
        have ML := Gf.mat
        have szN : (o : Int) + ((n1 + nc + 1 : Nat) : Int) ≤ size + 1 := by omega
        generalize PyData.tuple [.tuple (ms.map PyData.str), .tuple (bs.take 2 ++ [.tuple [.str u, dC]])] = dtN at dNew tNew
        generalize upd Hb p5 (HO.tup [va, .ref p4]) = HL0 at dNew spn9 sp9 FL ML
        refine ⟨_, rfl, sp, es, rfl, SqL.of (fr_of sp9).2.2, fun pr npr => ?_⟩
        have GL0 : Gw m c l9 cs ls9 n9 HL0 HL0 := ⟨ML, .refl⟩
        obtain ⟨GL, tL, eL⟩ := GL0.new (o := .lst es.reverse) npr
        have FL2 := FL.trans GL.sm
        have MLL := GL.mat
        generalize upd HL0 pr (HO.lst es.reverse) = HL at GL tL eL FL2 MLL
        refine ⟨pr, rfl, ⟨_, SqL.of (fr_of eL).2.2⟩, for_list (xs := es.reverse) (fun i σ' H' => ∃ (es' : List V) (k o nt : Nat) (vt : V) (dt : PyData) (w5 w7 : Option V), es.reverse.drop i = es'.reverse ∧ σ' = [some (V.ref m), some (V.int size), some vt, some (V.ref sp), some (V.ref vcA), w5, some (V.str u), w7] ∧
            Gw m c l9 cs ls9 n9 HL H' ∧ Dq (fr H' m l9) vt dt ∧ Tp k nt 1 dt ∧ Spn (fr H' m l9) es' k o ∧ es'.length + k = 3 ∧ (o : Int) + nt ≤ size + 1)
          ⟨es, k' + 1, o, n1 + nc + 1, .ref p5, dtN, _, _, rfl, rfl, ⟨MLL, .refl⟩, dNew.same tL, tNew, spn9.same tL, ek, szN⟩ (fun i σ H _ ⟨_, _, _, _, _, _, _, _, _, _, G, _⟩ => SqL.of (fr_of (G.sm.1 _ _ eL)).2.2) ?_ ?_⟩
        · rintro i x σ' H' hix ⟨es', k, o, nt, vt, dt, w5, w7, hdr, rfl, G, qt, tp, spn, ek, osz⟩
          cases spn with
          | nil =>
            rw [List.reverse_nil] at hdr
            have := List.drop_eq_nil_iff.mp hdr
            have := (List.getElem?_eq_some_iff.mp hix).1
            omega
          | @snoc es0 _ o0 a b _ e v j ms bs uu tt sp0 h1 h2 h2t h3 h4 h5 h6 h7 h8 h9 =>
          have hx : x = V.ref e ∧ es.reverse.drop (i + 1) = es0.reverse := by
            rw [List.reverse_append, List.reverse_singleton, List.singleton_append, drop_atV hix] at hdr
            exact List.cons.inj hdr
          obtain ⟨rfl, hdr'⟩ := hx
          obtain ⟨pt, va, pb, xb, rfl, ept, qa, epb, ab⟩ := dq_node h2
          obtain ⟨vj, hvj, qj⟩ := ab.at h5
          obtain ⟨pj, vu, vtt, rfl, epj, qu, qtt⟩ := dq_pair qj
          have lx : xb.length ≤ 3 := by rw [ab.len]; exact h4
          refine ⟨e, _, rfl, SqT.of (fr_of h1).2.2, rfl, _, _, rfl, _, _, rfl, rfl, ?_⟩
          have ixA : ∀ {H5 : Hp}, Same H' H5 → SqT K H5 pt [va, .ref pb] := fun s => SqT.of (s _ _ (fr_of ept).2.2)
          refine ⟨_, rfl, pt, _, 0, va, rfl, rfl, SqT.of (fr_of ept).2.2, atI_nat (j := 0) rfl, _, rfl, pt, _, 1, .ref pb, rfl, rfl, SqT.of (fr_of ept).2.2, atI_nat (j := 1) rfl, _, rfl, j, rfl, pb, xb, rfl, (fr_of epb).2.2, fun p1 H5 s5 e5 => ?_⟩
          rw [cut_to] at e5
          obtain ⟨G5, t5⟩ := G.grow s5
          refine ⟨_, rfl, pt, _, 1, .ref pb, rfl, rfl, SqT.of (fr_of (t5 _ _ ept)).2.2, atI_nat (j := 1) rfl, _, rfl, pb, xb, (j : Int), .ref pj, rfl, rfl, SqT.of (fr_of (t5 _ _ epb)).2.2, atI_nat hvj, pj, _, 0, vu, rfl, rfl, SqT.of (fr_of (t5 _ _ epj)).2.2, atI_nat (j := 0) rfl, _, rfl, by show 2 ≤ sizeLine; decide, fun p2 np2 => ⟨by show 1 ≤ sizeLine; decide, fun p3 np3 => ?_⟩⟩
          obtain ⟨G6, t6, e6⟩ := G5.new (o := .tup [vu, vt]) np2
          obtain ⟨G7, t7, e7⟩ := G6.new (o := .tup [.ref p2]) np3
          refine ⟨p1, p3, _, _, rfl, rfl, (fr_of (t7 _ _ (t6 _ _ (G5.tupAt e5)))).2.2, upd_same, by rw [List.length_take]; exact Nat.le_trans (show min j xb.length + 1 ≤ 4 by omega) (by decide), fun p4 H8 s8 e8 => ?_⟩
          obtain ⟨G8, t8⟩ := G7.grow s8
          have t48 := same_trans t5 (same_trans t6 (same_trans t7 t8))
          refine ⟨_, rfl, pt, _, 1, .ref pb, rfl, rfl, SqT.of (fr_of (t48 _ _ ept)).2.2, atI_nat (j := 1) rfl, _, rfl, _, _, rfl, rfl, _, rfl, pb, xb, rfl, (fr_of (t48 _ _ epb)).2.2, fun p5 H9 s9 e9 => ?_⟩
          rw [show ((j : Int) + 1) = ((j + 1 : Nat) : Int) by omega, cut_from] at e9
          obtain ⟨G9, t9⟩ := G8.grow s9
          refine ⟨p4, p5, _, _, rfl, rfl, s9 _ _ e8, e9, by rw [List.length_append, List.length_take, List.length_drop]; exact Nat.le_trans (show min j xb.length + 1 + (xb.length - (j + 1)) ≤ 7 by omega) (by decide), fun p6 Ha sa ea => ⟨by show 2 ≤ sizeLine; decide, fun p7 np7 => ?_⟩⟩
          obtain ⟨Ga, ta⟩ := G9.grow sa
          obtain ⟨Gb, tb, eb⟩ := Ga.new (o := .tup [va, .ref p6]) np7
          have tab := same_trans t9 (same_trans ta tb)
          have tall := same_trans t48 tab
          have e2f := (same_trans t7 (same_trans t8 tab)) _ _ e6
          have dN : Dq (fr (upd Ha p7 (.tup [va, .ref p6])) m l9) (.ref p7) (.tuple [.tuple (ms.map PyData.str), .tuple (bs.take j ++ [.tuple [.str uu, dt]] ++ bs.drop (j + 1))]) :=
            .tup eb (.cons (qa.same tall) (.cons (.tup (tb _ _ (Ga.tupAt ea)) (((((ab.take j).same tall).app (.cons (.tup e2f (.cons (qu.same tall) (.cons (qt.same tall) .nil))) .nil)).app ((ab.drop (j + 1)).same tall)))) .nil))
          refine ⟨es0, k + 1, o0, _, .ref p7, _, _, _, hdr', rfl, Gb, dN, ⟨ms, _, a + nt + b, rfl, h3, ?_, ?_, rfl⟩, sp0.same tall, ?_, ?_⟩
          · have hj := (List.getElem?_eq_some_iff.mp h5).1
            rw [List.length_append, List.length_append, List.length_take, List.length_drop]
            show _ + 1 + _ ≤ 3
            omega
          · have z := (h7.app (.cons h6 tp.tc .nil rfl rfl)).app h8
            rw [show 0 + (1 + 0) + 0 = 1 by omega, show a + (nt + 0) + b = a + nt + b by omega] at z
            exact z
          · rw [List.length_append, List.length_singleton] at ek
            omega
          · omega
        · rintro σ' H' ⟨es', k, o, nt, vt, dt, w5, w7, hdr, rfl, G, qt, tp, spn, ek, osz⟩
          rw [List.drop_length] at hdr
          obtain rfl : es' = [] := List.reverse_eq_nil_iff.mp hdr.symm
          obtain rfl : k = 3 := by simpa using ek
          exact ⟨_, rfl, kk vt dt nt H' l9 ls9 n9 G.mat (by omega) (FL2.trans G.sm) qt tp (by omega)⟩
      have d3le := d3'.le
      have lx : xb.length ≤ 3 := by rw [ab.len]; exact lb
      refine ⟨_, rfl, _, rfl, pt, _, 1, .ref pb, rfl, rfl, SqT.of (fr_of ept3).2.2, atI_nat (j := 1) rfl, pb, xb, rfl, .inr (SqT.of (fr_of epb3).2.2), m, c, l3, _, cs, ls3, n3, rfl, M3, by omega, by omega, by omega, fun ia H4 l4 ls4 n4 ia0 ia1 M4 nn4 s4 => ?_⟩
      obtain ⟨j, rfl⟩ : ∃ j : Nat, ia = (j : Int) := ⟨ia.toNat, by omega⟩
      have hj : j < bs.length := by rw [← ab.len]; omega
      obtain ⟨k', u, t, nt', ct', ja, ca, jb, cb', rfl, hbj, hfu, ttj, tbA, tbB, eN, eC⟩ := tb.cut hj
      obtain rfl : ct' = 0 := by omega
      obtain rfl : ca = 0 := by omega
      obtain rfl : cb' = 0 := by omega
      have d4 : Dl H m c l cs n (611 + 2 * (es.length : Int)) sp es H4 l4 ls4 n4 := d3'.next M4 nn4 s4 (by omega)
      have ept4 := s4.1 _ _ ept3
      have epb4 := s4.1 _ _ epb3
      have ab4 := ab3.same s4.1
      have qa4 := qa3.same s4.1
      have spn4 := spn3.same s4.1
      have qc4 := qc3.same s4.1
      have G4 : Gw m c l4 cs ls4 n4 H4 H4 := ⟨M4, .refl⟩
      refine ⟨_, rfl, .inl ⟨rfl, _, SqL.of (fr_of d4.dd).2.2⟩, _, rfl, _, rfl, by show 2 ≤ sizeLine; decide, fun pe npe => ?_⟩
      obtain ⟨G5, t5, e5⟩ := G4.new (o := .tup [.ref pt, .int (j : Int)]) npe
      have d5 : Dl H m c l cs n (611 + 2 * (es.length : Int)) sp es (upd H4 pe (.tup [.ref pt, .int (j : Int)])) l4 ls4 n4 := d4.next G5.mat (j := 0) (by omega) G5.sm (by omega)
      refine ⟨sp, _, .ref pe, rfl, rfl, (fr_of d5.dd).2.2, small1000 (by omega), ?_⟩
      have d6 := d5.put (ys := es ++ [.ref pe]) sp0 spm spc
      have kt := gw_put (m := m) (l := l4) (ys := es ++ [.ref pe]) d5.dd
      have ept6 := kt _ _ (t5 _ _ ept4)
      have epb6 := kt _ _ (t5 _ _ epb4)
      have e6 := kt _ _ e5
      have tupB := tb.tup
      have qt6 : Dq (fr (upd (upd H4 pe (.tup [.ref pt, .int (j : Int)])) sp (.lst (es ++ [.ref pe]))) m l4) (.ref pt) (.tuple [.tuple (ms.map PyData.str), .tuple bs]) :=
        (Dq.tup (t5 _ _ ept4) (.cons (qa4.same t5) (.cons (.tup (t5 _ _ epb4) (ab4.same t5)) .nil))).tups kt (tp_tup tupB)
      have spn6 := (spn4.same t5).keep kt
      have qc6 : Dq (fr (upd (upd H4 pe (.tup [.ref pt, .int (j : Int)])) sp (.lst (es ++ [.ref pe]))) m l4) (.ref vcA) dC := (qc4.same t5).tups kt (tcall' 1 (.inr (Nat.le_refl _))).tup
      generalize upd (upd H4 pe (HO.tup [V.ref pt, V.int (j : Int)])) sp (HO.lst (es ++ [.ref pe])) = H6 at d6 ept6 epb6 e6 qt6 spn6 qc6
      obtain ⟨p6, va6, pb6, xb6, ep6, ept7, qa7, epb7, ab7⟩ := dq_node qt6
      obtain rfl : pt = p6 := V.ref.inj ep6
      rw [ept6] at ept7
      cases ept7
      rw [epb6] at epb7
      cases epb7
      obtain ⟨vj, hvj, qj⟩ := ab7.at hbj
      obtain ⟨pj, vu, vtt, rfl, epj, qu, qtt⟩ := dq_pair qj
      refine ⟨_, rfl, pt, _, 1, .ref pb, rfl, rfl, SqT.of (fr_of ept6).2.2, atI_nat (j := 1) rfl, _, rfl, pb, xb, (j : Int), .ref pj, rfl, rfl, SqT.of (fr_of epb6).2.2, atI_nat hvj, pj, _, 1, vtt, rfl, rfl, SqT.of (fr_of epj).2.2, atI_nat (j := 1) rfl, ?_⟩
      refine ⟨⟨vtt, t, k', _, nt', es ++ [.ref pe], l4, ls4, n4, _, rfl, ⟨d6.mat, ?_, d6.sm, d6.dd⟩, qtt, ttj.tp, .snoc spn6 e6 qt6 tupB hms lb hbj hfu tbA tbB rfl, ?_, ?_, qc6, ?_⟩, ?_⟩
      · have := d6.le
        rw [List.length_append, List.length_singleton]
        omega
      · rw [List.length_append, List.length_singleton]
        omega
      · omega
      · rw [List.length_append, List.length_singleton]
        omega
      · show 3 - lenAt H6 sp < 3 - lenAt H' sp
        have e1 : lenAt H6 sp = (es ++ [V.ref pe]).length := by unfold lenAt; rw [(fr_of d6.dd).2.2]
        have e2 : lenAt H' sp = es.length := by unfold lenAt; rw [(fr_of d.dd).2.2]
        rw [e1, e2, List.length_append, List.length_singleton]
        omega
    · exact MO.mo_and (MO.mo_test (MO.mo_op MO.mr_nilT (MO.mo_op MO.mr_ix MO.mo_var MO.mo_c) (MO.mo_tup MO.mo_nil)))
        (MO.mo_and (MO.mo_test (MO.mo_op MO.mr_i0 (MO.mo_cb MO.mc_len (MO.mo_cons MO.mo_var MO.mo_nil)) (MO.mo_if (MO.mo_test (MO.mo_op MO.mr_nilT (MO.mo_op MO.mr_ix MO.mo_var MO.mo_c) (MO.mo_tup MO.mo_nil))) MO.mo_c MO.mo_c)))
          (MO.mo_test (MO.mo_op MO.mr_i0 (MO.mo_call (MO.mc_nx _) (MO.mo_cons MO.mo_var (MO.mo_cons MO.mo_c MO.mo_nil))) MO.mo_c)))
end
end K01
set_option Elab.async false
set_option linter.all false
set_option maxRecDepth 100000
set_option maxHeartbeats 4000000
/-! A def of one argument, called where it is known that no repr is under way. -/
namespace L2H
open PySem PySem.Spec PyProof.Rows L2
def FnG (P : Program) (w : World) (K : PySem.W.Frag) (mg : Str → Option Value) (base : Heap) (k : Nat) (f : Addr) (fd : FuncData) (x : Str) (sp : Sp) : Prop :=
  ∀ (A : Around) (outer : List Env) (s : Shared) (H : Hp) (u : Value) (v : V) (Q : VK) (E : XK), Room k A → A.guards = some [] → Env0 P w K mg base A outer s H → BindsTo s fd ⟨[u], []⟩ [(x, u)] → RelV v u → sp [v] H Q E →
    codeAny (model P w) A (.call (.ref f) ⟨[u], []⟩) (CR CX0 outer P w H s Q E) s
section
variable {P : Program} {w : World} {K : PySem.W.Frag} {mg : Str → Option Value} {base : Heap} {x name : Str} {st : Stmt} {f : Addr} {fd : FuncData} {N : List Str} {k : Nat} {sp : Sp}
theorem fnG_of (F : Fun K name name st f fd) (S : FnScope N [x] (defScope st))
    (body : ∀ (cdv : Value) (A : Around) (outer : List Env) (s : Shared) (H : Hp) (v : V) (Q : VK) (E : XK), Room k (A.deeper (envOfC name (defScope st) s.heap.objs.size f cdv)) → A.guards = some [] → sp [v] H Q E →
      ∃ t, PSs (cxOf CX0 P w K mg base N name (defScope st) f cdv A outer s H E).nox (defBody st) t ∧ t { nx := fun _ H' => Q .non H', rt := Q } (start N [v]) H) :
    FnG P w K mg base (k + 1) f fd x sp := by
  obtain ⟨oc, od, kV, doc, pm, an, cdv, ct, osl, rfl, lk, hcd⟩ := F.ex
  intro A outer s H u v Q E hr hg e0 hb ru hsp
  have KX : K.In s.heap := e0.mod.kin.keeps fun b o z => (e0.bs b o z).1
  have lim : s.heap.NoLimit := e0.mod.nolimit.keeps fun b o z => (e0.bs b o z).1
  have kinds : ∀ y ∈ [(x, u)], (defScope st).names.lookup y.1 = some .local ∨ ((defScope st).names.lookup y.1 = some .cell ∧ ((cellsFrom (s.heap.objs.size + 1) (defScope st).names []).lookup y.1).isSome = true) := fun y hy => by
    rcases List.mem_cons.mp hy with rfl | z
    · rcases S.par x (List.mem_cons_self ..) with q | q
      · exact .inl q
      · exact .inr ⟨q, PySem.W.cellsFrom_some _ _ _ (.inl q)⟩
    · cases z
  refine codeAny_call_function hr.depth (KX _ _ lk) rfl S.co S.gen rfl (PySem.W.codeRec_of KX hcd) (hb _ _ _ _ ?_)
  refine wpAny_newFunctionEnv_cells S.kind kinds fun env he s1 y => ?_
  subst he
  refine ⟨lim.keeps y.toInCall.keep, codeAny_func ?_⟩
  obtain ⟨t, ht, hq⟩ := body cdv A outer s H v Q E (hr.deeper _) hg hsp
  have I : Inv (cxOf CX0 P w K mg base N name (defScope st) f cdv A outer s H E) [] (start N [v]) H s1 := inv_start (ps := [x]) (us := [u]) S hr.hd e0 rfl (.cons ru .nil) y
  refine wpAny_mono (ht.nox.run [] s1 (start N [v]) H _ I hq) (fun fl s' hs => ?_) fun _ _ z => z
  cases fl with
  | ret u' =>
    obtain ⟨v', σ', H', J, rv, q⟩ := hs
    exact ⟨v', H', J.os, J.bare, J.base, J.hok, rv, q⟩
  | next =>
    obtain ⟨σ', H', J, q⟩ := hs
    exact ⟨V.non, H', J.os, J.bare, J.base, J.hok, rfl, q⟩
  | brk =>
    obtain ⟨_, _, _, q⟩ := hs
    exact q.elim
  | cont =>
    obtain ⟨_, _, _, q⟩ := hs
    exact q.elim
end
section
variable {X : Cx} {k : Nat} {f : Addr} {fd : FuncData} {sp : Sp} {x y : Str} {p pos : Pos} {e : Expr} {t : TA}
theorem pe_callG (F : FnG X.prog X.w X.K X.mg X.base k f fd y sp) (hr : Room k X.A) (gd : X.A.guards = some []) (hg : Gl X x) (hm : X.mg x = some (.ref f)) (hk : PySem.W.keepIn X.K (.ref f) = true) (hb : Binds X.K fd [y] [])
    (hx : Passes CX0 X fun _ _ _ => False) (ha : PA X [e] t) (hdb : (x == ("__debug__" : Str)) = false := by decide) (he : starEach [e] X.env = (false, eval e X.env) :: starEach [] X.env := by rfl) (hpl : (backTo pos (starEach [] X.env)).any (·.1) = false := by rfl) :
    PE X (.Call (.Name x p) [e] [] pos) (fun σ H Q => t σ H fun vs H1 => ∃ v, vs = [v] ∧ sp [v] H1 Q fun _ _ _ => False) := by
  refine ⟨fun pins s σ H Q I h => ?_⟩
  refine wpAny_Call_Name_kw (ld_glob I hg hm ?_ hdb)
  refine PySem.W.callWith_K (h₀ := X.base) I.ok.mod.kin hk (thn (ha.run pos pins s σ H _ I h) fun us s1 ⟨vs, H1, I1, r, v, ev, q⟩ => ⟨I1.kIn, ?_⟩) he hpl
  subst ev
  obtain ⟨u, rfl, ru⟩ := vals1 r
  have bt := hb s1 [u] I1.kIn rfl
  refine wpAny_call (codeAny_mono (F X.A X.stack s1 H1 u v Q (fun _ _ _ => False) hr gd I1.env0 bt ru q) fun r s' hq => ?_)
  cases r with
  | error e => exact hx pins σ H1 s1 e s' I1 hq
  | ok fl =>
    cases fl with
    | ret u => exact I1.after hq
    | next => exact False.elim hq
    | brk => exact False.elim hq
    | cont => exact False.elim hq
end
end L2H
set_option Elab.async false
set_option linter.all false
set_option maxRecDepth 100000
set_option maxHeartbeats 4000000
/-! an own error that keeps a field: raised; its field read where it is caught -/
namespace XH
open PySem PySem.W PySem.Calls PyProof.Rows L2
theorem relO_one {v : V} {v' : Value} (r : RelV v v') (f g : Str) : RelO (List.lookup g [(f, v)]) (if g = f then some v' else none) := by
  by_cases hw : g = f
  · subst hw
    rw [if_pos rfl]
    have q : List.lookup g [(g, v)] = some v := by simp [List.lookup]
    rw [q]
    exact r
  · rw [if_neg hw]
    have qw : (g == f) = false := by simpa using hw
    have q2 : List.lookup g [(f, v)] = none := by simp [List.lookup, qw]
    rw [q2]
    trivial
/-- C(e), to be raised: its own dict d is new and holds the field -/
def tXp (C : Addr) (f : Str) (te : TE) : L2.St → Hp → XK → Prop := fun σ H Q => te σ H fun v H1 => ∀ d, H1 d = none → Q (.ref C) (some d) (upd H1 d (.xd [(f, v)]))
/-- what a class says, so that its errors are raised and read -/
structure ExR (K : Frag) (C : Addr) (f : Str) : Prop where
  ga : findIn K (.ref C) "__getattribute__" = some (some (.builtin "BaseException.__getattribute__"))
  gg : findIn K (.ref C) "__getattr__" = some none
  nf : findIn K (.ref C) f = some none
  exC : subIn K (.ref C) (.type "BaseException") = some true
  tyC : typeIn K (.ref C) = some (.type "type")
  hdC : hasDictIn K C = true
section
variable {X : Cx} {C fI : Addr} {fd : FuncData} {f qn : Str} {B newId initId : String} {bmB : List Value}
theorem pmk_xp {x : Str} {e : Expr} {te : TE} {p pos : Pos} (T : ExT X.prog X.K X.mg C fI fd f qn B newId initId bmB) (R : ExR X.K C f) (dp : X.A.depth + 1 < recursionLimit) (gC : X.mg x = some (.ref C)) (kC : keepIn X.K (.ref C) = true) (hg : Gl X x) (he : PE X e te)
    (hs : starEach [e] X.env = (false, eval e X.env) :: starEach [] X.env := by rfl) (hdb : (x == ("__debug__" : Str)) = false := by decide) :
    PMk X (.Call (.Name x p) [e] [] pos) (tXp C f te) := by
  intro pins s σ H Q I h
  refine wpAny_Call_Name_kw (ld_glob I hg gC ?_ hdb)
  refine callWith_K (h₀ := X.base) I.ok.mod.kin kC ?_ hs (by rfl)
  rw [hs]
  show wpAny _ _ (spliced ((false, eval e X.env) :: backTo pos (starEach [] X.env))) _ _ s
  refine spliced_cons (thn (he.run pins s σ H _ I h) fun u s1 ⟨v, H1, I1, r1, q1⟩ => ?_)
  refine spliced_nil ⟨I1.kIn, ?_⟩
  show wpAny _ _ (call (.ref C) [u]) _ _ _
  have g1 := (inv_glob I1).1
  have g2 := (inv_glob I1).2
  have g3 := I1.nolimit
  obtain ⟨hp, g, dr, tk, os⟩ := s1
  refine made_pos T I1.kIn g1 g2 g3 dp fun h' tk' e dx m => ?_
  show MkP X pins σ Q (.ref e) ⟨h', g, dr, tk', os⟩
  obtain ⟨kp, eb, db, ne, ⟨t1, ob⟩, ns⟩ := m
  obtain ⟨G, g1, g2⟩ := restrict h' fun b => decide (b ≠ e)
  have gk : ∀ b, b ≠ e → G.get? b = h'.get? b := fun b hb => g1 b (decide_eq_true hb)
  have ge : G.get? e = none := g2 e (decide_eq_false fun z => z rfl)
  have gs : ∀ b o, G.get? b = some o → h'.get? b = some o := fun b o z => by
    by_cases hb : b = e
    · rw [hb, ge] at z
      cases z
    · rw [← gk b hb]
      exact z
  have old : ∀ b o, hp.get? b = some o → G.get? b = some o := fun b o z => by
    rw [gk b (Nat.ne_of_lt (Nat.lt_of_lt_of_le (Heap.lt_size z) eb))]
    exact kp b o z
  have od : ObjOk X.prog X.w (upd H1 dx (.xd [(f, v)])) G dx (.xd [(f, v)]) :=
    ⟨_, ns.at (fun o z => (gk dx ne).trans z), fun g => relO_one r1 f g⟩
  have J : Inv X pins σ (upd H1 dx (.xd [(f, v)])) ⟨G, g, dr, tk', os⟩ := I1.laid (t' := tk') old db od
  have hn : (upd H1 dx (HO.xd [(f, v)])) e = none := by
    rw [upd_ne (Ne.symm ne)]
    exact I1.hok.fresh eb
  exact ⟨e, _, _, ⟨G, g, dr, tk', os⟩, _, .ref C, some dx, rfl, J, gs, ge, ob, ⟨rfl, rfl⟩, rfl, rfl, hn, rfl, I1.bare, raises_own R.exC R.tyC, q1 dx (I1.hok.fresh db)⟩
/-- n.f, n the exception that the suite holds -/
def tByX (C : Addr) (f : Str) (a : Addr) (cls : Value) (d : Option Addr) (te : TE) : TE := fun σ H Q => te σ H fun x H1 => x = .ref a ∧ cls = .ref C ∧ ∃ (dd : Addr) (v : V), d = some dd ∧ H1 dd = some (.xd [(f, v)]) ∧ Q v H1
theorem pe_byX {a : Addr} {oe : Obj} {cls : Value} {d : Option Addr} {pn : List (Addr × Obj)} {e : Expr} {te : TE} {pos : Pos} (R : ExR X.K C f) (hz : Zc cls d oe) (hf : ∃ vs, oe.data = .fields vs) (he : PE (X.suite a ((a, oe) :: pn)) e te)
    (hb : attributeBase e f X.env (eval e X.env) = eval e X.env := by rfl) :
    PE (X.suite a ((a, oe) :: pn)) (.Attribute e f pos) (tByX C f a cls d te) := by
  refine ⟨fun pins s σ H Q I h => ?_⟩
  refine attr_of hb (thn (he.run pins s σ H _ I h) fun u s1 hh => ?_)
  obtain ⟨x, H1, I1, rx, ex, ec, dd, v, ed, ea, q⟩ := hh
  subst ex
  obtain rfl : u = Value.ref a := rx
  subst ec
  subst ed
  obtain ⟨ha, _⟩ := I1.pin (a, oe) (List.mem_append_left _ List.mem_cons_self)
  obtain ⟨vs, hd⟩ := hf
  have hx : ObjOk X.prog X.w H1 s1.heap dd (.xd [(f, v)]) := I1.hok dd _ ea
  obtain ⟨mA, hns, hr⟩ := hx
  obtain ⟨od, ho, hl⟩ := lookIn_ns hns
  have l : List.lookup f [(f, v)] = some v := by simp [List.lookup]
  obtain ⟨u, hu, ru⟩ := RelO.some_of (v := v) (o := mA f) (by rw [← l]; exact hr f)
  have J : PySem.W.InstAt s1.heap a oe C (some od) := ⟨ha, hz.1, by unfold PySem.W.notCls; rw [hd] <;> rfl, by rw [hz.2]; exact ho⟩
  exact HandSPX.exc_get I1.kIn J R.ga R.gg R.exC (PySem.W.findObj_own R.hdC R.nf rfl (by rw [hl, hu])) (handed_of ru) ⟨v, H1, I1.tok _, ru, q⟩
end
end XH
set_option Elab.async false
set_option linter.all false
set_option maxRecDepth 100000
set_option maxHeartbeats 4000000
/-! enumerate of a tuple; of a list or a tuple -/
namespace EnT
open PySem PySem.Spec PyProof.Rows L2
theorem meets_new1 {v : Value} {o : Obj} {H : Heap → Prop} (B : Begins v o H) :
    Meets (Builtin.«enumerate.__new__» ⟨[.type "enumerate", v], []⟩) (fun _ R s => H s.heap ∧
      R (.ok (.ret (.ref (s.heap.push o).objs.size))) { s with heap := (s.heap.push o).push { cls := .type "enumerate", data := .fields #[.none, .bool false, .ref s.heap.objs.size, rawInt 0, .none, .none] } }) :=
  .of_wp fun prog w A R s h => by
    obtain ⟨hp, g, d, tk, os⟩ := s; obtain ⟨h1, h⟩ := h
    have hsub := sub_enumerate
    have q1 : ∀ {A' : Around} {E : Value → Shared → Prop} {Q : Value → Shared → Prop}, Q (.ref hp.objs.size) ⟨hp.push o, g, d, tk, os⟩ → wpAny (model prog w) A' (pyIter v) Q E ⟨hp, g, d, tk, os⟩ :=
      fun q => B.iter prog w _ _ ⟨hp, g, d, tk, os⟩ _ h1 q
    wp_walk using q1
    refine wpAny_stack_any fun st => wpAny_pure ?_
    split
    · rename_i c _ _ _ _ _
      cases (c == Value.type "enumerate")
      · wp_walk using q1
        exact ⟨_, rfl, h⟩
      · wp_walk using q1
        exact ⟨_, rfl, h⟩
    · wp_walk using q1
      exact ⟨_, rfl, h⟩
section
variable {prog : Program} {w : World} {A : Around} {E : Value → Shared → Prop} {s : Shared}
theorem begins1 {v : Value} {o : Obj} {H : Heap → Prop} {Q : Value → Shared → Prop} (B : Begins v o H) (h1 : H s.heap)
    (h : ∀ h', IsEnum h' (s.heap.objs.size + 1) s.heap.objs.size 0 .none → h'.get? s.heap.objs.size = some o → h'.objs.size = s.heap.objs.size + 2 →
      (∀ b o, s.heap.get? b = some o → h'.get? b = some o) → Q (.ref (s.heap.objs.size + 1)) { s with heap := h' }) :
    wpAny (model prog w) A (call (.type "enumerate") [v]) Q E s := by
  refine callType_new F.called_enumerate (by decide) (F.typeCall_enumerate_1 _) (F.newCall_enumerate_1 _) (fun obj => F.args_object_init_2 obj _) F.entry_enumerate_new (meets_new1 B) ⟨h1, ?_⟩
  have hz : (s.heap.push o).objs.size = s.heap.objs.size + 1 := Heap.size_push ..
  show _ ∧ _
  rw [hz]
  have he : IsEnum ((s.heap.push o).push { cls := .type "enumerate", data := .fields #[.none, .bool false, .ref s.heap.objs.size, rawInt 0, .none, .none] }) (s.heap.objs.size + 1) s.heap.objs.size 0 .none := by
    have := Heap.get?_push_size (s.heap.push o) (o := { cls := .type "enumerate", data := .fields #[.none, .bool false, .ref s.heap.objs.size, rawInt 0, .none, .none] }) rfl
    rw [hz] at this; exact this
  refine ⟨⟨_, he, rfl⟩, h _ he (Heap.get?_push_of_some _ (Heap.get?_push_size _ B.free)) (by rw [Heap.size_push, hz]) fun b o x => Heap.get?_push_of_some _ (Heap.get?_push_of_some _ x)⟩
end
theorem enum_endT {prog : Program} {w : World} {A : Around} {E : Value → Shared → Prop} {s : Shared} {e it tt : Addr} {n i : Nat} {items : Array Value} {old : Value} {Q : Option Value → Shared → Prop} (hh : A.handled = none)
    (he : IsEnum s.heap e it (n : Int) old) (hit : s.heap.IsTupleIter it tt i) (ht : s.heap.IsTuple tt items) (hx : items[i]? = none)
    (hQ : ∀ h', Heap.ExtBut it s.heap h' → Q none { s with heap := h' }) : wpAny (model prog w) A (pyNext (.ref e)) Q E s := by
  have hT : s.TypeIs (.ref e) "enumerate" := ⟨_, he, rfl⟩
  unfold pyNext
  refine wpAny_bind (wpAny_attempt (wpAny_callSpecial?_slot (name := Str.ofString "__next__") hT F.slot_enumerate_next
    (wpAny_call_entry F.slot_enumerate_next hT F.entry_enumerate_next ?_ (F.args_enumerate_next_1 _))))
  show wpAny _ _ (field (.ref e) 2 >>= _) _ _ _
  refine wpAny_bind (wpAny_field he rfl (x := .ref it) rfl ?_)
  refine wpAny_bind (wpAny_nextOf_tuple_end (by rw [show A.in1.handled = A.handled from rfl]; exact hh) hit ht hx fun h' x he' hx' => ?_)
  obtain ⟨o, ho, hc⟩ := hx'
  refine wpAny_bind (wpAny_isInstance (T := "StopIteration") (b := true) ⟨o, ho, hc⟩ isSubtype_stop ?_)
  exact wpAny_pure (hQ _ he')
/-- the tuple at a, each item in a new pair -/
def IteT (K : PySem.W.Frag) (a : Addr) : It :=
  ⟨fun i H => ∃ (xs : List V) (x : V), SqT K H a xs ∧ xs[i]? = some x, fun i H v H' => ∃ T x, v = .ref T ∧ H T = none ∧ H' = upd H T (.tup [.int (i : Nat), x]) ∧ ∀ xs, SqT K H a xs → xs[i]? = some x, fun i H => ∃ xs : List V, SqT K H a xs ∧ xs.length ≤ i⟩
theorem turn_enumT {P : Program} {w : World} {K : PySem.W.Frag} {elts : List Expr} {kk : Nat} {tpos : Pos} (a e it : Addr) (hai : a ≠ it) (hae : a ≠ e) :
    Turn P w K (.Tuple elts kk tpos) (IteT K a) [e, it] e (fun i h => (∃ old, IsEnum h e it ((i : Nat) : Int) old) ∧ h.IsTupleIter it a i ∧ e ≠ it) where
  mem := by simp
  obj := fun i h st b hb => by
    obtain ⟨⟨old, he⟩, ⟨o, ho, hc, hd⟩, _⟩ := st
    have e' : b = e ∨ b = it := by simpa using hb
    rcases e' with z | z
    · rw [z]; exact ⟨_, he, fun v q => nomatch q⟩
    · rw [z]; exact ⟨o, ho, fun v q => by rw [hd] at q; cases q⟩
  keep := fun i h h' st k => let ⟨⟨old, he⟩, hi, hne⟩ := st; ⟨⟨old, k e (by simp) _ he⟩, hi.at fun o q => k it (by simp) o q, hne⟩
  item := by
    intro X hP hw hK hc i pins s σ H E I hf st hg
    subst hP hw hK
    obtain ⟨⟨old, he⟩, hit, hne⟩ := st
    obtain ⟨xs, x, hq, hx⟩ := hg
    obtain ⟨its, rv, p, hz⟩ := I.tuple hq
    have p : s.heap.IsTuple a its.toArray := p
    obtain ⟨u, hu, ru⟩ := rv.get hx
    have hel : e < s.heap.objs.size := Heap.lt_size he
    have hil : it < s.heap.objs.size := by obtain ⟨_, q, _⟩ := hit; exact Heap.lt_size q
    have hlt : i < its.toArray.size := by
      have := (List.getElem?_eq_some_iff.mp hu).1
      simpa using this
    refine wpAny_pyNext_enum_itemC (Draws.tuple (by rw [show X.A.in1.handled = X.A.handled from rfl]; exact I.ok.hd hc) it a hai its.toArray) he ⟨hit, p⟩ hlt hne (fun z => ?_) fun x' h' tk hP ho hst' hT hsz hk => ?_
    · rcases List.mem_cons.mp z with z | z
      · exact hne z
      · exact hae (List.mem_singleton.mp z).symm
    have hxu : x' = u := by
      have y : its[i]? = some x' := by simpa using hP
      rw [hu] at y
      exact (Option.some.inj y).symm
    subst hxu
    obtain ⟨hit', _⟩ := hst'
    refine ⟨_, rfl, wpAny_letOwnedTupleGo_enum (s := { s with heap := h', toks := tk + 1 }) ho fun h'' he' sb => ?_⟩
    have hT2 : h''.get? s.heap.objs.size = some { cls := .type "tuple", data := .seq #[.int i tk, x'] } := (sb.2 _ (Nat.ne_of_gt hel)).trans hT
    have new : ObjOk X.prog X.w (upd H s.heap.objs.size (.tup [.int (i : Nat), x])) h'' s.heap.objs.size (.tup [.int (i : Nat), x]) :=
      ⟨by show 2 ≤ sizeLine; decide, [.int i tk, x'], .cons ⟨_, rfl⟩ (.cons ru .nil), ⟨_, hT2, rfl, _, rfl⟩⟩
    have I1 : Inv X pins σ (upd H s.heap.objs.size (.tup [.int (i : Nat), x])) { s with heap := h'', toks := tk + 1 } :=
      I.turnedNew (ch := [e, it]) (fun b ob hb q => (sb.2 b (fun z => hb (by simp [z]))).trans (hk b ob (fun z => hb (by simp [z])) (fun z => hb (by simp [z])) q)) hf (Nat.le_refl _) new
    refine ⟨.ref s.heap.objs.size, _, I1, rfl, ⟨_, x, rfl, I.hok.fresh (Nat.le_refl _), rfl, fun ys hy => by rw [I.tuple_inj hy hq]; exact hx⟩, ⟨⟨x', ?_⟩, hit'.at fun o q => (sb.2 it (Ne.symm hne)).trans q, hne⟩, fun b hb => ?_⟩
    · have e1 : ((i + 1 : Nat) : Int) = (i : Int) + 1 := by omega
      rw [e1]; exact he'
    · have hb' : b < s.heap.objs.size := by
        have e' : b = e ∨ b = it := by simpa using hb
        rcases e' with z | z
        · rw [z]; exact hel
        · rw [z]; exact hil
      rw [upd_ne (Nat.ne_of_lt hb')]
      exact (hf b hb).1
  done := by
    intro X hP hw hK hc i pins s σ H E I hf st hg
    subst hP hw hK
    obtain ⟨⟨old, he⟩, hit, hne⟩ := st
    obtain ⟨xs, hq, hx⟩ := hg
    obtain ⟨its, rv, p, hz⟩ := I.tuple hq
    have p : s.heap.IsTuple a its.toArray := p
    obtain ⟨f0, f1, f2, f3, f4, f5⟩ := hf it (by simp)
    have hl := rv.length
    exact enum_endT (I.ok.hd hc) he hit p (by simp; omega) fun h' eb => ⟨rfl, I.turned (t' := s.toks) (fun b o hb q => eb b o hb q) f0 f1 f3 f4 f5⟩
  self := fun A i s Q E st h => let ⟨⟨_, he⟩, _⟩ := st; wpAny_pyIter_enum he h
/-- enumerate(v), v a list or a tuple -/
def iEnumA (K : PySem.W.Frag) (ta : TA) : TI := fun σ H R => ta σ H fun vs H1 => ∃ a xs, vs = [.ref a] ∧ ((SqL K H1 a xs ∧ R (Ite K a) H1) ∨ (SqT K H1 a xs ∧ R (IteT K a) H1))
theorem pi_enumA {X : Cx} {e : Expr} {ta : TA} {p pos tpos : Pos} {elts : List Expr} {kk : Nat} (hg : Gl X "enumerate") (hm : X.mg "enumerate" = none) (ha : PA X [e] ta) (hs : starEach [e] X.env = [(false, eval e X.env)] := by rfl) :
    PI X (.Tuple elts kk tpos) (.Call (.Name "enumerate" p) [e] [] pos) (iEnumA X.K ta) := by
  refine ⟨fun pins s σ H R I h => ?_⟩
  refine Call_ (ld_blt I hg hm boot_enumerate (PyProof.Rows.callWith_type1 (thn (ha.run pos pins s σ H _ I h) fun us s1 ⟨vs, H1, I1, r1, q1⟩ => ?_) hs rfl))
  obtain ⟨a, xs, ex, q⟩ := q1
  subst ex
  cases r1 with
  | cons r rr =>
    cases rr
    cases r
    have e' : ∀ b ∈ [s1.heap.objs.size + 1, s1.heap.objs.size], s1.heap.objs.size ≤ b := fun b hb => by
      have : b = s1.heap.objs.size + 1 ∨ b = s1.heap.objs.size := by simpa using hb
      rcases this with z | z
      · rw [z]; exact Nat.le_add_right _ _
      · rw [z]; exact Nat.le_refl _
    rcases q with ⟨hq, q⟩ | ⟨hq, q⟩
    · obtain ⟨its, rv, p', hz⟩ := I1.list hq
      refine call_enumerate_list p'.isList fun h' he hit hsz hk => wpAny_pyIter_enum he ?_
      have I2 : Inv X pins σ H1 { s1 with heap := h' } := I1.kept (t' := s1.toks) hk
      exact ⟨s1.heap.objs.size + 1, [s1.heap.objs.size + 1, s1.heap.objs.size], _, _, H1, rfl, I2, turn_enum a (s1.heap.objs.size + 1) s1.heap.objs.size, ⟨⟨.none, he⟩, hit, Nat.succ_ne_self _⟩, fun b hb => I1.fpOk (e' b hb) (I1.hok.fresh (e' b hb)), q⟩
    · obtain ⟨its, rv, p', hz⟩ := I1.tuple hq
      have p2 : s1.heap.IsTuple a its.toArray := p'
      have lt : a < s1.heap.objs.size := by obtain ⟨_, z, _⟩ := p2; exact Heap.lt_size z
      refine begins1 (begins_tuple a its.toArray) p2 fun h' he ho hsz hk => wpAny_pyIter_enum he ?_
      have I2 : Inv X pins σ H1 { s1 with heap := h' } := I1.kept (t' := s1.toks) hk
      exact ⟨s1.heap.objs.size + 1, [s1.heap.objs.size + 1, s1.heap.objs.size], _, _, H1, rfl, I2, turn_enumT a (s1.heap.objs.size + 1) s1.heap.objs.size (Nat.ne_of_lt lt) (Nat.ne_of_lt (Nat.lt_succ_of_lt lt)), ⟨⟨.none, he⟩, ⟨_, ho, rfl, rfl⟩, Nat.succ_ne_self _⟩, fun b hb => I1.fpOk (e' b hb) (I1.hok.fresh (e' b hb)), q⟩
/-- the pairs of a tuple's items -/
theorem walk_enumT {K : PySem.W.Frag} {a : Addr} {xs : List V} : Walk (IteT K a) xs.length (fun H => SqT K H a xs) (YPair (fun i => some (.int (i : Nat))) (fun i => xs[i]?)) where
  goes := fun i H hi q => ⟨xs, xs[i], q, by simp [hi]⟩
  stops := fun H q => ⟨xs, q, Nat.le_refl _⟩
  yields := fun i H x H' hi q y => by
    obtain ⟨T, u, rfl, n, rfl, h⟩ := y
    exact ⟨T, _, u, rfl, n, rfl, rfl, h xs q⟩
end EnT
set_option Elab.async false
set_option linter.all false
set_option maxRecDepth 100000
set_option maxHeartbeats 4000000
/-! == and != by an own __eq__ -/
namespace OwI
open PySem PySem.Spec PyProof.Rows PySem.SeqAt
section
variable {M : Model} {prog : Program} {w : World} {A : Around} {E : Value → Shared → Prop} {s : Shared} {K : PySem.W.Frag} {x C f : Addr} {ox : Obj} {od : Option Obj} {b tb : Value}
theorem ifBound_ne {args : List Value} {Q : Option Value → Shared → Prop} (X : K.In s.heap) (I : PySem.W.InstAt s.heap x ox C od) (hs : PySem.W.findIn K (.ref C) "__ne__" = some (some (.builtin "object.__ne__")))
    (h : wpAny M A (call (.builtin "object.__ne__") (.ref x :: args)) (fun v => Q (some v)) E s) : wpAny M A (callSpecialIfBound? (.ref x) "__ne__" args) Q E s := by
  simp only [callSpecialIfBound?, bindSpecialIfBound?]
  refine wpAny_holding (wpAny_bind (wpAny_bind (wpAny_bind (I.type.here ((PySem.W.looks_findIn X hs).here ?_)))))
  refine wpAny_bind (wpAny_askSetting (wpAny_ite ?_))
  have fin : wpAny M A (call (.builtin "object.__ne__") ([.ref x] ++ args) >>= fun v => pure (some v)) Q E s := wpAny_bind (wpAny_mono h (fun v s' h' => wpAny_pure h') fun _ _ h' => h')
  split
  · exact wpAny_bind (wpAny_of_eq (F.cmp_object.ne.bind _) (wpAny_pure (by exact fin)))
  · exact wpAny_tryCatch (wpAny_bind (wpAny_of_eq (F.cmp_object.ne.bind _) (wpAny_pure (by exact fin))))
theorem entry_ne {Q : Fin → Shared → Prop} (X : K.In s.heap) (I : PySem.W.InstAt s.heap x ox C od) (hu : A.units < cLine) (hs : PySem.W.findIn K (.ref C) "__eq__" = some (some (.ref f))) (hf : PySem.W.isFn K (.ref f) = true)
    (h : wpAny (model prog w) A (call (.ref f) [.ref x, b]) (fun v s' => ∃ r, v = .bool r ∧ Q (.done (.ret (.bool (!r)))) s') E s) :
    wpAny (model prog w) A (Builtin.«object.__ne__» ⟨[.ref x, b], []⟩) Q E s := by
  unfold Builtin.«object.__ne__»
  repeat (first
    | with_reducible refine wpAny_cRoomFor hu ?_
    | (refine wpAny_bind (m := callSpecialIfBound? (.ref x) (Str.ofString "__eq__") [b])
        (PySem.W.ifBound_K X I hs hf (wpAny_mono h (fun r s' hr => by
          obtain ⟨b, rfl, hq⟩ := hr
          repeat (first | exact hq | exact wpAny_pure hq | exact wpAny_truthy_bool hq | (refine wpAny_bind (m := truthy (.bool _)) (wpAny_truthy_bool ?_)) | wp_step)) fun _ _ e => e)))
    | wp_step)
theorem rc_ne {h₀ : Heap} {L : Addr} {m : Str → Option Value} {Q : Value → Shared → Prop} (hu : A.units + 1 < cLine) (F0 : Fr h₀ L s.heap m) (X₀ : K.In h₀) (I : PySem.W.InstAt s.heap x ox C od) (hb : PySem.W.Looks (model prog w) s.heap (typeOf b) tb) (hn : PySem.W.notFirst K C tb = true)
    (hm : PySem.W.mroIn K C (.type "object") = some true) (hs : PySem.W.findIn K (.ref C) "__eq__" = some (some (.ref f))) (hf : PySem.W.isFn K (.ref f) = true) (hne : PySem.W.findIn K (.ref C) "__ne__" = some (some (.builtin "object.__ne__")))
    (h : wpAny (model prog w) A.in1 (call (.ref f) [.ref x, b]) (fun v s' => ∃ r, v = .bool r ∧ Q (.bool (!r)) s') E s) : wpAny (model prog w) A (richCompare .NotEq (.ref x) b) Q E s := by
  have X := X₀.keeps F0.keep
  have one : wpAny (model prog w) A (tryCompare (.ref x) "__ne__" b) (fun r s' => ∃ v, r = some v ∧ Q v s') E s := by
    unfold tryCompare
    refine wpAny_bind (ifBound_ne X I hne (wpAny_call (codeAny_call_builtin F.cmp_object.ne.plain F.cmpEntry_ne (PySem.W.check_slot F.cmpKind_ne F.cmpSplit_ne (I.type.andThen (PySem.W.looks_mroIn X hm)) (F.cmpArgs_ne _ _) ?_))))
    refine entry_ne (A := A.in1) X I hu hs hf (wpAny_mono h (fun v s' hv => ?_) fun _ _ e => e)
    obtain ⟨r, rfl, hq⟩ := hv
    first | exact ⟨r, rfl, wpAny_pure ⟨_, rfl, hq⟩⟩ | exact ⟨r, rfl, wpAny_pure (wpAny_pure ⟨_, rfl, hq⟩)⟩ | exact ⟨r, rfl, _, rfl, hq⟩
  simp only [richCompare, cmpInfo_NotEq, oneThing_ref]
  refine wpAny_holding (wpAny_bind (wpAny_cRoomFor (Nat.lt_of_succ_lt hu) ?_))
  refine wpAny_bind (I.type.here (wpAny_bind (hb.here ?_)))
  split
  · rename_i q
    have e : PySem.W.subIn K tb (.ref C) = some false := by
      rcases Bool.or_eq_true_iff.mp hn with e | e
      · rw [beq_iff_eq.mp e] at q; simp at q
      · exact beq_iff_eq.mp e
    refine wpAny_bind ((PySem.W.looks_subIn X e).here ?_)
    simp only [Bool.false_eq_true, if_false]
    refine wpAny_bind (wpAny_mono one (fun r s' z => ?_) fun _ _ e => e)
    obtain ⟨v, rfl, hq⟩ := z
    exact wpAny_pure hq
  · refine wpAny_bind (wpAny_pure ?_)
    simp only [Bool.false_eq_true, if_false]
    refine wpAny_bind (wpAny_mono one (fun r s' z => ?_) fun _ _ e => e)
    obtain ⟨v, rfl, hq⟩ := z
    exact wpAny_pure hq
end
end OwI
namespace OwI
open PySem PySem.Spec PyProof.Rows L2
/-- the kind of what an own __eq__ is held against -/
def OthK (K : PySem.W.Frag) (C : Addr) (H : Hp) (y : V) : Prop := ∃ b, y = .ref b ∧ ((∃ C' dy gs, H b = some (.ins C' dy gs) ∧ PySem.W.notFirst K C (.ref C') = true) ∨ (∃ xs, SqT K H b xs ∧ PySem.W.notFirst K C (.type "tuple") = true))
def rEqI (K : PySem.W.Frag) (C : Addr) (sp : Sp) (E : XK) : R2 := fun x y H Q => ∃ a dx fs, x = .ref a ∧ H a = some (.ins C dx fs) ∧ OthK K C H y ∧ sp [x, y] H (fun v H' => ∃ r, v = .bl r ∧ Q (.bl r) H') E
def rNeI (K : PySem.W.Frag) (C : Addr) (sp : Sp) (E : XK) : R2 := fun x y H Q => ∃ a dx fs, x = .ref a ∧ H a = some (.ins C dx fs) ∧ OthK K C H y ∧ sp [x, y] H (fun v H' => ∃ r, v = .bl r ∧ Q (.bl (!r)) H') E
/-- the class at C has its own __eq__, at g -/
structure EqI (K : PySem.W.Frag) (C g : Addr) : Prop where
  eq : PySem.W.findIn K (.ref C) "__eq__" = some (some (.ref g))
  fn : PySem.W.isFn K (.ref g) = true
  ne : PySem.W.findIn K (.ref C) "__ne__" = some (some (.builtin "object.__ne__"))
  mo : PySem.W.mroIn K C (.type "object") = some true
section
variable {X : Cx} {CX : CXT} {C g : Addr} {n : Nat} {fd : FuncData} {ps : List Str} {sp : Sp} {E : XK}
theorem oth_looks {pins : List (Addr × Obj)} {σ : L2.St} {H : Hp} {s : Shared} {y : V} {u : Value} (I : Inv X pins σ H s) (ry : RelV y u) (o : OthK X.K C H y) : ∃ tb, PySem.W.Looks (model X.prog X.w) s.heap (typeOf u) tb ∧ PySem.W.notFirst X.K C tb = true := by
  obtain ⟨b, rfl, h⟩ := o
  obtain rfl : u = Value.ref b := ry
  rcases h with ⟨C', dy, gs, hb, nf⟩ | ⟨xs, hb, nf⟩
  · obtain ⟨mA, O, _⟩ := ins_get I.hok hb
    obtain ⟨od, J, _⟩ := O.look
    exact ⟨_, J.type, nf⟩
  · obtain ⟨its, rv, p, hz⟩ := I.tuple hb
    obtain ⟨o, ho, hc, _⟩ := p
    exact ⟨_, fun A Q E s k q => wpAny_typeOf_ref (k _ _ ho) (by rw [hc]; exact q), nf⟩
theorem op_eqI (e : EqI X.K C g) (F : FnOk X.prog X.w X.K X.mg X.base CX n g fd ps sp) (hb : Binds X.K fd ps []) (hl : ps.length = 2) (hr : Room n X.A) (hx : Passes CX X E) : OpR X (compareOp .Eq) (rEqI X.K C sp E) := by
  intro pins s σ H x y v u Q I rx ry h
  obtain ⟨a, dx, fs, rfl, ha, ho, q⟩ := h
  cases (show v = Value.ref a from rx)
  obtain ⟨mA, O, _⟩ := ins_get I.hok ha
  obtain ⟨od, J, _⟩ := O.look
  obtain ⟨tb, J', hn⟩ := oth_looks I ry ho
  obtain ⟨m, hF⟩ := I.fr
  show wpAny _ _ (richCompare .Eq (.ref a) u) _ _ _
  refine PySem.W.cmp_K (op := .Eq) (tb := tb) hr.units0 hF I.ok.mod.kin J J' hn e.eq e.fn ?_
  refine wpAny_mono (run_fn (us := [.ref a, u]) (vs := [.ref a, y]) (dvs := []) (ds := []) F hr hb .nil hx I (.cons rfl (.cons ry .nil)) q) (fun w s' z => ?_) fun _ _ x => x
  obtain ⟨z', H', I', rz, r, rfl, qz⟩ := z
  exact SlX.cmpback rz ⟨.bl r, H', I', rz, qz⟩
theorem op_neI (e : EqI X.K C g) (F : FnOk X.prog X.w X.K X.mg X.base CX n g fd ps sp) (hb : Binds X.K fd ps []) (hr : Room (n + 1) X.A) (hx : Passes CX X E) : OpR X (compareOp .NotEq) (rNeI X.K C sp E) := by
  intro pins s σ H x y v u Q I rx ry h
  obtain ⟨a, dx, fs, rfl, ha, ho, q⟩ := h
  cases (show v = Value.ref a from rx)
  obtain ⟨mA, O, _⟩ := ins_get I.hok ha
  obtain ⟨od, J, _⟩ := O.look
  obtain ⟨tb, J', hn⟩ := oth_looks I ry ho
  obtain ⟨m, hF⟩ := I.fr
  show wpAny _ _ (richCompare .NotEq (.ref a) u) _ _ _
  refine rc_ne (by have := hr.un; omega) hF I.ok.mod.kin J J' hn e.mo e.eq e.fn e.ne ?_
  have rc := F.run X.A.in1 X.stack s H ⟨[.ref a, u], []⟩ [.ref a, u] [.ref a, y] _ E (Room.in1 hr) I.env0.in1 (by
    have z := hb s [.ref a, u] I.kIn (by
      have := F.len _ _ _ _ q
      rw [← this]
      rfl)
    simpa using z) (.cons rfl (.cons ry .nil)) q
  refine wpAny_call (codeAny_mono rc fun r s' hq => ?_)
  cases r with
  | error e => exact hx pins σ H s e s' I hq
  | ok fl =>
    cases fl with
    | ret u =>
      obtain ⟨z', H', I', rz, r, rfl, qz⟩ := I.after hq
      cases (show u = Value.bool r from rz)
      exact ⟨r, rfl, .bl (!r), H', I', rfl, qz⟩
    | next => exact False.elim hq
    | brk => exact False.elim hq
    | cont => exact False.elim hq
end
end OwI
set_option Elab.async false
set_option linter.all false
set_option maxRecDepth 100000
set_option maxHeartbeats 4000000
/-! several clauses, each of them with the exception's name -/
namespace TrA
open PySem PySem.Spec PyProof.Rows L2
abbrev Suite := Addr → Value → Option Addr → TS
def endsAs (i : Nat) (D : Ends) : Ends := { nx := fun σ' H' => D.nx (σ'.set i none) H', rt := D.rt, bk := fun σ' H' => D.bk (σ'.set i none) H', ct := fun σ' H' => D.ct (σ'.set i none) H' }
/-- what the clauses wish of an exception, one behind the other -/
def wManyAs (K : PySem.W.Frag) (i : Nat) (Wout : WX) (D : Ends) : List (Value × Suite) → WX
  | [] => Wout
  | (c, ts) :: r => fun cls d σ H => ∃ b, PySem.W.exmOne K cls c = some b ∧ (b = true → ∀ a, H a = none → ts a cls d (endsAs i D) (σ.set i (some (.ref a))) H) ∧ (b = false → wManyAs K i Wout D r cls d σ H)
inductive HdAs (X : Cx) (n : Str) : List ExceptHandler → List (Value × Suite) → Prop
  | nil : HdAs X n [] []
  | cons {x : Str} {c : Value} {ts : Suite} {b₀ : Stmt} {suite : List Stmt} {np pos' : Pos} {hds : List ExceptHandler} {l : List (Value × Suite)} (hc : Names X x c)
      (hsu : ∀ (a : Addr) (oe : Obj) (cls : Value) (d : Option Addr) (pn : List (Addr × Obj)), Zc cls d oe → (∃ vs, oe.data = .fields vs) → PSs (X.suite a ((a, oe) :: pn)) (b₀ :: suite) (ts a cls d)) (r : HdAs X n hds l) :
      HdAs X n (.ExceptHandler (some (.Name x np)) (some n) (b₀ :: suite) pos' :: hds) ((c, ts) :: l)
section
variable {X : Cx} {n : Str} {i : Nat} {body : List Stmt} {h₀ : ExceptHandler} {hds : List ExceptHandler} {l : List (Value × Suite)} {pos : Pos} {tb : WX → TS} {Wout : WX}
theorem ps_tries (hs : X.stack = X.env :: X.outer) (hf : X.env.frame = some X.env.locals) (hN : X.N.Nodup) (hi : X.N[i]? = some n) (hln : X.env.kindOf n = some .local) (tk : Takes X Wout)
    (hb : ∀ (W : WX) (pn : List (Addr × Obj)) (xe : Value → Shared → Prop), Takes (X.tr pn xe) W → PassesOwn (model X.prog X.w) X.A X.env xe → PSs (X.tr pn xe) body (tb W))
    (hh : HdAs X n (h₀ :: hds) l) : PS X (.Try body (h₀ :: hds) [] [] pos) (fun D σ H => tb (wManyAs X.K i Wout D l) D σ H) := by
  refine ⟨fun pins s σ H D I h => ?_⟩
  have ok := I.ok
  have hloc : Loc X.env.scope n := .inl hln
  have hfr : X.A.frames = some (X.env :: X.outer) := by rw [ok.frames, hs]
  refine wpAny_Try_except ?_
  refine wpAny_mono ((hb (wManyAs X.K i Wout D l) (X.pn ++ pins) (fun e s₁ => wpAny (model X.prog X.w) X.A (noteFrame e X.env) (fun _ s₂ => wpAny (model X.prog X.w) X.A (setFlight e none) (fun _ s₃ =>
    wpAny (model X.prog X.w) X.A (handleBy e X.env (h₀ :: hds)) (SP X pins D) X.xe s₃) X.xe s₂) X.xe s₁) (fun u s' xx => ?_) PassesOwn.looking).run [] s σ H D (I.toTry _) h) (fun f s1 hsp => ?_) (fun e s1 he => he)
  · -- the catch
    obtain ⟨a, B, sI, pins', σ', H', cls, d, rfl, J', nb, up, sky, na, os, ag, w⟩ := xx
    have J : Inv X pins σ' H' sI := J'.ofTry ok
    have sky' : Sky B (X.env :: X.outer) a (Zc cls d) X.env.locals s'.heap := by rw [← hs]; exact sky
    show wpAny (model X.prog X.w) X.A (noteFrame (.ref a) X.env) _ _ _
    refine Sky.land Zc.steady hfr hf sky' fun h3 fl3 up3 => ?_
    have J3 : Inv X pins σ' H' { s' with heap := h3 } := J.landed nb fl3.1 (up.trans up3) os ag
    obtain ⟨oe3, vs3, he3, hz3, hd3⟩ := fl3.there
    have notFr : ∀ {h : Heap} {o : Obj} {vs : Array Value}, h.FunFrames B (X.env :: X.outer) → h.get? a = some o → o.data = .fields vs → a ∉ frs (X.env :: X.outer) := fun {h o vs} ff e dd hm => by
      obtain ⟨_, o', e', hnf⟩ := ff.mem hm
      rw [e] at e'; cases e'
      exact hnf _ dd
    have nfr := notFr fl3.2.2.1 he3 hd3
    have nL : a ≠ X.env.locals := fun z => nfr (List.mem_filterMap.mpr ⟨X.env, List.mem_cons_self, by rw [hf, z]⟩)
    have nF : a ∉ X.fs := fun hm => by
      obtain ⟨e, he, q⟩ := List.mem_filterMap.mp hm
      exact nfr (List.mem_filterMap.mpr ⟨e, List.mem_cons_of_mem _ he, q⟩)
    have S3 := J3.suite he3 hd3 na nL nF
    have go : ∀ {hds' : List ExceptHandler} {l' : List (Value × (Addr → Value → Option Addr → TS))}, HdAs X n hds' l' → wManyAs X.K i Wout D l' cls d σ' H' →
        wpAny (model X.prog X.w) X.A (handleBy (.ref a) X.env hds') (SP X pins D) X.xe { s' with heap := h3 } := by
      intro hds' l' hk
      induction hk with
      | nil =>
        intro w
        refine wpAny_handleBy_nil ?_
        obtain ⟨k1, k2, k3, oe, vs, T, oT, ts', he, hz, hd, h1, hr⟩ := id fl3
        unfold PySem.passOn
        refine wpAny_bind (wpAny_field he hd h1 ?_)
        rw [if_neg (show ¬ ((Value.ref T == Value.none) = true) from by simp)]
        have fin : wpAny (model X.prog X.w) X.A (setFlight (.ref a) X.env.frame) (fun _ s4 => wpAny (model X.prog X.w) X.A (throw (.ref a) : Sem Flow) (SP X pins D) X.xe s4) X.xe { s' with heap := h3 } := by
          rw [hf]
          refine HandSPX.setFlight_upZ fl3 fun h4 hh4 up4 => wpAny_throw (tk _ _ ?_)
          exact ⟨a, B, sI, pins, σ', H', cls, d, rfl, J, nb, (up.trans up3).trans up4, .inr (.inr (by rw [hs]; exact hh4)), na, os, ag, w⟩
        first
          | exact wpAny_bind (wpAny_pure (wpAny_bind fin))
          | exact wpAny_bind fin
      | @cons x c ts b₀ suite np pos' hds2 l2 hc hsu r ih =>
        intro w
        obtain ⟨b, hb1, hyes, hno⟩ := w
        refine wpAny_handleBy_cons (codeAny_handlers_test ?_) (by intro q; cases q)
        have LT : PySem.W.Looks (model X.prog X.w) h3 (typeOf (.ref a)) cls := fun A Q E s k q => wpAny_typeOf_ref (k _ _ he3) (by rw [hz3.1]; exact q)
        have LM := PySem.W.exm_one (M := model X.prog X.w) (J3.kIn) LT hb1
        have test : ∀ {Q : Value → Shared → Prop} {E : Value → Shared → Prop}, Q c { s' with heap := h3 } → wpAny (model X.prog X.w) (X.A.mark (some (.ref a))) (eval (.Name x np) X.env) Q E { s' with heap := h3 } := fun {Q E} q => by
          obtain ⟨hg, hdbg, hm | ⟨hm, hv, hnn⟩⟩ := hc
          · exact ld_glob (X := X.suite a ((a, oe3) :: (X.pn ++ pins))) S3 hg hm q hdbg
          · exact ld_blt (X := X.suite a ((a, oe3) :: (X.pn ++ pins))) S3 hg hm hv q hnn hdbg
        refine test (LM.here ?_)
        cases b with
        | true =>
          refine codeAny_handlers_suite_as ?_
          refine HandSPX.lands_againZ fl3 fun h4 fl4 up4 => ?_
          have J4 : Inv X pins σ' H' { s' with heap := h4 } := J.landed nb fl4.1 ((up.trans up3).trans up4) os ag
          obtain ⟨oe4, vs4, he4, hz4, hd4⟩ := fl4.there
          have S4 := J4.suite he4 hd4 na nL nF
          refine store_ok (X := X.suite a ((a, oe4) :: (X.pn ++ pins))) (v := .ref a) S4 hN hi hloc rfl (fun s5 S5 => ?_) (.inr hln)
          refine wpAny_mono ((hsu a oe4 cls d (X.pn ++ pins) hz4 ⟨_, hd4⟩).run [] s5 _ H' _ S5 (hyes rfl a na)) (fun f s6 hsp => ?_) (fun _ _ z => False.elim z)
          have end_ : ∀ {σ6 : L2.St} {H6 : Hp} {Q : Shared → Prop}, Inv (X.suite a ((a, oe4) :: (X.pn ++ pins))) [] σ6 H6 s6 → (∀ s7, Inv X pins (σ6.set i none) H6 s7 → Q s7) →
              wpAny (model X.prog X.w) X.A (do bindName X.env n .none; unbindBehindTheSuite X.env n pos') (fun _ s7 => Q s7) X.xe s6 := fun {σ6 H6 Q} S6 hq => gone_ok (S6.unsuite ok) hN hi hln hq
          cases f with
          | next =>
            obtain ⟨σ6, H6, S6, q6⟩ := hsp
            exact end_ S6 fun s7 J7 => ⟨_, _, J7, q6⟩
          | brk =>
            obtain ⟨σ6, H6, S6, q6⟩ := hsp
            exact end_ S6 fun s7 J7 => ⟨_, _, J7, q6⟩
          | cont =>
            obtain ⟨σ6, H6, S6, q6⟩ := hsp
            exact end_ S6 fun s7 J7 => ⟨_, _, J7, q6⟩
          | ret u =>
            obtain ⟨v6, σ6, H6, S6, r6, q6⟩ := hsp
            exact end_ S6 fun s7 J7 => ⟨_, _, _, J7, r6, q6⟩
        | false =>
          show wpAny _ X.A (handleBy (.ref a) X.env hds2) _ _ _
          exact ih (hno rfl)
    exact go hh w
  · cases f with
    | next =>
      obtain ⟨σ', H', J', q⟩ := hsp
      exact wpAny_execs_nil ⟨σ', H', J'.ofTry ok, q⟩
    | brk =>
      obtain ⟨σ', H', J', q⟩ := hsp
      exact ⟨σ', H', J'.ofTry ok, q⟩
    | cont =>
      obtain ⟨σ', H', J', q⟩ := hsp
      exact ⟨σ', H', J'.ofTry ok, q⟩
    | ret u =>
      obtain ⟨v, σ', H', J', r, q⟩ := hsp
      exact ⟨v, σ', H', J'.ofTry ok, r, q⟩
end
end TrA
set_option Elab.async false
set_option linter.all false
set_option maxRecDepth 100000
set_option maxHeartbeats 4000000
namespace RU
open PySem L2 L2H DQ K01
abbrev sRI : Stmt := inClass sRules 0
abbrev sREq : Stmt := inClass sRules 1
abbrev sWE : Stmt := inClass sRules 2
abbrev sWS : Stmt := inClass sRules 3
abbrev sOE : Stmt := inClass sRules 4
abbrev sOS : Stmt := inClass sRules 5
def isSeq : PyData → Bool | .list _ => true | .tuple _ => true | _ => false
def itemsD : PyData → List PyData | .list xs => xs | .tuple xs => xs | _ => []
def isRow (d : PyData) (lo hi : Int) : Bool := isSeq d && (decide (lo ≤ ((itemsD d).length : Int)) && decide (((itemsD d).length : Int) ≤ hi))
theorem kl (d : PyData) : kitB (tyN d) "list" = some (match d with | .list _ => true | _ => false) := by
  cases d
  · exact (by decide +kernel : kitB "NoneType" "list" = some false)
  · exact (by decide +kernel : kitB "bool" "list" = some false)
  · exact (by decide +kernel : kitB "int" "list" = some false)
  · exact (by decide +kernel : kitB "str" "list" = some false)
  · exact (by decide +kernel : kitB "list" "list" = some true)
  · exact (by decide +kernel : kitB "tuple" "list" = some false)
  · exact (by decide +kernel : kitB "dict" "list" = some false)
theorem kit_seq {K : PySem.W.Frag} (d : PyData) : PySem.W.kitAny K (.type (tyN d)) [.type "list", .type "tuple"] = some (isSeq d) := by
  refine kitAny_cons (kit_ty (kl d)) (fun h => kitAny_cons (kit_ty (kt d)) (fun h2 => ?_) fun h2 => ?_) fun h => ?_
  · cases d <;> first | rfl | exact Bool.noConfusion h2 | exact Bool.noConfusion h
  · cases d <;> first | rfl | exact Bool.noConfusion h2
  · cases d <;> first | rfl | exact Bool.noConfusion h
/-- data, or the empty tuple of the text -/
def Rw (K : PySem.W.Frag) (H : Hp) (v : V) (d : PyData) : Prop := Dq H v d ∨ ∃ (p : Addr) (ds : List PyData) (xs : List V), d = .tuple ds ∧ v = .ref p ∧ SqT K H p xs ∧ DqAll H xs ds
theorem sqT_same {K : PySem.W.Frag} {H H' : Hp} {a : Addr} {xs : List V} (h : SqT K H a xs) (s : Same H H') : SqT K H' a xs := sqt_same h s
theorem sqT_ty {K : PySem.W.Frag} {H : Hp} {a : Addr} {xs : List V} (h : SqT K H a xs) : TyX K H (.ref a) (.type "tuple") := by
  rcases h with h | ⟨o, its, n, e, c, _⟩
  · rcases h with h | ⟨o, h⟩
    · exact .base (.tup h)
    · exact .fTuple h
  · exact .kTuple e c
theorem Rw.same {K : PySem.W.Frag} {H H' : Hp} {v : V} {d : PyData} (h : Rw K H v d) (s : Same H H') : Rw K H' v d := h.elim (fun h => .inl (h.same s)) fun ⟨p, ds, xs, e1, e2, h1, h2⟩ => .inr ⟨p, ds, xs, e1, e2, sqt_same h1 s, h2.same s⟩
theorem Rw.ty {K : PySem.W.Frag} {H : Hp} {v : V} {d : PyData} (h : Rw K H v d) : TyX K H v (.type (tyN d)) := by
  rcases h with h | ⟨p, ds, xs, rfl, rfl, h, _⟩
  · exact h.ty
  · exact sqT_ty h
/-- its items, where it is a list or a tuple -/
theorem Rw.seq {K : PySem.W.Frag} {H : Hp} {v : V} {d : PyData} (h : Rw K H v d) (hs : isSeq d = true) : ∃ p xs, v = .ref p ∧ (SqL K H p xs ∨ SqT K H p xs) ∧ DqAll H xs (itemsD d) := by
  rcases h with h | ⟨p, ds, xs, rfl, rfl, h, a⟩
  · cases h with
    | lst e a => exact ⟨_, _, rfl, .inl (SqL.of e), a⟩
    | tup e a => exact ⟨_, _, rfl, .inr (SqT.of e), a⟩
    | _ => cases hs
  · exact ⟨p, xs, rfl, .inr h, a⟩
def spRow (K : PySem.W.Frag) : Sp := fun vs H Q _ => ∃ (v : V) (d : PyData) (lo hi : Int), vs = [v, .int lo, .int hi] ∧ Rw K H v d ∧ ∀ H', Same H H' → Q (.bl (isRow d lo hi)) H'
def numB (d : PyData) (many : Int) : Bool := match d with | .int i => decide (0 ≤ i) && decide (i < many) | _ => false
def spNum : Sp := fun vs H Q _ => ∃ (v : V) (d : PyData) (many : Int), vs = [v, .int many] ∧ Dq H v d ∧ ∀ H', Same H H' → Q (.bl (numB d many)) H'
def spWo (K : PySem.W.Frag) : Sp := fun vs H Q _ => ∃ (p : Addr) (j : Nat) (xs : List V) (ds : List PyData), vs = [.ref p, .int (j : Int)] ∧ SqT K H p xs ∧ DqAll H xs ds ∧ ds.length ≤ 100 ∧ ∀ p' xs' H', Same H H' → SqT K H' p' xs' → DqAll H' xs' (ds.take j ++ ds.drop (j + 1)) → Q (.ref p') H'
structure TR (mg : Str → Option Value) : Prop where
  isi : mg "isinstance" = none
  len : mg "len" = none
  list : mg "list" = none
  tuple : mg "tuple" = none
  int : mg "int" = none
  bool : mg "bool" = none
  enum : mg "enumerate" = none
theorem bintT : bootBuiltins ("int" : Str) = some (.type "int") := by decide +kernel
theorem bboolT : bootBuiltins ("bool" : Str) = some (.type "bool") := by decide +kernel
section
variable {P : Program} {w : World} {K : PySem.W.Frag} {mg : Str → Option Value} {base : Heap}
theorem scRow : FnScope ["thing", "least", "most"] ["thing", "least", "most"] (defScope sRow) := ⟨rfl, rfl, rfl, by decide +kernel, rfl, by decide +kernel, by decide +kernel⟩
theorem ok_row {f : Addr} {fd : FuncData} (F : Fun K "_is_row" "_is_row" sRow f fd) (T : TR mg) : FnOk P w K mg base CX0 1 f fd ["thing", "least", "most"] (spRow K) := by
  refine F.ok scRow (fun vs H Q E h => ?_) (fun cdv A outer s H vs Q E hr h => ?_)
  · obtain ⟨v, d, lo, hi, rfl, _⟩ := h
    rfl
  · obtain ⟨v, d, lo, hi, rfl, hd, k⟩ := h
    refine ⟨_, pss_one (ps_ret (pe_and (pe_callB call_isiT (by rfl) T.isi bisi (pa_cons (pv 0) (pa_cons (pe_tup (pa_cons (pe_bltn (v := .ty "list") (by rfl) T.list blist rfl) (pa_cons (pe_bltn (v := .ty "tuple") (by rfl) T.tuple btup rfl) pa_nil))) pa_nil)))
      (pe_one (pe_chain op_le op_le (pv 1) (pe_callB call_len_seq (by rfl) T.len PySem.boot_len (pa_cons (pv 0) pa_nil)) (pv 2))))), ?_⟩
    refine ⟨_, rfl, by show 2 ≤ sizeLine; decide, fun p np => ?_⟩
    have s1 := same_new (o := .tup [.ty "list", .ty "tuple"]) np
    have hd1 := hd.same s1
    refine ⟨v, p, _, _, [.type "list", .type "tuple"], isSeq d, rfl, upd_same, .cons (.ty _) (.cons (.ty _) .nil), hd1.ty, kit_seq d, _, rfl, ?_⟩
    cases hs : isSeq d with
    | false =>
      refine iteF ?_
      have z := k _ s1
      unfold isRow at z
      rw [hs] at z
      exact z
    | true =>
      obtain ⟨q, xs, rfl, hq, a⟩ := hd1.seq hs
      have z := k _ s1
      unfold isRow at z
      rw [hs, Bool.true_and, ← a.len] at z
      refine iteT ⟨_, rfl, _, rfl, q, xs, rfl, hq, _, _, rfl, rfl, _, rfl, ?_⟩
      cases h1 : decide (lo ≤ (xs.length : Int)) with
      | false =>
        rw [h1] at z
        exact iteF z
      | true =>
        rw [h1] at z
        exact iteT ⟨_, rfl, _, _, rfl, rfl, z⟩
end
end RU
set_option Elab.async false
set_option linter.all false
set_option maxRecDepth 100000
set_option maxHeartbeats 4000000
namespace RU
open PySem L2 L2H DQ K01
/-- slices and sums of tuples, wherever they stand -/
def rSlG (K : PySem.W.Frag) : V → Option Int → Option Int → Hp → VK → Prop := fun x lo hi H Q => ∃ a xs, x = .ref a ∧ SqT K H a xs ∧ ∀ p H', Same H H' → SqT K H' p (cutV xs lo hi) → Q (.ref p) H'
theorem sl_tupG {X : Cx} : SlR X (rSlG X.K) := by
  intro pins s σ H x v vl vu lo hi sl Q I rx hs pl pu h
  obtain ⟨a, xs, rfl, sq, g⟩ := h
  refine sl_tupA pins s σ H _ v vl vu lo hi sl Q I rx hs pl pu ⟨a, xs, rfl, sq, fun wh => g a H same_refl ?_, fun _ p np => g p _ (same_new np) (SqT.of upd_same)⟩
  have z : cutV xs lo hi = xs := by
    unfold cutV
    rw [wh.1, wh.2, List.drop_zero, Nat.sub_zero, List.take_length]
  rw [z]
  exact sq
def rCatG (K : PySem.W.Frag) : R2 := fun x y H Q => ∃ a b xs ys, x = .ref a ∧ y = .ref b ∧ SqT K H a xs ∧ SqT K H b ys ∧ xs.length + ys.length ≤ sizeLine ∧ ∀ p H', Same H H' → SqT K H' p (xs ++ ys) → Q (.ref p) H'
theorem op_catG {X : Cx} : OpR X (binaryOp .Add) (rCatG X.K) := by
  intro pins s σ H x y v u Q I rx ry h
  obtain ⟨a, b, xs, ys, rfl, rfl, ha, hb, hz, g⟩ := h
  refine op_catA pins s σ H _ _ v u Q I rx ry ⟨a, b, xs, ys, rfl, rfl, ha, hb, hz, fun hx => g b H same_refl ?_, fun _ hy => g a H same_refl ?_, fun _ _ p np => g p _ (same_new np) (SqT.of upd_same)⟩
  · rw [hx]
    exact hb
  · rw [hy, List.append_nil]
    exact ha
section
variable {P : Program} {w : World} {K : PySem.W.Frag} {mg : Str → Option Value} {base : Heap}
theorem scNum : FnScope ["thing", "many"] ["thing", "many"] (defScope sNum) := ⟨rfl, rfl, rfl, by decide +kernel, rfl, by decide +kernel, by decide +kernel⟩
theorem ok_num {f : Addr} {fd : FuncData} (F : Fun K "is_number" "is_number" sNum f fd) (T : TR mg) : FnOk P w K mg base CX0 1 f fd ["thing", "many"] spNum := by
  refine F.ok scNum (fun vs H Q E h => ?_) (fun cdv A outer s H vs Q E hr h => ?_)
  · obtain ⟨v, d, many, rfl, _⟩ := h
    rfl
  · obtain ⟨v, d, many, rfl, hd, k⟩ := h
    refine ⟨_, pss_one (ps_ret (pe_and (pe_callB call_isi (by rfl) T.isi bisi (pa_cons (pv 0) (pa_cons (pe_bltn (v := .ty "int") (by rfl) T.int bintT rfl) pa_nil)))
      (pe_and (pe_not (pe_callB call_isi (by rfl) T.isi bisi (pa_cons (pv 0) (pa_cons (pe_bltn (v := .ty "bool") (by rfl) T.bool bboolT rfl) pa_nil))))
      (pe_one (pe_chain op_le op_lt pe_int (pv 0) (pv 1)))))), ?_⟩
    have z := k H same_refl
    refine ⟨_, rfl, _, .ty "int", _, _, _, rfl, .ty _, hd.ty, kit_ty (ki d), _, rfl, ?_⟩
    cases hd with
    | int i =>
      refine iteT ⟨_, rfl, _, .ty "bool", _, _, _, rfl, .ty _, (Dq.int (H := H) i).ty, kit_ty (kb _), _, rfl, _, rfl, iteT ?_⟩
      refine ⟨_, rfl, _, _, rfl, rfl, _, rfl, ?_⟩
      replace z : Q (V.bl (decide (0 ≤ i) && decide (i < many))) H := z
      cases h1 : decide (0 ≤ i) with
      | false =>
        rw [h1] at z
        exact iteF z
      | true =>
        rw [h1] at z
        exact iteT ⟨_, rfl, _, _, rfl, rfl, z⟩
    | bl b => exact iteT ⟨_, rfl, _, .ty "bool", _, _, _, rfl, .ty _, (Dq.bl (H := H) b).ty, kit_ty (kb _), _, rfl, _, rfl, iteF z⟩
    | _ => exact iteF z
theorem scWo : FnScope ["items", "number"] ["items", "number"] (defScope sWo) := ⟨rfl, rfl, rfl, by decide +kernel, rfl, by decide +kernel, by decide +kernel⟩
theorem ok_wo {f : Addr} {fd : FuncData} (F : Fun K "_without" "_without" sWo f fd) : FnOk P w K mg base CX0 1 f fd ["items", "number"] (spWo K) := by
  refine F.ok scWo (fun vs H Q E h => ?_) (fun cdv A outer s H vs Q E hr h => ?_)
  · obtain ⟨p, j, xs, ds, rfl, _⟩ := h
    rfl
  · obtain ⟨p, j, xs, ds, rfl, hp, ha, hl, k⟩ := h
    refine ⟨_, pss_one (ps_ret (pe_op op_catG (pe_slice sl_tupG (pv 0) po_none (po_some (pv 1))) (pe_slice sl_tupG (pv 0) (po_some (pe_op op_add (pv 1) pe_int)) po_none))), ?_⟩
    have lx := ha.len
    refine ⟨_, rfl, _, rfl, _, rfl, p, xs, rfl, hp, fun p1 H1 s1 e1 => ?_⟩
    refine ⟨_, rfl, _, rfl, _, _, rfl, rfl, _, rfl, p, xs, rfl, sqt_same hp s1, fun p2 H2 s2 e2 => ?_⟩
    rw [cut_to] at e1
    rw [show ((j : Int) + 1) = ((j + 1 : Nat) : Int) by omega, cut_from] at e2
    exact ⟨p1, p2, _, _, rfl, rfl, sqt_same e1 s2, e2, by rw [List.length_take, List.length_drop]; exact Nat.le_of_lt (small1000 (by omega)), fun p3 H3 s3 e3 => k p3 _ H3 (same_trans s1 (same_trans s2 s3)) e3 (((ha.take j).app (ha.drop (j + 1))).same (same_trans s1 (same_trans s2 s3)))⟩
end
end RU
set_option Elab.async false
set_option linter.all false
set_option maxRecDepth 100000
set_option maxHeartbeats 4000000
namespace RU
open PySem L2 L2H DQ K01 EnT
open XH hiding same_refl same_trans same_new
/-! data stays where only instances are written -/
def KpI (H H' : Hp) : Prop := ∀ b o, H b = some o → (∀ C dx fs, o ≠ .ins C dx fs) → H' b = some o
theorem KpI.of {H H' : Hp} (s : Same H H') : KpI H H' := fun b o e _ => s _ _ e
theorem KpI.trans {H H' H'' : Hp} (a : KpI H H') (b : KpI H' H'') : KpI H H'' := fun x o e n => b x o (a x o e n) n
theorem KpI.put {H : Hp} {a C dx : Addr} {fs : List (Str × V)} {o : HO} (h : H a = some (.ins C dx fs)) : KpI H (upd H a o) := fun b u e n => by
  rw [upd_ne fun z => by rw [z, h] at e; exact n _ _ _ (Option.some.inj e).symm]
  exact e
mutual
theorem _root_.DQ.Dq.ins {H H' : Hp} (s : KpI H H') : ∀ {v : V} {d : PyData}, Dq H v d → Dq H' v d
  | _, _, .non => .non
  | _, _, .bl b => .bl b
  | _, _, .int i => .int i
  | _, _, .str x hx => .str x hx
  | _, _, .lst e a => .lst (s _ _ e (fun _ _ _ z => by cases z)) (a.ins s)
  | _, _, .tup e a => .tup (s _ _ e (fun _ _ _ z => by cases z)) (a.ins s)
  | _, _, .dic e => .dic (s _ _ e (fun _ _ _ z => by cases z))
theorem _root_.DQ.DqAll.ins {H H' : Hp} (s : KpI H H') : ∀ {vs : List V} {ds : List PyData}, DqAll H vs ds → DqAll H' vs ds
  | _, _, .nil => .nil
  | _, _, .cons a b => .cons (a.ins s) (b.ins s)
end
theorem sqT_ins {K : PySem.W.Frag} {H H' : Hp} {a : Addr} {xs : List V} (h : SqT K H a xs) (s : KpI H H') : SqT K H' a xs := by
  rcases h with h | h
  · refine .inl ?_
    rcases h with h | ⟨o, h⟩
    · exact .inl (s _ _ h fun _ _ _ z => by cases z)
    · exact .inr ⟨o, s _ _ h fun _ _ _ z => by cases z⟩
  · exact .inr h
theorem sqL_ins {K : PySem.W.Frag} {H H' : Hp} {a : Addr} {xs : List V} (h : SqL K H a xs) (s : KpI H H') : SqL K H' a xs := by
  rcases h with h | h
  · refine .inl ?_
    rcases h with h | ⟨o, h⟩
    · exact .inl (s _ _ h fun _ _ _ z => by cases z)
    · exact .inr ⟨o, s _ _ h fun _ _ _ z => by cases z⟩
  · exact .inr h
theorem tuple_any {K : PySem.W.Frag} {H : Hp} {p0 : Addr} {ys : List V} {Q : VK} (hq : SqL K H p0 ys ∨ SqT K H p0 ys) (k : ∀ q H', Same H H' → SqT K H' q ys → Q (.ref q) H') :
    ∃ p ys', [V.ref p0] = [V.ref p] ∧ ((SqL K H p ys' ∧ ∀ l, H l = none → Q (.ref l) (upd H l (.tup ys'))) ∨ (SqT K H p ys' ∧ Q (.ref p) H)) := by
  refine ⟨p0, ys, rfl, ?_⟩
  rcases hq with hq | hq
  · exact .inl ⟨hq, fun l nl => k l _ (same_new nl) (SqT.of upd_same)⟩
  · exact .inr ⟨hq, k p0 H same_refl hq⟩
theorem tuple_te {K : PySem.W.Frag} {ta : TA} {σ : L2.St} {H : Hp} {p0 : Addr} {ys : List V} {Q : VK} (h : ∀ Q' : List V → Hp → Prop, Q' [V.ref p0] H → ta σ H Q') (hq : SqL K H p0 ys ∨ SqT K H p0 ys) (k : ∀ q H', Same H H' → SqT K H' q ys → Q (.ref q) H') :
    tCB (fun xs H Q => ∃ p ys, xs = [.ref p] ∧ ((SqL K H p ys ∧ ∀ l, H l = none → Q (.ref l) (upd H l (.tup ys))) ∨ (SqT K H p ys ∧ Q (.ref p) H))) ta σ H Q := h _ (tuple_any hq k)
/-- a Rules of the class at C: its ends, its steps -/
def RulesAt (K : PySem.W.Frag) (H : Hp) (a C : Addr) (es ss : List PyData) : Prop := ∃ dx pe ps xs ys, H a = some (.ins C dx [("ends", .ref pe), ("steps", .ref ps)]) ∧ SqT K H pe xs ∧ DqAll H xs es ∧ SqT K H ps ys ∧ DqAll H ys ss
theorem RulesAt.same {K : PySem.W.Frag} {H H' : Hp} {a C : Addr} {es ss : List PyData} (r : RulesAt K H a C es ss) (s : Same H H') : RulesAt K H' a C es ss := by
  obtain ⟨dx, pe, ps, xs, ys, h1, h2, h3, h4, h5⟩ := r
  exact ⟨dx, pe, ps, xs, ys, s _ _ h1, sqt_same h2 s, h3.same s, sqt_same h4 s, h5.same s⟩
def firstBad (c : Int) (ds : List PyData) : Option Nat := ds.findIdx? fun d => !shape c d
/-- what Rules(de, ds) makes: the place of what is wrong, or the ends and the steps -/
def dueR (de ds : PyData) : PyData ⊕ (List PyData × List PyData) :=
  if (isRow de 1 3 && isRow ds 0 3) = true then
    match firstBad 0 (itemsD de) with
    | some i => .inl (.tuple [.str "end", .int (i : Int)])
    | none => match firstBad 1 (itemsD ds) with
      | some j => .inl (.tuple [.str "step", .int (j : Int)])
      | none => .inr (itemsD de, itemsD ds)
  else .inl .none
theorem bad_at {c : Int} {ds : List PyData} {i : Nat} {d : PyData} (hn : ∀ (k : Nat) (e : PyData), k < i → ds[k]? = some e → shape c e = true) (hd : ds[i]? = some d) (hb : shape c d = false) : firstBad c ds = some i := by
  unfold firstBad
  induction ds generalizing i with
  | nil => cases hd
  | cons x ds ih =>
    rw [List.findIdx?_cons]
    cases i with
    | zero =>
      cases hd
      rw [hb]
      rfl
    | succ i =>
      rw [hn 0 x (by omega) rfl, ih (i := i) (fun k e hk he => hn (k + 1) e (by omega) he) hd]
      rfl
theorem bad_none {c : Int} {ds : List PyData} (hn : ∀ (k : Nat) (e : PyData), ds[k]? = some e → shape c e = true) : firstBad c ds = none := by
  unfold firstBad
  rw [List.findIdx?_eq_none_iff]
  intro x hx
  obtain ⟨k, hk, e⟩ := List.mem_iff_getElem.mp hx
  rw [hn k x (by rw [List.getElem?_eq_getElem hk, e])]
  rfl
theorem two_fields (a b : V) : putF "steps" b (putF "ends" a []) = [(("ends" : Str), a), (("steps" : Str), b)] := by
  have z : ¬ (("ends" : Str) = "steps") := by decide +kernel
  simp [putF, z]
/-- E is asked: a BadRules of such a place -/
def OutB (H : Hp) (E : XK) (CB : Addr) (f : Str) (pl : PyData) : Prop := ∀ (d : Addr) (v : V) (H' : Hp), Same H H' → H' d = some (.xd [(f, v)]) → Dq H' v pl → E (.ref CB) (some d) H'
def spRI (K : PySem.W.Frag) (C CB : Addr) : Sp := fun vs H Q E => ∃ (x dx : Addr) (ve vs' : V) (de ds : PyData), vs = [.ref x, ve, vs'] ∧ H x = some (.ins C dx []) ∧ Rw K H ve de ∧ Rw K H vs' ds ∧
  (∀ pl, dueR de ds = .inl pl → OutB H E CB "place" pl) ∧
  (∀ es ss, dueR de ds = .inr (es, ss) → ∀ H', KpI H H' → (∀ b o, b ≠ x → H b = some o → H' b = some o) → RulesAt K H' x C es ss → Q .non H')
/-- an own error class that keeps one field -/
structure ExF (P : Program) (K : PySem.W.Frag) (mg : Str → Option Value) (x f : Str) (C : Addr) : Prop where
  ex : ∃ fI fd qn B newId initId bmB, ExT P K mg C fI fd f qn B newId initId bmB
  r : ExR K C f
  g : mg x = some (.ref C)
  k : PySem.W.keepIn K (.ref C) = true
theorem i_enumA {K : PySem.W.Frag} {ta : TA} {σ : L2.St} {H : Hp} {R : It → Hp → Prop} {a : Addr} {xs : List V} (h : ∀ Q : List V → Hp → Prop, Q [V.ref a] H → ta σ H Q) (hq : SqL K H a xs ∨ SqT K H a xs)
    (k : ∀ (J : It) (G : Hp → Prop), Walk J xs.length G (YPair (fun i => some (.int (i : Nat))) (fun i => xs[i]?)) → (∀ H', Same H H' → G H') → R J H) : iEnumA K ta σ H R := by
  refine h _ ⟨a, xs, rfl, ?_⟩
  rcases hq with hq | hq
  · exact .inl ⟨hq, k _ _ walk_enum fun H' s => s.seq hq⟩
  · exact .inr ⟨hq, k _ _ walk_enumT fun H' s => sqt_same hq s⟩
theorem nx_go {D : Ends} {σ : L2.St} {H : Hp} (h : D.nx σ H) : tNext D σ H := h
theorem for_enum {K : PySem.W.Frag} {ta : TA} {g : TG} {tb : TS} {D : Ends} {σ : L2.St} {H : Hp} {a : Addr} {xs : List V} (h : ∀ Q : List V → Hp → Prop, Q [V.ref a] H → ta σ H Q) (hq : SqL K H a xs ∨ SqT K H a xs)
    (k : ∀ (J : It) (G : Hp → Prop), Walk J xs.length G (YPair (fun i => some (.int (i : Nat))) (fun i => xs[i]?)) → (∀ H', Same H H' → G H') →
      ∃ W : Nat → Nat → L2.St → Hp → Prop, (∃ m, W 0 m σ H) ∧ ∀ i m σ H, W i m σ H →
        (J.stop i H ∧ D.nx σ H) ∨ (J.go i H ∧ ∃ N : L2.St → Hp → Prop, (∀ σ' H', N σ' H' → ∃ m', m' < m ∧ W (i + 1) m' σ' H') ∧ ∀ x H', J.yld i H x H' → g x σ H' fun σ2 H2 => tb { D with nx := N, ct := N, bk := D.nx } σ2 H2)) :
    tFor (iEnumA K ta) g tb D σ H := by
  unfold tFor
  exact i_enumA h hq k
structure TI3 (mg : Str → Option Value) : Prop where
  tr : TR mg
  e3 : ∃ t, mg "MOST_ENDS" = some (.int 3 t)
  s3 : ∃ t, mg "MOST_STEPS" = some (.int 3 t)
abbrev nRI : List Str := ["self", "ends", "steps", "number", "end", "step"]
section
variable {P : Program} {w : World} {K : PySem.W.Frag} {mg : Str → Option Value} {base : Heap}
theorem scRI : FnScope nRI ["self", "ends", "steps"] (defScope sRI) := ⟨rfl, rfl, rfl, by decide +kernel, rfl, by decide +kernel, by decide +kernel⟩
theorem ok_ri {f fR fT fB C CB : Addr} {fd dR dT dB : FuncData} {dvs : List V} {kws : List (Str × V)} (F : FunD K "__init__" "Rules.__init__" (defArgs sRI) (defBody sRI) (defScope sRI) dvs kws f fd)
    (FR : Fun K "_is_row" "_is_row" sRow fR dR) (bR : Binds K dR ["thing", "least", "most"] []) (gR : mg "_is_row" = some (.ref fR))
    (FT : Fun K "is_tree" "is_tree" sTr fT dT) (bT : Binds K dT ["thing"] []) (gT : mg "is_tree" = some (.ref fT)) (GT : FnOk P w K mg base CX0 11 fT dT ["thing"] (spB (shape 0)))
    (FB : Fun K "is_body" "is_body" sBo fB dB) (bB : Binds K dB ["thing"] []) (gB : mg "is_body" = some (.ref fB)) (GB : FnOk P w K mg base CX0 11 fB dB ["thing"] (spB (shape 1)))
    (T : TI3 mg) (X : ExF P K mg "BadRules" "place" CB) (cl : Cls K C) (n1 : NoAttr K C "ends") (n2 : NoAttr K C "steps") :
    FnOk P w K mg base (L2.CX P w) 12 f fd ["self", "ends", "steps"] (spRI K C CB) := by
  have GR : FnOk P w K mg base CX0 1 fR dR ["thing", "least", "most"] (spRow K) := ok_row FR T.tr
  obtain ⟨t3, g3⟩ := T.e3
  obtain ⟨t4, g4⟩ := T.s3
  obtain ⟨fI, fdI, qn, B, newId, initId, bmB, XT⟩ := X.ex
  refine F.ok (k := 11) scRI (fun vs H Q E h => ?_) (fun cdv A outer s H vs Q E hr h => ?_)
  · obtain ⟨x, dx, ve, vs', de, ds, rfl, _⟩ := h
    rfl
  · obtain ⟨x, dx, ve, vs', de, ds, rfl, hx, he, hs, hbad, hok⟩ := h
    have dp : (A.deeper (PyProof.Rows.envOfC "Rules.__init__" (defScope sRI) s.heap.objs.size f cdv)).depth + 1 < recursionLimit := by have := hr.dp; omega
    refine ⟨_, pss_cons (ps_if (PW.pt (pw_or (pt_not (pt_val (pe_call GR (hr.mono (by decide)) (by rfl) gR FR.kp bR .nil pass0 (pa_cons (pv 1) (pa_cons pe_int (pa_cons (pe_glob (v := .int 3) (by rfl) g3 ⟨_, rfl⟩) pa_nil)))))) (pw_or1 (pt_not (pt_val (pe_call GR (hr.mono (by decide)) (by rfl) gR FR.kp bR .nil pass0 (pa_cons (pv 2) (pa_cons pe_int (pa_cons (pe_glob (v := .int 3) (by rfl) g4 ⟨_, rfl⟩) pa_nil)))))))))
        (pss_one (ps_raise rfl (takes_of rfl rfl rfl rfl) (pmk_xp XT X.r dp X.g X.k (by rfl) pe_non))) pss_nil)
      (pss_cons (ps_for (passes_of rfl) rfl (pi_enumA (by rfl) T.tr.enum (pa_cons (pv 1) pa_nil)) (pg_tup (n := 2) rfl (pgs_cons (pg_name (i := 3) scRI.nd rfl (Or.inl rfl)) (pgs_cons (pg_name (i := 4) scRI.nd rfl (Or.inl rfl)) pgs_nil)))
        (pss_one (ps_if (pt_not (pt_val (pe_call GT hr (by rfl) gT FT.kp bT .nil pass0 (pa_cons (pv 4) pa_nil)))) (pss_one (ps_raise rfl (takes_of rfl rfl rfl rfl) (pmk_xp XT X.r dp X.g X.k (by rfl) (pe_tup (pa_cons pe_str (pa_cons (pv 3) pa_nil)))))) pss_nil)))
      (pss_cons (ps_for (passes_of rfl) rfl (pi_enumA (by rfl) T.tr.enum (pa_cons (pv 2) pa_nil)) (pg_tup (n := 2) rfl (pgs_cons (pg_name (i := 3) scRI.nd rfl (Or.inl rfl)) (pgs_cons (pg_name (i := 5) scRI.nd rfl (Or.inl rfl)) pgs_nil)))
        (pss_one (ps_if (pt_not (pt_val (pe_call GB hr (by rfl) gB FB.kp bB .nil pass0 (pa_cons (pv 5) pa_nil)))) (pss_one (ps_raise rfl (takes_of rfl rfl rfl rfl) (pmk_xp XT X.r dp X.g X.k (by rfl) (pe_tup (pa_cons pe_str (pa_cons (pv 3) pa_nil)))))) pss_nil)))
      (pss_cons (ps_fld (pv 0) (pe_callTy call_tuple_of (by rfl) T.tr.tuple btup (pa_cons (pv 1) pa_nil)) rfl)
      (pss_one (ps_fld (pv 0) (pe_callTy call_tuple_of (by rfl) T.tr.tuple btup (pa_cons (pv 2) pa_nil)) rfl))))), ?_⟩
    have low : ∀ {H1 : Hp} {pl : PyData} {v : V}, Same H H1 → dueR de ds = .inl pl → Dq H1 v pl → ∀ d, H1 d = none → E (.ref CB) (some d) (upd H1 d (.xd [("place", v)])) := fun {H1 pl v} s1 hd q d nd =>
      hbad pl hd d v _ (same_trans s1 (same_new nd)) upd_same (q.same (same_new nd))
    refine ⟨_, rfl, ve, de, 1, 3, rfl, he, fun H1 s1 => ⟨_, rfl, ?_⟩⟩
    cases h1 : isRow de 1 3 with
    | false => exact iteT (iteT (low s1 (by unfold dueR; rw [h1]; rfl) .non))
    | true =>
    refine iteF ⟨_, rfl, vs', ds, 0, 3, rfl, hs.same s1, fun H2 s2 => ⟨_, rfl, ?_⟩⟩
    cases h2 : isRow ds 0 3 with
    | false => exact iteT (low (same_trans s1 s2) (by unfold dueR; rw [h1, h2]; rfl) .non)
    | true =>
    refine iteF ?_
    have du : dueR de ds = match firstBad 0 (itemsD de) with
        | some i => .inl (.tuple [.str "end", .int (i : Int)])
        | none => match firstBad 1 (itemsD ds) with
          | some j => .inl (.tuple [.str "step", .int (j : Int)])
          | none => .inr (itemsD de, itemsD ds) := by
      unfold dueR
      rw [h1, h2]
      rfl
    have s12 := same_trans s1 s2
    obtain ⟨pe, xs, rfl, hqe, ae⟩ := (he.same s12).seq (by unfold isRow at h1; exact (Bool.and_eq_true_iff.mp h1).1)
    obtain ⟨ps, ys, rfl, hqs, as⟩ := (hs.same s12).seq (by unfold isRow at h2; exact (Bool.and_eq_true_iff.mp h2).1)
    have hx2 := s12 _ _ hx
    refine nx_go ?_
    dsimp only
    unfold tSeq
    refine for_enum (fun Q q => ⟨_, rfl, q⟩) hqe fun J G w hG => ?_
    refine for_it w (fun i σ' H' => ∃ w3 w4, σ' = [some (.ref x), some (.ref pe), some (.ref ps), w3, w4, none] ∧ Same H2 H' ∧ ∀ (k : Nat) (d : PyData), k < i → (itemsD de)[k]? = some d → shape 0 d = true) ⟨_, _, rfl, same_refl, fun k d hk => absurd hk (Nat.not_lt_zero _)⟩ (fun i σ' H' _ ⟨_, _, _, s, _⟩ => hG H' s) ?_ ?_
    · rintro i y σ' H3 H4 hi ⟨w3, w4, rfl, s3, hall⟩ ⟨Tt, u, z, rfl, nT, rfl, hu, hz⟩
      obtain rfl : u = V.int (i : Nat) := (Option.some.inj hu).symm
      have lx := ae.len
      obtain ⟨d, hd⟩ : ∃ d, (itemsD de)[i]? = some d := ⟨_, List.getElem?_eq_getElem (by omega)⟩
      obtain ⟨z', hz', qz⟩ := ae.at hd
      replace hz : xs[i]? = some z := hz
      rw [hz] at hz'
      obtain rfl : z = z' := Option.some.inj hz'
      have s4 := same_trans s3 (same_new (o := .tup [.int (i : Nat), z]) nT)
      refine ⟨Tt, _, rfl, SqT.of upd_same, rfl, _, _, rfl, _, _, rfl, rfl, ?_⟩
      refine ⟨_, rfl, z, d, rfl, qz.same s4, fun H5 s5 => ⟨_, rfl, ?_⟩⟩
      cases hb : shape 0 d with
      | false =>
        refine iteT ⟨_, rfl, by show 2 ≤ sizeLine; decide, fun p np => ?_⟩
        refine low (same_trans s12 (same_trans s4 (same_trans s5 (same_new np)))) (pl := .tuple [.str "end", .int (i : Int)]) (by rw [du, bad_at hall hd hb]) ?_
        exact .tup upd_same (.cons (.str _ (by decide +kernel)) (.cons (.int _) .nil))
      | true =>
        refine iteF ⟨_, _, rfl, same_trans s4 s5, fun k e hk he' => ?_⟩
        by_cases hki : k = i
        · subst hki
          rw [hd] at he'
          cases he'
          exact hb
        · exact hall k e (by omega) he'
    rintro σ' H3 ⟨w3, w4, rfl, s3, hall⟩
    have g0 : firstBad 0 (itemsD de) = none := bad_none fun k e he' => hall k e (by rw [ae.len]; exact (List.getElem?_eq_some_iff.mp he').1) he'
    rw [g0] at du
    dsimp only at du
    have s13 := same_trans s12 s3
    dsimp only
    refine for_enum (fun Q q => ⟨_, rfl, q⟩) (hqs.elim (fun h => .inl (s3.seq h)) fun h => .inr (sqt_same h s3)) fun J G w hG => ?_
    refine for_it w (fun i σ' H' => ∃ w3 w5, σ' = [some (.ref x), some (.ref pe), some (.ref ps), w3, w4, w5] ∧ Same H3 H' ∧ ∀ (k : Nat) (d : PyData), k < i → (itemsD ds)[k]? = some d → shape 1 d = true) ⟨_, _, rfl, same_refl, fun k d hk => absurd hk (Nat.not_lt_zero _)⟩ (fun i σ' H' _ ⟨_, _, _, s, _⟩ => hG H' s) ?_ ?_
    · rintro i y σ' H4 H5 hi ⟨w3, w5, rfl, s4, hall2⟩ ⟨Tt, u, z, rfl, nT, rfl, hu, hz⟩
      obtain rfl : u = V.int (i : Nat) := (Option.some.inj hu).symm
      have lx := as.len
      obtain ⟨d, hd⟩ : ∃ d, (itemsD ds)[i]? = some d := ⟨_, List.getElem?_eq_getElem (by omega)⟩
      obtain ⟨z', hz', qz⟩ := as.at hd
      replace hz : ys[i]? = some z := hz
      rw [hz] at hz'
      obtain rfl : z = z' := Option.some.inj hz'
      have s5 := same_trans s4 (same_new (o := .tup [.int (i : Nat), z]) nT)
      refine ⟨Tt, _, rfl, SqT.of upd_same, rfl, _, _, rfl, _, _, rfl, rfl, ?_⟩
      refine ⟨_, rfl, z, d, rfl, qz.same (same_trans s3 s5), fun H6 s6 => ⟨_, rfl, ?_⟩⟩
      cases hb : shape 1 d with
      | false =>
        refine iteT ⟨_, rfl, by show 2 ≤ sizeLine; decide, fun p np => ?_⟩
        refine low (same_trans s13 (same_trans s5 (same_trans s6 (same_new np)))) (pl := .tuple [.str "step", .int (i : Int)]) (by rw [du, bad_at hall2 hd hb]) ?_
        exact .tup upd_same (.cons (.str _ (by decide +kernel)) (.cons (.int _) .nil))
      | true =>
        refine iteF ⟨_, _, rfl, same_trans s5 s6, fun k e hk he' => ?_⟩
        by_cases hki : k = i
        · subst hki
          rw [hd] at he'
          cases he'
          exact hb
        · exact hall2 k e (by omega) he'
    rintro σ' H4 ⟨w3', w5, rfl, s4, hall2⟩
    have g1 : firstBad 1 (itemsD ds) = none := bad_none fun k e he' => hall2 k e (by rw [as.len]; exact (List.getElem?_eq_some_iff.mp he').1) he'
    rw [g1] at du
    dsimp only at du
    have s14 := same_trans s13 s4
    dsimp only
    refine tuple_te (fun Q' q => ⟨_, rfl, q⟩) (hqe.elim (fun h => .inl ((same_trans s3 s4).seq h)) fun h => .inr (sqt_same h (same_trans s3 s4))) fun q1 H5 s5 e5 => ?_
    have hx5 := s5 _ _ (s14 _ _ hx)
    refine ⟨_, rfl, x, C, dx, [], rfl, hx5, cl, n1, by decide, ?_⟩
    have k6 : KpI H5 (upd H5 x (.ins C dx (putF "ends" (.ref q1) []))) := KpI.put hx5
    have hx6 : upd H5 x (.ins C dx (putF "ends" (.ref q1) [])) x = some (.ins C dx (putF "ends" (.ref q1) [])) := upd_same
    have o6 : ∀ b o, b ≠ x → H b = some o → upd H5 x (.ins C dx (putF "ends" (.ref q1) [])) b = some o := fun b o hb e => by
      rw [upd_ne hb]
      exact s5 _ _ (s14 _ _ e)
    have e6 := sqT_ins e5 k6
    have a6 := ((ae.same (same_trans s3 (same_trans s4 s5)))).ins k6
    have t6 := (as.same (same_trans s3 (same_trans s4 s5))).ins k6
    have q6 := hqs.elim (fun h => Or.inl (sqL_ins ((same_trans s3 (same_trans s4 s5)).seq h) k6)) fun h => Or.inr (sqT_ins (sqt_same h (same_trans s3 (same_trans s4 s5))) k6)
    have kk6 : KpI H (upd H5 x (.ins C dx (putF "ends" (.ref q1) []))) := (KpI.of (same_trans s14 s5)).trans k6
    generalize upd H5 x (HO.ins C dx (putF "ends" (V.ref q1) [])) = H6 at k6 hx6 o6 e6 a6 t6 q6 kk6
    dsimp only
    refine tuple_te (fun Q' q => ⟨_, rfl, q⟩) q6 fun q2 H7 s7 e7 => ?_
    refine ⟨_, rfl, x, C, dx, _, rfl, s7 _ _ hx6, cl, n2, by show 1 < 1000; decide, ?_⟩
    have k8 : KpI H7 (upd H7 x (.ins C dx (putF "steps" (.ref q2) (putF "ends" (.ref q1) [])))) := KpI.put (s7 _ _ hx6)
    refine hok _ _ du _ ((kk6.trans (KpI.of s7)).trans k8) (fun b o hb e => ?_) ⟨dx, q1, q2, xs, ys, ?_, sqT_ins (sqt_same e6 s7) k8, (a6.same s7).ins k8, sqT_ins e7 k8, (t6.same s7).ins k8⟩
    · rw [upd_ne hb]
      exact s7 _ _ (o6 b o hb e)
    · rw [two_fields]
      exact upd_same
end
end RU
set_option Elab.async false
set_option linter.all false
set_option maxRecDepth 100000
set_option maxHeartbeats 4000000
namespace RU
open PySem L2 L2H DQ K01 EnT
open XH hiding same_refl same_trans same_new
theorem OutB.same {H H' : Hp} {E : XK} {CB : Addr} {f : Str} {pl : PyData} (o : OutB H E CB f pl) (s : Same H H') : OutB H' E CB f pl := fun d v H'' s' e q => o d v H'' (same_trans s s') e q
theorem OutB.raise {H : Hp} {E : XK} {CB : Addr} {f : Str} {pl : PyData} {v : V} (o : OutB H E CB f pl) (q : Dq H v pl) : ∀ d, H d = none → E (.ref CB) (some d) (upd H d (.xd [(f, v)])) := fun d nd => o d v _ (same_new nd) upd_same (q.same (same_new nd))
/-- what a Rules(ve, vs') asks of its making -/
theorem make_ok {K : PySem.W.Frag} {C CB : Addr} {ve vs' : V} {de ds : PyData} {H : Hp} {Q : VK} {E : XK} (he : Rw K H ve de) (hs : Rw K H vs' ds) (bad : ∀ pl, dueR de ds = .inl pl → OutB H E CB "place" pl)
    (ok : ∀ es ss, dueR de ds = .inr (es, ss) → ∀ b H', Same H H' → H b = none → RulesAt K H' b C es ss → Q (.ref b) H') :
    ∀ x dx, H x = none → H dx = none → dx ≠ x → spRI K C CB [.ref x, ve, vs'] (upd (upd H dx (.own x)) x (.ins C dx [])) (fun v H2 => v = .non ∧ Q (.ref x) H2) E := by
  intro x dx hx hdx ne
  have sA : Same H (upd (upd H dx (.own x)) x (.ins C dx [])) := same_trans (same_new hdx) (same_new (by rw [upd_ne (Ne.symm ne)]; exact hx))
  refine ⟨x, dx, ve, vs', de, ds, rfl, upd_same, he.same sA, hs.same sA, fun pl h => (bad pl h).same sA, fun es ss h H' k o r => ⟨rfl, ok es ss h x H' (fun b u e => ?_) hx r⟩⟩
  have nb : b ≠ x := fun z => by rw [z, hx] at e; cases e
  exact o b u nb (sA b u e)
/-- the class Rules, as the text's written part tells it -/
structure RCl (K : PySem.W.Frag) (mg : Str → Option Value) (C fI : Addr) : Prop where
  g : mg "Rules" = some (.ref C)
  cl : Cls K C
  mkc : Mk K C fI
  n1 : NoAttr K C "ends"
  n2 : NoAttr K C "steps"
theorem RulesAt.inst {K : PySem.W.Frag} {H : Hp} {a C : Addr} {es ss : List PyData} (r : RulesAt K H a C es ss) : ∃ dx fs, H a = some (.ins C dx fs) := let ⟨dx, _, _, _, _, h, _⟩ := r; ⟨dx, _, h⟩
theorem lk_e (a b : V) : List.lookup ("ends" : Str) [(("ends" : Str), a), (("steps" : Str), b)] = some a := by simp [List.lookup]
theorem lk_s (a b : V) : List.lookup ("steps" : Str) [(("ends" : Str), a), (("steps" : Str), b)] = some b := by
  have z : (("steps" : Str) == ("ends" : Str)) = false := by decide +kernel
  simp [List.lookup, z]
def dueWE (es ss : List PyData) (d : PyData) : PyData ⊕ (List PyData × List PyData) := if shape 0 d = false then .inl (.tuple [.str "end", .int (es.length : Int)]) else dueR (.tuple (es ++ [d])) (.tuple ss)
def dueWS (es ss : List PyData) (d : PyData) : PyData ⊕ (List PyData × List PyData) := if shape 1 d = false then .inl (.tuple [.str "step", .int (ss.length : Int)]) else dueR (.tuple es) (.tuple (ss ++ [d]))
/-- a method that gives a Rules, or a BadRules, or a BadNumber -/
def Gives2 (K : PySem.W.Frag) (C CB CN : Addr) (H : Hp) (Q : VK) (E : XK) (due : (PyData ⊕ PyData) ⊕ (List PyData × List PyData)) : Prop :=
  match due with
  | .inl (.inl pl) => OutB H E CB "place" pl
  | .inl (.inr n) => OutB H E CN "value" n
  | .inr (es, ss) => ∀ b H', Same H H' → H b = none → RulesAt K H' b C es ss → Q (.ref b) H'
def numOf : PyData → Nat | .int i => i.toNat | _ => 0
def asB (x : PyData ⊕ (List PyData × List PyData)) : (PyData ⊕ PyData) ⊕ (List PyData × List PyData) := match x with | .inl p => .inl (.inl p) | .inr r => .inr r
def spW (K : PySem.W.Frag) (C CB CN : Addr) (due : List PyData → List PyData → PyData → (PyData ⊕ PyData) ⊕ (List PyData × List PyData)) : Sp := fun vs H Q E => ∃ (a : Addr) (v : V) (d : PyData) (es ss : List PyData), vs = [.ref a, v] ∧ RulesAt K H a C es ss ∧ es.length ≤ 90 ∧ ss.length ≤ 90 ∧ Dq H v d ∧ Gives2 K C CB CN H Q E (due es ss d)
def dueOE (es ss : List PyData) (d : PyData) : (PyData ⊕ PyData) ⊕ (List PyData × List PyData) := if (decide (es.length = 1) || !numB d (es.length : Int)) = true then .inl (.inr d) else asB (dueR (.tuple (es.take (numOf d) ++ es.drop (numOf d + 1))) (.tuple ss))
def dueOS (es ss : List PyData) (d : PyData) : (PyData ⊕ PyData) ⊕ (List PyData × List PyData) := if (!numB d (ss.length : Int)) = true then .inl (.inr d) else asB (dueR (.tuple es) (.tuple (ss.take (numOf d) ++ ss.drop (numOf d + 1))))
theorem num_of {H : Hp} {v : V} {d : PyData} {n : Int} (h : Dq H v d) (hn : numB d n = true) : v = .int (numOf d : Int) ∧ (numOf d : Int) < n := by
  cases h with
  | int i =>
    have z := Bool.and_eq_true_iff.mp (show (decide (0 ≤ i) && decide (i < n)) = true from hn)
    have z1 := of_decide_eq_true z.1
    have z2 := of_decide_eq_true z.2
    have e : ((numOf (.int i) : Nat) : Int) = i := Int.toNat_of_nonneg z1
    exact ⟨by rw [e], by rw [e]; exact z2⟩
  | _ => cases hn
section
variable {P : Program} {w : World} {K : PySem.W.Frag} {mg : Str → Option Value} {base : Heap}
theorem scwe : FnScope ["self", "tree"] ["self", "tree"] (defScope sWE) := ⟨rfl, rfl, rfl, by decide +kernel, rfl, by decide +kernel, by decide +kernel⟩
theorem ok_we {f fI fT C CB CN : Addr} {fd dI dT : FuncData} (F : Fun K "with_end" "Rules.with_end" sWE f fd) (R : RCl K mg C fI) (bI : Binds K dI ["self", "ends", "steps"] []) (GI : FnOk P w K mg base (L2.CX P w) 12 fI dI ["self", "ends", "steps"] (spRI K C CB))
    (FT : Fun K "is_tree" "is_tree" sTr fT dT) (bT : Binds K dT ["thing"] []) (gT : mg "is_tree" = some (.ref fT)) (GT : FnOk P w K mg base CX0 11 fT dT ["thing"] (spB (shape 0)))
    (T : TI3 mg) (X : ExF P K mg "BadRules" "place" CB) :
    FnOk P w K mg base (L2.CX P w) 14 f fd ["self", "tree"] (spW K C CB CN fun es ss d => asB (dueWE es ss d)) := by
  obtain ⟨fE, fdE, qn, B, newId, initId, bmB, XT⟩ := X.ex
  refine F.okX (k := 13) scwe (fun vs H Q E h => ?_) (fun cdv A outer s H vs Q E hr h => ?_)
  · obtain ⟨a, v, d, es, ss, rfl, _⟩ := h
    rfl
  · obtain ⟨a, v, d, es, ss, rfl, hR, l1, l2, hd, hg⟩ := h
    have dp : (A.deeper (PyProof.Rows.envOfC "Rules.with_end" (defScope sWE) s.heap.objs.size f cdv)).depth + 1 < recursionLimit := by have := hr.dp; omega
    refine ⟨_, pss_cons (ps_if (pt_not (pt_val (pe_call GT (hr.mono (by decide)) (by rfl) gT FT.kp bT .nil pass0 (pa_cons (pv 1) pa_nil)))) (pss_one (ps_raise rfl (takes_of rfl rfl rfl rfl) (pmk_xp XT X.r dp X.g X.k (by rfl) (pe_tup (pa_cons pe_str (pa_cons (pe_callB call_len_seq (by rfl) T.tr.len PySem.boot_len (pa_cons (pe_fld (pv 0) rfl) pa_nil)) pa_nil)))))) pss_nil)
      (pss_one (ps_ret (pe_make R.mkc GI hr (by rfl) R.g bI .nil (passes_call (takes_of rfl rfl rfl rfl) fun _ _ _ _ h => h) (pa_cons (pe_op op_catG (pe_fld (pv 0) rfl) (pe_tup (pa_cons (pv 1) pa_nil))) (pa_cons (pe_fld (pv 0) rfl) pa_nil))))), ?_⟩
    obtain ⟨dx, pe, ps, xs, ys, h1, h2, h3, h4, h5⟩ := hR
    refine ⟨_, rfl, v, d, rfl, hd, fun H1 s1 => ⟨_, rfl, ?_⟩⟩
    have z : Gives2 K C CB CN H Q E (asB (dueWE es ss d)) := hg
    cases hs : shape 0 d with
    | false =>
      have ez : dueWE es ss d = .inl (.tuple [.str "end", .int (es.length : Int)]) := by
        unfold dueWE
        rw [if_pos hs]
      rw [ez] at z
      have hg' : OutB H E CB "place" (.tuple [.str "end", .int (es.length : Int)]) := z
      refine iteT ⟨_, rfl, a, C, dx, _, .ref pe, rfl, s1 _ _ h1, R.cl, R.n1, lk_e _ _, pe, xs, rfl, .inr (sqT_same h2 s1), by show 2 ≤ sizeLine; decide, fun p np => ?_⟩
      rw [h3.len]
      exact (hg'.same (same_trans s1 (same_new np))).raise (.tup upd_same (.cons (.str _ (by decide +kernel)) (.cons (.int _) .nil)))
    | true =>
      have ez : dueWE es ss d = dueR (.tuple (es ++ [d])) (.tuple ss) := by
        unfold dueWE
        rw [if_neg (by rw [hs]; simp)]
      rw [ez] at z
      have lx := h3.len
      have ly := h5.len
      refine iteF ⟨_, rfl, a, C, dx, _, .ref pe, rfl, s1 _ _ h1, R.cl, R.n1, lk_e _ _, _, rfl, by show 1 ≤ sizeLine; decide, fun p np => ?_⟩
      have s2 := same_trans s1 (same_new (o := .tup [v]) np)
      refine ⟨pe, p, xs, [v], rfl, rfl, sqT_same h2 s2, SqT.of upd_same, Nat.le_of_lt (small1000 (by show xs.length + 1 ≤ 1000; omega)), fun p2 H3 s3 e3 => ?_⟩
      have s4 := same_trans s2 s3
      refine ⟨_, rfl, a, C, dx, _, .ref ps, rfl, s4 _ _ h1, R.cl, R.n2, lk_s _ _, ?_⟩
      refine make_ok (de := .tuple (es ++ [d])) (ds := .tuple ss) (.inr ⟨p2, _, _, rfl, rfl, e3, (h3.same s4).app (.cons (hd.same s4) .nil)⟩) (.inr ⟨ps, _, _, rfl, rfl, sqT_same h4 s4, h5.same s4⟩) (fun pl e => ?_) fun es' ss' e b H5 s5 nb r => ?_
      · rw [e] at z
        exact OutB.same z s4
      · rw [e] at z
        exact z b H5 (same_trans s4 s5) (same_out s4 nb) r
theorem scws : FnScope ["self", "body"] ["self", "body"] (defScope sWS) := ⟨rfl, rfl, rfl, by decide +kernel, rfl, by decide +kernel, by decide +kernel⟩
theorem ok_ws {f fI fT C CB CN : Addr} {fd dI dT : FuncData} (F : Fun K "with_step" "Rules.with_step" sWS f fd) (R : RCl K mg C fI) (bI : Binds K dI ["self", "ends", "steps"] []) (GI : FnOk P w K mg base (L2.CX P w) 12 fI dI ["self", "ends", "steps"] (spRI K C CB))
    (FT : Fun K "is_body" "is_body" sBo fT dT) (bT : Binds K dT ["thing"] []) (gT : mg "is_body" = some (.ref fT)) (GT : FnOk P w K mg base CX0 11 fT dT ["thing"] (spB (shape 1)))
    (T : TI3 mg) (X : ExF P K mg "BadRules" "place" CB) :
    FnOk P w K mg base (L2.CX P w) 14 f fd ["self", "body"] (spW K C CB CN fun es ss d => asB (dueWS es ss d)) := by
  obtain ⟨fE, fdE, qn, B, newId, initId, bmB, XT⟩ := X.ex
  refine F.okX (k := 13) scws (fun vs H Q E h => ?_) (fun cdv A outer s H vs Q E hr h => ?_)
  · obtain ⟨a, v, d, es, ss, rfl, _⟩ := h
    rfl
  · obtain ⟨a, v, d, es, ss, rfl, hR, l1, l2, hd, hg⟩ := h
    have dp : (A.deeper (PyProof.Rows.envOfC "Rules.with_step" (defScope sWS) s.heap.objs.size f cdv)).depth + 1 < recursionLimit := by have := hr.dp; omega
    refine ⟨_, pss_cons (ps_if (pt_not (pt_val (pe_call GT (hr.mono (by decide)) (by rfl) gT FT.kp bT .nil pass0 (pa_cons (pv 1) pa_nil)))) (pss_one (ps_raise rfl (takes_of rfl rfl rfl rfl) (pmk_xp XT X.r dp X.g X.k (by rfl) (pe_tup (pa_cons pe_str (pa_cons (pe_callB call_len_seq (by rfl) T.tr.len PySem.boot_len (pa_cons (pe_fld (pv 0) rfl) pa_nil)) pa_nil)))))) pss_nil)
      (pss_one (ps_ret (pe_make R.mkc GI hr (by rfl) R.g bI .nil (passes_call (takes_of rfl rfl rfl rfl) fun _ _ _ _ h => h) (pa_cons (pe_fld (pv 0) rfl) (pa_cons (pe_op op_catG (pe_fld (pv 0) rfl) (pe_tup (pa_cons (pv 1) pa_nil))) pa_nil))))), ?_⟩
    obtain ⟨dx, pe, ps, xs, ys, h1, h2, h3, h4, h5⟩ := hR
    refine ⟨_, rfl, v, d, rfl, hd, fun H1 s1 => ⟨_, rfl, ?_⟩⟩
    have z : Gives2 K C CB CN H Q E (asB (dueWS es ss d)) := hg
    cases hs : shape 1 d with
    | false =>
      have ez : dueWS es ss d = .inl (.tuple [.str "step", .int (ss.length : Int)]) := by
        unfold dueWS
        rw [if_pos hs]
      rw [ez] at z
      have hg' : OutB H E CB "place" (.tuple [.str "step", .int (ss.length : Int)]) := z
      refine iteT ⟨_, rfl, a, C, dx, _, .ref ps, rfl, s1 _ _ h1, R.cl, R.n2, lk_s _ _, ps, ys, rfl, .inr (sqT_same h4 s1), by show 2 ≤ sizeLine; decide, fun p np => ?_⟩
      rw [h5.len]
      exact (hg'.same (same_trans s1 (same_new np))).raise (.tup upd_same (.cons (.str _ (by decide +kernel)) (.cons (.int _) .nil)))
    | true =>
      have ez : dueWS es ss d = dueR (.tuple es) (.tuple (ss ++ [d])) := by
        unfold dueWS
        rw [if_neg (by rw [hs]; simp)]
      rw [ez] at z
      have lx := h3.len
      have ly := h5.len
      refine iteF ⟨_, rfl, a, C, dx, _, .ref pe, rfl, s1 _ _ h1, R.cl, R.n1, lk_e _ _, _, rfl, a, C, dx, _, .ref ps, rfl, s1 _ _ h1, R.cl, R.n2, lk_s _ _, _, rfl, by show 1 ≤ sizeLine; decide, fun p np => ?_⟩
      have s2 := same_trans s1 (same_new (o := .tup [v]) np)
      refine ⟨ps, p, ys, [v], rfl, rfl, sqT_same h4 s2, SqT.of upd_same, Nat.le_of_lt (small1000 (by show ys.length + 1 ≤ 1000; omega)), fun p2 H3 s3 e3 => ?_⟩
      have s4 := same_trans s2 s3
      refine make_ok (de := .tuple es) (ds := .tuple (ss ++ [d])) (.inr ⟨pe, _, _, rfl, rfl, sqT_same h2 s4, h3.same s4⟩) (.inr ⟨p2, _, _, rfl, rfl, e3, (h5.same s4).app (.cons (hd.same s4) .nil)⟩) (fun pl e => ?_) fun es' ss' e b H5 s5 nb r => ?_
      · rw [e] at z
        exact OutB.same z s4
      · rw [e] at z
        exact z b H5 (same_trans s4 s5) (same_out s4 nb) r
theorem scoe : FnScope ["self", "number"] ["self", "number"] (defScope sOE) := ⟨rfl, rfl, rfl, by decide +kernel, rfl, by decide +kernel, by decide +kernel⟩
theorem ok_oe {f fI fN fW C CB CN : Addr} {fd dI dN dW : FuncData} (F : Fun K "without_end" "Rules.without_end" sOE f fd) (R : RCl K mg C fI) (bI : Binds K dI ["self", "ends", "steps"] []) (GI : FnOk P w K mg base (L2.CX P w) 12 fI dI ["self", "ends", "steps"] (spRI K C CB))
    (FN : Fun K "is_number" "is_number" sNum fN dN) (bN : Binds K dN ["thing", "many"] []) (gN : mg "is_number" = some (.ref fN))
    (FW : Fun K "_without" "_without" sWo fW dW) (bW : Binds K dW ["items", "number"] []) (gW : mg "_without" = some (.ref fW))
    (T : TI3 mg) (X : ExF P K mg "BadNumber" "value" CN) :
    FnOk P w K mg base (L2.CX P w) 14 f fd ["self", "number"] (spW K C CB CN dueOE) := by
  obtain ⟨fE, fdE, qn, B, newId, initId, bmB, XT⟩ := X.ex
  have GN : FnOk P w K mg base CX0 1 fN dN ["thing", "many"] spNum := ok_num FN T.tr
  have GW : FnOk P w K mg base CX0 1 fW dW ["items", "number"] (spWo K) := ok_wo FW
  refine F.okX (k := 13) scoe (fun vs H Q E h => ?_) (fun cdv A outer s H vs Q E hr h => ?_)
  · obtain ⟨a, v, d, es, ss, rfl, _⟩ := h
    rfl
  · obtain ⟨a, v, d, es, ss, rfl, hR, l1, l2, hd, hg⟩ := h
    have dp : (A.deeper (PyProof.Rows.envOfC "Rules.without_end" (defScope sOE) s.heap.objs.size f cdv)).depth + 1 < recursionLimit := by have := hr.dp; omega
    refine ⟨_, pss_cons (ps_if (PW.pt (pw_or (pt_cmpR op_eq (pe_callB call_len_seq (by rfl) T.tr.len PySem.boot_len (pa_cons (pe_fld (pv 0) rfl) pa_nil)) pe_int (by rfl)) (pw_or1 (pt_not (pt_val (pe_call GN (hr.mono (by decide)) (by rfl) gN FN.kp bN .nil pass0 (pa_cons (pv 1) (pa_cons (pe_callB call_len_seq (by rfl) T.tr.len PySem.boot_len (pa_cons (pe_fld (pv 0) rfl) pa_nil)) pa_nil)))))))) (pss_one (ps_raise rfl (takes_of rfl rfl rfl rfl) (pmk_xp XT X.r dp X.g X.k (by rfl) (pv 1)))) pss_nil)
      (pss_one (ps_ret (pe_make R.mkc GI hr (by rfl) R.g bI .nil (passes_call (takes_of rfl rfl rfl rfl) fun _ _ _ _ h => h) (pa_cons (pe_call GW (hr.mono (by decide)) (by rfl) gW FW.kp bW .nil pass0 (pa_cons (pe_fld (pv 0) rfl) (pa_cons (pv 1) pa_nil))) (pa_cons (pe_fld (pv 0) rfl) pa_nil))))), ?_⟩
    obtain ⟨dx, pe, ps, xs, ys, h1, h2, h3, h4, h5⟩ := hR
    have z : Gives2 K C CB CN H Q E (dueOE es ss d) := hg
    have lx := h3.len
    have ly := h5.len
    refine ⟨_, rfl, a, C, dx, _, .ref pe, rfl, same_refl _ _ h1, R.cl, R.n1, lk_e _ _, pe, xs, rfl, .inr h2, rfl, _, rfl, ?_⟩
    have e1 : decide (V.int (xs.length : Nat) = V.int 1) = decide (es.length = 1) := decide_eq_decide.mpr ⟨fun z => by have := V.int.inj z; omega, fun z => by rw [lx, z]; rfl⟩
    rw [e1]
    cases h1e : decide (es.length = 1) with
    | true =>
      have ez : dueOE es ss d = .inl (.inr d) := by
        unfold dueOE
        rw [h1e]
        rfl
      rw [ez] at z
      exact iteT (iteT ⟨_, rfl, OutB.raise z hd⟩)
    | false =>
    refine iteF ?_
    refine ⟨_, rfl, _, rfl, a, C, dx, _, .ref pe, rfl, same_refl _ _ h1, R.cl, R.n1, lk_e _ _, pe, xs, rfl, .inr h2, v, d, (xs.length : Int), rfl, hd, fun H1 s1 => ⟨_, rfl, ?_⟩⟩
    rw [lx]
    cases hn : numB d (es.length : Int) with
    | false =>
      have ez : dueOE es ss d = .inl (.inr d) := by
        unfold dueOE
        rw [h1e, hn]
        rfl
      rw [ez] at z
      exact iteT ⟨_, rfl, OutB.raise (OutB.same z s1) (hd.same s1)⟩
    | true =>
      obtain ⟨ev, lv⟩ := num_of hd hn
      have ez : dueOE es ss d = asB (dueR (.tuple (es.take (numOf d) ++ es.drop (numOf d + 1))) (.tuple ss)) := by
        unfold dueOE
        rw [h1e, hn]
        rfl
      rw [ez] at z
      refine iteF ?_
      refine ⟨_, rfl, a, C, dx, _, .ref pe, rfl, s1 _ _ h1, R.cl, R.n1, lk_e _ _, _, rfl, pe, numOf d, xs, es, by rw [ev]; rfl, sqT_same h2 s1, h3.same s1, by omega, fun p2 xs2 H2 s2 e2 a2 => ?_⟩
      have s4 := same_trans s1 s2
      refine ⟨_, rfl, a, C, dx, _, .ref ps, rfl, s4 _ _ h1, R.cl, R.n2, lk_s _ _, ?_⟩
      refine make_ok (de := .tuple (es.take (numOf d) ++ es.drop (numOf d + 1))) (ds := .tuple ss) (.inr ⟨p2, _, _, rfl, rfl, e2, a2⟩) (.inr ⟨ps, _, _, rfl, rfl, sqT_same h4 s4, h5.same s4⟩) (fun pl e => ?_) fun es' ss' e b H5 s5 nb r => ?_
      · rw [e] at z
        exact OutB.same z s4
      · rw [e] at z
        exact z b H5 (same_trans s4 s5) (same_out s4 nb) r
theorem scos : FnScope ["self", "number"] ["self", "number"] (defScope sOS) := ⟨rfl, rfl, rfl, by decide +kernel, rfl, by decide +kernel, by decide +kernel⟩
theorem ok_os {f fI fN fW C CB CN : Addr} {fd dI dN dW : FuncData} (F : Fun K "without_step" "Rules.without_step" sOS f fd) (R : RCl K mg C fI) (bI : Binds K dI ["self", "ends", "steps"] []) (GI : FnOk P w K mg base (L2.CX P w) 12 fI dI ["self", "ends", "steps"] (spRI K C CB))
    (FN : Fun K "is_number" "is_number" sNum fN dN) (bN : Binds K dN ["thing", "many"] []) (gN : mg "is_number" = some (.ref fN))
    (FW : Fun K "_without" "_without" sWo fW dW) (bW : Binds K dW ["items", "number"] []) (gW : mg "_without" = some (.ref fW))
    (T : TI3 mg) (X : ExF P K mg "BadNumber" "value" CN) :
    FnOk P w K mg base (L2.CX P w) 14 f fd ["self", "number"] (spW K C CB CN dueOS) := by
  obtain ⟨fE, fdE, qn, B, newId, initId, bmB, XT⟩ := X.ex
  have GN : FnOk P w K mg base CX0 1 fN dN ["thing", "many"] spNum := ok_num FN T.tr
  have GW : FnOk P w K mg base CX0 1 fW dW ["items", "number"] (spWo K) := ok_wo FW
  refine F.okX (k := 13) scos (fun vs H Q E h => ?_) (fun cdv A outer s H vs Q E hr h => ?_)
  · obtain ⟨a, v, d, es, ss, rfl, _⟩ := h
    rfl
  · obtain ⟨a, v, d, es, ss, rfl, hR, l1, l2, hd, hg⟩ := h
    have dp : (A.deeper (PyProof.Rows.envOfC "Rules.without_step" (defScope sOS) s.heap.objs.size f cdv)).depth + 1 < recursionLimit := by have := hr.dp; omega
    refine ⟨_, pss_cons (ps_if (pt_not (pt_val (pe_call GN (hr.mono (by decide)) (by rfl) gN FN.kp bN .nil pass0 (pa_cons (pv 1) (pa_cons (pe_callB call_len_seq (by rfl) T.tr.len PySem.boot_len (pa_cons (pe_fld (pv 0) rfl) pa_nil)) pa_nil))))) (pss_one (ps_raise rfl (takes_of rfl rfl rfl rfl) (pmk_xp XT X.r dp X.g X.k (by rfl) (pv 1)))) pss_nil)
      (pss_one (ps_ret (pe_make R.mkc GI hr (by rfl) R.g bI .nil (passes_call (takes_of rfl rfl rfl rfl) fun _ _ _ _ h => h) (pa_cons (pe_fld (pv 0) rfl) (pa_cons (pe_call GW (hr.mono (by decide)) (by rfl) gW FW.kp bW .nil pass0 (pa_cons (pe_fld (pv 0) rfl) (pa_cons (pv 1) pa_nil))) pa_nil))))), ?_⟩
    obtain ⟨dx, pe, ps, xs, ys, h1, h2, h3, h4, h5⟩ := hR
    have z : Gives2 K C CB CN H Q E (dueOS es ss d) := hg
    have lx := h3.len
    have ly := h5.len
    refine ⟨_, rfl, _, rfl, a, C, dx, _, .ref ps, rfl, same_refl _ _ h1, R.cl, R.n2, lk_s _ _, ps, ys, rfl, .inr h4, v, d, (ys.length : Int), rfl, hd, fun H1 s1 => ⟨_, rfl, ?_⟩⟩
    rw [ly]
    cases hn : numB d (ss.length : Int) with
    | false =>
      have ez : dueOS es ss d = .inl (.inr d) := by
        unfold dueOS
        rw [hn]
        rfl
      rw [ez] at z
      exact iteT ⟨_, rfl, OutB.raise (OutB.same z s1) (hd.same s1)⟩
    | true =>
      obtain ⟨ev, lv⟩ := num_of hd hn
      have ez : dueOS es ss d = asB (dueR (.tuple es) (.tuple (ss.take (numOf d) ++ ss.drop (numOf d + 1)))) := by
        unfold dueOS
        rw [hn]
        rfl
      rw [ez] at z
      refine iteF ?_
      refine ⟨_, rfl, a, C, dx, _, .ref pe, rfl, s1 _ _ h1, R.cl, R.n1, lk_e _ _, _, rfl, a, C, dx, _, .ref ps, rfl, s1 _ _ h1, R.cl, R.n2, lk_s _ _, _, rfl, ps, numOf d, ys, ss, by rw [ev]; rfl, sqT_same h4 s1, h5.same s1, by omega, fun p2 xs2 H2 s2 e2 a2 => ?_⟩
      have s4 := same_trans s1 s2
      refine make_ok (de := .tuple es) (ds := .tuple (ss.take (numOf d) ++ ss.drop (numOf d + 1))) (.inr ⟨pe, _, _, rfl, rfl, sqT_same h2 s4, h3.same s4⟩) (.inr ⟨p2, _, _, rfl, rfl, e2, a2⟩) (fun pl e => ?_) fun es' ss' e b H5 s5 nb r => ?_
      · rw [e] at z
        exact OutB.same z s4
      · rw [e] at z
        exact z b H5 (same_trans s4 s5) (same_out s4 nb) r
end
end RU
set_option Elab.async false
set_option linter.all false
set_option maxRecDepth 100000
set_option maxHeartbeats 4000000
namespace RU
open PySem L2 L2H DQ K01 EnT OwI
open XH hiding same_refl same_trans same_new
mutual
theorem _root_.DQ.Dq.dp {K : PySem.W.Frag} {H : Hp} : ∀ {v : V} {d : PyData}, d.canLay0 = true → Dq H v d → Dp K H v d
  | _, _, _, .non => .non
  | _, _, _, .bl b => .bl b
  | _, _, _, .int i => .int i
  | _, _, _, .str x hx => .str x
  | _, _, h, .lst e a => .lst (SqL.of e) (a.dp h)
  | _, _, h, .tup e a => .tup (SqT.of e) (a.dp h)
  | _, _, h, .dic e => nomatch (show false = true from h)
theorem _root_.DQ.DqAll.dp {K : PySem.W.Frag} {H : Hp} : ∀ {vs : List V} {ds : List PyData}, PyData.canLayAll0 ds = true → DqAll H vs ds → DpAll K H vs ds
  | _, _, _, .nil => .nil
  | _, _, h, .cons a b => .cons (a.dp (Bool.and_eq_true_iff.mp h).1) (b.dp (Bool.and_eq_true_iff.mp h).2)
end
theorem dp_tup {K : PySem.W.Frag} {H : Hp} {p : Addr} {xs : List V} {ds : List PyData} (h : SqT K H p xs) (a : DqAll H xs ds) (s : SeqAt.shaped (.tuple ds) = true) : Dp K H (.ref p) (.tuple ds) := .tup h (a.dp (SeqAt.canLay_of_shaped s))
/-- what isinstance and == ask of the class Rules -/
structure REq (K : PySem.W.Frag) (C g : Addr) : Prop where
  i : C8.InsC K C
  nt : PySem.W.kitOne K (.type "tuple") (.ref C) = some false
  e : EqI K C g
  n1 : PySem.W.notFirst K C (.ref C) = true
  n2 : PySem.W.notFirst K C (.type "tuple") = true
def eqR (es ss es' ss' : List PyData) : Bool := PyData.eqv (.tuple es) (.tuple es') && PyData.eqv (.tuple ss) (.tuple ss')
def spEqR (K : PySem.W.Frag) (C : Addr) : Sp := fun vs H Q _ => ∃ (a : Addr) (y : V) (es ss : List PyData), vs = [.ref a, y] ∧ RulesAt K H a C es ss ∧ SeqAt.shaped (.tuple es) = true ∧ SeqAt.shaped (.tuple ss) = true ∧
  ((∃ (b : Addr) (es' ss' : List PyData), y = .ref b ∧ RulesAt K H b C es' ss' ∧ SeqAt.shaped (.tuple es') = true ∧ SeqAt.shaped (.tuple ss') = true ∧ Q (.bl (eqR es ss es' ss')) H) ∨
   (∃ (q : Addr) (xs : List V), y = .ref q ∧ SqT K H q xs ∧ Q (.bl false) H))
section
variable {P : Program} {w : World} {K : PySem.W.Frag} {mg : Str → Option Value} {base : Heap}
theorem screq : FnScope ["self", "other"] ["self", "other"] (defScope sREq) := ⟨rfl, rfl, rfl, by decide +kernel, rfl, by decide +kernel, by decide +kernel⟩
theorem ok_req {f fI C : Addr} {fd : FuncData} (F : Fun K "__eq__" "Rules.__eq__" sREq f fd) (R : RCl K mg C fI) (T : TI3 mg) (Z : REq K C f) : FnOk P w K mg base CX0 1 f fd ["self", "other"] (spEqR K C) := by
  refine F.ok screq (fun vs H Q E h => ?_) (fun cdv A outer s H vs Q E hr h => ?_)
  · obtain ⟨a, y, es, ss, rfl, _⟩ := h
    rfl
  · obtain ⟨a, y, es, ss, rfl, h1, s1, s2, h⟩ := h
    have hu : (A.deeper (PyProof.Rows.envOfC "Rules.__eq__" (defScope sREq) s.heap.objs.size f cdv)).units + 64 < cLine := by have := hr.un; omega
    refine ⟨_, pss_one (ps_ret (pe_and (pe_callB call_isi (by rfl) T.tr.isi bisi (pa_cons (pv 1) (pa_cons (pe_glob (v := .ref C) (by rfl) R.g rfl) pa_nil)))
      (pe_and (pe_cmpR (op_eqD hu) (pe_fld (pv 0) rfl) (pe_fld (pv 1) rfl) (by rfl)) (pe_one (pe_cmpR (op_eqD hu) (pe_fld (pv 0) rfl) (pe_fld (pv 1) rfl) (by rfl)))))), ?_⟩
    obtain ⟨dx, pe, ps, xs, ys, o1, o2, o3, o4, o5⟩ := h1
    rcases h with ⟨b, es', ss', rfl, h2, s3, s4, q⟩ | ⟨p, zs, rfl, h2, q⟩
    · obtain ⟨dx', pe', ps', xs', ys', r1, r2, r3, r4, r5⟩ := h2
      refine ⟨_, rfl, .ref b, .ref C, .ref C, .ref C, true, rfl, .own C, .base (.ins r1 R.cl Z.i.ha Z.i.hn Z.i.htk Z.i.hm), Z.i.me, _, rfl, ?_⟩
      refine iteT ⟨_, rfl, a, C, dx, _, .ref pe, rfl, o1, R.cl, R.n1, lk_e _ _, _, rfl, b, C, dx', _, .ref pe', rfl, r1, R.cl, R.n1, lk_e _ _, .tuple es, .tuple es', dp_tup o2 o3 s1, dp_tup r2 r3 s3, s1, s3, _, rfl, ?_⟩
      unfold eqR at q
      cases h1 : PyData.eqv (.tuple es) (.tuple es') with
      | false =>
        rw [h1, Bool.false_and] at q
        exact iteF q
      | true =>
        rw [h1, Bool.true_and] at q
        exact iteT ⟨_, rfl, a, C, dx, _, .ref ps, rfl, o1, R.cl, R.n2, lk_s _ _, _, rfl, b, C, dx', _, .ref ps', rfl, r1, R.cl, R.n2, lk_s _ _, .tuple ss, .tuple ss', dp_tup o4 o5 s2, dp_tup r4 r5 s4, s2, s4, q⟩
    · exact ⟨_, rfl, .ref p, .ref C, .type "tuple", .ref C, false, rfl, .own C, sqT_ty h2, Z.nt, _, rfl, iteF q⟩
end
end RU
set_option Elab.async false
set_option linter.all false
set_option maxRecDepth 100000
set_option maxHeartbeats 4000000
/-! a lambda with one parameter, that has a default (a whole number), handed to a def -/
namespace LamD
open PySem PySem.Spec PyProof.Rows L2 LamX
abbrev lq (X : Cx) : Str := X.env.qual ++ "<lambda>"
abbrev dObj (X : Cx) (params : Arguments) (body : Expr) (scope : Scope) (T0 : Addr) (doc pm : Value) (c' : Addr) (ctv : Value) : Obj :=
  PySem.W.kdv_obj "<lambda>" (lq X) params (.expr body) scope (cloFrom X.env.cells scope.names []) (.ref T0) doc pm c' ctv
section
variable {X : Cx} {pins : List (Addr × Obj)} {σ : L2.St} {H : Hp} {s : Shared}
theorem nofrs (I : Inv X pins σ H s) {f : Addr} (hf : s.heap.objs.size ≤ f) : f ∉ frs X.stack := fun z => by
  rcases List.mem_cons.mp (I.stkSub _ z) with e | e
  · exact absurd (Nat.lt_of_lt_of_le I.lt (e ▸ hf)) (Nat.lt_irrefl _)
  · exact I.nofs hf e
/-- the function object is made; what was known of the tables' code objects stays -/
theorem tail_made {T : List (Addr × Str)} {c P T0 : Addr} {params : Arguments} {body : Expr} {scope : Scope} {pos : Pos} {E Q : Value → Shared → Prop} {oT : Obj} (I : Inv X pins σ H s) (TB : TabB X.base X.mg c P) (hcode : X.env.code = .ref c)
    (hm : (P, lq X) ∈ T) (hu : ∀ p ∈ T, p.1 = P → p.2 = lq X) (hT : Tabs T H) (hfree : ∀ y ∈ scope.names, y.2 = .free → ∃ c, X.env.cells.lookup y.1 = some c)
    (ht0 : s.heap.get? T0 = some oT) (htn : H T0 = none)
    (h : ∀ (f c' : Addr) (doc pm ctv : Value) (H1 : Hp) (s' : Shared), Inv X pins σ H1 s' → ExtN H H1 → Tabs T H1 → s'.heap.get? f = some (dObj X params body scope T0 doc pm c' ctv) → H1 f = none → f ∉ frs X.stack →
      s'.heap.get? T0 = some oT → H1 T0 = none → H1 c' = some (CodeO c' (lq X)) → Q (.ref f) s') :
    wpAny (model X.prog X.w) X.A (makeTail "<lambda>" (lq X) params (.expr body) scope X.env (.ref T0) .none none pos pos.line) Q E s := by
  obtain ⟨ps, hP, hts, known⟩ := hT _ hm
  have onP : s.heap.get? P = some { cls := .none, data := .fields ps } := I.hok P _ hP
  have nTP : T0 ≠ P := fun z => by rw [z, hP] at htn; cases htn
  cases hc : codeAmong pos ps.toList with
  | some cv =>
    obtain ⟨c', e, hco⟩ := known pos cv hc
    subst e
    refine PySem.W.kdv_makeTailHit (mg := X.mg) (c := c) (P := P) (ps := ps) (closure_ok hfree) I.ok.glob (I.mod.glob.keeps I.bk) hcode (TB.code.keeps I.bk) onP hts hc (TB.bm.keeps I.bk) fun ctv doc h' tk hx hsz => ?_
    refine h h'.objs.size c' doc ((X.mg "__name__").getD .none) ctv H _ (I.kept fun b o e => Heap.get?_push_of_some _ (hx b o e)) (ExtN.refl H) hT (Heap.get?_push_size _ rfl) (I.hok.fresh hsz) (nofrs I hsz) (Heap.get?_push_of_some _ (hx _ _ ht0)) htn hco
  | none =>
    refine PySem.W.kdv_makeTail (mg := X.mg) (c := c) (P := P) (ps := ps) (closure_ok hfree) I.ok.glob (I.mod.glob.keeps I.bk) hcode (TB.code.keeps I.bk) onP hts hc TB.gP (TB.bm.keeps I.bk) fun c' ctv doc h' tk hx hge hlt hrec htb => ?_
    obtain ⟨c2, oc, vs, t, e2, hoc, hd, hv⟩ := hrec
    cases e2
    have hsz : s.heap.objs.size ≤ h'.objs.size := Nat.le_trans hge (Nat.le_of_lt hlt)
    have nC : H c' = none := I.hok.fresh hge
    have nTc : T0 ≠ c' := Nat.ne_of_lt (Nat.lt_of_lt_of_le (Heap.lt_size ht0) hge)
    have nfc : h'.objs.size ≠ c' := Nat.ne_of_gt hlt
    have nfP : h'.objs.size ≠ P := Nat.ne_of_gt (Nat.lt_of_lt_of_le (Heap.lt_size onP) hsz)
    have eN : ExtN H (upd (upd H P (.tbl (ps ++ #[rawInt pos.line, rawInt pos.col, .ref c']))) c' (CodeO c' (lq X))) := fun b o e n => by
      rw [upd_ne (ne_of_none e nC), upd_ne (fun z => n ps (Option.some.inj (e.symm.trans (by rw [z]; exact hP))))]
      exact e
    have eL : (ps ++ #[rawInt pos.line, rawInt pos.col, .ref c']).toList = ps.toList ++ [rawInt pos.line, rawInt pos.col, .ref c'] := by simp
    have J := inv_table (t' := tk) (more := #[rawInt pos.line, rawInt pos.col, .ref c']) (q := lq X) (h' := h'.push (dObj X params body scope T0 doc ((X.mg "__name__").getD .none) c' ctv)) I hP
      (fun b o hb e => Heap.get?_push_of_some _ (hx b o hb e)) (Heap.get?_push_of_some _ htb) hge ⟨oc, vs, t, Heap.get?_push_of_some _ hoc, hd, hv⟩
    refine h h'.objs.size c' doc ((X.mg "__name__").getD .none) ctv _ _ J eN (fun p hp => ?_) (Heap.get?_push_size _ rfl) (by rw [upd_ne nfc, upd_ne nfP]; exact I.hok.fresh hsz) (nofrs I hsz) (Heap.get?_push_of_some _ (hx _ _ nTP ht0)) (by rw [upd_ne nTc, upd_ne nTP]; exact htn) upd_same
    by_cases hb : p.1 = P
    · rw [hu p hp hb, hb]
      refine ⟨_, by rw [upd_ne (ne_of_none hP nC), upd_same], by rw [eL]; exact PySem.TriplesOk_snoc _ _ _ _ hts, fun p' cv hcv => ?_⟩
      rw [eL] at hcv
      rcases among_app _ hts hcv with z | z
      · obtain ⟨c0, e1, e2⟩ := known p' cv z
        exact ⟨c0, e1, eN _ _ e2 codeO_ne⟩
      · exact ⟨c', z, upd_same⟩
    · obtain ⟨ps', a1, a2, a3⟩ := hT p hp
      refine ⟨ps', by rw [upd_ne (ne_of_none a1 nC), upd_ne hb]; exact a1, a2, fun p' cv hcv => ?_⟩
      obtain ⟨c0, e1, e2⟩ := a3 p' cv hcv
      exact ⟨c0, e1, eN _ _ e2 codeO_ne⟩
/-- lambda x=d: body -/
theorem lamd_made {T : List (Addr × Str)} {c P : Addr} {params : Arguments} {body : Expr} {scope : Scope} {pos : Pos} {E Q : Value → Shared → Prop} {di : Int} {dj : Nat} {dp : Pos} (I : Inv X pins σ H s) (TB : TabB X.base X.mg c P) (hcode : X.env.code = .ref c)
    (hm : (P, lq X) ∈ T) (hu : ∀ p ∈ T, p.1 = P → p.2 = lq X) (hT : Tabs T H) (hfree : ∀ y ∈ scope.names, y.2 = .free → ∃ c, X.env.cells.lookup y.1 = some c)
    (hd : params.defaults = [.Constant (.int di) dj dp]) (hk0 : params.kw_defaults = [])
    (h : ∀ (f c' T0 : Addr) (t : Tok) (doc pm ctv : Value) (H1 : Hp) (s' : Shared), Inv X pins σ H1 s' → ExtN H H1 → Tabs T H1 → s'.heap.get? f = some (dObj X params body scope T0 doc pm c' ctv) → H1 f = none → f ∉ frs X.stack →
      s'.heap.get? T0 = some (PySem.W.kdv_tup [.int di t]) → H1 T0 = none → T0 ∉ frs X.stack → H1 c' = some (CodeO c' (lq X)) → Q (.ref f) s') :
    wpAny (model X.prog X.w) X.A (eval (.Lambda params body scope pos) X.env) Q E s := by
  refine PySem.W.kdv_lam (by rw [hd]; rfl) hk0 ?_
  rw [hd]
  refine PySem.W.kdv_all1 (wpAny_Constant_int (PySem.W.kdv_all0 ?_))
  have I0 := I.tok (s.toks + 1)
  rw [makeFunction_eq]
  simp only [List.zip_nil_right, List.filterMap_nil, List.isEmpty_nil, if_true, pure_bind, List.isEmpty_cons, Bool.false_eq_true, if_false]
  refine wpAny_bind (wpAny_newTextTuple ?_)
  have I1 := I0.kept (t' := s.toks + 1) (h' := s.heap.push { cls := .type "tuple", data := .seq [Value.int di s.toks].toArray }) (fun b o e => Heap.get?_push_of_some _ e)
  refine tail_made (oT := PySem.W.kdv_tup [.int di s.toks]) I1 TB hcode hm hu hT hfree (Heap.get?_push_size _ rfl) (I.hok.fresh (Nat.le_refl _)) fun f c' doc pm ctv H1 s' I2 eN T1 hf hfn hfr ht htn hco => ?_
  exact h f c' s.heap.objs.size s.toks doc pm ctv H1 s' I2 eN T1 hf hfn hfr ht htn (nofrs I (Nat.le_refl _)) hco
end
/-! ### its names -/
/-- one parameter, a, whose name the maker doesn't use; captured names and globals besides -/
structure LamP (N : List Str) (sc scope : Scope) (a : Str) : Prop where
  kind : scope.kind = .function
  co : scope.isCoroutine = false
  gen : scope.isGenerator = false
  nocell : ∀ y ∈ scope.names, y.2 ≠ .cell
  loc : ∀ y ∈ scope.names, y.2 = .local → y.1 ∉ N
  par : scope.names.lookup a = some .local
  free : ∀ y ∈ scope.names, y.2 = .free → sc.names.lookup y.1 = some .cell ∨ sc.names.lookup y.1 = some .free
def lamPB (N : List Str) (sc scope : Scope) (a : Str) : Bool :=
  decide (scope.kind = .function) && !scope.isCoroutine && !scope.isGenerator && decide (scope.names.lookup a = some .local) && scope.names.all fun y => !decide (y.2 = .cell) && (!decide (y.2 = .local) || !decide (y.1 ∈ N)) && (!decide (y.2 = .free) || decide (sc.names.lookup y.1 = some .cell) || decide (sc.names.lookup y.1 = some .free))
theorem lamP_by {N : List Str} {sc scope : Scope} {a : Str} (h : lamPB N sc scope a = true) : LamP N sc scope a := by
  unfold lamPB at h
  simp only [Bool.and_eq_true, Bool.or_eq_true, Bool.not_eq_true', decide_eq_true_eq, decide_eq_false_iff_not, List.all_eq_true] at h
  obtain ⟨⟨⟨⟨h1, h2⟩, h3⟩, h5⟩, h4⟩ := h
  exact ⟨h1, h2, h3, fun y hy => (h4 y hy).1.1, fun y hy e => (h4 y hy).1.2.elim (fun z => absurd e z) id, h5, fun y hy e => (h4 y hy).2.elim (fun z => z.elim (fun z => absurd e z) .inl) .inr⟩
theorem LamP.has {X : Cx} {scope : Scope} {a : Str} {N : List Str} (L : LamP N X.env.scope scope a) (ok : X.Ok) : ∀ y ∈ scope.names, y.2 = .free → ∃ c, X.env.cells.lookup y.1 = some c := fun y hy e => ok.has _ (L.free y hy e)
section
variable {X : Cx} {pins : List (Addr × Obj)} {σ : L2.St} {H HZ : Hp} {s s1 : Shared}
theorem clo_mem {scope : Scope} (ok : X.Ok) (hfree : ∀ y ∈ scope.names, y.2 = .free → ∃ c, X.env.cells.lookup y.1 = some c) {y : Str} {c : Addr} (e : (cloFrom X.env.cells scope.names []).lookup y = some c) : X.env.cells.lookup y = some c := by
  rcases cloFrom_mem (PySem.mem_of_lookup e) with hm | ⟨h1, h2⟩
  · cases hm
  · obtain ⟨c1, hc⟩ := hfree _ h1 rfl
    have hc : X.env.cells.lookup y = some c1 := hc
    rw [hc, h2, hc]
    rfl
/-- the body's context is entered -/
theorem lamd_start {A : Around} {outer : List Env} {E : XK} {scope : Scope} {f c' : Addr} {a : Str} {v : Value} {h₁ : Heap} {tk : Nat} (I : Inv X pins σ H s) (L : LamP X.N X.env.scope scope a) (e0 : Env0 X.prog X.w X.K X.mg X.base A outer s1 HZ) (hd : A.handled = none)
    (un : Un (frs X.stack) [] H HZ s.heap s1.heap) (hns : h₁.Ns s1.heap.objs.size fun y => ([(a, v)] : List (Str × Value)).reverse.lookup y) (kp : ∀ b o, s1.heap.get? b = some o → h₁.get? b = some o) :
    Inv (lamCx X A outer s1 HZ E scope f c') [] σ HZ { s1 with heap := h₁, toks := tk } := by
  have hfree := L.has I.ok
  have cm : ∀ {y c}, (cloFrom X.env.cells scope.names []).lookup y = some c → X.env.cells.lookup y = some c := fun e => clo_mem I.ok hfree e
  have cellK : ∀ {c : Addr} {w' : Option Value}, H c = none → s.heap.IsCell c w' → h₁.IsCell c w' := fun {c w'} n ⟨o, ho, hd⟩ => by
    obtain ⟨sl, q⟩ := un.any ho n (by simp)
    exact ⟨_, kp _ _ q, hd⟩
  have noA : ∀ b : Addr, b ∉ (lamCx X A outer s1 HZ E scope f c').ex := fun b z => nomatch (show b ∈ ([] : List Addr) from z)
  refine ⟨⟨e0.mod, L.kind, rfl, rfl, Nat.le_refl _, fun y z c e1 e2 => I.ok.inj y z c (cm e1) (cm e2), fun y hy => ?_, fun y c z _ => (nomatch (show false = true from z)), fun _ => hd, Around.frames_deeper e0.frames, .inr ⟨rfl, rfl⟩, fun b z => absurd z (noA b), e0.bs, e0.bsz, fun b _ _ => noA b,
      fun b z => absurd z (noA b), e0.funs, e0.frf⟩,
    rfl, e0.bare, Un.kept kp, ⟨_, hns, fun i y v e1 e2 e3 => ?_⟩, fun y c e => ?_, e0.hok.fresh (Nat.le_refl _), fun y c e => ?_, fun q hq => absurd (show q ∈ ([] : List (Addr × Obj)) ++ [] from hq) (by simp), e0.hok.kept kp, I.len⟩
  · have hy : scope.names.lookup y = some .cell ∨ scope.names.lookup y = some .free := hy
    rcases hy with hy | hy
    · exact absurd rfl (L.nocell _ (PySem.mem_of_lookup hy))
    · exact mem_lookup (cloFrom_has (cells := X.env.cells) (acc := []) (PySem.mem_of_lookup hy))
  · have yN : y ∈ X.N := List.mem_of_getElem? (show X.N[i]? = some y from e1)
    rcases (show Vis scope y from e3) with k | k | k
    · exact absurd yN (L.loc _ (PySem.mem_of_lookup k) rfl)
    · exact absurd rfl (L.nocell _ (PySem.mem_of_lookup k))
    · obtain ⟨m, hn, hl⟩ := I.loc
      have hfr := L.free _ (PySem.mem_of_lookup k) rfl
      obtain ⟨w', r, q⟩ := hl i y v e1 e2 (hfr.elim (fun k => .inr (.inl k)) fun k => .inr (.inr k))
      obtain ⟨c2, h2⟩ := mem_lookup (cloFrom_has (cells := X.env.cells) (acc := []) (PySem.mem_of_lookup k))
      refine ⟨w', r, .inr ⟨.inr k, c2, h2, ?_⟩⟩
      rcases q with ⟨k', _⟩ | ⟨_, c3, e', z⟩
      · have k' : X.env.scope.names.lookup y = some .local := k'
        rcases hfr with k2 | k2 <;> rw [show X.env.scope.names.lookup y = _ from k2] at k' <;> cases k'
      · cases e'.symm.trans (cm h2)
        exact cellK (I.freeC y _ (cm h2)) z
  · obtain ⟨w', z⟩ := I.cell y c (cm e)
    exact ⟨w', cellK (I.freeC y c (cm e)) z⟩
  · obtain ⟨v, o, ho, hd⟩ := I.cell y c (cm e)
    exact un.free c o ho (I.freeC y c (cm e)) (by simp)
/-- how the one parameter gets its default -/
def BindsD (params : Arguments) (body : Expr) (scope : Scope) (a : Str) (di : Int) : Prop :=
  ∀ (q : Str) (cl : List (Str × Addr)) (T0 : Addr) (doc pm cv ctv : Value), ∃ k : Option (Array Value) → Sem (List (Str × Value)),
    bindArgs (PySem.W.kdv_fn "<lambda>" q params (.expr body) scope cl (.ref T0) doc pm cv ctv) ⟨[], []⟩ = seqItems? (.ref T0) >>= k ∧ ∀ t, k (some #[.int di t]) = pure [(a, .int di t)]
/-- it is called, in the def that got it -/
theorem pe_actD {CXg : CXT} {Eg : XK} {Ng : List Str} {qg : Str} {sg : Scope} {g f c' T0 : Addr} {cdg pm ctv doc : Value} {params : Arguments} {body : Expr} {scope : Scope} {k i : Nat} {a x : Str} {di : Int} {tkd : Tok} {pn : List (Addr × Obj)} {xe : Value → Shared → Prop} {W : WX} {E : XK} {tb : TE} {p1 p2 : Pos}
    (I : Inv X pins σ H s) (L : LamP X.N X.env.scope scope x) (hf : s.heap.get? f = some (dObj X params body scope T0 doc pm c' ctv)) (hfn : H f = none) (hfr : f ∉ frs X.stack)
    (ht : s.heap.get? T0 = some (PySem.W.kdv_tup [.int di tkd])) (htn : H T0 = none) (htr : T0 ∉ frs X.stack) (hbind : BindsD params body scope x di)
    (tk : Takes ((cxOf CXg X.prog X.w X.K X.mg X.base Ng qg sg g cdg X.A X.stack s H Eg).tr pn xe) W) (hW : ∀ cls d σ' H', E cls d H' → W cls d σ' H') (hr : Room (k + 1) (X.A.deeper (envOfC qg sg s.heap.objs.size g cdg)))
    (hbody : ∀ (A : Around) (outer : List Env) (s : Shared) (H : Hp), Room k (A.deeper (lamEnv X scope s.heap.objs.size f c')) → PE (lamCx X A outer s H E scope f c') body tb)
    (hN : Ng[i]? = some a) (hv : Vis sg a) (hd : (a == ("__debug__" : Str)) = false := by decide) (hcd : (a == ("__classdict__" : Str)) = false := by decide) :
    PE ((cxOf CXg X.prog X.w X.K X.mg X.base Ng qg sg g cdg X.A X.stack s H Eg).tr pn xe) (.Call (.Name a p1) [] [] p2)
      (fun σZ HZ Q => σZ[i]? = some (some (.ref f)) ∧ HZ c' = some (CodeO c' (lq X)) ∧ tb σ HZ Q) := by
  refine ⟨fun pinsZ sZ σZ HZ Q IZ h => ?_⟩
  obtain ⟨hs, hc, htb⟩ := h
  refine wpAny_Call_Name_kw (thn ((pe_var (pos := p1) (i := i) hN hv hd hcd).run pinsZ sZ σZ HZ (fun v H1 => v = .ref f ∧ H1 = HZ) IZ ⟨.ref f, hs, rfl, rfl⟩) fun u s1 ⟨v, H1, I1, r1, ev, eH⟩ => ?_)
  subst ev
  rw [eH] at I1
  obtain rfl : u = Value.ref f := r1
  have un : Un (frs X.stack) [] H HZ s.heap s1.heap := I1.base
  have of1 := un.keep f _ hf hfn hfr (fun z => nomatch (show f ∈ ([] : List Addr) from z))
  have ot1 := un.keep T0 _ ht htn htr (fun z => nomatch (show T0 ∈ ([] : List Addr) from z))
  refine PySem.W.callWith_F0 ⟨_, _, _, _, of1⟩ ?_
  obtain ⟨⟨oc, vs, t, hoc, hdc, hvc⟩, _, _⟩ := I1.hok c' _ hc
  have rc : codeAny (model X.prog X.w) (X.A.deeper (envOfC qg sg s.heap.objs.size g cdg)) (.call (.ref f) ⟨[], []⟩) (CR (L2.CX X.prog X.w) (envOfC qg sg s.heap.objs.size g cdg :: X.stack) X.prog X.w HZ s1 Q E) s1 := by
    refine PySem.W.kla_callFunE hr.depth of1 rfl L.co L.gen rfl ⟨c', oc, vs, t, rfl, hoc, hdc, hvc⟩ ?_
    obtain ⟨kk, b1, b2⟩ := hbind (lq X) (cloFrom X.env.cells scope.names []) T0 doc pm (.ref c') ctv
    refine (BindsTo.of_defaults (binds := [(x, .int di tkd)]) (T := T0) (o := PySem.W.kdv_tup [.int di tkd]) (items := #[.int di tkd]) rfl ot1 rfl b1 (b2 tkd)) _ _ _ _ ?_
    refine wpAny_newFunctionEnv L.nocell (fun y hy => by cases List.mem_singleton.mp hy; exact L.par) (fun h₁ hns hsb => ⟨I1.nolimit.fresh _ hsb, ?_⟩) L.kind
    show codeAny _ _ (.expr body (lamEnv X scope s1.heap.objs.size f c')) _ _
    have kp : ∀ b o, s1.heap.get? b = some o → h₁.get? b = some o := fun b o e => hsb.extBut b o (Nat.ne_of_lt (Heap.lt_size e)) (Heap.get?_push_of_some _ e)
    have J : Inv (lamCx X (X.A.deeper (envOfC qg sg s.heap.objs.size g cdg)) (envOfC qg sg s.heap.objs.size g cdg :: X.stack) s1 HZ E scope f c') [] σ HZ { s1 with heap := h₁, toks := s1.toks + ([(x, Value.int di tkd)] : List (Str × Value)).length } :=
      lamd_start I L I1.env0 hr.hd un hns kp
    refine PySem.W.kla_codeExpr (wpAny_mono ((hbody _ _ s1 HZ (hr.deeper _)).run [] _ _ HZ Q J htb) (fun v s' hq => ?_) fun e s' hq => hq)
    obtain ⟨w', H', J', rv, q⟩ := hq
    exact ⟨w', H', J'.os, J'.bare, J'.base, J'.hok, rv, q⟩
  have hx : Passes (L2.CX X.prog X.w) ((cxOf CXg X.prog X.w X.K X.mg X.base Ng qg sg g cdg X.A X.stack s H Eg).tr pn xe) E := passes_call tk hW
  refine wpAny_call (codeAny_mono rc fun r s' hq => ?_)
  cases r with
  | error e => exact hx pinsZ σZ HZ s1 e s' I1 hq
  | ok fl =>
    cases fl with
    | ret u => exact I1.after hq
    | next => exact False.elim hq
    | brk => exact False.elim hq
    | cont => exact False.elim hq
end
section
variable {X : Cx}
/-- g(lambda x=d: body) -/
theorem pe_lamcallD {T : List (Addr × Str)} {TT : (XK → Hp → VK → Prop) → Hp → VK → Prop} {x a y : Str} {di : Int} {dj : Nat} {dp : Pos} {g c P : Addr} {k : Nat} {pg : Arguments} {bg : List Stmt} {sg : Scope} {dV kV doc pm cdv ct oc : Value} {an od : Option Addr} {osl : Array (Option Value)} {Ng : List Str}
    {params : Arguments} {body : Expr} {scope : Scope} {t : XK → TE} {p lpos pos : Pos} (hg : Gl X x) (hm : X.mg x = some (.ref g)) (hk : PySem.W.keepIn X.K (.ref g) = true)
    (lk : X.K.lookup g = some ⟨oc, od, .func (PySem.W.fnOf x x pg bg sg dV kV doc pm an cdv ct), osl⟩) (hcg : PySem.W.codeIn X.K cdv x = true) (hb : L2.Binds X.K (PySem.W.fnOf x x pg bg sg dV kV doc pm an cdv ct) [a] []) (Sg : FnScope Ng [a] sg) (hNg : Ng[0]? = some a) (hva : Vis sg a)
    (hG : GivesTo X Ng x sg g cdv bg a (lq X) TT)
    (TB : TabB X.base X.mg c P) (hcode : X.env.code = .ref c) (hmT : (P, lq X) ∈ T) (hu : ∀ p ∈ T, p.1 = P → p.2 = lq X) (hr : Room (k + 2) X.A) (L : LamP X.N X.env.scope scope y)
    (hdef : params.defaults = [.Constant (.int di) dj dp]) (hk0 : params.kw_defaults = []) (hbind : BindsD params body scope y di)
    (hbody : ∀ (A : Around) (outer : List Env) (s : Shared) (H : Hp) (E : XK) (f c' : Addr), Room k (A.deeper (lamEnv X scope s.heap.objs.size f c')) → PE (lamCx X A outer s H E scope f c') body (t E))
    (hdb : (x == ("__debug__" : Str)) = false := by decide) (hd : (a == ("__debug__" : Str)) = false := by decide) (hcd : (a == ("__classdict__" : Str)) = false := by decide) :
    PE X (.Call (.Name x p) [.Lambda params body scope lpos] [] pos) (tLam T TT t) := by
  refine ⟨fun pins s σ H Q I h => ?_⟩
  obtain ⟨hT, h⟩ := h
  refine wpAny_Call_Name_kw (ld_glob I hg hm ?_ hdb)
  refine PySem.W.callWith_K (h₀ := X.base) I.ok.mod.kin hk ?_ (by rfl) (by rfl)
  show wpAny _ _ (spliced ((false, eval (.Lambda params body scope lpos) X.env) :: backTo pos (starEach [] X.env))) _ _ s
  refine Calls.spliced_cons (lamd_made I TB hcode hmT hu hT (L.has I.ok) hdef hk0 fun f c' T0 tk0 doc' pm' ctv H1 s' I1 eN T1 hf hfn hfr ht htn htr hco => ?_)
  refine Calls.spliced_nil ⟨I1.kIn, ?_⟩
  have rc : codeAny (model X.prog X.w) X.A (.call (.ref g) ⟨[.ref f], []⟩) (CR C8.CX0 X.stack X.prog X.w H1 s' Q C8.E0) s' := by
    refine run_ofS (N := Ng) (ps := [a]) (us := [.ref f]) (vs := [.ref f]) lk hcg Sg hr I1.env0 (hb s' [.ref f] I1.kIn rfl) (.cons rfl .nil) rfl fun hr' => ?_
    obtain ⟨t', ht', hq'⟩ := hG f c' s' H1 Q (fun E H' Q' => t E σ H' Q') (fun W pn xe E p1 p2 tk hW => pe_actD (i := 0) I1 L hf hfn hfr ht htn htr hbind tk hW hr' (fun A outer s H hr2 => hbody A outer s H E f c' hr2) hNg hva hd hcd) hco (h H1 eN T1)
    exact ⟨t', ht'.nox, hq'⟩
  refine wpAny_call (codeAny_mono rc fun r s2 hq => ?_)
  cases r with
  | error e => exact (show False from hq).elim
  | ok fl =>
    cases fl with
    | ret u => exact I1.after hq
    | next => exact False.elim hq
    | brk => exact False.elim hq
    | cont => exact False.elim hq
end
end LamD
set_option Elab.async false
set_option linter.all false
set_option maxRecDepth 100000
set_option maxHeartbeats 4000000
namespace RU
open PySem L2 L2H DQ K01 EnT LamX TrA
open XH hiding same_refl same_trans same_new
/-! _law_told: a def that calls what it got, and tells how that ended -/
def PlOk (d : PyData) : Prop := d.showable = true ∧ d.depth ≤ 60 ∧ d.shown.length ≤ sizeLine ∧ PyData.strOk d.shown = true
def toldE (CB CN : Addr) (Q : VK) : XK := fun cls d H' => ∃ (dd : Addr) (v : V) (pl : PyData), d = some dd ∧ Dq H' v pl ∧ Sys H' ∧ PlOk pl ∧
  ((cls = .ref CB ∧ H' dd = some (.xd [("place", v)]) ∧ ∀ p H'', Same H' H'' → H'' p = some (.tup [.str "rules", .str pl.shown]) → Q (.ref p) H'') ∨
   (cls = .ref CN ∧ H' dd = some (.xd [("value", v)]) ∧ ∀ p H'', Same H' H'' → H'' p = some (.tup [.str "number", .str pl.shown]) → Q (.ref p) H''))
/-- what a told call's value is asked to be -/
def toldV (K : PySem.W.Frag) (C : Addr) (Q : VK) : VK := fun v H' => ∃ (b : Addr) (es ss : List PyData), v = .ref b ∧ RulesAt K H' b C es ss ∧
  ∀ (p pe ps : Addr) (xs ys : List V) (H'' : Hp), Same H' H'' → H'' p = some (.tup [.ref pe, .ref ps]) → SqT K H'' pe xs → DqAll H'' xs es → SqT K H'' ps ys → DqAll H'' ys ss → Q (.ref p) H''
def TTr (K : PySem.W.Frag) (C CB CN : Addr) : (XK → Hp → VK → Prop) → Hp → VK → Prop := fun tl H Q => ∀ Q' : VK, (∀ v H', toldV K C Q v H' → Q' v H') → tl (toldE CB CN Q) H Q'
/-- what the two error classes say of one another -/
structure TwoX (K : PySem.W.Frag) (CB CN : Addr) : Prop where
  bb : PySem.W.exmOne K (.ref CB) (.ref CB) = some true
  nb : PySem.W.exmOne K (.ref CN) (.ref CB) = some false
  nn : PySem.W.exmOne K (.ref CN) (.ref CN) = some true
theorem takes_len {X : Cx} {W : WX} (t : Takes X W) : Takes X (fun cls d σ H => σ.length = X.N.length → W cls d σ H) := fun u s' ⟨a, B, sI, pins, σ, H, cls, d, e, I, nb, up, sky, na, os, ag, w⟩ => t u s' ⟨a, B, sI, pins, σ, H, cls, d, e, I, nb, up, sky, na, os, ag, w I.len⟩
abbrev nTold : List Str := ["call", "one", "e"]
theorem scTold : FnScope nTold ["call"] (defScope sTold) := ⟨rfl, rfl, rfl, by decide +kernel, rfl, by decide +kernel, by decide +kernel⟩
theorem told_gives {X : Cx} {g C CB CN : Addr} {cdg : Value} {q : Str} (hg : X.A.guards = some []) (hu : X.A.units + 200 < cLine) (mB : X.mg "BadRules" = some (.ref CB)) (mN : X.mg "BadNumber" = some (.ref CN)) (mr : X.mg "repr" = none)
    (rB : ExR X.K CB "place") (rN : ExR X.K CN "value") (two : TwoX X.K CB CN) (cl : Cls X.K C) (n1 : NoAttr X.K C "ends") (n2 : NoAttr X.K C "steps") :
    GivesTo X nTold "_law_told" (defScope sTold) g cdg (defBody sTold) "call" q (TTr X.K C CB CN) := by
  intro f c' s H Q tl act hco h
  have gB : Gl (cxOf C8.CX0 X.prog X.w X.K X.mg X.base nTold "_law_told" (defScope sTold) g cdg X.A X.stack s H C8.E0).nox "BadRules" := rfl
  have gN : Gl (cxOf C8.CX0 X.prog X.w X.K X.mg X.base nTold "_law_told" (defScope sTold) g cdg X.A X.stack s H C8.E0).nox "BadNumber" := rfl
  have hg' : ∀ a pn, ((cxOf C8.CX0 X.prog X.w X.K X.mg X.base nTold "_law_told" (defScope sTold) g cdg X.A X.stack s H C8.E0).nox.suite a pn).A.guards = some [] := fun a pn => hg
  have hu' : ∀ a pn, ((cxOf C8.CX0 X.prog X.w X.K X.mg X.base nTold "_law_told" (defScope sTold) g cdg X.A X.stack s H C8.E0).nox.suite a pn).A.units + 100 < cLine := fun a pn => by
    show X.A.units + 3 + 100 < cLine
    omega
  refine ⟨_, pss_cons (ps_tries (X := (cxOf C8.CX0 X.prog X.w X.K X.mg X.base nTold "_law_told" (defScope sTold) g cdg X.A X.stack s H C8.E0).nox) (n := "e") (i := 2)
      (tb := fun W D σ H => ∃ Ech : XK, (∀ cls d σ' H', Ech cls d H' → σ'.length = 3 → W cls d σ' H') ∧ tAsg (fun σZ HZ Q => σZ[0]? = some (some (.ref f)) ∧ HZ c' = some (CodeO c' q) ∧ tl Ech HZ Q) (gName 1) D σ H)
      rfl rfl scTold.nd rfl rfl LamX.takes0 (fun W pn xe tk _ => ⟨fun pins s' σ H' D I h' => ?_⟩)
      (.cons ⟨gB, by decide, .inl mB⟩ (fun a oe cls d pn hz hf => pss_one (ps_ret (pe_tup (pa_cons pe_str (pa_cons (pe_callB (call_reprX (hg' _ _) (hu' _ _)) (by rfl) mr brepr (pa_cons (pe_byX rB hz hf (pv 2)) pa_nil)) pa_nil)))))
      (.cons ⟨gN, by decide, .inl mN⟩ (fun a oe cls d pn hz hf => pss_one (ps_ret (pe_tup (pa_cons pe_str (pa_cons (pe_callB (call_reprX (hg' _ _) (hu' _ _)) (by rfl) mr brepr (pa_cons (pe_byX rN hz hf (pv 2)) pa_nil)) pa_nil))))) .nil)))
    (pss_one (ps_ret (pe_tup (pa_cons (pe_fld (pv 1) rfl) (pa_cons (pe_fld (pv 1) rfl) pa_nil))))), ?_⟩
  · obtain ⟨Ech, hW, h1⟩ := h'
    exact (pss_one (ps_set (i := 1) scTold.nd rfl (Or.inl rfl) (act _ pn xe Ech _ _ (takes_len tk) hW))).run pins s' σ H' D I h1
  · refine ⟨toldE CB CN Q, fun cls d σ' H' hE l3 => ?_, rfl, hco, ?_⟩
    · obtain ⟨dd, v, pl, rfl, hv, sy, ok, hE⟩ := hE
      rcases hE with ⟨rfl, hd, k⟩ | ⟨rfl, hd, k⟩
      · refine ⟨true, two.bb, fun _ a na => ?_, fun z => nomatch z⟩
        have e2 : (σ'.set 2 (some (.ref a)))[2]? = some (some (.ref a)) := List.getElem?_set_self (by omega)
        refine ⟨_, e2, rfl, rfl, dd, v, rfl, hd, v, pl, rfl, sy, hv, ok.1, ok.2.1, ok.2.2.1, by show 2 ≤ sizeLine; decide, fun p np => ?_⟩
        exact k p _ (same_new np) upd_same
      · refine ⟨false, two.nb, fun z => (nomatch z), fun _ => ⟨true, two.nn, fun _ a na => ?_, fun z => nomatch z⟩⟩
        have e2 : (σ'.set 2 (some (.ref a)))[2]? = some (some (.ref a)) := List.getElem?_set_self (by omega)
        refine ⟨_, e2, rfl, rfl, dd, v, rfl, hd, v, pl, rfl, sy, hv, ok.1, ok.2.1, ok.2.2.1, by show 2 ≤ sizeLine; decide, fun p np => ?_⟩
        exact k p _ (same_new np) upd_same
    · refine h _ fun v H' hv => ?_
      obtain ⟨b, es, ss, rfl, ⟨dx, pe, ps, xs, ys, o1, o2, o3, o4, o5⟩, k⟩ := hv
      refine ⟨_, rfl, b, C, dx, _, .ref pe, rfl, o1, cl, n1, lk_e _ _, _, rfl, b, C, dx, _, .ref ps, rfl, o1, cl, n2, lk_s _ _, by show 2 ≤ sizeLine; decide, fun p np => ?_⟩
      have s1 := same_new (o := .tup [.ref pe, .ref ps]) np
      exact k p pe ps xs ys _ s1 upd_same (sqT_same o2 s1) (o3.same s1) (sqT_same o4 s1) (o5.same s1)
end RU
set_option Elab.async false
set_option linter.all false
set_option maxRecDepth 100000
set_option maxHeartbeats 4000000
/-! A def of any number of arguments, called where it is known that no repr is under way; its code object is told. -/
namespace L2H
open PySem PySem.Spec PyProof.Rows L2
def FnGs (P : Program) (w : World) (K : PySem.W.Frag) (mg : Str → Option Value) (base : Heap) (k : Nat) (f : Addr) (fd : FuncData) (ps : List Str) (sp : Sp) : Prop :=
  ∀ (A : Around) (outer : List Env) (s : Shared) (H : Hp) (us : List Value) (vs : List V) (Q : VK) (E : XK), Room k A → A.guards = some [] → Env0 P w K mg base A outer s H → BindsTo s fd ⟨us, []⟩ (ps.zip us) → Vals vs us → vs.length = ps.length → sp vs H Q E →
    codeAny (model P w) A (.call (.ref f) ⟨us, []⟩) (CR CX0 outer P w H s Q E) s
section
variable {P : Program} {w : World} {K : PySem.W.Frag} {mg : Str → Option Value} {base : Heap} {ps : List Str} {name : Str} {st : Stmt} {f : Addr} {fd : FuncData} {N : List Str} {k : Nat} {sp : Sp}
theorem fnGs_of (F : Fun K name name st f fd) (S : FnScope N ps (defScope st))
    (body : ∀ (A : Around) (outer : List Env) (s : Shared) (H : Hp) (vs : List V) (Q : VK) (E : XK), Room k (A.deeper (envOfC name (defScope st) s.heap.objs.size f fd.code)) → A.guards = some [] → sp vs H Q E →
      ∃ t, PSs (cxOf CX0 P w K mg base N name (defScope st) f fd.code A outer s H E).nox (defBody st) t ∧ t { nx := fun _ H' => Q .non H', rt := Q } (start N vs) H) :
    FnGs P w K mg base (k + 1) f fd ps sp := by
  obtain ⟨oc, od, kV, doc, pm, an, cdv, ct, osl, rfl, lk, hcd⟩ := F.ex
  intro A outer s H us vs Q E hr hg e0 hb ru hl hsp
  have KX : K.In s.heap := e0.mod.kin.keeps fun b o z => (e0.bs b o z).1
  have kinds : ∀ y ∈ ps.zip us, (defScope st).names.lookup y.1 = some .local ∨ ((defScope st).names.lookup y.1 = some .cell ∧ ((cellsFrom (s.heap.objs.size + 1) (defScope st).names []).lookup y.1).isSome = true) := fun y hy =>
    (S.par y.1 (List.of_mem_zip (a := y.1) (b := y.2) hy).1).elim .inl fun q => .inr ⟨q, PySem.W.cellsFrom_some _ _ _ (.inl q)⟩
  refine codeAny_call_function hr.depth (KX _ _ lk) rfl S.co S.gen rfl (PySem.W.codeRec_of KX hcd) (hb _ _ _ _ (wpAny_newFunctionEnv_cells S.kind kinds fun env he s1 y => ?_))
  subst he
  refine ⟨(e0.mod.nolimit.keeps fun b o z => (e0.bs b o z).1).keeps y.toInCall.keep, codeAny_func ?_⟩
  obtain ⟨t, ht, hq⟩ := body A outer s H vs Q E (hr.deeper _) hg hsp
  have I : Inv (cxOf CX0 P w K mg base N name (defScope st) f cdv A outer s H E) [] (start N vs) H s1 := inv_start S hr.hd e0 hl ru y
  refine wpAny_mono (ht.nox.run [] s1 (start N vs) H _ I hq) (fun fl s' hs => ?_) fun _ _ z => z
  cases fl with
  | next =>
    obtain ⟨σ', H', J, q⟩ := hs
    exact ⟨V.non, H', J.os, J.bare, J.base, J.hok, rfl, q⟩
  | ret u' =>
    obtain ⟨v', σ', H', J, rv, q⟩ := hs
    exact ⟨v', H', J.os, J.bare, J.base, J.hok, rv, q⟩
  | brk =>
    obtain ⟨_, _, _, q⟩ := hs
    exact q.elim
  | cont =>
    obtain ⟨_, _, _, q⟩ := hs
    exact q.elim
end
section
variable {X : Cx} {k : Nat} {f : Addr} {fd : FuncData} {sp : Sp} {x : Str} {ps : List Str} {p pos : Pos} {e : Expr} {es : List Expr} {t : TA}
theorem pe_callGs (F : FnGs X.prog X.w X.K X.mg X.base k f fd ps sp) (hr : Room k X.A) (gd : X.A.guards = some []) (hg : Gl X x) (hm : X.mg x = some (.ref f)) (hk : PySem.W.keepIn X.K (.ref f) = true) (hb : Binds X.K fd ps [])
    (hx : Passes CX0 X fun _ _ _ => False) (ha : PA X (e :: es) t) (hdb : (x == ("__debug__" : Str)) = false := by decide) (he : starEach (e :: es) X.env = (false, eval e X.env) :: starEach es X.env := by rfl) (hpl : (backTo pos (starEach es X.env)).any (·.1) = false := by rfl) :
    PE X (.Call (.Name x p) (e :: es) [] pos) (fun σ H Q => t σ H fun vs H1 => vs.length = ps.length ∧ sp vs H1 Q fun _ _ _ => False) := by
  refine ⟨fun pins s σ H Q I h => ?_⟩
  refine wpAny_Call_Name_kw (ld_glob I hg hm ?_ hdb)
  refine PySem.W.callWith_K (h₀ := X.base) I.ok.mod.kin hk (thn (ha.run pos pins s σ H _ I h) fun us s1 ⟨vs, H1, I1, r, hl, q⟩ => ⟨I1.kIn, ?_⟩) he hpl
  have ul : us.length = ps.length := (Vals.length r).symm.trans hl
  have bt := hb s1 us I1.kIn (by simpa using ul)
  refine wpAny_call (codeAny_mono (F X.A X.stack s1 H1 us vs Q (fun _ _ _ => False) hr gd I1.env0 (by simpa using bt) r hl q) fun r s' hq => ?_)
  cases r with
  | error e => exact hx pins σ H1 s1 e s' I1 hq
  | ok fl =>
    cases fl with
    | ret u => exact I1.after hq
    | next => exact False.elim hq
    | brk => exact False.elim hq
    | cont => exact False.elim hq
end
end L2H
set_option Elab.async false
set_option linter.all false
set_option maxRecDepth 100000
set_option maxHeartbeats 4000000
namespace RU
open PySem L2 L2H DQ K01 EnT
open XH hiding same_refl same_trans same_new
/-! _law_due -/
def plB (d : PyData) : Bool := d.showable && decide (d.depth ≤ 60) && decide (d.shown.length ≤ sizeLine) && PyData.strOk d.shown
theorem pl_ok {d : PyData} (h : plB d = true) : PlOk d := by
  unfold plB at h
  simp only [Bool.and_eq_true, decide_eq_true_eq] at h
  exact ⟨h.1.1.1, h.1.1.2, h.1.2, h.2⟩
theorem pl_end {i : Nat} (h : i ≤ 3) : PlOk (.tuple [.str "end", .int (i : Int)]) := by
  obtain rfl | rfl | rfl | rfl : i = 0 ∨ i = 1 ∨ i = 2 ∨ i = 3 := by omega
  · exact pl_ok (by decide +kernel)
  · exact pl_ok (by decide +kernel)
  · exact pl_ok (by decide +kernel)
  · exact pl_ok (by decide +kernel)
theorem pl_step {i : Nat} (h : i ≤ 3) : PlOk (.tuple [.str "step", .int (i : Int)]) := by
  obtain rfl | rfl | rfl | rfl : i = 0 ∨ i = 1 ∨ i = 2 ∨ i = 3 := by omega
  · exact pl_ok (by decide +kernel)
  · exact pl_ok (by decide +kernel)
  · exact pl_ok (by decide +kernel)
  · exact pl_ok (by decide +kernel)
theorem pl_none : PlOk .none := pl_ok (by decide +kernel)
theorem none_shown : PyData.shown .none = "None" := rfl
/-- the value at p tells how rules are refused -/
def SaysNo (k : Str) (Q : VK) (H : Hp) (pl : PyData) : Prop := ∀ p H', Same H H' → H' p = some (.tup [.str k, .str pl.shown]) → Q (.ref p) H'
def SaysYes (K : PySem.W.Frag) (Q : VK) (H : Hp) (es ss : List PyData) : Prop :=
  ∀ (p pe ps : Addr) (xs ys : List V) (H' : Hp), Same H H' → H' p = some (.tup [.ref pe, .ref ps]) → SqT K H' pe xs → DqAll H' xs es → SqT K H' ps ys → DqAll H' ys ss → Q (.ref p) H'
def spDue (K : PySem.W.Frag) : Sp := fun vs H Q _ => ∃ (v v' : V) (de ds : PyData), vs = [v, v'] ∧ Dq H v de ∧ Dq H v' ds ∧ Sys H ∧ (∀ pl, dueR de ds = .inl pl → SaysNo "rules" Q H pl) ∧ (∀ es ss, dueR de ds = .inr (es, ss) → SaysYes K Q H es ss)
theorem tcons_of {t : TE} {u : TA} {σ : L2.St} {H : Hp} {Q : List V → Hp → Prop} (h : t σ H fun v H1 => u σ H1 fun vs H2 => Q (v :: vs) H2) : tCons t u σ H Q := h
structure TD (mg : Str → Option Value) : Prop where
  tr : TR mg
  repr : mg "repr" = none
abbrev nDue : List Str := ["ends", "steps", "at", "one"]
theorem scDue : FnScope nDue ["ends", "steps"] (defScope sDue) := ⟨rfl, rfl, rfl, by decide +kernel, rfl, by decide +kernel, by decide +kernel⟩
section
variable {P : Program} {w : World} {K : PySem.W.Frag} {mg : Str → Option Value} {base : Heap}
theorem ok_due {f fT fB : Addr} {fd dT dB : FuncData} (F : Fun K "_law_due" "_law_due" sDue f fd)
    (FT : Fun K "is_tree" "is_tree" sTr fT dT) (bT : Binds K dT ["thing"] []) (gT : mg "is_tree" = some (.ref fT)) (GT : FnOk P w K mg base CX0 11 fT dT ["thing"] (spB (shape 0)))
    (FB : Fun K "is_body" "is_body" sBo fB dB) (bB : Binds K dB ["thing"] []) (gB : mg "is_body" = some (.ref fB)) (GB : FnOk P w K mg base CX0 11 fB dB ["thing"] (spB (shape 1)))
    (T : TD mg) : FnGs P w K mg base 12 f fd ["ends", "steps"] (spDue K) := by
  refine fnGs_of (k := 11) F scDue (fun A outer s H vs Q E hr hg h => ?_)
  obtain ⟨v, v', de, ds, rfl, he, hs, sy, hno, hyes⟩ := h
  have hu : (A.deeper (PyProof.Rows.envOfC "_law_due" (defScope sDue) s.heap.objs.size f fd.code)).units + 100 < cLine := by have := hr.un; omega
  have hg' : (A.deeper (PyProof.Rows.envOfC "_law_due" (defScope sDue) s.heap.objs.size f fd.code)).guards = some [] := hg
  refine ⟨_, pss_cons (ps_if (PW.pt (pw_or (pt_not (pt_val (pe_callB call_isiT (by rfl) T.tr.isi bisi (pa_cons (pv 0) (pa_cons (pe_tup (pa_cons (pe_bltn (v := .ty "list") (by rfl) T.tr.list blist rfl) (pa_cons (pe_bltn (v := .ty "tuple") (by rfl) T.tr.tuple btup rfl) pa_nil))) pa_nil)))))
        (pw_or1 (pt_not (pt_chain op_le op_le pe_int (pe_callB call_len_seq (by rfl) T.tr.len PySem.boot_len (pa_cons (pv 0) pa_nil)) pe_int)))))
      (pss_one (ps_ret (pe_tup (pa_cons pe_str (pa_cons pe_str pa_nil))))) pss_nil)
    (pss_cons (ps_if (PW.pt (pw_or (pt_not (pt_val (pe_callB call_isiT (by rfl) T.tr.isi bisi (pa_cons (pv 1) (pa_cons (pe_tup (pa_cons (pe_bltn (v := .ty "list") (by rfl) T.tr.list blist rfl) (pa_cons (pe_bltn (v := .ty "tuple") (by rfl) T.tr.tuple btup rfl) pa_nil))) pa_nil)))))
        (pw_or1 (pt_cmpR op_gt (pe_callB call_len_seq (by rfl) T.tr.len PySem.boot_len (pa_cons (pv 1) pa_nil)) pe_int (by rfl)))))
      (pss_one (ps_ret (pe_tup (pa_cons pe_str (pa_cons pe_str pa_nil))))) pss_nil)
    (pss_cons (ps_for PassesOwn.never rfl (pi_enumA (by rfl) T.tr.enum (pa_cons (pv 0) pa_nil)) (pg_tup (n := 2) rfl (pgs_cons (pg_name (i := 2) scDue.nd rfl (Or.inl rfl)) (pgs_cons (pg_name (i := 3) scDue.nd rfl (Or.inl rfl)) pgs_nil)))
      (pss_one (ps_if (pt_not (pt_val (pe_call GT hr (by rfl) gT FT.kp bT .nil pass0 (pa_cons (pv 3) pa_nil))))
        (pss_one (ps_ret (pe_tup (pa_cons pe_str (pa_cons (pe_callB (call_reprX hg' hu) (by rfl) T.repr brepr (pa_cons (pe_tup (pa_cons pe_str (pa_cons (pv 2) pa_nil))) pa_nil)) pa_nil))))) pss_nil)))
    (pss_cons (ps_for PassesOwn.never rfl (pi_enumA (by rfl) T.tr.enum (pa_cons (pv 1) pa_nil)) (pg_tup (n := 2) rfl (pgs_cons (pg_name (i := 2) scDue.nd rfl (Or.inl rfl)) (pgs_cons (pg_name (i := 3) scDue.nd rfl (Or.inl rfl)) pgs_nil)))
      (pss_one (ps_if (pt_not (pt_val (pe_call GB hr (by rfl) gB FB.kp bB .nil pass0 (pa_cons (pv 3) pa_nil))))
        (pss_one (ps_ret (pe_tup (pa_cons pe_str (pa_cons (pe_callB (call_reprX hg' hu) (by rfl) T.repr brepr (pa_cons (pe_tup (pa_cons pe_str (pa_cons (pv 2) pa_nil))) pa_nil)) pa_nil))))) pss_nil)))
    (pss_one (ps_ret (pe_tup (pa_cons (pe_callTy call_tuple_of (by rfl) T.tr.tuple btup (pa_cons (pv 0) pa_nil)) (pa_cons (pe_callTy call_tuple_of (by rfl) T.tr.tuple btup (pa_cons (pv 1) pa_nil)) pa_nil)))))))), ?_⟩
  have two : ∀ {H1 : Hp} {pl : PyData} {k : Str}, Same H H1 → dueR de ds = .inl pl → k = "rules" → ∀ p, H1 p = none → Q (.ref p) (upd H1 p (.tup [.str k, .str pl.shown])) := fun {H1 pl k} s1 hd ek p np => by
    subst ek
    exact hno pl hd p _ (same_trans s1 (same_new np)) upd_same
  have row : ∀ (d : PyData) (lo hi : Int), isRow d lo hi = (isSeq d && (decide (lo ≤ ((itemsD d).length : Int)) && decide (((itemsD d).length : Int) ≤ hi))) := fun _ _ _ => rfl
  refine ⟨_, rfl, by show 2 ≤ sizeLine; decide, fun p0 n0 => ?_⟩
  have s0 := same_new (o := .tup [.ty "list", .ty "tuple"]) n0
  refine ⟨v, p0, _, _, [.type "list", .type "tuple"], isSeq de, rfl, upd_same, .cons (.ty _) (.cons (.ty _) .nil), (he.same s0).ty, kit_seq de, _, rfl, ?_⟩
  cases q1 : isSeq de with
  | false => exact iteT (iteT ⟨by show 2 ≤ sizeLine; decide, two (pl := .none) s0 (by unfold dueR; rw [row, q1]; rfl) rfl⟩)
  | true =>
  obtain ⟨pe, xs, rfl, hqe, ae⟩ := (Rw.seq (K := K) (.inl he) q1)
  have le : xs.length = (itemsD de).length := ae.len
  refine iteF ⟨_, rfl, pe, xs, rfl, hqe.elim (fun h => .inl (s0.seq h)) (fun h => .inr (sqt_same h s0)), _, _, rfl, rfl, _, rfl, ?_⟩
  have r1 : isRow de 1 3 = (decide ((1 : Int) ≤ (xs.length : Int)) && decide ((xs.length : Int) ≤ 3)) := by
    rw [row, q1, Bool.true_and, le]
  have bad1 : isRow de 1 3 = false → dueR de ds = .inl .none := fun z => by
    unfold dueR
    rw [z]
    rfl
  cases q2 : decide ((1 : Int) ≤ (xs.length : Int)) with
  | false => exact iteF ⟨_, rfl, iteT ⟨by show 2 ≤ sizeLine; decide, two (pl := .none) s0 (bad1 (by rw [r1, q2]; rfl)) rfl⟩⟩
  | true =>
  refine iteT ⟨_, _, rfl, rfl, _, rfl, ?_⟩
  cases q3 : decide ((xs.length : Int) ≤ 3) with
  | false => exact iteT ⟨by show 2 ≤ sizeLine; decide, two (pl := .none) s0 (bad1 (by rw [r1, q2, q3]; rfl)) rfl⟩
  | true =>
  rw [q2, q3, Bool.and_self] at r1
  have n1 := of_decide_eq_true q2
  have n3 := of_decide_eq_true q3
  refine iteF ?_
  refine ⟨_, rfl, by show 2 ≤ sizeLine; decide, fun p1 m0 => ?_⟩
  have s1 := same_trans s0 (same_new (o := .tup [.ty "list", .ty "tuple"]) m0)
  refine ⟨v', p1, _, _, [.type "list", .type "tuple"], isSeq ds, rfl, upd_same, .cons (.ty _) (.cons (.ty _) .nil), (hs.same s1).ty, kit_seq ds, _, rfl, ?_⟩
  have bad2 : isRow ds 0 3 = false → dueR de ds = .inl .none := fun z => by
    unfold dueR
    rw [z, Bool.and_false]
    rfl
  cases q4 : isSeq ds with
  | false => exact iteT (iteT ⟨by show 2 ≤ sizeLine; decide, two (pl := .none) s1 (bad2 (by rw [row, q4]; rfl)) rfl⟩)
  | true =>
  obtain ⟨ps, ys, rfl, hqs, as⟩ := (Rw.seq (K := K) (.inl hs) q4)
  have ls : ys.length = (itemsD ds).length := as.len
  have r2 : isRow ds 0 3 = decide ((ys.length : Int) ≤ 3) := by
    rw [row, q4, Bool.true_and, ls, decide_eq_true (Int.natCast_nonneg _), Bool.true_and]
  refine iteF ⟨_, rfl, ps, ys, rfl, hqs.elim (fun h => .inl (s1.seq h)) (fun h => .inr (sqt_same h s1)), _, _, rfl, rfl, _, rfl, ?_⟩
  cases q5 : decide ((ys.length : Int) ≤ 3) with
  | false =>
    have z5 := of_decide_eq_false q5
    rw [show decide ((3 : Int) < (ys.length : Int)) = true from decide_eq_true (by omega)]
    exact iteT ⟨by show 2 ≤ sizeLine; decide, two (pl := .none) s1 (bad2 (by rw [r2, q5])) rfl⟩
  | true =>
  have n5 := of_decide_eq_true q5
  rw [show decide ((3 : Int) < (ys.length : Int)) = false from decide_eq_false (by omega)]
  refine iteF ?_
  rw [q5] at r2
  have du : dueR de ds = match firstBad 0 (itemsD de) with
      | some i => .inl (.tuple [.str "end", .int (i : Int)])
      | none => match firstBad 1 (itemsD ds) with
        | some j => .inl (.tuple [.str "step", .int (j : Int)])
        | none => .inr (itemsD de, itemsD ds) := by
    unfold dueR
    rw [r1, r2]
    rfl
  refine nx_go ?_
  dsimp only
  unfold tSeq
  refine for_enum (fun Q q => ⟨_, rfl, q⟩) (hqe.elim (fun h => .inl (s1.seq h)) fun h => .inr (sqt_same h s1)) fun J G w hG => ?_
  refine for_it w (fun i σ' H' => ∃ w2 w3, σ' = [some (.ref pe), some (.ref ps), w2, w3] ∧ Same _ H' ∧ ∀ (k : Nat) (d : PyData), k < i → (itemsD de)[k]? = some d → shape 0 d = true) ⟨_, _, rfl, same_refl, fun k d hk => absurd hk (Nat.not_lt_zero _)⟩ (fun i σ' H' _ ⟨_, _, _, s, _⟩ => hG H' s) ?_ ?_
  · rintro i y σ' H3 H4 hi ⟨w2, w3, rfl, s3, hall⟩ ⟨Tt, u, z, rfl, nT, rfl, hu, hz⟩
    obtain rfl : u = V.int (i : Nat) := (Option.some.inj hu).symm
    obtain ⟨d, hd⟩ : ∃ d, (itemsD de)[i]? = some d := ⟨_, List.getElem?_eq_getElem (by omega)⟩
    obtain ⟨z', hz', qz⟩ := ae.at hd
    replace hz : xs[i]? = some z := hz
    rw [hz] at hz'
    obtain rfl : z = z' := Option.some.inj hz'
    have s4 := same_trans s3 (same_new (o := .tup [.int (i : Nat), z]) nT)
    refine ⟨Tt, _, rfl, SqT.of upd_same, rfl, _, _, rfl, _, _, rfl, rfl, ?_⟩
    refine ⟨_, rfl, z, d, rfl, qz.same (same_trans s1 s4), fun H5 s5 => ⟨_, rfl, ?_⟩⟩
    cases hb : shape 0 d with
    | false =>
      have ok := pl_end (i := i) (by omega)
      refine iteT ⟨_, rfl, by show 2 ≤ sizeLine; decide, fun p np => ?_⟩
      have s6 := same_trans s1 (same_trans s4 (same_trans s5 (same_new (o := .tup [.str "end", .int (i : Int)]) np)))
      refine ⟨.ref p, .tuple [.str "end", .int (i : Int)], rfl, sy.same s6, .tup upd_same (.cons (.str _ (by decide +kernel)) (.cons (.int _) .nil)), ok.1, ok.2.1, ok.2.2.1, by show 2 ≤ sizeLine; decide, ?_⟩
      exact two s6 (by rw [du, bad_at hall hd hb]) rfl
    | true =>
      refine iteF ⟨_, _, rfl, same_trans s4 s5, fun k e hk he' => ?_⟩
      by_cases hki : k = i
      · subst hki
        rw [hd] at he'
        cases he'
        exact hb
      · exact hall k e (by omega) he'
  rintro σ' H3 ⟨w2, w3, rfl, s3, hall⟩
  have g0 : firstBad 0 (itemsD de) = none := bad_none fun k e he' => hall k e (by rw [le]; exact (List.getElem?_eq_some_iff.mp he').1) he'
  rw [g0] at du
  dsimp only at du
  have s13 := same_trans s1 s3
  dsimp only
  refine for_enum (fun Q q => ⟨_, rfl, q⟩) (hqs.elim (fun h => .inl (s13.seq h)) fun h => .inr (sqt_same h s13)) fun J G w hG => ?_
  refine for_it w (fun i σ' H' => ∃ w2 w3, σ' = [some (.ref pe), some (.ref ps), w2, w3] ∧ Same H3 H' ∧ ∀ (k : Nat) (d : PyData), k < i → (itemsD ds)[k]? = some d → shape 1 d = true) ⟨_, _, rfl, same_refl, fun k d hk => absurd hk (Nat.not_lt_zero _)⟩ (fun i σ' H' _ ⟨_, _, _, s, _⟩ => hG H' s) ?_ ?_
  · rintro i y σ' H4 H5 hi ⟨w2, w3, rfl, s4, hall2⟩ ⟨Tt, u, z, rfl, nT, rfl, hu, hz⟩
    obtain rfl : u = V.int (i : Nat) := (Option.some.inj hu).symm
    obtain ⟨d, hd⟩ : ∃ d, (itemsD ds)[i]? = some d := ⟨_, List.getElem?_eq_getElem (by omega)⟩
    obtain ⟨z', hz', qz⟩ := as.at hd
    replace hz : ys[i]? = some z := hz
    rw [hz] at hz'
    obtain rfl : z = z' := Option.some.inj hz'
    have s5 := same_trans s4 (same_new (o := .tup [.int (i : Nat), z]) nT)
    refine ⟨Tt, _, rfl, SqT.of upd_same, rfl, _, _, rfl, _, _, rfl, rfl, ?_⟩
    refine ⟨_, rfl, z, d, rfl, qz.same (same_trans s13 s5), fun H6 s6 => ⟨_, rfl, ?_⟩⟩
    cases hb : shape 1 d with
    | false =>
      have ok := pl_step (i := i) (by omega)
      refine iteT ⟨_, rfl, by show 2 ≤ sizeLine; decide, fun p np => ?_⟩
      have s7 := same_trans s13 (same_trans s5 (same_trans s6 (same_new (o := .tup [.str "step", .int (i : Int)]) np)))
      refine ⟨.ref p, .tuple [.str "step", .int (i : Int)], rfl, sy.same s7, .tup upd_same (.cons (.str _ (by decide +kernel)) (.cons (.int _) .nil)), ok.1, ok.2.1, ok.2.2.1, by show 2 ≤ sizeLine; decide, ?_⟩
      exact two s7 (by rw [du, bad_at hall2 hd hb]) rfl
    | true =>
      refine iteF ⟨_, _, rfl, same_trans s5 s6, fun k e hk he' => ?_⟩
      by_cases hki : k = i
      · subst hki
        rw [hd] at he'
        cases he'
        exact hb
      · exact hall2 k e (by omega) he'
  rintro σ' H4 ⟨w2', w3', rfl, s4, hall2⟩
  have g1 : firstBad 1 (itemsD ds) = none := bad_none fun k e he' => hall2 k e (by rw [ls]; exact (List.getElem?_eq_some_iff.mp he').1) he'
  rw [g1] at du
  dsimp only at du
  have s14 := same_trans s13 s4
  dsimp only
  unfold tRet tTup
  refine tcons_of ?_
  refine tuple_te (fun Q' q => ⟨_, rfl, q⟩) (hqe.elim (fun h => .inl (s14.seq h)) fun h => .inr (sqt_same h s14)) fun q1 H5 s5 e5 => ?_
  have s15 := same_trans s14 s5
  refine tcons_of ?_
  refine tuple_te (fun Q' q => ⟨_, rfl, q⟩) (hqs.elim (fun h => .inl (s15.seq h)) fun h => .inr (sqt_same h s15)) fun q2 H6 s6 e6 => ?_
  have s16 := same_trans s15 s6
  refine ⟨by show 2 ≤ sizeLine; decide, fun p np => ?_⟩
  have s7 := same_new (o := .tup [.ref q1, .ref q2]) np
  exact hyes _ _ du p q1 q2 xs ys _ (same_trans s16 s7) upd_same (sqt_same (sqt_same e5 s6) s7) (ae.same (same_trans s16 s7)) (sqt_same e6 s7) (as.same (same_trans s16 s7))
end
end RU
set_option Elab.async false
set_option linter.all false
set_option maxRecDepth 100000
set_option maxHeartbeats 4000000
namespace RU
open PySem L2 L2H DQ K01 EnT LamX LamD
open XH hiding same_refl same_trans same_new
/-! data stays where only tables of code objects are written -/
mutual
theorem _root_.DQ.Dq.extN {H H' : Hp} (s : ExtN H H') : ∀ {v : V} {d : PyData}, Dq H v d → Dq H' v d
  | _, _, .non => .non
  | _, _, .bl b => .bl b
  | _, _, .int i => .int i
  | _, _, .str x hx => .str x hx
  | _, _, .lst e a => .lst (s _ _ e (fun _ z => by cases z)) (a.extN s)
  | _, _, .tup e a => .tup (s _ _ e (fun _ z => by cases z)) (a.extN s)
  | _, _, .dic e => .dic (s _ _ e (fun _ z => by cases z))
theorem _root_.DQ.DqAll.extN {H H' : Hp} (s : ExtN H H') : ∀ {vs : List V} {ds : List PyData}, DqAll H vs ds → DqAll H' vs ds
  | _, _, .nil => .nil
  | _, _, .cons a b => .cons (a.extN s) (b.extN s)
end
theorem sqT_extN {K : PySem.W.Frag} {H H' : Hp} {a : Addr} {xs : List V} (h : SqT K H a xs) (s : ExtN H H') : SqT K H' a xs := by
  rcases h with h | h
  · refine .inl ?_
    rcases h with h | ⟨o, h⟩
    · exact .inl (s _ _ h fun _ z => by cases z)
    · exact .inr ⟨o, s _ _ h fun _ z => by cases z⟩
  · exact .inr h
theorem RulesAt.extN {K : PySem.W.Frag} {H H' : Hp} {a C : Addr} {es ss : List PyData} (r : RulesAt K H a C es ss) (s : ExtN H H') : RulesAt K H' a C es ss := by
  obtain ⟨dx, pe, ps, xs, ys, h1, h2, h3, h4, h5⟩ := r
  exact ⟨dx, pe, ps, xs, ys, s _ _ h1 (fun _ z => by cases z), sqT_extN h2 s, h3.extN s, sqT_extN h4 s, h5.extN s⟩
theorem sys_extN {H H' : Hp} (x : Sys H) (s : ExtN H H') : Sys H' := let ⟨o, u, e⟩ := x; ⟨o, u, s _ _ e fun _ z => by cases z⟩
theorem extN_same {H H' : Hp} (s : Same H H') : ExtN H H' := fun b o e _ => s _ _ e
/-- what is told of a due -/
def Tells (K : PySem.W.Frag) (Q : VK) (H : Hp) (due : (PyData ⊕ PyData) ⊕ (List PyData × List PyData)) : Prop :=
  match due with
  | .inl (.inl pl) => PlOk pl ∧ SaysNo "rules" Q H pl
  | .inl (.inr n) => PlOk n ∧ SaysNo "number" Q H n
  | .inr (es, ss) => SaysYes K Q H es ss
theorem SaysNo.same {k : Str} {Q : VK} {H H' : Hp} {pl : PyData} (h : SaysNo k Q H pl) (s : Same H H') : SaysNo k Q H' pl := fun p H'' s' e => h p H'' (same_trans s s') e
theorem SaysYes.same {K : PySem.W.Frag} {Q : VK} {H H' : Hp} {es ss : List PyData} (h : SaysYes K Q H es ss) (s : Same H H') : SaysYes K Q H' es ss := fun p pe ps xs ys H'' s' => h p pe ps xs ys H'' (same_trans s s')
/-- a method's call in a told lambda -/
theorem gives_told {K : PySem.W.Frag} {C CB CN : Addr} {H : Hp} {Q Q' : VK} {due : (PyData ⊕ PyData) ⊕ (List PyData × List PyData)} (sy : Sys H) (hQ : ∀ v H', toldV K C Q v H' → Q' v H') (h : Tells K Q H due) : Gives2 K C CB CN H Q' (toldE CB CN Q) due := by
  rcases due with (pl | n) | ⟨es, ss⟩
  · obtain ⟨ok, no⟩ := h
    exact fun d v H' s e q => ⟨d, v, pl, rfl, q, sy.same s, ok, .inl ⟨rfl, e, no.same s⟩⟩
  · obtain ⟨ok, no⟩ := h
    exact fun d v H' s e q => ⟨d, v, n, rfl, q, sy.same s, ok, .inr ⟨rfl, e, no.same s⟩⟩
  · exact fun b H' s nb r => hQ _ _ ⟨b, es, ss, rfl, r, h.same s⟩
section
variable {X : Cx}
/-- _law_told(lambda: e) -/
theorem pe_told {T : List (Addr × Str)} {g C CB CN c P : Addr} {fd : FuncData} {k : Nat} {params : Arguments} {body : Expr} {scope : Scope} {t : XK → TE} {p lpos pos : Pos} (F : Fun X.K "_law_told" "_law_told" sTold g fd) (b : Binds X.K fd ["call"] []) (gl : Gl X "_law_told") (mg : X.mg "_law_told" = some (.ref g))
    (hg : X.A.guards = some []) (mB : X.mg "BadRules" = some (.ref CB)) (mN : X.mg "BadNumber" = some (.ref CN)) (mr : X.mg "repr" = none)
    (rB : ExR X.K CB "place") (rN : ExR X.K CN "value") (two : TwoX X.K CB CN) (cl : Cls X.K C) (n1 : NoAttr X.K C "ends") (n2 : NoAttr X.K C "steps")
    (TB : TabB X.base X.mg c P) (hcode : X.env.code = .ref c) (hmT : (P, lq X) ∈ T) (hu : ∀ p ∈ T, p.1 = P → p.2 = lq X) (hr : Room (k + 2) X.A) (L : LamS X.env.scope scope) (hdef : defaultsOf params X.env = ([], []))
    (hbind : ∀ (q : Str) (cl : List (Str × Addr)) (pm cv ctv : Value), bindArgs (PySem.W.kla_fn "<lambda>" q params body scope cl pm cv ctv) ⟨[], []⟩ = pure [])
    (hbody : ∀ (A : Around) (outer : List Env) (s : Shared) (H : Hp) (E : XK) (f c' : Addr), Room k (A.deeper (lamEnv X scope s.heap.objs.size f c')) → PE (lamCx X A outer s H E scope f c') body (t E)) :
    PE X (.Call (.Name "_law_told" p) [.Lambda params body scope lpos] [] pos) (tLam T (TTr X.K C CB CN) t) := by
  obtain ⟨oc, od, kV, doc, pm, an, cdv, ct, osl, rfl, lk, hcd⟩ := F.ex
  exact pe_lamcall (Ng := nTold) (a := "call") gl mg F.kp lk hcd b scTold rfl (Or.inl rfl) (told_gives hg (by have := hr.un; omega) mB mN mr rB rN two cl n1 n2) TB hcode hmT hu hr L hdef hbind hbody
/-- _law_told(lambda x=d: e) -/
theorem pe_toldD {T : List (Addr × Str)} {g C CB CN c P : Addr} {fd : FuncData} {k : Nat} {params : Arguments} {body : Expr} {scope : Scope} {t : XK → TE} {y : Str} {di : Int} {dj : Nat} {dp p lpos pos : Pos} (F : Fun X.K "_law_told" "_law_told" sTold g fd) (b : Binds X.K fd ["call"] []) (gl : Gl X "_law_told") (mg : X.mg "_law_told" = some (.ref g))
    (hg : X.A.guards = some []) (mB : X.mg "BadRules" = some (.ref CB)) (mN : X.mg "BadNumber" = some (.ref CN)) (mr : X.mg "repr" = none)
    (rB : ExR X.K CB "place") (rN : ExR X.K CN "value") (two : TwoX X.K CB CN) (cl : Cls X.K C) (n1 : NoAttr X.K C "ends") (n2 : NoAttr X.K C "steps")
    (TB : TabB X.base X.mg c P) (hcode : X.env.code = .ref c) (hmT : (P, lq X) ∈ T) (hu : ∀ p ∈ T, p.1 = P → p.2 = lq X) (hr : Room (k + 2) X.A) (L : LamP X.N X.env.scope scope y) (hdef : params.defaults = [.Constant (.int di) dj dp]) (hk0 : params.kw_defaults = [])
    (hbind : BindsD params body scope y di)
    (hbody : ∀ (A : Around) (outer : List Env) (s : Shared) (H : Hp) (E : XK) (f c' : Addr), Room k (A.deeper (lamEnv X scope s.heap.objs.size f c')) → PE (lamCx X A outer s H E scope f c') body (t E)) :
    PE X (.Call (.Name "_law_told" p) [.Lambda params body scope lpos] [] pos) (tLam T (TTr X.K C CB CN) t) := by
  obtain ⟨oc, od, kV, doc, pm, an, cdv, ct, osl, rfl, lk, hcd⟩ := F.ex
  exact pe_lamcallD (Ng := nTold) (a := "call") gl mg F.kp lk hcd b scTold rfl (Or.inl rfl) (told_gives hg (by have := hr.un; omega) mB mN mr rB rN two cl n1 n2) TB hcode hmT hu hr L hdef hk0 hbind hbody
end
/-- what `one.m(thing)` in a told lambda asks -/
theorem tells_meth {K : PySem.W.Frag} {T : List (Addr × Str)} {C CB CN a : Addr} {m : Str} {due : List PyData → List PyData → PyData → (PyData ⊕ PyData) ⊕ (List PyData × List PyData)} {i j : Nat} {σ : L2.St} {H : Hp} {v : V} {d : PyData} {es ss : List PyData} {Q : VK}
    (hi : σ[i]? = some (some (.ref a))) (hj : σ[j]? = some (some v)) (r : RulesAt K H a C es ss) (l1 : es.length ≤ 90) (l2 : ss.length ≤ 90) (hd : Dq H v d) (sy : Sys H) (tb : Tabs T H) (m1 : (m == ("ends" : Str)) = false) (m2 : (m == ("steps" : Str)) = false)
    (k : ∀ H1, ExtN H H1 → Tabs T H1 → Tells K Q H1 (due es ss d)) :
    tLam T (TTr K C CB CN) (fun E => tMeth C m (spW K C CB CN due) [] E (tVar i) (tCons (tVar j) tNil)) σ H Q := by
  refine ⟨tb, fun H1 e1 t1 Q' hQ => ?_⟩
  obtain ⟨dx, pe, ps, xs, ys, h1, h2, h3, h4, h5⟩ := r.extN e1
  exact ⟨_, hi, a, dx, _, rfl, h1, by simp [List.lookup, m1, m2], _, hj, a, v, d, es, ss, rfl, ⟨dx, pe, ps, xs, ys, h1, h2, h3, h4, h5⟩, l1, l2, hd.extN e1, gives_told (sys_extN sy e1) hQ (k H1 e1 t1)⟩
end RU
set_option Elab.async false
set_option linter.all false
set_option maxRecDepth 100000
set_option maxHeartbeats 4000000
namespace K01
open PySem L2 L2H DQ RZ
/-! what is drawn has a shape; what has a shape is plain -/
theorem marks_ok {ms : List Str} (h : ms.Sublist abc3) : areMarks (.tuple (ms.map PyData.str)) = true := by
  unfold abc3 at h
  cases h <;> rename_i h <;> cases h <;> rename_i h <;> cases h <;> rename_i h <;> cases h <;> decide +kernel
theorem ef_word {u : Str} (h : efS u) : wordS u = true := by
  rcases h with rfl | rfl <;> decide +kernel
mutual
theorem Tc.cnt : ∀ {k n c : Nat} {d : PyData}, Tc k n c d → k ≤ 3 → (k = 3 → isPair d = true) → K01.cnt (k + 1) d = some ((n : Int), (c : Int))
  | k, n, c, _, .mk (n0 := n0) (c0 := c0) (c1 := c1) (ms := ms) (bs := bs) (r := r) h1 h2 h3 h4 e1 e2, hk, hp => by
    have f := h4.fold hk 1 (r.length : Int)
    have hn : isNode (3 - (k : Int)) (.tuple (.tuple (ms.map PyData.str) :: .tuple bs :: r)) = true := by
      unfold isNode
      have nb : nodeB (some (PyData.tuple (ms.map PyData.str))) (some (PyData.tuple bs)) = true := by
        show (areMarks (.tuple (ms.map PyData.str)) && fewB (.tuple bs)) = true
        rw [marks_ok h1]
        exact decide_eq_true h2
      refine Bool.and_eq_true_iff.mpr ⟨?_, nb⟩
      rcases h3 with ⟨rfl, _⟩ | ⟨rfl, _⟩
      · rfl
      · by_cases h : k = 3
        · exact absurd (hp h) (by simp [isPair])
        · have z : decide ((0 : Int) < 3 - (k : Int)) = true := decide_eq_true (by omega)
          rw [z, Bool.true_and]
          refine Bool.or_eq_true_iff.mpr (.inr ?_)
          show (decide ([PyData.tuple (ms.map PyData.str), .tuple bs, .str "call"].length = 3) && isCallS (some (.str "call"))) = true
          exact Bool.and_eq_true_iff.mpr ⟨decide_eq_true rfl, by decide +kernel⟩
    unfold K01.cnt
    rw [if_pos hn]
    show bs.foldl (stepB (K01.cnt k)) (some (1, (r.length : Int))) = _
    rw [f]
    have hr : r.length = c0 := by
      rcases h3 with ⟨rfl, rfl⟩ | ⟨rfl, rfl⟩ <;> rfl
    rw [hr, e1, e2]
    congr 2
    · omega
    · omega
theorem TcB.fold : ∀ {k n c : Nat} {bs : List PyData}, TcB k n c bs → k ≤ 3 → ∀ a b : Int, bs.foldl (stepB (K01.cnt k)) (some (a, b)) = some (a + (n : Int), b + (c : Int))
  | k, _, _, _, .nil, _, a, b => by simp
  | _, _, _, _, .cons (k := k) (n := n) (c := c) (n' := n') (c' := c') (u := u) (t := t) (bs := bs) hu ht hb e1 e2, hk, a, b => by
    have h := ht.cnt (by omega) (fun z => by omega)
    have hs : stepB (K01.cnt (k + 1)) (some (a, b)) (.tuple [.str u, t]) = some (a + (n : Int), b + (c : Int)) := by
      unfold stepB
      dsimp only
      rw [if_pos (ef_word hu), h]
    rw [List.foldl_cons, hs, hb.fold hk, e1, e2]
    congr 2
    · omega
    · omega
end
theorem pair0 {k n : Nat} {d : PyData} (h : Tc k n 0 d) : isPair d = true := by
  cases h with
  | mk _ _ h3 _ _ e2 =>
    rcases h3 with ⟨rfl, _⟩ | ⟨rfl, rfl⟩
    · rfl
    · omega
theorem tree_shape {k n : Nat} {d : PyData} (h : Tc k n 0 d) (hk : k ≤ 3) (hn : n ≤ 6) : shape 0 d = true := by
  have h3 : Tc 3 n 0 d := by
    obtain rfl | rfl | rfl | rfl : k = 0 ∨ k = 1 ∨ k = 2 ∨ k = 3 := by omega
    · exact h.mono.mono.mono
    · exact h.mono.mono
    · exact h.mono
    · exact h
  have hp : isPair d = true := pair0 h
  unfold shape
  rw [h3.cnt (Nat.le_refl _) fun _ => hp]
  have z : decide ((n : Int) ≤ 6) = true := decide_eq_true (by omega)
  dsimp only
  rw [z]
  rfl
theorem body_shape {n : Nat} {d : PyData} (h : Tc 3 n 1 d) (hp : isPair d = true) (hn : n ≤ 6) : shape 1 d = true := by
  unfold shape
  rw [h.cnt (Nat.le_refl _) fun _ => hp]
  have z : decide ((n : Int) ≤ 6) = true := decide_eq_true (by omega)
  dsimp only
  rw [z]
  rfl
/-! plain: texts of signs and tuples, not deep -/
theorem word_ok {x : Str} (h : wordS x = true) : PyData.strOk x = true := by
  unfold wordS at h
  have h2 := (Bool.and_eq_true_iff.mp (Bool.and_eq_true_iff.mp h).2).2
  unfold PyData.strOk
  rw [← Array.all_toList]
  refine List.all_eq_true.mpr fun c hc => ?_
  have z := List.all_eq_true.mp h2 c hc
  unfold low at z
  have z2 := of_decide_eq_true (Bool.and_eq_true_iff.mp z).2
  exact decide_eq_true (by omega)
theorem canAll {ds : List PyData} : PyData.canLayAll0 ds = true ↔ ∀ d ∈ ds, d.canLay0 = true := by
  induction ds with
  | nil => simp [PyData.canLayAll0]
  | cons d ds ih => simp [PyData.canLayAll0, ih]
theorem depAll {ds : List PyData} {n : Nat} (h : ∀ d ∈ ds, d.depth ≤ n) : PyData.depthAll ds ≤ n := by
  induction ds with
  | nil => simp [PyData.depthAll]
  | cons d ds ih =>
    have h1 := h d (List.mem_cons_self ..)
    have h2 := ih fun x hx => h x (List.mem_cons_of_mem _ hx)
    simp only [PyData.depthAll]
    omega
/-- such data -/
def plain (n : Nat) (d : PyData) : Prop := d.canLay0 = true ∧ d.depth ≤ n
theorem plain_tup {ds : List PyData} {n : Nat} (h : ∀ d ∈ ds, plain n d) : plain (n + 1) (.tuple ds) :=
  ⟨canAll.mpr fun d hd => (h d hd).1, Nat.succ_le_succ (depAll fun d hd => (h d hd).2)⟩
theorem plain_lst {ds : List PyData} {n : Nat} (h : ∀ d ∈ ds, plain n d) : plain (n + 1) (.list ds) :=
  ⟨canAll.mpr fun d hd => (h d hd).1, Nat.succ_le_succ (depAll fun d hd => (h d hd).2)⟩
theorem plain.mono {d : PyData} {n m : Nat} (h : plain n d) (hn : n ≤ m) : plain m d := ⟨h.1, Nat.le_trans h.2 hn⟩
theorem plain_word {d : PyData} (h : isWord d = true) : plain 0 d := by
  cases d with
  | str x => exact ⟨word_ok h, Nat.le_refl _⟩
  | _ => cases h
theorem plain_marks {d : PyData} (h : areMarks d = true) : plain 1 d := by
  cases d with
  | tuple ds =>
    have z := (Bool.and_eq_true_iff.mp (Bool.and_eq_true_iff.mp h).2).1
    exact plain_tup fun d hd => plain_word (List.all_eq_true.mp z d hd)
  | _ => cases h
theorem fold_all {c : PyData → Option (Int × Int)} : ∀ {bs : List PyData} {xy r : Int × Int}, bs.foldl (stepB c) (some xy) = some r → ∀ b ∈ bs, ∃ u t pq, b = .tuple [.str u, t] ∧ wordS u = true ∧ c t = some pq
  | [], _, _, _, _, hb => absurd hb (by simp)
  | b :: bs, xy, r, h, b', hb => by
    rw [List.foldl_cons] at h
    cases hs : stepB c (some xy) b with
    | none =>
      rw [hs, fold_none] at h
      cases h
    | some pq =>
      rw [hs] at h
      rcases List.mem_cons.mp hb with rfl | hb
      · unfold stepB at hs
        dsimp only at hs
        split at hs
        · rename_i u t
          split at hs
          · rename_i hw
            split at hs
            · rename_i pq' hc
              exact ⟨u, t, pq', rfl, hw, hc⟩
            · cases hs
          · cases hs
        · cases hs
      · exact fold_all h b' hb
theorem cnt_plain : ∀ {n : Nat} {d : PyData} {xy : Int × Int}, cnt n d = some xy → plain (3 * n) d
  | 0, _, _, h => nomatch h
  | n + 1, d, xy, h => by
    unfold cnt at h
    split at h
    · rename_i hn
      unfold isNode at hn
      obtain ⟨h1, h2⟩ := Bool.and_eq_true_iff.mp hn
      obtain ⟨a, b, r, rfl⟩ := pair_or_call h1
      obtain ⟨h3, h4⟩ := Bool.and_eq_true_iff.mp (show (areMarks a && fewB b) = true from h2)
      cases b with
      | tuple bs =>
        have f := fold_all (show bs.foldl (stepB (cnt n)) (some (1, (r.length : Int))) = some xy from h)
        have pb : plain (3 * n + 2) (.tuple bs) := plain_tup fun b hb => by
          obtain ⟨u, t, pq, rfl, hu, ht⟩ := f b hb
          refine plain_tup (n := 3 * n) fun x hx => ?_
          rcases List.mem_cons.mp hx with rfl | hx
          · exact plain.mono (plain_word hu) (Nat.zero_le _)
          · rw [List.mem_singleton.mp hx]
            exact cnt_plain ht
        refine plain_tup (n := 3 * n + 2) fun x hx => ?_
        rcases List.mem_cons.mp hx with rfl | hx
        · exact (plain_marks h3).mono (by omega)
        · rcases List.mem_cons.mp hx with rfl | hx
          · exact pb
          · rcases Bool.or_eq_true_iff.mp h1 with z | z
            · have e : (a :: PyData.tuple bs :: r).length = 2 := of_decide_eq_true z
              have e2 : r = [] := by
                cases r with
                | nil => rfl
                | cons y ys =>
                  simp at e
              rw [e2] at hx
              cases hx
            · obtain ⟨z1, z2⟩ := Bool.and_eq_true_iff.mp (Bool.and_eq_true_iff.mp z).2
              have e : (a :: PyData.tuple bs :: r).length = 3 := of_decide_eq_true z1
              match r, e, hx, z2 with
              | [y], _, hx, z2 =>
                rw [List.mem_singleton.mp hx]
                have z3 : isCallS (some y) = true := z2
                cases y with
                | str s =>
                  have e4 : V.str s = V.str "call" := of_decide_eq_true z3
                  cases e4
                  exact ⟨by decide +kernel, Nat.zero_le _⟩
                | _ => cases z3
      | _ => cases h4
    · cases h
theorem shape_plain {c : Int} {d : PyData} (h : shape c d = true) : plain 12 d := by
  unfold shape at h
  cases e : cnt 4 d with
  | none =>
    rw [e] at h
    cases h
  | some xy => exact cnt_plain e
end K01
set_option Elab.async false
set_option linter.all false
set_option maxRecDepth 100000
set_option maxHeartbeats 4000000
namespace K01
open PySem L2 L2H DQ RZ
/-! _law_ends_and_steps -/
def EndD (d : PyData) : Prop := ∃ q, Tc 2 q 0 d ∧ q ≤ 4
def StepD (d : PyData) : Prop := ∃ q, Tp 3 q 1 d ∧ q ≤ 6
def ESd (es ss : List PyData) : Prop := 1 ≤ es.length ∧ es.length ≤ 3 ∧ ss.length ≤ 3 ∧ (∀ d ∈ es, EndD d) ∧ ∀ d ∈ ss, StepD d
def spEas : Sp := fun vs H Q _ => ∃ (m c l z : Addr) (cs ls : List Int) (n : Int), vs = [.ref m, .ref z] ∧ MAt H m c l cs ls n ∧ n + 3000 ≤ 1000000000 ∧ fr H m l z = some (.tup [.int 3, .int 3, .int 4]) ∧
  ∀ (p eL sL : Addr) (xs ys : List V) (es ss : List PyData) (H' : Hp) (l' : Addr) (ls' : List Int) (n' : Int), MAt H' m c l' cs ls' n' → n' ≤ n + 3000 → Fs H m l H' l' → fr H' m l' p = some (.tup [.ref eL, .ref sL]) → fr H' m l' eL = some (.lst xs) → DqAll (fr H' m l') xs es →
    fr H' m l' sL = some (.lst ys) → DqAll (fr H' m l') ys ss → ESd es ss → eL ≠ sL → Q (.ref p) H'
abbrev nEs : List Str := ["m", "sizes", "ends", "k"]
theorem scEs : FnScope nEs ["m", "sizes"] (defScope sEas) := ⟨rfl, rfl, rfl, by decide +kernel, rfl, by decide +kernel, by decide +kernel⟩
section
variable {P : Program} {w : World} {K : PySem.W.Frag} {mg : Str → Option Value} {base : Heap}
theorem ix_tupK {X : Cx} (hK : X.K = K) : IxR X (rIxT K) := by
  subst hK
  exact ix_tup
theorem ok_eas {f fN fT fY : Addr} {fd dN dT dY : FuncData} (F : Fun K "_law_ends_and_steps" "_law_ends_and_steps" sEas f fd)
    (FN : Fun K "_law_next" "_law_next" sNext fN dN) (bN : Binds K dN ["m", "many"] []) (gN : mg "_law_next" = some (.ref fN)) (GN : FnOk P w K mg base CX0 1 fN dN ["m", "many"] spNx)
    (FT : Fun K "_law_tree" "_law_tree" sTree fT dT) (bT : Binds K dT ["m", "size", "deep"] []) (gT : mg "_law_tree" = some (.ref fT)) (GT : FnOk P w K mg base CX0 5 fT dT ["m", "size", "deep"] (spTr 2))
    (FY : Fun K "_law_body" "_law_body" sBody fY dY) (bY : Binds K dY ["m", "size"] []) (gY : mg "_law_body" = some (.ref fY)) (GY : FnOk P w K mg base CX0 7 fY dY ["m", "size"] spBy) (tR : mg "range" = none) :
    FnOk P w K mg base CX0 8 f fd ["m", "sizes"] spEas := by
  refine F.ok scEs (fun vs H Q E h => ?_) (fun cdv A outer s H vs Q E hr h => ?_)
  · obtain ⟨m, c, l, z, cs, ls, n, rfl, _⟩ := h
    rfl
  · obtain ⟨m, c, l, z, cs, ls, n, rfl, M, hn, hz, kk⟩ := h
    refine ⟨_, pss_cons (ps_setLc (i := 2) (own := [("k", 3)]) (g := gName 3) (tt := tYes) rfl scEs.nd rfl rfl (sw_true rfl rfl rfl (by decide +kernel))
          (pi_range1 rfl tR (pa_cons (pe_op op_add pe_int (pe_call GN (hr.mono (by decide)) (by rfl) gN FN.kp bN .nil pass0 (pa_cons (pv 0) (pa_cons (pe_ix (ix_tupK (K := K) rfl) (pv 1) pe_int (fun _ _ => rfl)) pa_nil)))) pa_nil))
          (blkOk_by (own := [("k", 3)]) (N := ["m", "sizes", "ends", "k"]) (sc := defScope sEas) (by decide +kernel))
          (fun _ _ _ _ _ => pg_name (i := 3) scEs.nd rfl (Or.inl rfl)) (fun _ _ _ _ _ => pts_nil)
          (fun _ _ _ _ _ => pe_call GT (hr.mono (by decide)) (by rfl) gT FT.kp bT .nil pass0 (pa_cons (pv 0) (pa_cons (pe_op op_add pe_int (pe_call GN (hr.mono (by decide)) (by rfl) gN FN.kp bN .nil pass0 (pa_cons (pv 0) (pa_cons (pe_ix (ix_tupK (K := K) rfl) (pv 1) pe_int (fun _ _ => rfl)) pa_nil)))) (pa_cons pe_int pa_nil)))))
      (pss_one (ps_ret (pe_tup (pa_cons (pv 2) (pa_cons (pe_lc (own := [("k", 3)]) (g := gName 3) (tt := tYes) rfl scEs.nd
          (pi_range1 rfl tR (pa_cons (pe_call GN (hr.mono (by decide)) (by rfl) gN FN.kp bN .nil pass0 (pa_cons (pv 0) (pa_cons (pe_op op_add (pe_ix (ix_tupK (K := K) rfl) (pv 1) pe_int (fun _ _ => rfl)) pe_int) pa_nil))) pa_nil))
          (blkOk_by (own := [("k", 3)]) (N := ["m", "sizes", "ends", "k"]) (sc := defScope sEas) (by decide +kernel))
          (fun _ _ _ _ _ => pg_name (i := 3) scEs.nd rfl (Or.inl rfl)) (fun _ _ _ _ _ => pts_nil)
          (fun _ _ _ _ _ => pe_call GY (hr.mono (by decide)) (by rfl) gY FY.kp bY .nil pass0 (pa_cons (pv 0) (pa_cons (pe_op op_add pe_int (pe_call GN (hr.mono (by decide)) (by rfl) gN FN.kp bN .nil pass0 (pa_cons (pv 0) (pa_cons (pe_ix (ix_tupK (K := K) rfl) (pv 1) pe_int (fun _ _ => rfl)) pa_nil)))) pa_nil)))) pa_nil))))), ?_⟩
    have zq : ∀ {H' : Hp} {l' : Addr}, Fs H m l H' l' → SqT K H' z [.int 3, .int 3, .int 4] := fun sf => SqT.of (fr_of (sf.1 _ _ hz)).2.2
    refine ⟨_, rfl, _, rfl, z, _, 0, .int 3, rfl, rfl, zq .refl, rfl, m, c, l, 3, cs, ls, n, rfl, M, by decide, by decide, by omega, fun r H1 l1 ls1 n1 r0 r1 M1 nn1 s1 => ⟨_, _, rfl, rfl, _, rfl, by omega, by omega, fun D nD => ?_⟩⟩
    have G1 : Gw m c l1 cs ls1 n1 H1 H1 := ⟨M1, .refl⟩
    obtain ⟨G2, t2, e2⟩ := G1.new (o := .lst []) nD
    have hD0 : H D = none := s1.2 _ nD
    have Dm : D ≠ m := (ne_of_none M.hm hD0).symm
    have Dc : D ≠ c := (ne_of_none M.hc hD0).symm
    have jn : (1 + r).toNat ≤ 3 := by omega
    have jn1 : 1 ≤ (1 + r).toNat := by omega
    refine lc_range (fun i H' => ∃ (l' : Addr) (ls' : List Int) (n' : Int) (xs : List V) (es : List PyData), Dl H m c l cs n (1 + 179 * (i : Int)) D xs H' l' ls' n' ∧ DqAll (fr H' m l') xs es ∧ xs.length = i ∧ ∀ d ∈ es, EndD d)
      ⟨l1, ls1, n1, [], [], ⟨G2.mat, by omega, s1.trans G2.sm, e2⟩, .nil, rfl, fun d hd => absurd hd (by simp)⟩ ?_ ?_
    · rintro i H5 hi ⟨l5, ls5, n5, xs, es, d5, q5, hl5, he5⟩
      refine ⟨rfl, ?_⟩
      unfold tYes
      try dsimp only
      rw [if_pos rfl]
      have le5 := d5.le
      refine ⟨_, rfl, _, rfl, _, rfl, z, _, 2, .int 4, rfl, rfl, zq d5.sm, rfl, m, c, l5, 4, cs, ls5, n5, rfl, d5.mat, by decide, by decide, by omega, fun r7 H7 l7 ls7 n7 r70 r71 M7 nn7 s7 => ⟨_, _, rfl, rfl, m, c, l7, cs, ls7, n7, 1 + r7, rfl, M7, ?_, by omega, by omega, fun r8 d8 q8 H8 l8 ls8 n8 M8 nn8 s8 dq8 tc8 hq8 => ?_⟩⟩
      · show n7 + 178 ≤ 1000000000
        omega
      · have nn8' : n8 ≤ n7 + 178 := nn8
        have dE := (d5.next (k' := 1 + 179 * (i : Int) + 1) M7 nn7 s7 (by omega)).next (k' := 1 + 179 * ((i + 1 : Nat) : Int)) M8 nn8' s8 (by omega)
        have lz : xs.length < sizeLine := small1000 (by omega)
        have te : tupA es = true := tupA_iff.mpr fun d hd => by
          obtain ⟨q, h, _⟩ := he5 d hd
          exact h.tup
        have qa : DqAll (fr H8 m l8) (xs ++ [r8]) (es ++ [d8]) := (q5.same (same_trans s7.1 s8.1)).app (.cons dq8 .nil)
        have ta : tupA (es ++ [d8]) = true := tupA_iff.mpr fun d hd => by
          rcases List.mem_append.mp hd with h | h
          · exact tupA_iff.mp te d h
          · rw [List.mem_singleton.mp h]
            exact tc8.tup
        refine ⟨_, (fr_of dE.dd).2.2, lz, l8, ls8, n8, xs ++ [r8], es ++ [d8], dE.put hD0 Dm Dc, qa.tups (gw_put dE.dd) ta, by rw [List.length_append, hl5]; rfl, fun d hd => ?_⟩
        rcases List.mem_append.mp hd with h | h
        · exact he5 d h
        · rw [List.mem_singleton.mp h]
          exact ⟨q8, tc8, by omega⟩
    rintro H5 ⟨l5, ls5, n5, xs, es, d5, q5, hl5, he5⟩
    have le5 := d5.le
    refine ⟨_, rfl, _, rfl, _, rfl, z, _, 1, .int 3, rfl, rfl, zq d5.sm, rfl, _, _, rfl, rfl, m, c, l5, 4, cs, ls5, n5, rfl, d5.mat, by decide, by decide, by omega, fun r6 H6 l6 ls6 n6 r60 r61 M6 nn6 s6 => ⟨_, rfl, by omega, by omega, fun D2 nD2 => ?_⟩⟩
    have G6 : Gw m c l6 cs ls6 n6 H6 H6 := ⟨M6, .refl⟩
    obtain ⟨G7, t7, e7⟩ := G6.new (o := .lst []) nD2
    have hD2 : H5 D2 = none := s6.2 _ nD2
    have Dm2 : D2 ≠ m := (ne_of_none d5.mat.hm hD2).symm
    have Dc2 : D2 ≠ c := (ne_of_none d5.mat.hc hD2).symm
    have jn2 : r6.toNat ≤ 3 := by omega
    refine lc_range (fun i H' => ∃ (l' : Addr) (ls' : List Int) (n' : Int) (ys : List V) (ss : List PyData), Dl H5 m c l5 cs n5 (1 + 701 * (i : Int)) D2 ys H' l' ls' n' ∧ DqAll (fr H' m l') ys ss ∧ ys.length = i ∧ ∀ d ∈ ss, StepD d)
      ⟨l6, ls6, n6, [], [], ⟨G7.mat, by omega, s6.trans G7.sm, e7⟩, .nil, rfl, fun d hd => absurd hd (by simp)⟩ ?_ ?_
    · rintro i H8 hi ⟨l8, ls8, n8, ys, ss, d8, q8, hl8, he8⟩
      refine ⟨rfl, ?_⟩
      unfold tYes
      try dsimp only
      rw [if_pos rfl]
      have le8 := d8.le
      refine ⟨_, rfl, _, rfl, _, rfl, z, _, 2, .int 4, rfl, rfl, zq (d5.sm.trans d8.sm), rfl, m, c, l8, 4, cs, ls8, n8, rfl, d8.mat, by decide, by decide, by omega, fun r9 H9 l9 ls9 n9 r90 r91 M9 nn9 s9 => ⟨_, _, rfl, rfl, m, c, l9, cs, ls9, n9, 2 + r9, rfl, M9, by omega, by omega, by omega, fun rA dA qA HA lA lsA nA MA nnA sA dqA tpA hqA => ?_⟩⟩
      have dE := (d8.next (k' := 1 + 701 * (i : Int) + 1) M9 nn9 s9 (by omega)).next (k' := 1 + 701 * ((i + 1 : Nat) : Int)) MA nnA sA (by omega)
      have lz : ys.length < sizeLine := small1000 (by omega)
      have te : tupA ss = true := tupA_iff.mpr fun d hd => by
        obtain ⟨q, h, _⟩ := he8 d hd
        exact h.tc.tup
      have qa : DqAll (fr HA m lA) (ys ++ [rA]) (ss ++ [dA]) := (q8.same (same_trans s9.1 sA.1)).app (.cons dqA .nil)
      have ta : tupA (ss ++ [dA]) = true := tupA_iff.mpr fun d hd => by
        rcases List.mem_append.mp hd with h | h
        · exact tupA_iff.mp te d h
        · rw [List.mem_singleton.mp h]
          exact tpA.tc.tup
      refine ⟨_, (fr_of dE.dd).2.2, lz, lA, lsA, nA, ys ++ [rA], ss ++ [dA], dE.put hD2 Dm2 Dc2, qa.tups (gw_put dE.dd) ta, by rw [List.length_append, hl8]; rfl, fun d hd => ?_⟩
      rcases List.mem_append.mp hd with h | h
      · exact he8 d h
      · rw [List.mem_singleton.mp h]
        exact ⟨qA, tpA, by omega⟩
    rintro H8 ⟨l8, ls8, n8, ys, ss, d8, q8, hl8, he8⟩
    have le8 := d8.le
    refine ⟨by show 2 ≤ sizeLine; decide, fun p np => ?_⟩
    have G8 : Gw m c l8 cs ls8 n8 H8 H8 := ⟨d8.mat, .refl⟩
    obtain ⟨G9, t9, e9⟩ := G8.new (o := .tup [.ref D, .ref D2]) np
    have nDD : D ≠ D2 := ne_of_none (fr_of d5.dd).2.2 hD2
    have lx : xs.length = es.length := q5.len
    have ly : ys.length = ss.length := q8.len
    exact kk p D D2 xs ys es ss _ l8 ls8 n8 G9.mat (by omega) (d5.sm.trans (d8.sm.trans G9.sm)) e9 (t9 _ _ (d8.sm.1 _ _ d5.dd)) (q5.same (same_trans d8.sm.1 t9)) (t9 _ _ d8.dd) (q8.same t9)
      ⟨by omega, by omega, by omega, he5, he8⟩ nDD
end
end K01
set_option Elab.async false
set_option linter.all false
set_option maxRecDepth 100000
set_option maxHeartbeats 4000000
namespace K01
open PySem L2 L2H DQ RZ
/-! bounds of drawn trees -/
theorem sz_marks {ms : List Str} (h : ms.Sublist abc3) : szAll (ms.map PyData.str) ≤ 42 := by
  have z : ∀ l : List Str, (∀ x ∈ l, x.length = 1) → szAll (l.map PyData.str) = 14 * l.length := fun l => by
    induction l with
    | nil => intro _; rfl
    | cons x l ih =>
      intro hl
      have h1 := hl x (List.mem_cons_self ..)
      have h2 := ih fun y hy => hl y (List.mem_cons_of_mem _ hy)
      simp only [List.map_cons, szAll, sz, List.length_cons, h1, h2]
      omega
  rw [z ms fun x hx => (sub_sm h x hx).2]
  have := sub_len h
  omega
theorem dp_marks (ms : List Str) : PyData.depthAll (ms.map PyData.str) = 0 := by
  induction ms with
  | nil => rfl
  | cons x l ih => simp only [List.map_cons, PyData.depthAll, PyData.depth, ih, Nat.max_self]
theorem gd_marks {ms : List Str} (h : ms.Sublist abc3) : gdAll 0 (ms.map PyData.str) = true := gdAll_iff.mpr fun d hd => by
  obtain ⟨x, hx, rfl⟩ := List.mem_map.mp hd
  simpa [gd] using (sub_sm h x hx).1
mutual
theorem Tc.bound : ∀ {k n c : Nat} {d : PyData}, Tc k n c d → gd 0 d = true ∧ sz d + 22 ≤ 130 * n ∧ d.depth ≤ 3 * k + 2
  | k, n, c, _, .mk (ms := ms) (bs := bs) hm hl hr hb e1 e2 => by
    obtain ⟨b1, b2, b3⟩ := hb.bound
    have m1 := sz_marks hm
    have m2 := dp_marks ms
    have m3 := gd_marks hm
    rcases hr with ⟨rfl, _⟩ | ⟨rfl, _⟩
    · refine ⟨?_, ?_, ?_⟩
      · simp only [gd, gdAll, m3, b1, Bool.and_self]
      · simp only [sz, szAll]
        omega
      · simp only [PyData.depth, PyData.depthAll, m2]
        omega
    · have ok : PyData.strOk ("call" : Str) = true := by decide +kernel
      have ln : ("call" : Str).length = 4 := by decide +kernel
      refine ⟨?_, ?_, ?_⟩
      · simp only [gd, gdAll, m3, b1, ok, Bool.and_self]
      · simp only [sz, szAll, ln]
        omega
      · simp only [PyData.depth, PyData.depthAll, m2]
        omega
theorem TcB.bound : ∀ {k n c : Nat} {bs : List PyData}, TcB k n c bs → gdAll 0 bs = true ∧ szAll bs ≤ 130 * n ∧ PyData.depthAll bs ≤ 3 * k
  | _, _, _, _, .nil => ⟨rfl, Nat.zero_le _, Nat.zero_le _⟩
  | _, _, _, _, .cons (u := u) hu ht hb e1 e2 => by
    obtain ⟨a1, a2, a3⟩ := ht.bound
    obtain ⟨b1, b2, b3⟩ := hb.bound
    have hs := ef_sm hu
    refine ⟨?_, ?_, ?_⟩
    · simp only [gd, gdAll, hs.1, a1, b1, Bool.and_self]
    · simp only [sz, szAll, hs.2]
      omega
    · simp only [PyData.depth, PyData.depthAll]
      omega
end
end K01
set_option Elab.async false
set_option linter.all false
set_option maxRecDepth 100000
set_option maxHeartbeats 8000000
namespace RU
open PySem L2 L2H DQ K01 EnT LamX LamD RZ
open XH hiding same_refl same_trans same_new
/-! _law_further_right -/
/-- a method of Rules that gives Rules -/
def MethOk (P : Program) (w : World) (K : PySem.W.Frag) (mg : Str → Option Value) (base : Heap) (C CB CN : Addr) (m : Str) (due : List PyData → List PyData → PyData → (PyData ⊕ PyData) ⊕ (List PyData × List PyData)) : Prop :=
  ∃ (f : Addr) (fd : FuncData) (x : Str), Meth K C m f ∧ Binds K fd ["self", x] [] ∧ FnOk P w K mg base (L2.CX P w) 14 f fd ["self", x] (spW K C CB CN due)
structure RX (P : Program) (w : World) (K : PySem.W.Frag) (mg : Str → Option Value) (base : Heap) (C CB CN fTo : Addr) (dTo : FuncData) : Prop where
  cl : Cls K C
  n1 : NoAttr K C "ends"
  n2 : NoAttr K C "steps"
  we : MethOk P w K mg base C CB CN "with_end" fun es ss d => asB (dueWE es ss d)
  ws : MethOk P w K mg base C CB CN "with_step" fun es ss d => asB (dueWS es ss d)
  oe : MethOk P w K mg base C CB CN "without_end" dueOE
  os : MethOk P w K mg base C CB CN "without_step" dueOS
  fto : Fun K "_law_told" "_law_told" sTold fTo dTo
  bto : Binds K dTo ["call"] []
  gto : mg "_law_told" = some (.ref fTo)
  gB : mg "BadRules" = some (.ref CB)
  gN : mg "BadNumber" = some (.ref CN)
  rB : ExR K CB "place"
  rN : ExR K CN "value"
  two : TwoX K CB CN
  repr : mg "repr" = none
  bool : mg "bool" = none
  tr : TR mg
abbrev nFu : List Str := ["m", "ends", "steps", "one", "tree", "body", "thing", "due", "k", "is_so"]
theorem scFu : FnScope nFu ["m", "ends", "steps", "one"] (defScope sFur) := ⟨rfl, rfl, rfl, by decide +kernel, rfl, by decide +kernel, by decide +kernel⟩
abbrev qFu : Str := (("_law_further_right" : Str) ++ ".<locals>.") ++ "<lambda>"
def spFu (T : List (Addr × Str)) (K : PySem.W.Frag) (C : Addr) : Sp := fun vs H Q _ => ∃ (m c l eL sL a : Addr) (cs ls : List Int) (n : Int) (xs ys : List V) (es ss : List PyData), vs = [.ref m, .ref eL, .ref sL, .ref a] ∧ MAt H m c l cs ls n ∧ n + 5000 ≤ 1000000000 ∧ Sys (fr H m l) ∧ Tabs T (fr H m l) ∧
  fr H m l eL = some (.lst xs) ∧ DqAll (fr H m l) xs es ∧ fr H m l sL = some (.lst ys) ∧ DqAll (fr H m l) ys ss ∧ ESd es ss ∧ RulesAt K (fr H m l) a C es ss ∧
  ∀ (H' : Hp) (l' : Addr) (ls' : List Int) (n' : Int), MAt H' m c l' cs ls' n' → n' ≤ n + 5000 → ExtN (fr H m l) (fr H' m l') → Tabs T (fr H' m l') → Q (.bl true) H'
end RU
set_option Elab.async false
set_option linter.all false
set_option maxRecDepth 100000
set_option maxHeartbeats 4000000
namespace RU
open PySem L2 L2H DQ K01 EnT LamX LamD RZ
open XH hiding same_refl same_trans same_new
/-! what was told, as data -/
def tdOf : (PyData ⊕ PyData) ⊕ (List PyData × List PyData) → PyData
  | .inl (.inl pl) => .tuple [.str "rules", .str pl.shown]
  | .inl (.inr n) => .tuple [.str "number", .str n.shown]
  | .inr (es, ss) => .tuple [.tuple es, .tuple ss]
def dueOk : (PyData ⊕ PyData) ⊕ (List PyData × List PyData) → Prop
  | .inl (.inl pl) => PlOk pl
  | .inl (.inr n) => PlOk n
  | .inr (es, ss) => (∀ d ∈ es, plain 12 d) ∧ ∀ d ∈ ss, plain 12 d
theorem can_of {ds : List PyData} (h : ∀ d ∈ ds, plain 12 d) : PyData.canLayAll0 ds = true := canAll.mpr fun d hd => (h d hd).1
theorem dp_two {K : PySem.W.Frag} {H : Hp} {p : Addr} {x y : Str} (h : H p = some (.tup [.str x, .str y])) : Dp K H (.ref p) (.tuple [.str x, .str y]) := .tup (SqT.of h) (.cons (.str _) (.cons (.str _) .nil))
theorem tells_of {K : PySem.W.Frag} {Q : VK} {H : Hp} {due : (PyData ⊕ PyData) ⊕ (List PyData × List PyData)} (ok : dueOk due) (k : ∀ p H', Same H H' → Dp K H' (.ref p) (tdOf due) → Q (.ref p) H') : Tells K Q H due := by
  rcases due with (pl | n) | ⟨es, ss⟩
  · exact ⟨ok, fun p H' s e => k p H' s (dp_two e)⟩
  · exact ⟨ok, fun p H' s e => k p H' s (dp_two e)⟩
  · exact fun p pe ps xs ys H' s e h1 h2 h3 h4 => k p H' s (.tup (SqT.of e) (.cons (.tup h1 (h2.dp (can_of ok.1))) (.cons (.tup h3 (h4.dp (can_of ok.2))) .nil)))
/-- rules that stand: at most three ends, trees; at most three steps, bodies -/
structure SH (es ss : List PyData) : Prop where
  l1 : 1 ≤ es.length
  l3 : es.length ≤ 3
  m3 : ss.length ≤ 3
  e : ∀ d ∈ es, shape 0 d = true
  s : ∀ d ∈ ss, shape 1 d = true
theorem SH.pe {es ss : List PyData} (h : SH es ss) : ∀ d ∈ es, plain 12 d := fun d hd => shape_plain (h.e d hd)
theorem SH.ps {es ss : List PyData} (h : SH es ss) : ∀ d ∈ ss, plain 12 d := fun d hd => shape_plain (h.s d hd)
theorem sh_of {es ss : List PyData} (h : ESd es ss) : SH es ss := by
  obtain ⟨h1, h2, h3, h4, h5⟩ := h
  refine ⟨h1, h2, h3, fun d hd => ?_, fun d hd => ?_⟩
  · obtain ⟨q, t, hq⟩ := h4 d hd
    exact tree_shape t (by decide) (by omega)
  · obtain ⟨q, t, hq⟩ := h5 d hd
    refine body_shape t.tc ?_ hq
    obtain ⟨ms, bs, n0, rfl, _⟩ := t
    rfl
theorem none_bad {c : Int} {ds : List PyData} (h : ∀ d ∈ ds, shape c d = true) : firstBad c ds = none := bad_none fun k e he => h e (List.mem_of_getElem? he)
theorem row_tup (ds : List PyData) (lo hi : Int) : isRow (.tuple ds) lo hi = (decide (lo ≤ (ds.length : Int)) && decide ((ds.length : Int) ≤ hi)) := rfl
theorem dueR_tups {es ss : List PyData} (h1 : 1 ≤ es.length) (he : ∀ d ∈ es, shape 0 d = true) (hs : ∀ d ∈ ss, shape 1 d = true) : dueR (.tuple es) (.tuple ss) = if es.length ≤ 3 ∧ ss.length ≤ 3 then .inr (es, ss) else .inl .none := by
  unfold dueR
  rw [row_tup, row_tup]
  have a1 : decide ((1 : Int) ≤ (es.length : Int)) = true := decide_eq_true (by omega)
  have a2 : decide ((0 : Int) ≤ (ss.length : Int)) = true := decide_eq_true (by omega)
  rw [a1, a2, Bool.true_and, Bool.true_and]
  show (if (decide ((es.length : Int) ≤ 3) && decide ((ss.length : Int) ≤ 3)) = true then (match firstBad 0 es with
    | some i => Sum.inl (PyData.tuple [.str "end", .int (i : Int)])
    | none => match firstBad 1 ss with
      | some j => .inl (.tuple [.str "step", .int (j : Int)])
      | none => .inr (es, ss)) else .inl .none) = _
  rw [none_bad he, none_bad hs]
  by_cases h : es.length ≤ 3 ∧ ss.length ≤ 3
  · rw [if_pos h, decide_eq_true (by omega : (es.length : Int) ≤ 3), decide_eq_true (by omega : (ss.length : Int) ≤ 3)]
    rfl
  · rw [if_neg h]
    rw [if_neg]
    intro z
    obtain ⟨z1, z2⟩ := Bool.and_eq_true_iff.mp z
    have y1 := of_decide_eq_true z1
    have y2 := of_decide_eq_true z2
    exact h ⟨by omega, by omega⟩
theorem mem_snoc {es : List PyData} {d : PyData} {c : Int} (h : ∀ x ∈ es, shape c x = true) (hd : shape c d = true) : ∀ x ∈ es ++ [d], shape c x = true := fun x hx => by
  rcases List.mem_append.mp hx with z | z
  · exact h x z
  · rw [List.mem_singleton.mp z]
    exact hd
def dWE (es ss : List PyData) (d : PyData) : (PyData ⊕ PyData) ⊕ (List PyData × List PyData) := if shape 0 d = true then (if es.length < 3 then .inr (es ++ [d], ss) else .inl (.inl .none)) else .inl (.inl (.tuple [.str "end", .int (es.length : Int)]))
def dWS (es ss : List PyData) (d : PyData) : (PyData ⊕ PyData) ⊕ (List PyData × List PyData) := if shape 1 d = true then (if ss.length < 3 then .inr (es, ss ++ [d]) else .inl (.inl .none)) else .inl (.inl (.tuple [.str "step", .int (ss.length : Int)]))
theorem due_we {es ss : List PyData} {d : PyData} (h : SH es ss) : asB (dueWE es ss d) = dWE es ss d := by
  unfold dWE dueWE
  cases hs : shape 0 d with
  | false => rfl
  | true =>
    rw [if_neg (by simp), if_pos rfl, dueR_tups (by rw [List.length_append]; have := h.l1; omega) (mem_snoc h.e hs) h.s]
    have l := h.m3
    by_cases z : es.length < 3
    · rw [if_pos z, if_pos ⟨by rw [List.length_append]; show es.length + 1 ≤ 3; omega, l⟩]
      rfl
    · rw [if_neg z, if_neg (fun y => by have := y.1; rw [List.length_append] at this; have e : es.length + 1 ≤ 3 := this; omega)]
      rfl
theorem due_ws {es ss : List PyData} {d : PyData} (h : SH es ss) : asB (dueWS es ss d) = dWS es ss d := by
  unfold dWS dueWS
  cases hs : shape 1 d with
  | false => rfl
  | true =>
    rw [if_neg (by simp), if_pos rfl, dueR_tups h.l1 h.e (mem_snoc h.s hs)]
    have l := h.l3
    by_cases z : ss.length < 3
    · rw [if_pos z, if_pos ⟨l, by rw [List.length_append]; show ss.length + 1 ≤ 3; omega⟩]
      rfl
    · rw [if_neg z, if_neg (fun y => by have := y.2; rw [List.length_append] at this; have e : ss.length + 1 ≤ 3 := this; omega)]
      rfl
theorem snoc_plain {es : List PyData} {d : PyData} (h : ∀ x ∈ es, plain 12 x) (hd : plain 12 d) : ∀ x ∈ es ++ [d], plain 12 x := fun x hx => by
  rcases List.mem_append.mp hx with z | z
  · exact h x z
  · rw [List.mem_singleton.mp z]
    exact hd
theorem dWE_ok {es ss : List PyData} {d : PyData} (h : SH es ss) : dueOk (dWE es ss d) := by
  unfold dWE
  split
  · rename_i hs
    split
    · exact ⟨snoc_plain h.pe (shape_plain hs), h.ps⟩
    · exact pl_none
  · exact pl_end h.l3
theorem dWS_ok {es ss : List PyData} {d : PyData} (h : SH es ss) : dueOk (dWS es ss d) := by
  unfold dWS
  split
  · rename_i hs
    split
    · exact ⟨h.pe, snoc_plain h.ps (shape_plain hs)⟩
    · exact pl_none
  · exact pl_step h.m3
/-- told data is plain -/
theorem td_plain {due : (PyData ⊕ PyData) ⊕ (List PyData × List PyData)} (h : dueOk due) : plain 14 (tdOf due) := by
  have str : ∀ x : Str, PyData.strOk x = true → plain 13 (.str x) := fun x hx => ⟨hx, Nat.zero_le _⟩
  rcases due with (pl | n) | ⟨es, ss⟩
  · refine plain_tup (n := 13) fun x hx => ?_
    rcases List.mem_cons.mp hx with rfl | hx
    · exact str _ (by decide +kernel)
    · rw [List.mem_singleton.mp hx]
      exact str _ h.2.2.2
  · refine plain_tup (n := 13) fun x hx => ?_
    rcases List.mem_cons.mp hx with rfl | hx
    · exact str _ (by decide +kernel)
    · rw [List.mem_singleton.mp hx]
      exact str _ h.2.2.2
  · refine plain_tup (n := 13) fun x hx => ?_
    rcases List.mem_cons.mp hx with rfl | hx
    · exact plain_tup h.1
    · rw [List.mem_singleton.mp hx]
      exact plain_tup h.2
theorem shaped_of {d : PyData} {n : Nat} (h : plain n d) (hn : n ≤ 64) : SeqAt.shaped d = true := Bool.and_eq_true_iff.mpr ⟨h.1, decide_eq_true (Nat.le_trans h.2 hn)⟩
theorem two_shaped {x y : PyData} (hx : plain 14 x) (hy : plain 14 y) : SeqAt.shaped (.list [x, y]) = true := shaped_of (n := 15) (plain_lst fun d hd => by
  rcases List.mem_cons.mp hd with rfl | hd
  · exact hx
  · rw [List.mem_singleton.mp hd]
    exact hy) (by decide)
theorem eqv_self {d : PyData} (h : SeqAt.shaped d = true) : PyData.eqv d d = true := SeqAt.eqv_refl d (SeqAt.canLay_of_shaped h)
end RU
set_option Elab.async false
set_option linter.all false
set_option maxRecDepth 100000
set_option maxHeartbeats 4000000
namespace RU
open PySem L2 L2H DQ K01 EnT LamX LamD RZ
open XH hiding same_refl same_trans same_new
theorem fr_sm {H H' : Hp} {m l : Addr} (s : Same H H') : Same (fr H m l) (fr H' m l) := fun b o e => by
  obtain ⟨h1, h2, h3⟩ := fr_of e
  exact fr_some (s _ _ h3) h1 h2
theorem fr_en {H H' : Hp} {m l : Addr} (s : ExtN H H') : ExtN (fr H m l) (fr H' m l) := fun b o e n => by
  obtain ⟨h1, h2, h3⟩ := fr_of e
  exact fr_some (s _ _ h3 n) h1 h2
theorem _root_.K01.MAt.en {H H' : Hp} {m c l : Addr} {cs ls : List Int} {n : Int} (M : MAt H m c l cs ls n) (s : ExtN H H') : MAt H' m c l cs ls n :=
  ⟨s _ _ M.hm (fun _ z => by cases z), s _ _ M.hc (fun _ z => by cases z), s _ _ M.hl (fun _ z => by cases z), M.ne, M.n0, M.nb, M.cb, M.lb⟩
theorem tabs_fr {T : List (Addr × Str)} {H : Hp} {m c l : Addr} {cs ls : List Int} {n : Int} (M : MAt H m c l cs ls n) (t : Tabs T H) : Tabs T (fr H m l) := fun p hp => by
  obtain ⟨ps, h1, h2, h3⟩ := t p hp
  have off : ∀ {b : Addr} {o : HO}, H b = some o → (∀ kv, o ≠ .dK kv) → (∀ xs, o ≠ .lst xs) → fr H m l b = some o := fun {b o} e n1 n2 => fr_some e (fun z => n1 _ (Option.some.inj (e.symm.trans (z ▸ M.hm)))) fun z => n2 _ (Option.some.inj (e.symm.trans (z ▸ M.hl)))
  refine ⟨ps, off h1 (fun _ z => by cases z) (fun _ z => by cases z), h2, fun pos cv hc => ?_⟩
  obtain ⟨c0, e1, e2⟩ := h3 pos cv hc
  exact ⟨c0, e1, off e2 (fun _ z => by unfold CodeO at z; cases z) (fun _ z => by unfold CodeO at z; cases z)⟩
/-- the state of the draws stands; all but tables and it stands as at H0 -/
structure Wd (T : List (Addr × Str)) (m c l : Addr) (cs ls : List Int) (n : Int) (H0 H' : Hp) : Prop where
  mat : MAt H' m c l cs ls n
  ext : ExtN (fr H0 m l) (fr H' m l)
  tabs : Tabs T (fr H' m l)
theorem extN_trans {H H1 H2 : Hp} (a : ExtN H H1) (b : ExtN H1 H2) : ExtN H H2 := fun c o h n => b c o (a c o h n) n
section
variable {T : List (Addr × Str)} {m c l : Addr} {cs ls : List Int} {n : Int} {H0 H H' : Hp}
theorem Wd.same (W : Wd T m c l cs ls n H0 H) (s : Same H H') : Wd T m c l cs ls n H0 H' := ⟨W.mat.same s, extN_trans W.ext (extN_same (fr_sm s)), W.tabs.ext (fr_sm s)⟩
theorem Wd.lam (W : Wd T m c l cs ls n H0 H) (e : ExtN H H') (t : Tabs T H') : Wd T m c l cs ls n H0 H' := ⟨W.mat.en e, extN_trans W.ext (fr_en e), tabs_fr (W.mat.en e) t⟩
theorem Wd.tb (W : Wd T m c l cs ls n H0 H) : Tabs T H := W.tabs.ext fr_same
/-- a list that was new is written -/
theorem Wd.put (W : Wd T m c l cs ls n H0 H) {p : Addr} {xs ys : List V} (hp : fr H m l p = some (.lst xs)) (h0 : fr H0 m l p = none) (hc : p ≠ c) : Wd T m c l cs ls n H0 (upd H p (.lst ys)) := by
  obtain ⟨h1, h2, h3⟩ := fr_of hp
  refine ⟨W.mat.at h1 hc h2, fun b o e nt => ?_, fun q hq => ?_⟩
  · have nb : b ≠ p := fun z => by rw [z, h0] at e; cases e
    obtain ⟨g1, g2, g3⟩ := fr_of (W.ext b o e nt)
    exact fr_some (by rw [upd_ne nb]; exact g3) g1 g2
  · obtain ⟨ps, t1, t2, t3⟩ := W.tabs q hq
    have off : ∀ {b : Addr} {o : HO}, fr H m l b = some o → (∀ xs, o ≠ .lst xs) → fr (upd H p (.lst ys)) m l b = some o := fun {b o} e n2 => by
      have nb : b ≠ p := fun z => n2 _ (Option.some.inj (e.symm.trans (z ▸ hp)))
      obtain ⟨g1, g2, g3⟩ := fr_of e
      exact fr_some (by rw [upd_ne nb]; exact g3) g1 g2
    refine ⟨ps, off t1 (fun _ z => by cases z), t2, fun pos cv hc => ?_⟩
    obtain ⟨c0, e1, e2⟩ := t3 pos cv hc
    exact ⟨c0, e1, off e2 (fun _ z => by unfold CodeO at z; cases z)⟩
end
theorem sqT_put {K : PySem.W.Frag} {H : Hp} {q p : Addr} {xs zs : List V} {o : HO} (h : SqT K H q xs) (hp : H p = some (.lst zs)) : SqT K (upd H p o) q xs := by
  have off : ∀ {b : Addr} {u : HO}, H b = some u → (∀ xs, u ≠ .lst xs) → upd H p o b = some u := fun {b u} e n => by
    rw [upd_ne fun z => n _ (Option.some.inj (e.symm.trans (z ▸ hp)))]
    exact e
  rcases h with h | h
  · refine .inl ?_
    rcases h with h | ⟨u, h⟩
    · exact .inl (off h fun _ z => by cases z)
    · exact .inr ⟨u, off h fun _ z => by cases z⟩
  · exact .inr h
theorem sqL_extN {K : PySem.W.Frag} {H H' : Hp} {a : Addr} {xs : List V} (h : SqL K H a xs) (s : ExtN H H') : SqL K H' a xs := by
  rcases h with h | h
  · refine .inl ?_
    rcases h with h | ⟨o, h⟩
    · exact .inl (s _ _ h fun _ z => by cases z)
    · exact .inr ⟨o, s _ _ h fun _ z => by cases z⟩
  · exact .inr h
mutual
theorem dp_extN {K : PySem.W.Frag} {H H' : Hp} (s : ExtN H H') : ∀ {v : V} {d : PyData}, Dp K H v d → Dp K H' v d
  | _, _, .non => .non
  | _, _, .bl b => .bl b
  | _, _, .int i => .int i
  | _, _, .str x => .str x
  | _, _, .lst h a => .lst (sqL_extN h s) (dpAll_extN s a)
  | _, _, .tup h a => .tup (sqT_extN h s) (dpAll_extN s a)
theorem dpAll_extN {K : PySem.W.Frag} {H H' : Hp} (s : ExtN H H') : ∀ {vs : List V} {ds : List PyData}, DpAll K H vs ds → DpAll K H' vs ds
  | _, _, .nil => .nil
  | _, _, .cons a b => .cons (dp_extN s a) (dpAll_extN s b)
end
end RU
set_option Elab.async false
set_option linter.all false
set_option maxRecDepth 100000
set_option maxHeartbeats 4000000
namespace RU
open PySem L2 L2H DQ K01 EnT LamX LamD RZ
open XH hiding same_refl same_trans same_new
def isSo : PyData → Bool | .int i => decide (0 ≤ i) | _ => false
def kd : List PyData := [.int (-1), .int 0, .int 1, .int 2, .int 3, .bool true, .none, .str "0"]
def kv : List V := [.int (-1), .int 0, .int 1, .int 2, .int 3, .bl true, .non, .str "0"]
theorem kd_ok : ∀ d ∈ kd, PlOk d := by
  have z : kd.all plB = true := by decide +kernel
  exact fun d hd => pl_ok (List.all_eq_true.mp z d hd)
theorem kd_dq {H : Hp} : DqAll H kv kd := .cons (.int _) (.cons (.int _) (.cons (.int _) (.cons (.int _) (.cons (.int _) (.cons (.bl _) (.cons .non (.cons (.str _ (by decide +kernel)) .nil)))))))
theorem num_so (d : PyData) (n : Nat) : numB d (n : Int) = (isSo d && decide (numOf d < n)) := by
  cases d with
  | int i =>
    show (decide (0 ≤ i) && decide (i < (n : Int))) = (decide (0 ≤ i) && decide (i.toNat < n))
    by_cases h : 0 ≤ i
    · rw [decide_eq_true h, Bool.true_and, Bool.true_and]
      exact decide_eq_decide.mpr (by omega)
    · rw [decide_eq_false h, Bool.false_and, Bool.false_and]
  | _ => rfl
theorem so_int {d : PyData} (h : isSo d = true) : d = .int ((numOf d : Nat) : Int) := by
  cases d with
  | int i =>
    have z := of_decide_eq_true (show decide (0 ≤ i) = true from h)
    show PyData.int i = .int ((i.toNat : Nat) : Int)
    rw [Int.toNat_of_nonneg z]
  | _ => cases h
def less (ds : List PyData) (j : Nat) : List PyData := ds.take j ++ ds.drop (j + 1)
theorem less_len {ds : List PyData} {j : Nat} (h : j < ds.length) : (less ds j).length + 1 = ds.length := by
  unfold less
  rw [List.length_append, List.length_take, List.length_drop]
  omega
theorem less_mem {ds : List PyData} {j : Nat} {x : PyData} (h : x ∈ less ds j) : x ∈ ds := by
  rcases List.mem_append.mp h with z | z
  · exact List.mem_of_mem_take z
  · exact List.mem_of_mem_drop z
def dOE (es ss : List PyData) (d : PyData) : (PyData ⊕ PyData) ⊕ (List PyData × List PyData) := if isSo d = true ∧ numOf d < es.length ∧ 1 < es.length then .inr (less es (numOf d), ss) else .inl (.inr d)
def dOS (es ss : List PyData) (d : PyData) : (PyData ⊕ PyData) ⊕ (List PyData × List PyData) := if isSo d = true ∧ numOf d < ss.length then .inr (es, less ss (numOf d)) else .inl (.inr d)
theorem due_oe {es ss : List PyData} {d : PyData} (h : SH es ss) : dueOE es ss d = dOE es ss d := by
  unfold dueOE dOE
  rw [num_so]
  have l1 := h.l1
  by_cases c : isSo d = true ∧ numOf d < es.length ∧ 1 < es.length
  · have ll := less_len c.2.1
    rw [if_pos c, c.1, Bool.true_and, decide_eq_true c.2.1, decide_eq_false (by omega : ¬ es.length = 1), if_neg (by simp)]
    have e := dueR_tups (es := less es (numOf d)) (ss := ss) (by omega) (fun x hx => h.e x (less_mem hx)) h.s
    unfold less at e
    rw [e, if_pos ⟨by have := h.l3; unfold less at ll; omega, h.m3⟩]
    rfl
  · rw [if_neg c, if_pos]
    by_cases c1 : es.length = 1
    · rw [decide_eq_true c1, Bool.true_or]
    · rw [decide_eq_false c1, Bool.false_or]
      cases hs : isSo d with
      | false => rfl
      | true =>
        rw [Bool.true_and, decide_eq_false (fun z => c ⟨hs, z, by omega⟩)]
        rfl
theorem due_os {es ss : List PyData} {d : PyData} (h : SH es ss) : dueOS es ss d = dOS es ss d := by
  unfold dueOS dOS
  rw [num_so]
  by_cases c : isSo d = true ∧ numOf d < ss.length
  · have ll := less_len c.2
    rw [if_pos c, c.1, Bool.true_and, decide_eq_true c.2, if_neg (by simp)]
    have e := dueR_tups (es := es) (ss := less ss (numOf d)) h.l1 h.e (fun x hx => h.s x (less_mem hx))
    unfold less at e
    rw [e, if_pos ⟨h.l3, by have := h.m3; unfold less at ll; omega⟩]
    rfl
  · rw [if_neg c, if_pos]
    cases hs : isSo d with
    | false => rfl
    | true =>
      rw [Bool.true_and, decide_eq_false (fun z => c ⟨hs, z⟩)]
      rfl
theorem dOE_ok {es ss : List PyData} {d : PyData} (h : SH es ss) (hd : PlOk d) : dueOk (dOE es ss d) := by
  unfold dOE
  split
  · exact ⟨fun x hx => h.pe x (less_mem hx), h.ps⟩
  · exact hd
theorem dOS_ok {es ss : List PyData} {d : PyData} (h : SH es ss) (hd : PlOk d) : dueOk (dOS es ss d) := by
  unfold dOS
  split
  · exact ⟨h.pe, fun x hx => h.ps x (less_mem hx)⟩
  · exact hd
end RU
set_option Elab.async false
set_option linter.all false
set_option maxRecDepth 100000
set_option maxHeartbeats 8000000
namespace RU
open PySem L2 L2H DQ K01 EnT LamX LamD RZ
open XH hiding same_refl same_trans same_new
def ForW (J : It) (g : TG) (tb : TS) (D : Ends) (σ : L2.St) (H : Hp) : Prop := ∃ W : Nat → Nat → L2.St → Hp → Prop, (∃ m, W 0 m σ H) ∧ ∀ i m σ H, W i m σ H →
  (J.stop i H ∧ D.nx σ H) ∨ (J.go i H ∧ ∃ N : L2.St → Hp → Prop, (∀ σ' H', N σ' H' → ∃ m', m' < m ∧ W (i + 1) m' σ' H') ∧ ∀ x H', J.yld i H x H' → g x σ H' fun σ2 H2 => tb { D with nx := N, ct := N, bk := D.nx } σ2 H2)
theorem ForW.it {J : It} {n : Nat} {G : Hp → Prop} {Y : Nat → Hp → V → Hp → Prop} {g : TG} {tb : TS} {D : Ends} {σ : L2.St} {H : Hp} (w : Walk J n G Y) (Pv : Nat → L2.St → Hp → Prop) (h0 : Pv 0 σ H) (hG : ∀ i σ H, i ≤ n → Pv i σ H → G H)
    (hs : ∀ i x σ H H', i < n → Pv i σ H → Y i H x H' → g x σ H' fun σ2 H2 => tb { D with nx := Pv (i + 1), ct := Pv (i + 1), bk := D.nx } σ2 H2) (hd : ∀ σ H, Pv n σ H → D.nx σ H) : ForW J g tb D σ H := for_it w Pv h0 hG hs hd
theorem for_tupA {K : PySem.W.Frag} {te : TE} {g : TG} {tb : TS} {D : Ends} {σ : L2.St} {H : Hp} (h : te σ H fun x H1 => ∃ a, x = .ref a ∧ (∃ xs, SqT K H1 a xs) ∧ ForW (Itt K a) g tb D σ H1) : tFor (iTup K te) g tb D σ H := h
def off (H : Hp) (p : Addr) : Hp := fun b => if b = p then none else H b
theorem off_same {H : Hp} {p : Addr} : Same (off H p) H := fun b o e => by
  unfold off at e
  split at e
  · cases e
  · exact e
theorem off_mono {H H' : Hp} {p : Addr} (s : Same H H') : Same (off H p) (off H' p) := fun b o e => by
  unfold off at e ⊢
  split at e
  · cases e
  · rename_i h
    rw [if_neg h]
    exact s _ _ e
theorem off_put {H : Hp} {p : Addr} {o : HO} : off (upd H p o) p = off H p := by
  funext b
  unfold off
  by_cases h : b = p
  · rw [if_pos h, if_pos h]
  · rw [if_neg h, if_neg h, upd_ne h]
theorem off_new {H : Hp} {p : Addr} (h : H p = none) {o : HO} : Same H (off (upd H p o) p) := fun b u e => by
  unfold off
  have nb : b ≠ p := fun z => by rw [z, h] at e; cases e
  rw [if_neg nb, upd_ne nb]
  exact e
theorem off_at {H : Hp} {p q : Addr} {o : HO} (h : H q = some o) (n : q ≠ p) : off H p q = some o := by
  unfold off
  rw [if_neg n]
  exact h
theorem dp_same {K : PySem.W.Frag} {H H' : Hp} {v : V} {d : PyData} (h : Dp K H v d) (s : Same H H') : Dp K H' v d := dp_extN (extN_same s) h
theorem sqT_off {K : PySem.W.Frag} {H : Hp} {q p : Addr} {xs zs : List V} (h : SqT K H q xs) (hp : H p = some (.lst zs)) : SqT K (off H p) q xs := by
  have g : ∀ {b : Addr} {u : HO}, H b = some u → (∀ xs, u ≠ .lst xs) → off H p b = some u := fun {b u} e n => off_at e fun z => n _ (Option.some.inj (e.symm.trans (z ▸ hp)))
  rcases h with h | h
  · refine .inl ?_
    rcases h with h | ⟨u, h⟩
    · exact .inl (g h fun _ z => by cases z)
    · exact .inr ⟨u, g h fun _ z => by cases z⟩
  · exact .inr h
theorem tcb_of {r : List V → Hp → VK → Prop} {ta : TA} {σ : L2.St} {H : Hp} {Q : VK} (h : ta σ H fun xs H1 => r xs H1 Q) : tCB r ta σ H Q := h
theorem top_of {r : R2} {ta tb : TE} {σ : L2.St} {H : Hp} {Q : VK} (h : ta σ H fun x H1 => tb σ H1 fun y H2 => r x y H2 Q) : tOp r ta tb σ H Q := h
theorem tif_of {t : TT} {ta tb : TE} {σ : L2.St} {H : Hp} {Q : VK} (h : t σ H fun c H1 => if c = true then ta σ H1 Q else tb σ H1 Q) : tIf t ta tb σ H Q := h
theorem tasg_of {te : TE} {g : TG} {D : Ends} {σ : L2.St} {H : Hp} (h : te σ H fun v H1 => g v σ H1 D.nx) : tAsg te g D σ H := h
theorem ifne_of {K : PySem.W.Frag} {ta : TA} {tv : TE} {t e : TS} {D : Ends} {σ : L2.St} {H : Hp} (h : ta σ H fun xs H1 => xs.length ≤ sizeLine ∧ ∀ p, H1 p = none → tv σ (upd H1 p (.lst xs)) fun y H2 => rNeD K (.ref p) y H2 fun z H3 => ∃ k, z = .bl k ∧ (if k = true then t D σ H3 else e D σ H3)) :
    tIfS (tTest (tOp (rNeD K) (tLst ta) tv)) t e D σ H := h
theorem tells_cast {K : PySem.W.Frag} {Q : VK} {H : Hp} {u v : (PyData ⊕ PyData) ⊕ (List PyData × List PyData)} (e : u = v) (h : Tells K Q H v) : Tells K Q H u := by
  rw [e]
  exact h
section
variable {P : Program} {w : World} {K : PySem.W.Frag} {mg : Str → Option Value} {base : Heap}
theorem ok_fur {f fT fY fBe fTr fBo C CB CN fTo cc PP : Addr} {fd dT dY dBe dTr dBo dTo : FuncData} {T : List (Addr × Str)} (F : Fun K "_law_further_right" "_law_further_right" sFur f fd) (hcd : fd.code = .ref cc) (TB : TabB base mg cc PP) (hmT : (PP, qFu) ∈ T) (huT : ∀ p ∈ T, p.1 = PP → p.2 = qFu)
    (R : RX P w K mg base C CB CN fTo dTo)
    (FT : Fun K "_law_tree" "_law_tree" sTree fT dT) (bT : Binds K dT ["m", "size", "deep"] []) (gT : mg "_law_tree" = some (.ref fT)) (GT : FnOk P w K mg base CX0 5 fT dT ["m", "size", "deep"] (spTr 2))
    (FY : Fun K "_law_body" "_law_body" sBody fY dY) (bY : Binds K dY ["m", "size"] []) (gY : mg "_law_body" = some (.ref fY)) (GY : FnOk P w K mg base CX0 7 fY dY ["m", "size"] spBy)
    (FE : Fun K "_law_bent" "_law_bent" sBent fBe dBe) (bE : Binds K dBe ["m", "thing"] []) (gE : mg "_law_bent" = some (.ref fBe)) (GE : FnOk P w K mg base CX0 16 fBe dBe ["m", "thing"] (spBe (10 ^ 30) 12))
    (FTr : Fun K "is_tree" "is_tree" sTr fTr dTr) (bTr : Binds K dTr ["thing"] []) (gTr : mg "is_tree" = some (.ref fTr)) (GTr : FnOk P w K mg base CX0 11 fTr dTr ["thing"] (spB (shape 0)))
    (FBo : Fun K "is_body" "is_body" sBo fBo dBo) (bBo : Binds K dBo ["thing"] []) (gBo : mg "is_body" = some (.ref fBo)) (GBo : FnOk P w K mg base CX0 11 fBo dBo ["thing"] (spB (shape 1))) :
    FnGs P w K mg base 17 f fd ["m", "ends", "steps", "one"] (spFu T K C) := by
  refine fnGs_of (k := 16) F scFu (fun A outer s H vs Q E hr hg h => ?_)
  obtain ⟨m, c, l, eL, sL, a, cs, ls, n, xs, ys, es, ss, rfl, M, hn, sy, tb, hE, qE, hS, qS, eS, rA, kk⟩ := h
  have hu : (A.deeper (PyProof.Rows.envOfC "_law_further_right" (defScope sFur) s.heap.objs.size f fd.code)).units + 100 < cLine := by have := hr.un; omega
  have hu2 : (A.deeper (PyProof.Rows.envOfC "_law_further_right" (defScope sFur) s.heap.objs.size f fd.code)).units + 64 < cLine := by omega
  have hg' : (A.deeper (PyProof.Rows.envOfC "_law_further_right" (defScope sFur) s.heap.objs.size f fd.code)).guards = some [] := hg
  obtain ⟨f1, d1, x1, m1, b1, g1⟩ := R.we
  obtain ⟨f2, d2, x2, m2, b2, g2⟩ := R.ws
  obtain ⟨f3, d3, x3, m3, b3, g3⟩ := R.oe
  obtain ⟨f4, d4, x4, m4, b4, g4⟩ := R.os
  refine ⟨_, pss_cons (ps_par rfl scFu.nd (i := 4) (j := 5) rfl rfl (by decide) rfl rfl
        (pa_cons (pe_call GT (hr.mono (by decide)) (by rfl) gT FT.kp bT .nil pass0 (pa_cons (pv 0) (pa_cons pe_int (pa_cons pe_int pa_nil)))) (pa_cons (pe_call GY (hr.mono (by decide)) (by rfl) gY FY.kp bY .nil pass0 (pa_cons (pv 0) (pa_cons pe_int pa_nil))) pa_nil)) rfl)
    (pss_cons (ps_for PassesOwn.never rfl (pi_tup (pe_tup (pa_cons (pv 4) (pa_cons (pv 5) (pa_cons pe_non (pa_cons (pe_call GE hr (by rfl) gE FE.kp bE .nil pass0 (pa_cons (pv 0) (pa_cons (pv 4) pa_nil))) (pa_cons (pe_call GE hr (by rfl) gE FE.kp bE .nil pass0 (pa_cons (pv 0) (pa_cons (pv 5) pa_nil))) pa_nil)))))))
        (pg_name (i := 6) scFu.nd rfl (Or.inr rfl))
        (pss_cons (ps_set (i := 7) scFu.nd rfl (Or.inl rfl) (pe_lst (pa_cons (pe_tup (pa_cons pe_str (pa_cons (pe_callB (call_reprX hg' hu) (by rfl) R.repr brepr (pa_cons (pe_tup (pa_cons pe_str (pa_cons (pe_callB call_len_seq (by rfl) R.tr.len PySem.boot_len (pa_cons (pv 1) pa_nil)) pa_nil))) pa_nil)) pa_nil)))
            (pa_cons (pe_tup (pa_cons pe_str (pa_cons (pe_callB (call_reprX hg' hu) (by rfl) R.repr brepr (pa_cons (pe_tup (pa_cons pe_str (pa_cons (pe_callB call_len_seq (by rfl) R.tr.len PySem.boot_len (pa_cons (pv 2) pa_nil)) pa_nil))) pa_nil)) pa_nil))) pa_nil))))
        (C8.pss_cut (ps_if (pt_val (pe_call GTr (hr.mono (by decide)) (by rfl) gTr FTr.kp bTr .nil pass0 (pa_cons (pv 6) pa_nil)))
          (pss_one (ps_asg (pe_ifExp (pt_cmpR op_lt (pe_callB call_len_seq (by rfl) R.tr.len PySem.boot_len (pa_cons (pv 1) pa_nil)) pe_int (by rfl))
            (pe_tup (pa_cons (pe_op op_catG (pe_callTy call_tuple_of (by rfl) R.tr.tuple btup (pa_cons (pv 1) pa_nil)) (pe_tup (pa_cons (pv 6) pa_nil))) (pa_cons (pe_callTy call_tuple_of (by rfl) R.tr.tuple btup (pa_cons (pv 2) pa_nil)) pa_nil)))
            (pe_tup (pa_cons pe_str (pa_cons pe_str pa_nil)))) (pg_sub (pv 7) pe_int set_list))) pss_nil)
        (C8.pss_cut (ps_if (pt_val (pe_call GBo (hr.mono (by decide)) (by rfl) gBo FBo.kp bBo .nil pass0 (pa_cons (pv 6) pa_nil)))
          (pss_one (ps_asg (pe_ifExp (pt_cmpR op_lt (pe_callB call_len_seq (by rfl) R.tr.len PySem.boot_len (pa_cons (pv 2) pa_nil)) pe_int (by rfl))
            (pe_tup (pa_cons (pe_callTy call_tuple_of (by rfl) R.tr.tuple btup (pa_cons (pv 1) pa_nil)) (pa_cons (pe_op op_catG (pe_callTy call_tuple_of (by rfl) R.tr.tuple btup (pa_cons (pv 2) pa_nil)) (pe_tup (pa_cons (pv 6) pa_nil))) pa_nil)))
            (pe_tup (pa_cons pe_str (pa_cons pe_str pa_nil)))) (pg_sub (pv 7) pe_int set_list))) pss_nil)
        (pss_one (ps_if (pt_cmpR (op_neD hu2) (pe_lst (pa_cons
            (pe_told (T := T) (C := C) (CB := CB) (CN := CN) (k := 14) R.fto R.bto rfl R.gto hg' R.gB R.gN R.repr R.rB R.rN R.two R.cl R.n1 R.n2 TB hcd hmT huT hr (lamS_by (sc := defScope sFur) (by decide +kernel)) rfl (fun _ _ _ _ _ => rfl)
              (fun A2 o2 s2 H2 E2 f2 c2 hr2 => pe_meth (pv 3) R.cl m1 g1 hr2 b1 .nil (passes_call (takes_of rfl rfl rfl rfl) fun _ _ _ _ h => h) (pa_cons (pv 6) pa_nil)))
            (pa_cons (pe_toldD (T := T) (C := C) (CB := CB) (CN := CN) (k := 14) (y := "x") R.fto R.bto rfl R.gto hg' R.gB R.gN R.repr R.rB R.rN R.two R.cl R.n1 R.n2 TB hcd hmT huT hr (lamP_by (N := nFu) (sc := defScope sFur) (by decide +kernel)) rfl rfl (fun _ _ _ _ _ _ _ => ⟨_, rfl, fun _ => rfl⟩)
              (fun A2 o2 s2 H2 E2 f2 c2 hr2 => pe_meth (pv 3) R.cl m2 g2 hr2 b2 .nil (passes_call (takes_of rfl rfl rfl rfl) fun _ _ _ _ h => h) (pa_cons (pv 6) pa_nil))) pa_nil))) (pv 7) (by rfl))
          (pss_one (ps_ret pe_bl)) pss_nil))))))
    (pss_cons (ps_for PassesOwn.never rfl (pi_tup (pe_tup (pa_cons (pe_un un_neg pe_int) (pa_cons pe_int (pa_cons pe_int (pa_cons pe_int (pa_cons pe_int (pa_cons pe_bl (pa_cons pe_non (pa_cons pe_str pa_nil))))))))))
        (pg_name (i := 8) scFu.nd rfl (Or.inr rfl))
        (C8.pss_cut (ps_set (i := 9) scFu.nd rfl (Or.inl rfl) (pe_and (pe_callB call_isi (by rfl) R.tr.isi bisi (pa_cons (pv 8) (pa_cons (pe_bltn (v := .ty "int") (by rfl) R.tr.int bintT rfl) pa_nil))) (pe_and (pe_not (pe_callB call_isi (by rfl) R.tr.isi bisi (pa_cons (pv 8) (pa_cons (pe_bltn (v := .ty "bool") (by rfl) R.bool bboolT rfl) pa_nil)))) (pe_one (pe_cmpR op_ge (pv 8) pe_int (by rfl))))))
        (pss_cons (ps_set (i := 7) scFu.nd rfl (Or.inl rfl) (pe_op op_rep (pe_lst (pa_cons (pe_tup (pa_cons pe_str (pa_cons (pe_callB (call_reprX hg' hu) (by rfl) R.repr brepr (pa_cons (pv 8) pa_nil)) pa_nil))) pa_nil)) pe_int))
        (C8.pss_cut (ps_if (PW.pt (pw_and (pt_val (pv 9)) (pw_and (pt_cmpR op_lt (pv 8) (pe_callB call_len_seq (by rfl) R.tr.len PySem.boot_len (pa_cons (pv 1) pa_nil)) (by rfl)) (pw_and1 (pt_cmpR op_gt (pe_callB call_len_seq (by rfl) R.tr.len PySem.boot_len (pa_cons (pv 1) pa_nil)) pe_int (by rfl))))))
          (pss_one (ps_asg (pe_tup (pa_cons (pe_callTy call_tuple_of (by rfl) R.tr.tuple btup (pa_cons (pe_op op_cat (pe_slice sl_list (pv 1) po_none (po_some (pv 8))) (pe_slice sl_list (pv 1) (po_some (pe_op op_add (pv 8) pe_int)) po_none)) pa_nil)) (pa_cons (pe_callTy call_tuple_of (by rfl) R.tr.tuple btup (pa_cons (pv 2) pa_nil)) pa_nil))) (pg_sub (pv 7) pe_int set_list))) pss_nil)
        (C8.pss_cut (ps_if (PW.pt (pw_and (pt_val (pv 9)) (pw_and1 (pt_cmpR op_lt (pv 8) (pe_callB call_len_seq (by rfl) R.tr.len PySem.boot_len (pa_cons (pv 2) pa_nil)) (by rfl)))))
          (pss_one (ps_asg (pe_tup (pa_cons (pe_callTy call_tuple_of (by rfl) R.tr.tuple btup (pa_cons (pv 1) pa_nil)) (pa_cons (pe_callTy call_tuple_of (by rfl) R.tr.tuple btup (pa_cons (pe_op op_cat (pe_slice sl_list (pv 2) po_none (po_some (pv 8))) (pe_slice sl_list (pv 2) (po_some (pe_op op_add (pv 8) pe_int)) po_none)) pa_nil)) pa_nil))) (pg_sub (pv 7) pe_int set_list))) pss_nil)
        (pss_one (ps_if (pt_cmpR (op_neD hu2) (pe_lst (pa_cons
            (pe_told (T := T) (C := C) (CB := CB) (CN := CN) (k := 14) R.fto R.bto rfl R.gto hg' R.gB R.gN R.repr R.rB R.rN R.two R.cl R.n1 R.n2 TB hcd hmT huT hr (lamS_by (sc := defScope sFur) (by decide +kernel)) rfl (fun _ _ _ _ _ => rfl)
              (fun A2 o2 s2 H2 E2 f2 c2 hr2 => pe_meth (pv 3) R.cl m3 g3 hr2 b3 .nil (passes_call (takes_of rfl rfl rfl rfl) fun _ _ _ _ h => h) (pa_cons (pv 8) pa_nil)))
            (pa_cons (pe_toldD (T := T) (C := C) (CB := CB) (CN := CN) (k := 14) (y := "x") R.fto R.bto rfl R.gto hg' R.gB R.gN R.repr R.rB R.rN R.two R.cl R.n1 R.n2 TB hcd hmT huT hr (lamP_by (N := nFu) (sc := defScope sFur) (by decide +kernel)) rfl rfl (fun _ _ _ _ _ _ _ => ⟨_, rfl, fun _ => rfl⟩)
              (fun A2 o2 s2 H2 E2 f2 c2 hr2 => pe_meth (pv 3) R.cl m4 g4 hr2 b4 .nil (passes_call (takes_of rfl rfl rfl rfl) fun _ _ _ _ h => h) (pa_cons (pv 8) pa_nil))) pa_nil))) (pv 7) (by rfl))
          (pss_one (ps_ret pe_bl)) pss_nil)))))))
    (pss_one (ps_ret pe_bl)))), ?_⟩
  refine ⟨_, rfl, m, c, l, cs, ls, n, 3, rfl, M, ?_, by decide, by decide, fun r1 t1 q1 H1 l1 ls1 n1 M1 nn1 s1 dq1 tc1 hq1 => ⟨_, rfl, m, c, l1, cs, ls1, n1, 3, rfl, M1, ?_, by decide, by decide, fun r2 t2 q2 H2 l2 ls2 n2 M2 nn2 s2 dq2 tp2 hq2 => ?_⟩⟩
  · show n + 178 ≤ 1000000000
    omega
  · have z : n1 ≤ n + 178 := nn1
    omega
  have nn1' : n1 ≤ n + 178 := nn1
  obtain ⟨bg1, bs1, bd1⟩ := tc1.bound
  obtain ⟨bg2, bs2, bd2⟩ := tp2.tc.bound
  have gm : ∀ {d : PyData}, gd 0 d = true → gd (10 ^ 30) d = true := fun h => gd_mono (Nat.zero_le _) _ h
  refine ⟨_, _, rfl, ?_⟩
  unfold tSeq
  dsimp only
  refine for_tupA ?_
  refine ⟨_, rfl, _, rfl, _, rfl, _, rfl, m, c, l2, cs, ls2, n2, r1, t1, rfl, M2, by omega, dq1.same s2.1, gm bg1, by omega, by omega, fun r3 t3 H3 l3 ls3 n3 M3 nn3 s3 dq3 bn3 => ?_⟩
  refine ⟨_, rfl, _, rfl, m, c, l3, cs, ls3, n3, r2, t2, rfl, M3, by omega, dq2.same s3.1, gm bg2, by omega, by omega, fun r4 t4 H4 l4 ls4 n4 M4 nn4 s4 dq4 bn4 => ⟨by show 5 ≤ sizeLine; decide, fun p0 np0 => ⟨p0, rfl, ⟨_, SqT.of upd_same⟩, ?_⟩⟩⟩
  obtain ⟨G5, k5, e5⟩ := (Gw.mk (H := H4) M4 .refl).new (o := .tup [r1, r2, .non, r3, r4]) np0
  have sA : Same (fr H m l) (fr (upd H4 p0 (.tup [r1, r2, .non, r3, r4])) m l4) := same_trans s1.1 (same_trans s2.1 (same_trans s3.1 (same_trans s4.1 k5)))
  have qT : DqAll (fr (upd H4 p0 (.tup [r1, r2, .non, r3, r4])) m l4) [r1, r2, .non, r3, r4] [t1, t2, .none, t3, t4] :=
    .cons (dq1.same (same_trans s2.1 (same_trans s3.1 (same_trans s4.1 k5)))) (.cons (dq2.same (same_trans s3.1 (same_trans s4.1 k5))) (.cons .non (.cons (dq3.same (same_trans s4.1 k5)) (.cons (dq4.same k5) .nil))))
  have M5 := G5.mat
  have n4b : n4 ≤ n + 178 + 700 + 240 := by omega
  generalize upd H4 p0 (.tup [r1, r2, .non, r3, r4]) = H5 at sA qT M5 e5 G5 k5 ⊢
  have sh := sh_of eS
  have W5 : Wd T m c l4 cs ls4 n4 H5 H5 := ⟨M5, fun _ _ e _ => e, tb.ext sA⟩
  refine ForW.it (walk_tup (xs := [r1, r2, .non, r3, r4])) (fun i σ' H' => ∃ w6 w7, σ' = [some (.ref m), some (.ref eL), some (.ref sL), some (.ref a), some r1, some r2, w6, w7, none, none] ∧ Wd T m c l4 cs ls4 n4 H5 H') ⟨_, _, rfl, W5⟩
    (fun i σ' H' _ ⟨_, _, _, W⟩ => SqT.of (fr_of (W.ext _ _ e5 fun _ z => by cases z)).2.2) ?_ ?_
  · rintro i y σ' Hx Hb hi ⟨w6, w7, rfl, W⟩ ⟨rfl, hy⟩
    obtain ⟨d, hd⟩ : ∃ d, [t1, t2, PyData.none, t3, t4][i]? = some d := ⟨_, List.getElem?_eq_getElem (show i < [t1, t2, PyData.none, t3, t4].length from hi)⟩
    obtain ⟨y', hy', qd⟩ := qT.at hd
    replace hy : [r1, r2, V.non, r3, r4][i]? = some y := hy
    rw [hy] at hy'
    obtain rfl : y = y' := Option.some.inj hy'
    have EB : ExtN (fr H m l) (fr Hb m l4) := extN_trans (extN_same sA) W.ext
    have bE : Hb eL = some (.lst xs) := fr_same _ _ (EB _ _ hE fun _ z => by cases z)
    have bS : Hb sL = some (.lst ys) := fr_same _ _ (EB _ _ hS fun _ z => by cases z)
    have bqE : DqAll Hb xs es := (qE.extN EB).same fr_same
    have bqS : DqAll Hb ys ss := (qS.extN EB).same fr_same
    have bR : RulesAt K Hb a C es ss := (rA.extN EB).same fr_same
    have bY : Sys Hb := (sys_extN sy EB).same fr_same
    have bd : Dq Hb y d := (qd.extN W.ext).same fr_same
    have lx : xs.length = es.length := bqE.len
    have ly : ys.length = ss.length := bqS.len
    have x3 : xs.length ≤ 3 := by have := sh.l3; omega
    have y3 : ys.length ≤ 3 := by have := sh.m3; omega
    have okE := pl_end x3
    have okS := pl_step y3
    refine ⟨_, rfl, eL, xs, rfl, .inl (SqL.of bE), by show 2 ≤ sizeLine; decide, fun p1 np1 => ?_⟩
    have u1 := same_new (o := .tup [.str "end", .int (xs.length : Int)]) np1
    refine ⟨.ref p1, .tuple [.str "end", .int (xs.length : Int)], rfl, bY.same u1, .tup upd_same (.cons (.str _ (by decide +kernel)) (.cons (.int _) .nil)), okE.1, okE.2.1, okE.2.2.1, by show 2 ≤ sizeLine; decide, fun p2 np2 => ?_⟩
    have u2 := same_trans u1 (same_new (o := .tup [.str "rules", .str (PyData.shown (.tuple [.str "end", .int (xs.length : Int)]))]) np2)
    refine ⟨_, rfl, sL, ys, rfl, .inl (SqL.of (u2 _ _ bS)), by show 2 ≤ sizeLine; decide, fun p3 np3 => ?_⟩
    have u3 := same_new (o := .tup [.str "step", .int (ys.length : Int)]) np3
    refine ⟨.ref p3, .tuple [.str "step", .int (ys.length : Int)], rfl, (bY.same u2).same u3, .tup upd_same (.cons (.str _ (by decide +kernel)) (.cons (.int _) .nil)), okS.1, okS.2.1, okS.2.2.1, by show 2 ≤ sizeLine; decide, fun p4 np4 => ?_⟩
    have u4 := same_trans u3 (same_new (o := .tup [.str "rules", .str (PyData.shown (.tuple [.str "step", .int (ys.length : Int)]))]) np4)
    refine ⟨by show 2 ≤ sizeLine; decide, fun pl npl => ?_⟩
    have sC := same_trans u2 u4
    have e2 := u4 _ _ (upd_same (H := upd Hb p1 (.tup [.str "end", .int (xs.length : Int)])) (a := p2) (o := .tup [.str "rules", .str (PyData.shown (.tuple [.str "end", .int (xs.length : Int)]))]))
    have e4 := upd_same (H := upd (upd (upd Hb p1 (.tup [.str "end", .int (xs.length : Int)])) p2 (.tup [.str "rules", .str (PyData.shown (.tuple [.str "end", .int (xs.length : Int)]))])) p3 (.tup [.str "step", .int (ys.length : Int)])) (a := p4) (o := .tup [.str "rules", .str (PyData.shown (.tuple [.str "step", .int (ys.length : Int)]))])
    generalize upd (upd (upd (upd Hb p1 (.tup [.str "end", .int (xs.length : Int)])) p2 (.tup [.str "rules", .str (PyData.shown (.tuple [.str "end", .int (xs.length : Int)]))])) p3 (.tup [.str "step", .int (ys.length : Int)])) p4 (.tup [.str "rules", .str (PyData.shown (.tuple [.str "step", .int (ys.length : Int)]))]) = Hc at npl sC e2 e4 ⊢
    have cE := sC _ _ bE
    have cS := sC _ _ bS
    have cqE := bqE.same sC
    have cqS := bqS.same sC
    have cd := bd.same sC
    refine ⟨fun σ' H' => ∃ x, σ' = [some (.ref m), some (.ref eL), some (.ref sL), some (.ref a), some r1, some r2, some y, some (.ref pl), none, none] ∧ Same Hc (off H' pl) ∧ H' pl = some (.lst [.ref x, .ref p4]) ∧ Dp K (off H' pl) (.ref x) (tdOf (dWE es ss d)), ?_, ?_⟩
    · refine ⟨_, rfl, y, d, rfl, cd.same (same_new npl), fun H7 s7 => ⟨_, rfl, ?_⟩⟩
      have O7 : Same Hc (off H7 pl) := same_trans (off_new npl) (off_mono s7)
      have c7 : Same Hc H7 := same_trans O7 off_same
      have L7 : H7 pl = some (.lst [.ref p2, .ref p4]) := s7 _ _ upd_same
      cases hs : shape 0 d with
      | false =>
        refine iteF (nx_go ⟨p2, rfl, O7, L7, ?_⟩)
        unfold dWE
        rw [if_neg (by rw [hs]; exact Bool.false_ne_true), ← lx]
        exact dp_two (O7 _ _ e2)
      | true =>
        refine iteT (tasg_of (tif_of ⟨_, rfl, eL, xs, rfl, .inl (SqL.of (c7 _ _ cE)), _, _, rfl, rfl, _, rfl, ?_⟩))
        by_cases z : xs.length < 3
        · rw [show decide ((xs.length : Int) < 3) = true from decide_eq_true (by omega)]
          refine iteT ?_
          unfold tTup
          refine tcons_of (top_of (tuple_te (fun Q' q => ⟨_, rfl, q⟩) (.inl (SqL.of (c7 _ _ cE))) fun q1 H8 s8 e8 => ?_))
          refine ⟨_, rfl, by show 1 ≤ sizeLine; decide, fun q2 nq2 => ?_⟩
          have v8 := same_trans s8 (same_new (o := .tup [y]) nq2)
          refine ⟨q1, q2, xs, [y], rfl, rfl, sqt_same e8 (same_new nq2), SqT.of upd_same, Nat.le_of_lt (small1000 (by show xs.length + 1 ≤ 1000; omega)), fun q3 H9 s9 e9 => ?_⟩
          have v9 := same_trans v8 s9
          refine tcons_of (tuple_te (fun Q' q => ⟨_, rfl, q⟩) (.inl (SqL.of (v9 _ _ (c7 _ _ cS)))) fun q4 H10 s10 e10 => ?_)
          refine ⟨by show 2 ≤ sizeLine; decide, fun q5 nq5 => ?_⟩
          have v10 := same_trans v9 (same_trans s10 (same_new (o := .tup [.ref q3, .ref q4]) nq5))
          have Lz := v10 _ _ L7
          have nq : q5 ≠ pl := fun w => by
            have w2 := (same_trans v9 s10) _ _ L7
            rw [← w, nq5] at w2
            cases w2
          have Oz : Same Hc (off (upd H10 q5 (.tup [.ref q3, .ref q4])) pl) := same_trans O7 (off_mono v10)
          refine ⟨_, rfl, pl, _, 0, 0, rfl, rfl, Lz, rfl, q5, rfl, by rw [off_put]; exact Oz, upd_same, ?_⟩
          rw [off_put]
          unfold dWE
          rw [if_pos hs, if_pos (by omega)]
          exact .tup (SqT.of (off_at upd_same nq)) (.cons (.tup (sqT_off (sqt_same e9 (same_trans s10 (same_new nq5))) Lz) (((cqE.app (.cons cd .nil)).same Oz).dp (can_of (snoc_plain sh.pe (shape_plain hs)))))
            (.cons (.tup (sqT_off (sqt_same e10 (same_new nq5)) Lz) ((cqS.same Oz).dp (can_of sh.ps))) .nil))
        · rw [show decide ((xs.length : Int) < 3) = false from decide_eq_false (by omega)]
          refine iteF ⟨by show 2 ≤ sizeLine; decide, fun q5 nq5 => ?_⟩
          have v10 := same_new (o := .tup [.str "rules", .str "None"]) nq5
          have Lz := v10 _ _ L7
          have nq : q5 ≠ pl := fun w => by
            rw [w, L7] at nq5
            cases nq5
          refine ⟨_, rfl, pl, _, 0, 0, rfl, rfl, Lz, rfl, q5, rfl, by rw [off_put]; exact same_trans O7 (off_mono v10), upd_same, ?_⟩
          rw [off_put]
          unfold dWE
          rw [if_pos hs, if_neg (by omega)]
          exact dp_two (off_at upd_same nq)
    rintro σ' H7 ⟨x, rfl, O7, L7, dx⟩
    have c6 : Same Hc H7 := same_trans O7 off_same
    refine ⟨fun σ' H' => ∃ x z, σ' = [some (.ref m), some (.ref eL), some (.ref sL), some (.ref a), some r1, some r2, some y, some (.ref pl), none, none] ∧ Same Hc (off H' pl) ∧ H' pl = some (.lst [.ref x, .ref z]) ∧ Dp K (off H' pl) (.ref x) (tdOf (dWE es ss d)) ∧ Dp K (off H' pl) (.ref z) (tdOf (dWS es ss d)), ?_, ?_⟩
    · refine ⟨_, rfl, y, d, rfl, cd.same c6, fun H8 s8' => ⟨_, rfl, ?_⟩⟩
      have O8 : Same Hc (off H8 pl) := same_trans O7 (off_mono s8')
      have c8 : Same Hc H8 := same_trans O8 off_same
      have L8 : H8 pl = some (.lst [.ref x, .ref p4]) := s8' _ _ L7
      have dx8 := dp_same dx (off_mono (p := pl) s8')
      cases hs : shape 1 d with
      | false =>
        refine iteF (nx_go ⟨x, p4, rfl, O8, L8, dx8, ?_⟩)
        unfold dWS
        rw [if_neg (by rw [hs]; exact Bool.false_ne_true), ← ly]
        exact dp_two (O8 _ _ e4)
      | true =>
        refine iteT (tasg_of (tif_of ⟨_, rfl, sL, ys, rfl, .inl (SqL.of (c8 _ _ cS)), _, _, rfl, rfl, _, rfl, ?_⟩))
        by_cases z : ys.length < 3
        · rw [show decide ((ys.length : Int) < 3) = true from decide_eq_true (by omega)]
          refine iteT ?_
          unfold tTup
          refine tcons_of (tuple_te (fun Q' q => ⟨_, rfl, q⟩) (.inl (SqL.of (c8 _ _ cE))) fun q1 H9 s9 e9 => ?_)
          refine tcons_of (top_of (tuple_te (fun Q' q => ⟨_, rfl, q⟩) (.inl (SqL.of (s9 _ _ (c8 _ _ cS)))) fun q2 H10 s10 e10 => ?_))
          refine ⟨_, rfl, by show 1 ≤ sizeLine; decide, fun q3 nq3 => ?_⟩
          have v10 := same_trans s9 (same_trans s10 (same_new (o := .tup [y]) nq3))
          refine ⟨q2, q3, ys, [y], rfl, rfl, sqt_same e10 (same_new nq3), SqT.of upd_same, Nat.le_of_lt (small1000 (by show ys.length + 1 ≤ 1000; omega)), fun q4 H11 s11 e11 => ?_⟩
          refine ⟨by show 2 ≤ sizeLine; decide, fun q5 nq5 => ?_⟩
          have v11 := same_trans v10 (same_trans s11 (same_new (o := .tup [.ref q1, .ref q4]) nq5))
          have Lz := v11 _ _ L8
          have nq : q5 ≠ pl := fun w => by
            have w2 := (same_trans v10 s11) _ _ L8
            rw [← w, nq5] at w2
            cases w2
          have Oz : Same Hc (off (upd H11 q5 (.tup [.ref q1, .ref q4])) pl) := same_trans O8 (off_mono v11)
          refine ⟨_, rfl, pl, _, 1, 1, rfl, rfl, Lz, rfl, x, q5, rfl, by rw [off_put]; exact Oz, upd_same, by rw [off_put]; exact dp_same dx8 (off_mono v11), ?_⟩
          rw [off_put]
          unfold dWS
          rw [if_pos hs, if_pos (by omega)]
          exact .tup (SqT.of (off_at upd_same nq)) (.cons (.tup (sqT_off (sqt_same e9 (same_trans s10 (same_trans (same_new nq3) (same_trans s11 (same_new nq5))))) Lz) ((cqE.same Oz).dp (can_of sh.pe)))
            (.cons (.tup (sqT_off (sqt_same e11 (same_new nq5)) Lz) (((cqS.app (.cons cd .nil)).same Oz).dp (can_of (snoc_plain sh.ps (shape_plain hs))))) .nil))
        · rw [show decide ((ys.length : Int) < 3) = false from decide_eq_false (by omega)]
          refine iteF ⟨by show 2 ≤ sizeLine; decide, fun q5 nq5 => ?_⟩
          have v10 := same_new (o := .tup [.str "rules", .str "None"]) nq5
          have Lz := v10 _ _ L8
          have nq : q5 ≠ pl := fun w => by
            rw [w, L8] at nq5
            cases nq5
          refine ⟨_, rfl, pl, _, 1, 1, rfl, rfl, Lz, rfl, x, q5, rfl, by rw [off_put]; exact same_trans O8 (off_mono v10), upd_same, by rw [off_put]; exact dp_same dx8 (off_mono v10), ?_⟩
          rw [off_put]
          unfold dWS
          rw [if_pos hs, if_neg (by omega)]
          exact dp_two (off_at upd_same nq)
    rintro σ' H8 ⟨x2, z2, rfl, O8, L8, dx2, dz2⟩
    have c8 : Same Hc H8 := same_trans O8 off_same
    have W8 := (W.same sC).same c8
    have R8 := (bR.same sC).same c8
    have Y8 := (bY.same sC).same c8
    have d8 := cd.same c8
    have le : es.length ≤ 90 := by have := sh.l3; omega
    have ls9 : ss.length ≤ 90 := by have := sh.m3; omega
    refine ifne_of (tcons_of (tells_meth (i := 3) (j := 6) rfl rfl R8 le ls9 d8 Y8 W8.tb (by decide) (by decide) fun H9 e9 t9 => tells_cast (due_we sh) (tells_of (dWE_ok sh) fun g1 H10 s10 dq1 => ?_)))
    have E10 : ExtN H8 H10 := extN_trans e9 (extN_same s10)
    have W10 := (W8.lam e9 t9).same s10
    refine tcons_of (tells_meth (i := 3) (j := 6) rfl rfl (R8.extN E10) le ls9 (d8.extN E10) (sys_extN Y8 E10) W10.tb (by decide) (by decide) fun H11 e11 t11 => tells_cast (due_ws sh) (tells_of (dWS_ok sh) fun g2 H12 s12 dq2 => ?_))
    have E12 : ExtN H10 H12 := extN_trans e11 (extN_same s12)
    have W12 := (W10.lam e11 t11).same s12
    refine ⟨by show 2 ≤ sizeLine; decide, fun pp npp => ?_⟩
    have E13 : ExtN H8 (upd H12 pp (.lst [.ref g1, .ref g2])) := extN_trans E10 (extN_trans E12 (extN_same (same_new npp)))
    refine ⟨_, rfl, .list [tdOf (dWE es ss d), tdOf (dWS es ss d)], .list [tdOf (dWE es ss d), tdOf (dWS es ss d)], .lst (SqL.of upd_same) (.cons (dp_same (dp_extN E12 dq1) (same_new npp)) (.cons (dp_same dq2 (same_new npp)) .nil)),
      .lst (SqL.of (E13 _ _ L8 fun _ w => by cases w)) (.cons (dp_extN E13 (dp_same dx2 off_same)) (.cons (dp_extN E13 (dp_same dz2 off_same)) .nil)), two_shaped (td_plain (dWE_ok sh)) (td_plain (dWS_ok sh)), two_shaped (td_plain (dWE_ok sh)) (td_plain (dWS_ok sh)), _, rfl, ?_⟩
    rw [eqv_self (two_shaped (td_plain (dWE_ok sh)) (td_plain (dWS_ok sh)))]
    exact iteF (nx_go ⟨_, _, rfl, W12.same (same_new npp)⟩)
  rintro σ' H6 ⟨w6, w7, rfl, W6⟩
  dsimp only
  refine for_tupA ?_
  refine ⟨1, rfl, by show 8 ≤ sizeLine; decide, fun pk npk => ⟨pk, rfl, ⟨_, SqT.of upd_same⟩, ?_⟩⟩
  have W7 := W6.same (same_new (o := .tup kv) npk)
  have e7 : fr (upd H6 pk (.tup kv)) m l4 pk = some (.tup kv) := ((Gw.mk (H := H6) W6.mat .refl).new npk).2.2
  refine ForW.it (walk_tup (xs := kv)) (fun i σ' H' => ∃ w6 w7 w8 w9, σ' = [some (.ref m), some (.ref eL), some (.ref sL), some (.ref a), some r1, some r2, w6, w7, w8, w9] ∧ Wd T m c l4 cs ls4 n4 (upd H6 pk (.tup kv)) H') ⟨_, _, _, _, rfl, ⟨W7.mat, fun _ _ e _ => e, W7.tabs⟩⟩
    (fun i σ' H' _ ⟨_, _, _, _, _, W⟩ => SqT.of (fr_of (W.ext _ _ e7 fun _ z => by cases z)).2.2) ?_ ?_
  · rintro i y σ' Hx Hb hi ⟨w6', w7', w8, w9, rfl, W⟩ ⟨rfl, hy⟩
    obtain ⟨d, hd⟩ : ∃ d, kd[i]? = some d := ⟨_, List.getElem?_eq_getElem (show i < kd.length from hi)⟩
    have dmem : d ∈ kd := List.mem_of_getElem? hd
    have okd := kd_ok d dmem
    obtain ⟨y', hy', bd⟩ := (kd_dq (H := Hb)).at hd
    replace hy : kv[i]? = some y := hy
    rw [hy] at hy'
    obtain rfl : y = y' := Option.some.inj hy'
    have EB : ExtN (fr H m l) (fr Hb m l4) := extN_trans (extN_same sA) (extN_trans W7.ext W.ext)
    have bE : Hb eL = some (.lst xs) := fr_same _ _ (EB _ _ hE fun _ z => by cases z)
    have bS : Hb sL = some (.lst ys) := fr_same _ _ (EB _ _ hS fun _ z => by cases z)
    have bqE : DqAll Hb xs es := (qE.extN EB).same fr_same
    have bqS : DqAll Hb ys ss := (qS.extN EB).same fr_same
    have bR : RulesAt K Hb a C es ss := (rA.extN EB).same fr_same
    have bY : Sys Hb := (sys_extN sy EB).same fr_same
    have lx : xs.length = es.length := bqE.len
    have ly : ys.length = ss.length := bqS.len
    have x3 : xs.length ≤ 3 := by have := sh.l3; omega
    have y3 : ys.length ≤ 3 := by have := sh.m3; omega
    refine ⟨fun σ' H' => σ' = [some (.ref m), some (.ref eL), some (.ref sL), some (.ref a), some r1, some r2, w6', w7', some y, some (.bl (isSo d))] ∧ H' = Hb, ?_, ?_⟩
    · refine ⟨_, rfl, y, .ty "int", _, _, _, rfl, .ty _, bd.ty, kit_ty (ki d), _, rfl, ?_⟩
      cases bd with
      | int j =>
        refine iteT ⟨_, rfl, _, .ty "bool", _, _, _, rfl, .ty _, (Dq.int (H := Hb) j).ty, kit_ty (kb _), _, rfl, _, rfl, iteT ?_⟩
        exact ⟨_, rfl, _, _, rfl, rfl, rfl, rfl⟩
      | bl b => exact iteT ⟨_, rfl, _, .ty "bool", _, _, _, rfl, .ty _, (Dq.bl (H := Hb) b).ty, kit_ty (kb _), _, rfl, _, rfl, iteF ⟨rfl, rfl⟩⟩
      | _ => exact iteF ⟨rfl, rfl⟩
    rintro σ' H' ⟨rfl, eHb⟩
    subst eHb
    refine ⟨_, rfl, y, d, rfl, bY, bd, okd.1, okd.2.1, okd.2.2.1, by show 2 ≤ sizeLine; decide, fun p1 np1 => ⟨by show 1 ≤ sizeLine; decide, fun p2 np2 => ⟨p2, 2, [.ref p1], rfl, rfl, upd_same, by decide, by decide, by show 1 * 2 ≤ sizeLine; decide, fun pl npl => ?_⟩⟩⟩
    rw [show (List.replicate (Int.toNat 2) [V.ref p1]).flatten = [V.ref p1, .ref p1] from rfl]
    have u1 := same_new (o := .tup [.str "number", .str d.shown]) np1
    have u2 := same_new (o := .lst [.ref p1]) np2
    have sC := same_trans u1 u2
    have e1 := u2 _ _ (upd_same (H := H') (a := p1) (o := .tup [.str "number", .str d.shown]))
    generalize upd (upd H' p1 (.tup [.str "number", .str d.shown])) p2 (.lst [.ref p1]) = Hc at npl sC e1 ⊢
    have cE := sC _ _ bE
    have cS := sC _ _ bS
    have cqE := bqE.same sC
    have cqS := bqS.same sC
    refine ⟨fun σ' H' => ∃ x, σ' = [some (.ref m), some (.ref eL), some (.ref sL), some (.ref a), some r1, some r2, w6', some (.ref pl), some y, some (.bl (isSo d))] ∧ Same Hc (off H' pl) ∧ H' pl = some (.lst [.ref x, .ref p1]) ∧ Dp K (off H' pl) (.ref x) (tdOf (dOE es ss d)), ?_, ?_⟩
    · have O7 : Same Hc (off (upd Hc pl (.lst [.ref p1, .ref p1])) pl) := off_new npl
      have c7 : Same Hc (upd Hc pl (.lst [.ref p1, .ref p1])) := same_trans O7 off_same
      have no : ¬ (isSo d = true ∧ numOf d < es.length ∧ 1 < es.length) → ∃ x, [some (V.ref m), some (.ref eL), some (.ref sL), some (.ref a), some r1, some r2, w6', some (.ref pl), some y, some (.bl (isSo d))] = [some (V.ref m), some (.ref eL), some (.ref sL), some (.ref a), some r1, some r2, w6', some (.ref pl), some y, some (.bl (isSo d))] ∧ Same Hc (off (upd Hc pl (.lst [.ref p1, .ref p1])) pl) ∧ (upd Hc pl (.lst [.ref p1, .ref p1])) pl = some (.lst [.ref x, .ref p1]) ∧ Dp K (off (upd Hc pl (.lst [.ref p1, .ref p1])) pl) (.ref x) (tdOf (dOE es ss d)) := fun z =>
        ⟨p1, rfl, O7, upd_same, by unfold dOE; rw [if_neg z]; exact dp_two (O7 _ _ e1)⟩
      refine ⟨_, rfl, _, rfl, ?_⟩
      cases hs : isSo d with
      | false => rw [hs] at no; exact iteF (iteF (nx_go (no fun z => nomatch z.1)))
      | true =>
        have ey : y = .int ((numOf d : Nat) : Int) := by
          rw [so_int hs] at bd
          cases bd
          rfl
        refine iteT ⟨_, rfl, _, rfl, eL, xs, rfl, .inl (SqL.of (c7 _ _ cE)), _, _, ey, rfl, _, rfl, ?_⟩
        by_cases z1 : numOf d < xs.length
        · rw [show decide (((numOf d : Nat) : Int) < (xs.length : Int)) = true from decide_eq_true (by omega)]
          refine iteT ⟨_, rfl, eL, xs, rfl, .inl (SqL.of (c7 _ _ cE)), _, _, rfl, rfl, _, rfl, ?_⟩
          by_cases z2 : 1 < xs.length
          · rw [show decide ((1 : Int) < (xs.length : Int)) = true from decide_eq_true (by omega)]
            refine iteT (tasg_of ?_)
            unfold tTup
            refine tcons_of (tcb_of (tcons_of (top_of ?_)))
            have L7 : (upd Hc pl (.lst [.ref p1, .ref p1])) pl = some (.lst [.ref p1, .ref p1]) := upd_same
            generalize upd Hc pl (.lst [.ref p1, .ref p1]) = Hd at O7 c7 L7 ⊢
            refine ⟨_, rfl, _, rfl, _, ey, eL, xs, rfl, SqL.of (c7 _ _ cE), fun b1 nb1 => ?_⟩
            have v1 := same_new (o := .lst (cutV xs none (some ((numOf d : Nat) : Int)))) nb1
            refine ⟨_, rfl, _, rfl, _, _, ey, rfl, _, rfl, eL, xs, rfl, SqL.of (v1 _ _ (c7 _ _ cE)), fun b2 nb2 => ?_⟩
            have v2 := same_new (o := .lst (cutV xs (some (((numOf d : Nat) : Int) + 1)) none)) nb2
            have c1 : cutV xs none (some ((numOf d : Nat) : Int)) = xs.take (numOf d) := cut_to xs
            have c2 : cutV xs (some (((numOf d : Nat) : Int) + 1)) none = xs.drop (numOf d + 1) := by
              rw [show (((numOf d : Nat) : Int) + 1) = ((numOf d + 1 : Nat) : Int) by omega, cut_from]
            refine ⟨b1, b2, _, _, rfl, rfl, v2 _ _ upd_same, upd_same, by rw [c1, c2, List.length_take, List.length_drop]; exact Nat.le_of_lt (small1000 (by omega)), fun b3 nb3 => ?_⟩
            refine ⟨b3, _, rfl, .inl ⟨SqL.of upd_same, fun q1 nq1 => ?_⟩⟩
            have v3 := same_trans (same_trans v1 v2) (same_trans (same_new nb3) (same_new (o := .tup (cutV xs none (some ((numOf d : Nat) : Int)) ++ cutV xs (some (((numOf d : Nat) : Int) + 1)) none)) nq1))
            refine tcons_of (tuple_te (fun Q' q => ⟨_, rfl, q⟩) (.inl (SqL.of (v3 _ _ (c7 _ _ cS)))) fun q4 H10 s10 e10 => ?_)
            refine ⟨by show 2 ≤ sizeLine; decide, fun q5 nq5 => ?_⟩
            have v10 := same_trans v3 (same_trans s10 (same_new (o := .tup [.ref q1, .ref q4]) nq5))
            have Lz := v10 _ _ L7
            have nq : q5 ≠ pl := fun w => by
              have w2 := (same_trans v3 s10) _ _ L7
              rw [← w, nq5] at w2
              cases w2
            have Oz : Same Hc (off (upd H10 q5 (.tup [.ref q1, .ref q4])) pl) := same_trans O7 (off_mono v10)
            have e9 := s10 _ _ (upd_same (H := upd (upd (upd Hd b1 (.lst (cutV xs none (some ((numOf d : Nat) : Int))))) b2 (.lst (cutV xs (some (((numOf d : Nat) : Int) + 1)) none))) b3 (.lst (cutV xs none (some ((numOf d : Nat) : Int)) ++ cutV xs (some (((numOf d : Nat) : Int) + 1)) none))) (a := q1) (o := .tup (cutV xs none (some ((numOf d : Nat) : Int)) ++ cutV xs (some (((numOf d : Nat) : Int) + 1)) none)))
            rw [c1, c2] at e9
            refine ⟨_, rfl, pl, _, 0, 0, rfl, rfl, Lz, rfl, q5, rfl, by rw [off_put]; exact Oz, upd_same, ?_⟩
            rw [off_put]
            unfold dOE
            rw [if_pos ⟨hs, by omega, by omega⟩]
            exact .tup (SqT.of (off_at upd_same nq)) (.cons (.tup (sqT_off (sqt_same (SqT.of e9) (same_new nq5)) Lz) ((((cqE.take (numOf d)).app (cqE.drop (numOf d + 1))).same Oz).dp (can_of fun x hx => sh.pe x (less_mem hx))))
              (.cons (.tup (sqT_off (sqt_same e10 (same_new nq5)) Lz) ((cqS.same Oz).dp (can_of sh.ps))) .nil))
          · rw [show decide ((1 : Int) < (xs.length : Int)) = false from decide_eq_false (by omega)]
            rw [hs] at no
            exact iteF (nx_go (no fun z => z2 (by omega)))
        · rw [show decide (((numOf d : Nat) : Int) < (xs.length : Int)) = false from decide_eq_false (by omega)]
          rw [hs] at no
          exact iteF (iteF (nx_go (no fun z => z1 (by omega))))
    rintro σ' H7 ⟨x, rfl, O7, L7, dx⟩
    have c7 : Same Hc H7 := same_trans O7 off_same
    refine ⟨fun σ' H' => ∃ x z, σ' = [some (.ref m), some (.ref eL), some (.ref sL), some (.ref a), some r1, some r2, w6', some (.ref pl), some y, some (.bl (isSo d))] ∧ Same Hc (off H' pl) ∧ H' pl = some (.lst [.ref x, .ref z]) ∧ Dp K (off H' pl) (.ref x) (tdOf (dOE es ss d)) ∧ Dp K (off H' pl) (.ref z) (tdOf (dOS es ss d)), ?_, ?_⟩
    · have no : ∀ k : Bool, ¬ (isSo d = true ∧ numOf d < ss.length) → ∃ x z, [some (V.ref m), some (.ref eL), some (.ref sL), some (.ref a), some r1, some r2, w6', some (.ref pl), some y, some (.bl k)] = [some (V.ref m), some (.ref eL), some (.ref sL), some (.ref a), some r1, some r2, w6', some (.ref pl), some y, some (.bl k)] ∧ Same Hc (off H7 pl) ∧ H7 pl = some (.lst [.ref x, .ref z]) ∧ Dp K (off H7 pl) (.ref x) (tdOf (dOE es ss d)) ∧ Dp K (off H7 pl) (.ref z) (tdOf (dOS es ss d)) := fun k z =>
        ⟨x, p1, rfl, O7, L7, dx, by unfold dOS; rw [if_neg z]; exact dp_two (O7 _ _ e1)⟩
      refine ⟨_, rfl, _, rfl, ?_⟩
      cases hs : isSo d with
      | false => exact iteF (iteF (nx_go (no _ fun z => by rw [hs] at z; exact nomatch z.1)))
      | true =>
        have ey : y = .int ((numOf d : Nat) : Int) := by
          rw [so_int hs] at bd
          cases bd
          rfl
        refine iteT ⟨_, rfl, _, rfl, sL, ys, rfl, .inl (SqL.of (c7 _ _ cS)), _, _, ey, rfl, _, rfl, ?_⟩
        by_cases z1 : numOf d < ys.length
        · rw [show decide (((numOf d : Nat) : Int) < (ys.length : Int)) = true from decide_eq_true (by omega)]
          refine iteT (tasg_of ?_)
          unfold tTup
          refine tcons_of (tuple_te (fun Q' q => ⟨_, rfl, q⟩) (.inl (SqL.of (c7 _ _ cE))) fun q4 H10 s10 e10 => ?_)
          have c10 := same_trans c7 s10
          refine tcons_of (tcb_of (tcons_of (top_of ?_)))
          refine ⟨_, rfl, _, rfl, _, ey, sL, ys, rfl, SqL.of (c10 _ _ cS), fun b1 nb1 => ?_⟩
          have v1 := same_new (o := .lst (cutV ys none (some ((numOf d : Nat) : Int)))) nb1
          refine ⟨_, rfl, _, rfl, _, _, ey, rfl, _, rfl, sL, ys, rfl, SqL.of (v1 _ _ (c10 _ _ cS)), fun b2 nb2 => ?_⟩
          have v2 := same_new (o := .lst (cutV ys (some (((numOf d : Nat) : Int) + 1)) none)) nb2
          have k1 : cutV ys none (some ((numOf d : Nat) : Int)) = ys.take (numOf d) := cut_to ys
          have k2 : cutV ys (some (((numOf d : Nat) : Int) + 1)) none = ys.drop (numOf d + 1) := by
            rw [show (((numOf d : Nat) : Int) + 1) = ((numOf d + 1 : Nat) : Int) by omega, cut_from]
          refine ⟨b1, b2, _, _, rfl, rfl, v2 _ _ upd_same, upd_same, by rw [k1, k2, List.length_take, List.length_drop]; exact Nat.le_of_lt (small1000 (by omega)), fun b3 nb3 => ?_⟩
          refine ⟨b3, _, rfl, .inl ⟨SqL.of upd_same, fun q1 nq1 => ?_⟩⟩
          have v3 := same_trans (same_trans v1 v2) (same_trans (same_new nb3) (same_new (o := .tup (cutV ys none (some ((numOf d : Nat) : Int)) ++ cutV ys (some (((numOf d : Nat) : Int) + 1)) none)) nq1))
          refine ⟨by show 2 ≤ sizeLine; decide, fun q5 nq5 => ?_⟩
          have v10 := same_trans s10 (same_trans v3 (same_new (o := .tup [.ref q4, .ref q1]) nq5))
          have Lz := v10 _ _ L7
          have nq : q5 ≠ pl := fun w => by
            have w2 := (same_trans s10 v3) _ _ L7
            rw [← w, nq5] at w2
            cases w2
          have Oz := same_trans O7 (off_mono (p := pl) v10)
          have e9 := same_new (o := .tup [.ref q4, .ref q1]) nq5 _ _ (upd_same (H := upd (upd (upd H10 b1 (.lst (cutV ys none (some ((numOf d : Nat) : Int))))) b2 (.lst (cutV ys (some (((numOf d : Nat) : Int) + 1)) none))) b3 (.lst (cutV ys none (some ((numOf d : Nat) : Int)) ++ cutV ys (some (((numOf d : Nat) : Int) + 1)) none))) (a := q1) (o := .tup (cutV ys none (some ((numOf d : Nat) : Int)) ++ cutV ys (some (((numOf d : Nat) : Int) + 1)) none)))
          have e9' := sqT_off (K := K) (SqT.of e9) Lz
          have k12 : cutV ys none (some ((numOf d : Nat) : Int)) ++ cutV ys (some (((numOf d : Nat) : Int) + 1)) none = ys.take (numOf d) ++ ys.drop (numOf d + 1) := by rw [k1, k2]
          have e9' := Eq.mp (congrArg (SqT K _ q1) k12) e9'
          have eqq := upd_same (H := upd (upd (upd (upd H10 b1 (.lst (cutV ys none (some ((numOf d : Nat) : Int))))) b2 (.lst (cutV ys (some (((numOf d : Nat) : Int) + 1)) none))) b3 (.lst (cutV ys none (some ((numOf d : Nat) : Int)) ++ cutV ys (some (((numOf d : Nat) : Int) + 1)) none))) q1 (.tup (cutV ys none (some ((numOf d : Nat) : Int)) ++ cutV ys (some (((numOf d : Nat) : Int) + 1)) none))) (a := q5) (o := HO.tup [.ref q4, .ref q1])
          refine ⟨_, rfl, pl, _, 1, 1, rfl, rfl, Lz, rfl, x, q5, rfl, by rw [off_put]; exact Oz, upd_same, by rw [off_put]; exact dp_same dx (off_mono v10), ?_⟩
          rw [off_put]
          unfold dOS
          rw [if_pos ⟨hs, by omega⟩]
          refine .tup (SqT.of (off_at eqq nq)) (.cons (.tup (sqT_off (sqt_same e10 (same_trans v3 (same_new nq5))) Lz) ((cqE.same Oz).dp (can_of sh.pe)))
            (.cons (.tup e9' ?_) .nil))
          exact (((cqS.take (numOf d)).app (cqS.drop (numOf d + 1))).same Oz).dp (can_of fun x hx => sh.ps x (less_mem hx))
        · rw [show decide (((numOf d : Nat) : Int) < (ys.length : Int)) = false from decide_eq_false (by omega)]
          exact iteF (nx_go (no _ fun z => z1 (by omega)))
    rintro σ' H8 ⟨x2, z2, rfl, O8, L8, dx2, dz2⟩
    have c8 : Same Hc H8 := same_trans O8 off_same
    have W8 := (W.same sC).same c8
    have R8 := (bR.same sC).same c8
    have Y8 := (bY.same sC).same c8
    have d8 := (bd.same sC).same c8
    have le : es.length ≤ 90 := by have := sh.l3; omega
    have ls9 : ss.length ≤ 90 := by have := sh.m3; omega
    have kE := dOE_ok sh okd
    have kS := dOS_ok sh okd
    refine ifne_of (tcons_of (tells_meth (i := 3) (j := 8) rfl rfl R8 le ls9 d8 Y8 W8.tb (by decide) (by decide) fun H9 e9 t9 => tells_cast (due_oe sh) (tells_of kE fun g1 H10 s10 dq1 => ?_)))
    have E10 : ExtN H8 H10 := extN_trans e9 (extN_same s10)
    have W10 := (W8.lam e9 t9).same s10
    refine tcons_of (tells_meth (i := 3) (j := 8) rfl rfl (R8.extN E10) le ls9 (d8.extN E10) (sys_extN Y8 E10) W10.tb (by decide) (by decide) fun H11 e11 t11 => tells_cast (due_os sh) (tells_of kS fun g2 H12 s12 dq2 => ?_))
    have E12 : ExtN H10 H12 := extN_trans e11 (extN_same s12)
    have W12 := (W10.lam e11 t11).same s12
    refine ⟨by show 2 ≤ sizeLine; decide, fun pp npp => ?_⟩
    have E13 : ExtN H8 (upd H12 pp (.lst [.ref g1, .ref g2])) := extN_trans E10 (extN_trans E12 (extN_same (same_new npp)))
    refine ⟨_, rfl, .list [tdOf (dOE es ss d), tdOf (dOS es ss d)], .list [tdOf (dOE es ss d), tdOf (dOS es ss d)], .lst (SqL.of upd_same) (.cons (dp_same (dp_extN E12 dq1) (same_new npp)) (.cons (dp_same dq2 (same_new npp)) .nil)),
      .lst (SqL.of (E13 _ _ L8 fun _ w => by cases w)) (.cons (dp_extN E13 (dp_same dx2 off_same)) (.cons (dp_extN E13 (dp_same dz2 off_same)) .nil)), two_shaped (td_plain kE) (td_plain kS), two_shaped (td_plain kE) (td_plain kS), _, rfl, ?_⟩
    rw [eqv_self (two_shaped (td_plain kE) (td_plain kS))]
    exact iteF (nx_go ⟨_, _, _, _, rfl, W12.same (same_new npp)⟩)
  rintro σ' H8 ⟨w6', w7', w8, w9, rfl, W8⟩
  exact kk H8 l4 ls4 n4 W8.mat (by omega) (extN_trans (extN_same sA) (extN_trans W7.ext W8.ext)) W8.tabs
end
end RU
set_option Elab.async false
set_option linter.all false
set_option maxRecDepth 100000
set_option maxHeartbeats 4000000
namespace RU
open PySem L2 L2H DQ K01 EnT LamX LamD RZ
open XH hiding same_refl same_trans same_new
/-- Rules(ve, vs'): what its making asks, whatever is wished behind it -/
theorem make_any {K : PySem.W.Frag} {C CB : Addr} {ve vs' : V} {de ds : PyData} {H : Hp} {Q2 : VK} {E : XK} {x dx : Addr} (he : Rw K H ve de) (hs : Rw K H vs' ds) (hx : H x = none) (hdx : H dx = none) (ne : dx ≠ x) (bad : ∀ pl, dueR de ds = .inl pl → OutB H E CB "place" pl)
    (ok : ∀ es ss, dueR de ds = .inr (es, ss) → ∀ H', Same H H' → RulesAt K H' x C es ss → Q2 .non H') :
    spRI K C CB [.ref x, ve, vs'] (upd (upd H dx (.own x)) x (.ins C dx [])) Q2 E := by
  have sA : Same H (upd (upd H dx (.own x)) x (.ins C dx [])) := same_trans (same_new hdx) (same_new (by rw [upd_ne (Ne.symm ne)]; exact hx))
  refine ⟨x, dx, ve, vs', de, ds, rfl, upd_same, he.same sA, hs.same sA, fun pl h => (bad pl h).same sA, fun es ss h H' k o r => ok es ss h H' (fun b u e => ?_) r⟩
  have nb : b ≠ x := fun z => by rw [z, hx] at e; cases e
  exact o b u nb (sA b u e)
/-- where nothing is wrong with them -/
theorem make_yes {K : PySem.W.Frag} {C CB : Addr} {ve vs' : V} {de ds : PyData} {es ss : List PyData} {H : Hp} {Q2 : VK} {E : XK} {x dx : Addr} (he : Rw K H ve de) (hs : Rw K H vs' ds) (hx : H x = none) (hdx : H dx = none) (ne : dx ≠ x) (due : dueR de ds = .inr (es, ss))
    (ok : ∀ H', Same H H' → RulesAt K H' x C es ss → Q2 .non H') : spRI K C CB [.ref x, ve, vs'] (upd (upd H dx (.own x)) x (.ins C dx [])) Q2 E :=
  make_any he hs hx hdx ne (fun pl e => by rw [due] at e; cases e) fun es' ss' e H' s r => by
    rw [due] at e
    cases e
    exact ok H' s r
theorem RulesAt.put {K : PySem.W.Frag} {H : Hp} {a C p : Addr} {es ss : List PyData} {zs : List V} {o : HO} (r : RulesAt K H a C es ss) (hp : H p = some (.lst zs)) (te : tupA es = true) (ts : tupA ss = true) : RulesAt K (upd H p o) a C es ss := by
  obtain ⟨dx, pe, ps, xs, ys, h1, h2, h3, h4, h5⟩ := r
  have keep : ∀ b us, H b = some (.tup us) → upd H p o b = some (.tup us) := fun b us e => by
    have nb : b ≠ p := fun z => by rw [z, hp] at e; cases e
    rw [upd_ne nb]
    exact e
  have na : a ≠ p := fun z => by rw [z, hp] at h1; cases h1
  exact ⟨dx, pe, ps, xs, ys, by rw [upd_ne na]; exact h1, sqT_put h2 hp, h3.tups keep te, sqT_put h4 hp, h5.tups keep ts⟩
theorem RulesAt.fr {K : PySem.W.Frag} {H : Hp} {a C m c l : Addr} {cs ls : List Int} {n : Int} {es ss : List PyData} (r : RulesAt K H a C es ss) (M : MAt H m c l cs ls n) (te : tupA es = true) (ts : tupA ss = true) : RulesAt K (K01.fr H m l) a C es ss := by
  obtain ⟨dx, pe, ps, xs, ys, h1, h2, h3, h4, h5⟩ := r
  have off : ∀ {b : Addr} {o : HO}, H b = some o → (∀ kv, o ≠ .dK kv) → (∀ xs, o ≠ .lst xs) → K01.fr H m l b = some o := fun {b o} e n1 n2 => fr_some e (fun z => n1 _ (Option.some.inj (e.symm.trans (z ▸ M.hm)))) fun z => n2 _ (Option.some.inj (e.symm.trans (z ▸ M.hl)))
  have sq : ∀ {q : Addr} {zs : List V}, SqT K H q zs → SqT K (K01.fr H m l) q zs := fun {q zs} h => by
    rcases h with h | h
    · refine .inl ?_
      rcases h with h | ⟨u, h⟩
      · exact .inl (off h (fun _ z => by cases z) fun _ z => by cases z)
      · exact .inr ⟨u, off h (fun _ z => by cases z) fun _ z => by cases z⟩
    · exact .inr h
  have keep : ∀ b us, H b = some (.tup us) → K01.fr H m l b = some (.tup us) := fun b us e => off e (fun _ z => by cases z) fun _ z => by cases z
  exact ⟨dx, pe, ps, xs, ys, off h1 (fun _ z => by cases z) (fun _ z => by cases z), sq h2, h3.tups keep te, sq h4, h5.tups keep ts⟩
theorem dueR_lists {es ss : List PyData} (h : SH es ss) : dueR (.list es) (.list ss) = .inr (es, ss) := by
  have z := dueR_tups h.l1 h.e h.s
  rw [if_pos ⟨h.l3, h.m3⟩] at z
  exact z
theorem dueR_lt {es ss : List PyData} (h : SH es ss) : dueR (.list es) (.tuple ss) = .inr (es, ss) := by
  have z := dueR_tups h.l1 h.e h.s
  rw [if_pos ⟨h.l3, h.m3⟩] at z
  exact z
theorem dueR_tt {es ss : List PyData} (h : SH es ss) : dueR (.tuple es) (.tuple ss) = .inr (es, ss) := by
  have z := dueR_tups h.l1 h.e h.s
  rw [if_pos ⟨h.l3, h.m3⟩] at z
  exact z
theorem es_tup {es ss : List PyData} (h : ESd es ss) : tupA es = true ∧ tupA ss = true := ⟨tupA_iff.mpr fun d hd => by
  obtain ⟨q, t, _⟩ := h.2.2.2.1 d hd
  exact t.tup, tupA_iff.mpr fun d hd => by
  obtain ⟨q, t, _⟩ := h.2.2.2.2 d hd
  exact t.tc.tup⟩
/-- one, told -/
theorem tells_one {K : PySem.W.Frag} {T : List (Addr × Str)} {C CB CN a : Addr} {i : Nat} {σ : L2.St} {H : Hp} {es ss : List PyData} {Q : VK} (hi : σ[i]? = some (some (.ref a))) (r : RulesAt K H a C es ss) (tb : Tabs T H)
    (k : ∀ H1, ExtN H H1 → Tabs T H1 → Tells K Q H1 (.inr (es, ss))) : tLam T (TTr K C CB CN) (fun _ => tVar i) σ H Q := by
  refine ⟨tb, fun H1 e1 t1 Q' hQ => ⟨_, hi, hQ _ _ ⟨a, es, ss, rfl, r.extN e1, ?_⟩⟩⟩
  exact k H1 e1 t1
/-- Rules(x, y), told -/
theorem tells_make {K : PySem.W.Frag} {T : List (Addr × Str)} {C CB CN : Addr} {i j : Nat} {σ : L2.St} {H : Hp} {u v : V} {de ds : PyData} {Q : VK} (hi : σ[i]? = some (some u)) (hj : σ[j]? = some (some v)) (hd : Dq H u de) (he : Dq H v ds) (sy : Sys H) (tb : Tabs T H)
    (k : ∀ H1, ExtN H H1 → Tabs T H1 → Tells K Q H1 (asB (dueR de ds))) : tLam T (TTr K C CB CN) (fun E => tMake C (spRI K C CB) [] E (tCons (tVar i) (tCons (tVar j) tNil))) σ H Q := by
  refine ⟨tb, fun H1 e1 t1 Q' hQ => ⟨_, hi, _, hj, fun x dx hx hdx ne => make_any (.inl (hd.extN e1)) (.inl (he.extN e1)) hx hdx ne (fun pl e => ?_) fun es ss e H' s r => ⟨rfl, ?_⟩⟩⟩
  · have z := k H1 e1 t1
    rw [e] at z
    obtain ⟨ok, no⟩ : PlOk pl ∧ SaysNo "rules" Q H1 pl := z
    exact fun d v H' s e q => ⟨d, v, pl, rfl, q, (sys_extN sy e1).same s, ok, .inl ⟨rfl, e, no.same s⟩⟩
  · have z := k H1 e1 t1
    rw [e] at z
    have z' : SaysYes K Q H1 es ss := z
    exact hQ _ _ ⟨x, es, ss, rfl, r, z'.same s⟩
end RU
set_option Elab.async false
set_option linter.all false
set_option maxRecDepth 100000
set_option maxHeartbeats 4000000
namespace RU
open PySem L2 L2H DQ K01 EnT LamX LamD RZ
open XH hiding same_refl same_trans same_new
open Classical in
/-- the heap without some lists -/
noncomputable def cut (H : Hp) (Z : Addr → Prop) : Hp := fun b => if Z b then none else H b
open Classical in
/-- H', with the lists of H at Z -/
noncomputable def join (H' H : Hp) (Z : Addr → Prop) : Hp := fun b => if Z b then H b else H' b
theorem cut_z {H : Hp} {Z : Addr → Prop} {b : Addr} (h : Z b) : cut H Z b = none := if_pos h
theorem cut_n {H : Hp} {Z : Addr → Prop} {b : Addr} (h : ¬ Z b) : cut H Z b = H b := if_neg h
theorem join_z {H' H : Hp} {Z : Addr → Prop} {b : Addr} (h : Z b) : join H' H Z b = H b := if_pos h
theorem join_n {H' H : Hp} {Z : Addr → Prop} {b : Addr} (h : ¬ Z b) : join H' H Z b = H' b := if_neg h
theorem cut_of {H : Hp} {Z : Addr → Prop} {b : Addr} {o : HO} (h : cut H Z b = some o) : ¬ Z b ∧ H b = some o := by
  by_cases z : Z b
  · rw [cut_z z] at h
    cases h
  · rw [cut_n z] at h
    exact ⟨z, h⟩
theorem cut_none {H : Hp} {Z : Addr → Prop} {b : Addr} (h : H b = none) : cut H Z b = none := by
  by_cases z : Z b
  · exact cut_z z
  · rw [cut_n z]
    exact h
/-- a call, with some lists set aside: it doesn't touch them, and what it gives doesn't hang on them -/
def framed (sp : Sp) : Sp := fun vs H Q E => ∃ Z : Addr → Prop, (∀ b, Z b → ∃ xs, H b = some (.lst xs)) ∧ sp vs (cut H Z) (fun v H' => (∀ b, Z b → H' b = none) → Q v (join H' H Z)) E
theorem frame {P : Program} {w : World} {K : PySem.W.Frag} {mg : Str → Option Value} {base : Heap} {k : Nat} {f : Addr} {fd : FuncData} {ps : List Str} {sp : Sp} (F : FnOk P w K mg base CX0 k f fd ps sp) : FnOk P w K mg base CX0 k f fd ps (framed sp) := by
  refine ⟨fun vs H Q E ⟨Z, hZ, h⟩ => F.len _ _ _ _ h, fun A outer s H args us vs Q E hr e0 hb hv ⟨Z, hZ, h⟩ => ?_⟩
  have there : ∀ b, Z b → ∃ xs, H b = some (.lst xs) ∧ ∃ (its : List Value) (n : Nat), xs.length ≤ sizeLine ∧ Vals xs its ∧ s.heap.get? b = some { cls := .type "list", data := .seq its.toArray n } := fun b z => by
    obtain ⟨xs, e⟩ := hZ b z
    obtain ⟨y, its, n, r, g⟩ := (show ObjOk P w H s.heap b (.lst xs) from e0.hok b _ e)
    exact ⟨xs, e, its, n, y, r, g⟩
  have env : Env0 P w K mg base A outer s (cut H Z) := ⟨e0.frames, e0.mod, fun b o e => ⟨(e0.bs b o e).1, cut_none (e0.bs b o e).2⟩, e0.bsz, e0.funs, fun b hb => cut_none (e0.frf b hb), fun b u e => by
    obtain ⟨nz, e'⟩ := cut_of e
    refine (e0.hok b u e').stay (fun _ _ _ q => q) (fun b' q => ?_) (fun b' xs q => ?_)
    · rw [cut_n fun z => by obtain ⟨xs, y⟩ := hZ b' z; rw [q] at y; cases y]
      exact q
    · rw [cut_n fun z => by obtain ⟨ys, y⟩ := hZ b' z; rw [q] at y; cases y]
      exact q, e0.bare⟩
  refine codeAny_mono (F.run A outer s (cut H Z) args us vs _ E hr env hb hv h) fun r s' hq => ?_
  cases r with
  | error e => exact hq
  | ok fl =>
    cases fl with
    | next => exact hq
    | brk => exact hq
    | cont => exact hq
    | ret u =>
      obtain ⟨v, H', os, bare, un, hok, rv, q⟩ := hq
      have gone : ∀ b, Z b → H' b = none := fun b z => by
        obtain ⟨xs, e, its, n, _, _, g⟩ := there b z
        exact un.free b _ g (cut_z z) (fun y => nomatch (show b ∈ ([] : List Addr) from y))
      have nz : ∀ {b : Addr} {o : HO}, H b = some o → (∀ xs, o ≠ .lst xs) → ¬ Z b := fun {b o} e n z => by
        obtain ⟨xs, y⟩ := hZ b z
        exact n xs (Option.some.inj (e.symm.trans y))
      have nz' : ∀ {b : Addr} {o : HO}, H' b = some o → ¬ Z b := fun {b o} e z => by
        rw [gone b z] at e
        cases e
      refine ⟨v, join H' H Z, os, bare, ⟨fun b o g n => un.keep b o g (cut_none n), fun b o g n => un.slot b o g (cut_none n), fun b o g n x => ?_, un.there, fun b xs e => ?_, fun b o u e => ?_, fun b ps e => ?_⟩, fun b u e => ?_, rv, q gone⟩
      · by_cases z : Z b
        · rw [join_z z]
          exact n
        · rw [join_n z]
          exact un.free b o g (cut_none n) x
      · have z := nz e fun _ y => by cases y
        rw [join_n z]
        exact un.tups b xs (by rw [cut_n z]; exact e)
      · have z := nz e fun _ y => by cases y
        rw [join_n z]
        exact un.frzs b o u (by rw [cut_n z]; exact e)
      · have z := nz e fun _ y => by cases y
        rw [join_n z]
        exact un.tbls b ps (by rw [cut_n z]; exact e)
      · by_cases z : Z b
        · rw [join_z z] at e
          obtain ⟨xs, e', its, n, y, r, g⟩ := there b z
          rw [e'] at e
          cases e
          refine ⟨y, its, n, r, un.keep b _ g (cut_z z) (fun hb => ?_) (fun y => nomatch (show b ∈ ([] : List Addr) from y))⟩
          have n0 := e0.frf b hb
          rw [e'] at n0
          cases n0
        · rw [join_n z] at e
          refine (hok b u e).stay (fun _ _ _ q => q) (fun b' q => ?_) (fun b' xs q => ?_)
          · rw [join_n (nz' q)]
            exact q
          · rw [join_n (nz' q)]
            exact q
end RU
set_option Elab.async false
set_option linter.all false
set_option maxRecDepth 100000
set_option maxHeartbeats 4000000
namespace RU
open PySem L2 L2H DQ K01 EnT LamX LamD RZ
open XH hiding same_refl same_trans same_new
theorem cut_same {H H' : Hp} {Z : Addr → Prop} (s : Same H H') : Same (cut H Z) (cut H' Z) := fun b o e => by
  obtain ⟨z, e'⟩ := cut_of e
  rw [cut_n z]
  exact s _ _ e'
theorem cut_sub {H : Hp} {Z : Addr → Prop} : Same (cut H Z) H := fun b o e => (cut_of e).2
theorem cut_put {H : Hp} {Z : Addr → Prop} {p : Addr} {o : HO} (h : Z p) : cut (upd H p o) Z = cut H Z := by
  funext b
  by_cases z : Z b
  · rw [cut_z z, cut_z z]
  · rw [cut_n z, cut_n z, upd_ne fun w => z (by rw [w]; exact h)]
theorem join_same {H' H : Hp} {Z : Addr → Prop} (gone : ∀ b, Z b → H' b = none) : Same H' (join H' H Z) := fun b o e => by
  rw [join_n fun z => by rw [gone b z] at e; cases e]
  exact e
theorem cut_join {H' H : Hp} {Z : Addr → Prop} (gone : ∀ b, Z b → H' b = none) : cut (join H' H Z) Z = H' := by
  funext b
  by_cases z : Z b
  · rw [cut_z z, gone b z]
  · rw [cut_n z, join_n z]
/-- lists at Z are written while numbers are drawn; all else stands as in G -/
structure Ls (T : List (Addr × Str)) (Z : Addr → Prop) (m c l : Addr) (cs ls : List Int) (n : Int) (G H : Hp) : Prop where
  mat : MAt H m c l cs ls n
  zc : ¬ Z c
  zl : ¬ Z l
  zz : ∀ b, Z b → ∃ xs, H b = some (.lst xs)
  sm : ExtN G (fr (cut H Z) m l)
  tabs : Tabs T (fr (cut H Z) m l)
section
variable {T : List (Addr × Str)} {Z : Addr → Prop} {m c l l' : Addr} {cs ls ls' : List Int} {n n' : Int} {G H H' : Hp}
theorem Ls.zm (L : Ls T Z m c l cs ls n G H) : ¬ Z m := fun z => by
  obtain ⟨xs, e⟩ := L.zz m z
  rw [L.mat.hm] at e
  cases e
theorem Ls.same (L : Ls T Z m c l cs ls n G H) (s : Same H H') : Ls T Z m c l cs ls n G H' :=
  ⟨L.mat.same s, L.zc, L.zl, fun b z => let ⟨xs, e⟩ := L.zz b z; ⟨xs, s _ _ e⟩, extN_trans L.sm (extN_same (fr_sm (cut_same s))), L.tabs.ext (fr_sm (cut_same s))⟩
theorem Ls.put (L : Ls T Z m c l cs ls n G H) {p : Addr} {ys : List V} (hp : Z p) : Ls T Z m c l cs ls n G (upd H p (.lst ys)) := by
  refine ⟨L.mat.at (fun e => L.zm (e ▸ hp)) (fun e => L.zc (e ▸ hp)) (fun e => L.zl (e ▸ hp)), L.zc, L.zl, fun b z => ?_, by rw [cut_put hp]; exact L.sm, by rw [cut_put hp]; exact L.tabs⟩
  by_cases e : b = p
  · rw [e]
    exact ⟨ys, upd_same⟩
  · rw [upd_ne e]
    exact L.zz b z
theorem Ls.here (L : Ls T Z m c l cs ls n G H) {p : Addr} {xs : List V} (hp : Z p) (e : H p = some (.lst xs)) : fr H m l p = some (.lst xs) := fr_some e (fun w => L.zm (w ▸ hp)) fun w => L.zl (w ▸ hp)
/-- numbers are drawn -/
theorem Ls.fs (L : Ls T Z m c l cs ls n G H) (M : MAt H' m c l' cs ls' n') (s : Fs H m l H' l') : Ls T Z m c l' cs ls' n' G H' ∧ Same (fr (cut H Z) m l) (fr (cut H' Z) m l') := by
  have one : Same (fr (cut H Z) m l) (fr (cut H' Z) m l') := fun b o e => by
    obtain ⟨h1, h2, h3⟩ := fr_of e
    obtain ⟨z, h4⟩ := cut_of h3
    obtain ⟨g1, g2, g3⟩ := fr_of (s.1 _ _ (fr_some h4 h1 h2))
    exact fr_some (by rw [cut_n z]; exact g3) g1 g2
  refine ⟨⟨M, L.zc, fun z => ?_, fun b z => ?_, extN_trans L.sm (extN_same one), L.tabs.ext one⟩, one⟩
  · obtain ⟨xs, e⟩ := L.zz l' z
    exact (fr_of (s.1 _ _ (L.here z e))).2.1 rfl
  · obtain ⟨xs, e⟩ := L.zz b z
    exact ⟨xs, (fr_of (s.1 _ _ (L.here z e))).2.2⟩
theorem Ls.at (L : Ls T Z m c l cs ls n G H) (s : Fs H m l H' l') {p : Addr} {xs : List V} (hp : Z p) (e : H p = some (.lst xs)) : H' p = some (.lst xs) := (fr_of (s.1 _ _ (L.here hp e))).2.2
theorem Ls.cut (L : Ls T Z m c l cs ls n G H) : MAt (cut H Z) m c l cs ls n :=
  ⟨by rw [cut_n L.zm]; exact L.mat.hm, by rw [cut_n L.zc]; exact L.mat.hc, by rw [cut_n L.zl]; exact L.mat.hl, L.mat.ne, L.mat.n0, L.mat.nb, L.mat.cb, L.mat.lb⟩
/-- behind a call with the lists set aside -/
theorem Ls.frame (L : Ls T Z m c l cs ls n G H) (M : MAt H' m c l' cs ls' n') (s : Fs (RU.cut H Z) m l H' l') (gone : ∀ b, Z b → H' b = none) : Ls T Z m c l' cs ls' n' G (join H' H Z) ∧ Same (fr (RU.cut H Z) m l) (fr (RU.cut (join H' H Z) Z) m l') := by
  have one : Same (fr (RU.cut H Z) m l) (fr (RU.cut (join H' H Z) Z) m l') := by
    rw [cut_join gone]
    exact s.1
  refine ⟨⟨M.same (join_same gone), L.zc, fun z => ?_, fun b z => ?_, extN_trans L.sm (extN_same one), L.tabs.ext one⟩, one⟩
  · have e := gone l' z
    rw [M.hl] at e
    cases e
  · rw [join_z z]
    exact L.zz b z
/-- one list more -/
theorem Ls.more (L : Ls T Z m c l cs ls n G H) {D : Addr} (hD : H D = none) (xs : List V) : Ls T (fun b => Z b ∨ b = D) m c l cs ls n G (upd H D (.lst xs)) ∧ Same (fr (RU.cut H Z) m l) (fr (RU.cut (upd H D (.lst xs)) fun b => Z b ∨ b = D) m l) := by
  have one : Same (fr (RU.cut H Z) m l) (fr (RU.cut (upd H D (.lst xs)) fun b => Z b ∨ b = D) m l) := fun b o e => by
    obtain ⟨h1, h2, h3⟩ := fr_of e
    obtain ⟨z, h4⟩ := cut_of h3
    have nb : b ≠ D := fun w => by rw [w, hD] at h4; cases h4
    exact fr_some (by rw [cut_n (fun w => w.elim z nb), upd_ne nb]; exact h4) h1 h2
  refine ⟨⟨L.mat.same (same_new hD), fun z => z.elim L.zc fun e => ?_, fun z => z.elim L.zl fun e => ?_, fun b z => ?_, extN_trans L.sm (extN_same one), L.tabs.ext one⟩, one⟩
  · have q := L.mat.hc
    rw [e, hD] at q
    cases q
  · have q := L.mat.hl
    rw [e, hD] at q
    cases q
  · by_cases e : b = D
    · rw [e]
      exact ⟨xs, upd_same⟩
    · rw [upd_ne e]
      exact L.zz b (z.resolve_right e)
/-- one list less -/
theorem Ls.less {D : Addr} (L : Ls T (fun b => Z b ∨ b = D) m c l cs ls n G H) : Ls T Z m c l cs ls n G H ∧ Same (fr (RU.cut H fun b => Z b ∨ b = D) m l) (fr (RU.cut H Z) m l) := by
  have one : Same (fr (RU.cut H fun b => Z b ∨ b = D) m l) (fr (RU.cut H Z) m l) := fr_sm fun b o e => by
    obtain ⟨z, h4⟩ := cut_of e
    rw [cut_n fun w => z (.inl w)]
    exact h4
  exact ⟨⟨L.mat, fun z => L.zc (.inl z), fun z => L.zl (.inl z), fun b z => L.zz b (.inl z), extN_trans L.sm (extN_same one), L.tabs.ext one⟩, one⟩
/-- something new -/
theorem Ls.new (L : Ls T Z m c l cs ls n G H) {p : Addr} {o : HO} (hp : H p = none) : Ls T Z m c l cs ls n G (upd H p o) ∧ Same (fr (RU.cut H Z) m l) (fr (RU.cut (upd H p o) Z) m l) ∧ fr (RU.cut (upd H p o) Z) m l p = some o := by
  refine ⟨L.same (same_new hp), fr_sm (cut_same (same_new hp)), fr_some ?_ (ne_of_none L.mat.hm hp).symm (ne_of_none L.mat.hl hp).symm⟩
  rw [cut_n fun z => by obtain ⟨xs, e⟩ := L.zz p z; rw [hp] at e; cases e]
  exact upd_same
/-- a lambda is made -/
theorem Ls.lam (L : Ls T Z m c l cs ls n G H) (e : ExtN H H') (t : Tabs T H') : Ls T Z m c l cs ls n G H' ∧ ExtN (fr (RU.cut H Z) m l) (fr (RU.cut H' Z) m l) := by
  have M := L.mat.en e
  have zz : ∀ b, Z b → ∃ xs, H' b = some (.lst xs) := fun b z => let ⟨xs, q⟩ := L.zz b z; ⟨xs, e _ _ q fun _ w => by cases w⟩
  have one : ExtN (fr (RU.cut H Z) m l) (fr (RU.cut H' Z) m l) := fun b o q nt => by
    obtain ⟨h1, h2, h3⟩ := fr_of q
    obtain ⟨z, h4⟩ := cut_of h3
    exact fr_some (by rw [cut_n z]; exact e _ _ h4 nt) h1 h2
  refine ⟨⟨M, L.zc, L.zl, zz, extN_trans L.sm one, fun p hp => ?_⟩, one⟩
  obtain ⟨ps, h1, h2, h3⟩ := t p hp
  have off : ∀ {b : Addr} {o : HO}, H' b = some o → (∀ kv, o ≠ .dK kv) → (∀ xs, o ≠ .lst xs) → fr (RU.cut H' Z) m l b = some o := fun {b o} e n1 n2 => fr_some (by
    rw [cut_n fun z => by obtain ⟨xs, w⟩ := zz b z; exact n2 _ (Option.some.inj (e.symm.trans w))]
    exact e) (fun z => n1 _ (Option.some.inj (e.symm.trans (z ▸ M.hm)))) fun z => n2 _ (Option.some.inj (e.symm.trans (z ▸ M.hl)))
  refine ⟨ps, off h1 (fun _ z => by cases z) (fun _ z => by cases z), h2, fun pos cv hc => ?_⟩
  obtain ⟨c0, e1, e2⟩ := h3 pos cv hc
  exact ⟨c0, e1, off e2 (fun _ z => by unfold CodeO at z; cases z) (fun _ z => by unfold CodeO at z; cases z)⟩
theorem Ls.tb (L : Ls T Z m c l cs ls n G H) : Tabs T H := L.tabs.ext (same_trans fr_same cut_sub)
end
end RU
set_option Elab.async false
set_option linter.all false
set_option maxRecDepth 100000
set_option maxHeartbeats 4000000
namespace K01
open PySem L2 L2H DQ RZ
/-! what has a shape is not long -/
theorem word_sz {d : PyData} (h : isWord d = true) : gd 0 d = true ∧ sz d ≤ 82 := by
  cases d with
  | str x =>
    refine ⟨by simpa [gd] using word_ok h, ?_⟩
    have z := (Bool.and_eq_true_iff.mp (Bool.and_eq_true_iff.mp (show wordS x = true from h)).2).1
    have y : x.length ≤ 8 := of_decide_eq_true z
    simp only [sz]
    omega
  | _ => cases h
theorem szs {ds : List PyData} {c : Nat} (h : ∀ d ∈ ds, sz d ≤ c) : szAll ds ≤ (c + 2) * ds.length := by
  induction ds with
  | nil => simp [szAll]
  | cons d ds ih =>
    have h1 := h d (List.mem_cons_self ..)
    have h2 := ih fun x hx => h x (List.mem_cons_of_mem _ hx)
    simp only [szAll, List.length_cons, Nat.mul_add]
    omega
theorem marks_sz {d : PyData} (h : areMarks d = true) : gd 0 d = true ∧ sz d ≤ 256 := by
  cases d with
  | tuple ds =>
    obtain ⟨h1, h2⟩ := Bool.and_eq_true_iff.mp h
    have n3 : ds.length ≤ 3 := of_decide_eq_true h1
    have z := (Bool.and_eq_true_iff.mp h2).1
    refine ⟨gdAll_iff.mpr fun d hd => (word_sz (List.all_eq_true.mp z d hd)).1, ?_⟩
    have s := szs (c := 82) fun d hd => (word_sz (List.all_eq_true.mp z d hd)).2
    simp only [sz]
    omega
  | _ => cases h
theorem fold_sz {c : PyData → Option (Int × Int)} (hc : ∀ t pq, c t = some pq → gd 0 t = true ∧ (sz t : Int) + 100 ≤ 600 * pq.1) : ∀ {bs : List PyData} {xy r : Int × Int}, bs.foldl (stepB c) (some xy) = some r → gdAll 0 bs = true ∧ (szAll bs : Int) ≤ 600 * (r.1 - xy.1)
  | [], xy, r, h => by
    cases h
    refine ⟨rfl, ?_⟩
    simp [szAll]
  | b :: bs, xy, r, h => by
    rw [List.foldl_cons] at h
    cases hs : stepB c (some xy) b with
    | none =>
      rw [hs, fold_none] at h
      cases h
    | some pq =>
      rw [hs] at h
      obtain ⟨g, z⟩ := fold_sz hc h
      unfold stepB at hs
      dsimp only at hs
      split at hs
      · rename_i u t
        split at hs
        · rename_i hw
          split at hs
          · rename_i pq' ht
            cases hs
            obtain ⟨g2, z2⟩ := hc t _ ht
            obtain ⟨g3, z3⟩ := word_sz (d := .str u) hw
            refine ⟨?_, ?_⟩
            · simp only [gdAll, gd, g, g2, Bool.and_self, Bool.and_true]
              simpa [gd] using g3
            · simp only [szAll, sz] at z ⊢
              simp only [sz] at z3
              omega
          · cases hs
        · cases hs
      · cases hs
theorem cnt_sz : ∀ {n : Nat} {d : PyData} {xy : Int × Int}, cnt n d = some xy → gd 0 d = true ∧ (sz d : Int) + 100 ≤ 600 * xy.1
  | 0, _, _, h => nomatch h
  | n + 1, d, xy, h => by
    unfold cnt at h
    split at h
    · rename_i hn
      unfold isNode at hn
      obtain ⟨h1, h2⟩ := Bool.and_eq_true_iff.mp hn
      obtain ⟨a, b, r, rfl⟩ := pair_or_call h1
      obtain ⟨h3, h4⟩ := Bool.and_eq_true_iff.mp (show (areMarks a && fewB b) = true from h2)
      obtain ⟨g1, z1⟩ := marks_sz h3
      cases b with
      | tuple bs =>
        obtain ⟨g2, z2⟩ := fold_sz (fun t pq e => cnt_sz e) (show bs.foldl (stepB (cnt n)) (some (1, (r.length : Int))) = some xy from h)
        dsimp only at z2
        have hr : gdAll 0 r = true ∧ szAll r ≤ 44 := by
          rcases Bool.or_eq_true_iff.mp h1 with z | z
          · have e : (a :: PyData.tuple bs :: r).length = 2 := of_decide_eq_true z
            cases r with
            | nil => exact ⟨rfl, by simp [szAll]⟩
            | cons y ys => simp at e
          · obtain ⟨y1, y2⟩ := Bool.and_eq_true_iff.mp (Bool.and_eq_true_iff.mp z).2
            have e : (a :: PyData.tuple bs :: r).length = 3 := of_decide_eq_true y1
            match r, e, y2 with
            | [y], _, y2 =>
              have z3 : isCallS (some y) = true := y2
              cases y with
              | str s =>
                have e4 : V.str s = V.str "call" := of_decide_eq_true z3
                cases e4
                exact ⟨by decide +kernel, by decide +kernel⟩
              | _ => cases z3
        refine ⟨?_, ?_⟩
        · simp only [gd, gdAll, g1, g2, hr.1, Bool.and_self]
        · have := hr.2
          simp only [sz, szAll]
          omega
      | _ => cases h4
    · cases h
theorem shape_sz {c : Int} {d : PyData} (h : shape c d = true) : gd 0 d = true ∧ sz d ≤ 3600 := by
  unfold shape at h
  cases e : cnt 4 d with
  | none =>
    rw [e] at h
    cases h
  | some xy =>
    rw [e] at h
    have n6 := of_decide_eq_true (Bool.and_eq_true_iff.mp h).1
    obtain ⟨g, z⟩ := cnt_sz e
    exact ⟨g, by omega⟩
end K01
set_option Elab.async false
set_option linter.all false
set_option maxRecDepth 100000
set_option maxHeartbeats 4000000
namespace RU
open PySem L2 L2H DQ K01 EnT LamX LamD RZ
open XH hiding same_refl same_trans same_new
mutual
theorem can_nodict : ∀ d : PyData, d.canLay0 = true → d.hasDict = false
  | .none, _ => rfl
  | .bool _, _ => rfl
  | .int _, _ => rfl
  | .str _, _ => rfl
  | .list xs, h => can_nodicts xs h
  | .tuple xs, h => can_nodicts xs h
  | .dict _, h => nomatch (show false = true from h)
theorem can_nodicts : ∀ ds : List PyData, PyData.canLayAll0 ds = true → PyData.hasDictAll ds = false
  | [], _ => rfl
  | d :: ds, h => by
    obtain ⟨h1, h2⟩ := Bool.and_eq_true_iff.mp (show (d.canLay0 && PyData.canLayAll0 ds) = true from h)
    show (d.hasDict || PyData.hasDictAll ds) = false
    rw [can_nodict d h1, can_nodicts ds h2]
    rfl
end
/-- repr of what was told -/
def rReprP (K : PySem.W.Frag) : List V → Hp → VK → Prop := fun xs H Q => ∃ (a : Addr) (d : PyData), xs = [.ref a] ∧ Dp K H (.ref a) d ∧ d.canLay0 = true ∧ OkD d ∧ Q (.str d.shown) H
theorem call_reprP {X : Cx} (hg : X.A.guards = some []) (hu : X.A.units + 100 < cLine) : CallR X (.builtin "repr") (rReprP X.K) := by
  intro pins s σ H xs us Q I r h
  obtain ⟨a, d, rfl, hd, cl, ⟨sh, dp, sz⟩, q⟩ := h
  rw [Vals.ref1 r]
  obtain ⟨as, rd⟩ := Dp.reads I d _ (.ref a) hd rfl
  exact PySem.repr_of_reads' rd sh (fun z => by rw [can_nodict d cl] at z; cases z) hg (by omega) (fun _ _ e => e) (fun h' t tk kp => ⟨.str _, H, I.kept kp, ⟨_, rfl⟩, q⟩) sz
theorem firstBad_all {c : Int} {ds : List PyData} (h : firstBad c ds = none) : ∀ d ∈ ds, shape c d = true := fun d hd => by
  have z := List.findIdx?_eq_none_iff.mp h d hd
  simpa using z
theorem firstBad_lt {c : Int} {ds : List PyData} {i : Nat} (h : firstBad c ds = some i) : i < ds.length := (List.findIdx?_eq_some_iff_getElem.mp h).1
def okDB (d : PyData) : Bool := d.showable && (decide (d.depth ≤ 60) && decide (d.shown.length ≤ sizeLine))
theorem okD_by {d : PyData} (h : okDB d = true) : OkD d := by
  unfold okDB at h
  simp only [Bool.and_eq_true, decide_eq_true_eq] at h
  exact ⟨h.1, h.2.1, h.2.2⟩
theorem tdE {i : Nat} (h : i ≤ 3) : OkD (tdOf (.inl (.inl (.tuple [.str "end", .int (i : Int)])))) := by
  obtain rfl | rfl | rfl | rfl : i = 0 ∨ i = 1 ∨ i = 2 ∨ i = 3 := by omega
  · exact okD_by (by decide +kernel)
  · exact okD_by (by decide +kernel)
  · exact okD_by (by decide +kernel)
  · exact okD_by (by decide +kernel)
theorem tdS {i : Nat} (h : i ≤ 3) : OkD (tdOf (.inl (.inl (.tuple [.str "step", .int (i : Int)])))) := by
  obtain rfl | rfl | rfl | rfl : i = 0 ∨ i = 1 ∨ i = 2 ∨ i = 3 := by omega
  · exact okD_by (by decide +kernel)
  · exact okD_by (by decide +kernel)
  · exact okD_by (by decide +kernel)
  · exact okD_by (by decide +kernel)
theorem row_len {d : PyData} {lo hi : Int} (h : isRow d lo hi = true) : ((itemsD d).length : Int) ≤ hi := of_decide_eq_true (Bool.and_eq_true_iff.mp (Bool.and_eq_true_iff.mp (show (isSeq d && (decide (lo ≤ ((itemsD d).length : Int)) && decide (((itemsD d).length : Int) ≤ hi))) = true from h)).2).2
theorem dueR_ok (de ds : PyData) : dueOk (asB (dueR de ds)) ∧ OkD (tdOf (asB (dueR de ds))) := by
  unfold dueR
  split
  · rename_i h
    obtain ⟨h1, h2⟩ := Bool.and_eq_true_iff.mp h
    have l1 := row_len h1
    have l2 := row_len h2
    cases e1 : firstBad 0 (itemsD de) with
    | some i =>
      have := firstBad_lt e1
      exact ⟨pl_end (by omega), tdE (by omega)⟩
    | none =>
      dsimp only
      cases e2 : firstBad 1 (itemsD ds) with
      | some i =>
        have := firstBad_lt e2
        exact ⟨pl_step (by omega), tdS (by omega)⟩
      | none =>
        have a1 := firstBad_all e1
        have a2 := firstBad_all e2
        have ok : dueOk (.inr (itemsD de, itemsD ds)) := ⟨fun d hd => shape_plain (a1 d hd), fun d hd => shape_plain (a2 d hd)⟩
        refine ⟨ok, (okT_of (N := 0) (Nat.zero_le _) ?_ ?_ ?_).self⟩
        · show (gdAll 0 [.tuple (itemsD de), .tuple (itemsD ds)]) = true
          simp only [gdAll, gd, Bool.and_true]
          exact Bool.and_eq_true_iff.mpr ⟨gdAll_iff.mpr fun d hd => (shape_sz (a1 d hd)).1, gdAll_iff.mpr fun d hd => (shape_sz (a2 d hd)).1⟩
        · have s1 := szs (c := 3600) fun d hd => (shape_sz (a1 d hd)).2
          have s2 := szs (c := 3600) fun d hd => (shape_sz (a2 d hd)).2
          show szAll [.tuple (itemsD de), .tuple (itemsD ds)] + 4 ≤ 1000000
          simp only [szAll, sz]
          omega
        · exact Nat.le_trans (td_plain ok).2 (by decide)
  · exact ⟨pl_none, okD_by (by decide +kernel)⟩
end RU
set_option Elab.async false
set_option linter.all false
set_option maxRecDepth 100000
set_option maxHeartbeats 16000000
namespace RU
open PySem L2 L2H DQ K01 EnT LamX LamD RZ
open XH hiding same_refl same_trans same_new
/-! the law's own def -/
structure RX2 (P : Program) (w : World) (K : PySem.W.Frag) (mg : Str → Option Value) (base : Heap) (C CB fI fEq p0 : Addr) (dI dEq : FuncData) : Prop where
  rcl : RCl K mg C fI
  GI : FnOk P w K mg base (L2.CX P w) 12 fI dI ["self", "ends", "steps"] (spRI K C CB)
  bI0 : Binds K dI ["self", "ends", "steps"] []
  bI1 : Binds K dI ["self", "ends", "steps"] [.ref p0]
  d0 : ∀ H : Hp, SqT K H p0 []
  geq : FnOk P w K mg base CX0 1 fEq dEq ["self", "other"] (spEqR K C)
  beq : Binds K dEq ["self", "other"] []
  req : REq K C fEq
abbrev nLw : List Str := ["script", "m", "turn", "ends", "steps", "handed", "one", "body", "three", "some", "more", "k", "at", "first", "last", "far"]
theorem scLw : FnScope nLw ["script"] (defScope sLaw) := ⟨rfl, rfl, rfl, by decide +kernel, rfl, by decide +kernel, by decide +kernel⟩
abbrev qLw : Str := (("law" : Str) ++ ".<locals>.") ++ "<lambda>"
def spLaw (T : List (Addr × Str)) (K : PySem.W.Frag) : Sp := fun vs H Q _ => ∃ (a : Addr) (ns : List Int), vs = [.ref a] ∧ SqL K H a (ns.map V.int) ∧ ns.length ≤ 63 ∧ Sys H ∧ Tabs T H ∧ ∀ H', Q (.bl true) H'
theorem bmin : bootBuiltins ("min" : Str) = some (.builtin "min") := by decide +kernel
theorem or_ne {K : PySem.W.Frag} {ta tb : TE} {u : TT} {t e : TS} {D : Ends} {σ : L2.St} {H : Hp} (h : ta σ H fun x H1 => tb σ H1 fun y H2 => rNeD K x y H2 fun z H3 => ∃ k, z = .bl k ∧ (if k = true then (if true = true then t D σ H3 else e D σ H3) else u σ H3 fun b H4 => if b = true then t D σ H4 else e D σ H4)) :
    tIfS (tOr (tTest (tOp (rNeD K) ta tb)) u) t e D σ H := h
theorem tseq_of {t u : TS} {D : Ends} {σ : L2.St} {H : Hp} (h : t { D with nx := u D } σ H) : tSeq t u D σ H := h
theorem ifne1 {K : PySem.W.Frag} {ta tb : TE} {t e : TS} {D : Ends} {σ : L2.St} {H : Hp} (h : ta σ H fun x H1 => tb σ H1 fun y H2 => rNeD K x y H2 fun z H3 => ∃ k, z = .bl k ∧ (if k = true then t D σ H3 else e D σ H3)) :
    tIfS (tTest (tOp (rNeD K) ta tb)) t e D σ H := h
theorem cut_at2 (xs : List V) {j : Nat} : cutV xs (some (j : Int)) (some ((j : Int) + 1)) = (xs.drop j).take 1 := by
  by_cases h : j < xs.length
  · exact cut_at xs h
  · have e : xs.drop j = [] := List.drop_eq_nil_of_le (by omega)
    rw [e]
    unfold cutV
    rw [show ((j : Int) + 1) = ((j + 1 : Nat) : Int) by omega, HT.sIx_nat, HT.sIx_nat]
    have e2 : xs.drop (min j xs.length) = [] := List.drop_eq_nil_of_le (by omega)
    rw [e2]
    simp
theorem dq_nons {H : Hp} : ∀ k : Nat, DqAll H (List.replicate k [V.non]).flatten (List.replicate k [PyData.none]).flatten
  | 0 => .nil
  | k + 1 => by
    rw [List.replicate_succ, List.replicate_succ, List.flatten_cons, List.flatten_cons]
    exact (DqAll.cons .non .nil).app (dq_nons k)
theorem ifop_of {r : R2} {ta tb : TE} {t e : TS} {D : Ends} {σ : L2.St} {H : Hp} (h : ta σ H fun x H1 => tb σ H1 fun y H2 => r x y H2 fun z H3 => ∃ k, z = .bl k ∧ (if k = true then t D σ H3 else e D σ H3)) :
    tIfS (tTest (tOp r ta tb)) t e D σ H := h
theorem due_of {K : PySem.W.Frag} {Q : VK} {E : XK} {H : Hp} {v v' : V} {de ds : PyData} (h1 : Dq H v de) (h2 : Dq H v' ds) (sy : Sys H) (k : Tells K Q H (asB (dueR de ds))) : spDue K [v, v'] H Q E := by
  refine ⟨v, v', de, ds, rfl, h1, h2, sy, fun pl e => ?_, fun es ss e => ?_⟩
  · rw [e] at k
    exact (show PlOk pl ∧ SaysNo "rules" Q H pl from k).2
  · rw [e] at k
    exact k
section
variable {P : Program} {w : World} {K : PySem.W.Frag} {mg : Str → Option Value} {base : Heap}
theorem ok_law {f fB fN fY fBe fS fF fD fI fEq p0 C CB CN fTo cc PP : Addr} {fd dB dN dY dBe dS dF dD dI dEq dTo : FuncData} {T : List (Addr × Str)} (F : Fun K "law" "law" sLaw f fd) (hcd : fd.code = .ref cc) (TB : TabB base mg cc PP) (hmT : (PP, qLw) ∈ T) (huT : ∀ p ∈ T, p.1 = PP → p.2 = qLw)
    (R : RX P w K mg base C CB CN fTo dTo) (R2 : RX2 P w K mg base C CB fI fEq p0 dI dEq)
    (FB : Fun K "_law_begun" "_law_begun" sBeg fB dB) (bB : Binds K dB ["script"] []) (gB : mg "_law_begun" = some (.ref fB)) (GB : FnOk P w K mg base CX0 1 fB dB ["script"] (spBeg K))
    (FN : Fun K "_law_next" "_law_next" sNext fN dN) (bN : Binds K dN ["m", "many"] []) (gN : mg "_law_next" = some (.ref fN)) (GN : FnOk P w K mg base CX0 1 fN dN ["m", "many"] spNx)
    (FY : Fun K "_law_body" "_law_body" sBody fY dY) (bY : Binds K dY ["m", "size"] []) (gY : mg "_law_body" = some (.ref fY)) (GY : FnOk P w K mg base CX0 7 fY dY ["m", "size"] spBy)
    (FE : Fun K "_law_bent" "_law_bent" sBent fBe dBe) (bE : Binds K dBe ["m", "thing"] []) (gE : mg "_law_bent" = some (.ref fBe)) (GE : FnOk P w K mg base CX0 16 fBe dBe ["m", "thing"] (spBe (10 ^ 30) 12))
    (FS : Fun K "_law_ends_and_steps" "_law_ends_and_steps" sEas fS dS) (bS : Binds K dS ["m", "sizes"] []) (gS : mg "_law_ends_and_steps" = some (.ref fS)) (GS : FnOk P w K mg base CX0 8 fS dS ["m", "sizes"] spEas)
    (FF : Fun K "_law_further_right" "_law_further_right" sFur fF dF) (bF : Binds K dF ["m", "ends", "steps", "one"] []) (gF : mg "_law_further_right" = some (.ref fF)) (GF : FnGs P w K mg base 17 fF dF ["m", "ends", "steps", "one"] (spFu T K C))
    (FD : Fun K "_law_due" "_law_due" sDue fD dD) (bD : Binds K dD ["ends", "steps"] []) (gD : mg "_law_due" = some (.ref fD)) (GD : FnGs P w K mg base 12 fD dD ["ends", "steps"] (spDue K)) (tR : mg "range" = none) (tM : mg "min" = none) :
    FnGs P w K mg base 18 f fd ["script"] (spLaw T K) := by
  refine fnGs_of (k := 17) F scLw (fun A outer s H vs Q E hr hg h => ?_)
  obtain ⟨sc, ns, rfl, hsc, hlen, sy, tb, kk⟩ := h
  have hu : (A.deeper (PyProof.Rows.envOfC "law" (defScope sLaw) s.heap.objs.size f fd.code)).units + 100 < cLine := by have := hr.un; omega
  have hu2 : (A.deeper (PyProof.Rows.envOfC "law" (defScope sLaw) s.heap.objs.size f fd.code)).units + 64 < cLine := by omega
  have hg' : (A.deeper (PyProof.Rows.envOfC "law" (defScope sLaw) s.heap.objs.size f fd.code)).guards = some [] := hg
  obtain ⟨f2, d2, x2, m2, b2, g2⟩ := R.ws
  refine ⟨_, pss_cons (ps_set (i := 1) scLw.nd rfl (Or.inr rfl) (pe_call GB (hr.mono (by decide)) (by rfl) gB FB.kp bB .nil pass0 (pa_cons (pv 0) pa_nil)))
    (pss_cons (ps_for PassesOwn.never rfl (pi_range1 rfl tR (pa_cons (pe_op op_add pe_int (pe_callB (call_min2 rfl) (by rfl) tM bmin (pa_cons (pe_callB call_len_seq (by rfl) R.tr.len PySem.boot_len (pa_cons (pv 0) pa_nil)) (pa_cons pe_int pa_nil)))) pa_nil)) (pg_name (i := 2) scLw.nd rfl (Or.inl rfl))
      (pss_cons (ps_asg (pe_call GS (hr.mono (by decide)) (by rfl) gS FS.kp bS .nil pass0 (pa_cons (pv 1) (pa_cons (pe_tup (pa_cons pe_int (pa_cons pe_int (pa_cons pe_int pa_nil)))) pa_nil))) (pg_tup (n := 2) rfl (pgs_cons (pg_name (i := 3) scLw.nd rfl (Or.inl rfl)) (pgs_cons (pg_name (i := 4) scLw.nd rfl (Or.inl rfl)) pgs_nil))))
      (pss_cons (ps_set (i := 5) scLw.nd rfl (Or.inl rfl) (pe_lst (pa_cons (pe_callTy call_list_of (by rfl) R.tr.list blist (pa_cons (pv 3) pa_nil)) (pa_cons (pe_callTy call_list_of (by rfl) R.tr.list blist (pa_cons (pv 4) pa_nil)) pa_nil))))
      (pss_cons (ps_set (i := 6) scLw.nd rfl (Or.inr rfl) (pe_make R2.rcl.mkc R2.GI (hr.mono (by decide)) (by rfl) R2.rcl.g R2.bI0 .nil (passes_call LamX.takes0 fun _ _ _ _ h => h) (pa_cons (pe_ix ix_list (pv 5) pe_int (fun _ _ => rfl)) (pa_cons (pe_ix ix_list (pv 5) pe_int (fun _ _ => rfl)) pa_nil))))
      (pss_cons (ps_expr (pe_bm PySem.F.plainAttrs_list PySem.F.slot_list_append PySem.F.type_list_append mt_append (pe_ix ix_list (pv 5) pe_int (fun _ _ => rfl)) (pa_cons pe_non pa_nil)))
      (pss_cons (ps_expr (pe_bm PySem.F.plainAttrs_list PySem.F.slot_list_append PySem.F.type_list_append mt_append (pe_ix ix_list (pv 5) pe_int (fun _ _ => rfl)) (pa_cons pe_non pa_nil)))
      (pss_cons (ps_if (PW.pt (pw_or (pt_cmpR (op_neD hu2) (pe_told (T := T) (C := C) (CB := CB) (CN := CN) (k := 14) R.fto R.bto rfl R.gto hg' R.gB R.gN R.repr R.rB R.rN R.two R.cl R.n1 R.n2 TB hcd hmT huT (hr.mono (by decide)) (lamS_by (sc := defScope sLaw) (by decide +kernel)) rfl (fun _ _ _ _ _ => rfl) (fun A2 o2 s2 H2 E2 f2 c2 hr2 => (pv 6))) (pe_tup (pa_cons (pe_callTy call_tuple_of (by rfl) R.tr.tuple btup (pa_cons (pv 3) pa_nil)) (pa_cons (pe_callTy call_tuple_of (by rfl) R.tr.tuple btup (pa_cons (pv 4) pa_nil)) pa_nil))) (by rfl)) (pw_or1 (pt_cmpR (OwI.op_eqI R2.req.e R2.geq R2.beq rfl (hr.mono (by decide)) pass0) (pv 6) (pe_fld (pv 6) rfl) (by rfl))))) (pss_one (ps_ret pe_bl)) pss_nil)
      (pss_cons (ps_asg (pe_tup (pa_cons (pe_call GY (hr.mono (by decide)) (by rfl) gY FY.kp bY .nil pass0 (pa_cons (pv 1) (pa_cons pe_int pa_nil))) (pa_cons (pe_make R2.rcl.mkc R2.GI (hr.mono (by decide)) (by rfl) R2.rcl.g R2.bI0 .nil (passes_call LamX.takes0 fun _ _ _ _ h => h) (pa_cons (pv 3) (pa_cons (pe_lc (own := [("k", 11)]) (g := gName 11) (tt := tYes) rfl scLw.nd (pi_range1 rfl tR (pa_cons pe_int pa_nil)) (blkOk_by (own := [("k", 11)]) (N := ["script", "m", "turn", "ends", "steps", "handed", "one", "body", "three", "some", "more", "k", "at", "first", "last", "far"]) (sc := defScope sLaw) (by decide +kernel))
          (fun _ _ _ _ _ => pg_name (i := 11) scLw.nd rfl (Or.inl rfl)) (fun _ _ _ _ _ => pts_nil) (fun _ _ _ _ _ => (pe_call GY (hr.mono (by decide)) (by rfl) gY FY.kp bY .nil pass0 (pa_cons (pv 1) (pa_cons pe_int pa_nil))))) pa_nil))) pa_nil))) (pg_tup (n := 2) rfl (pgs_cons (pg_name (i := 7) scLw.nd rfl (Or.inr rfl)) (pgs_cons (pg_name (i := 8) scLw.nd rfl (Or.inr rfl)) pgs_nil))))
      (pss_cons (ps_if (pt_cmpR (op_neD hu2) (pe_told (T := T) (C := C) (CB := CB) (CN := CN) (k := 14) R.fto R.bto rfl R.gto hg' R.gB R.gN R.repr R.rB R.rN R.two R.cl R.n1 R.n2 TB hcd hmT huT (hr.mono (by decide)) (lamS_by (sc := defScope sLaw) (by decide +kernel)) rfl (fun _ _ _ _ _ => rfl) (fun A2 o2 s2 H2 E2 f2 c2 hr2 => pe_meth (pv 8) R.cl m2 g2 hr2 b2 .nil (passes_call (takes_of rfl rfl rfl rfl) fun _ _ _ _ h => h) (pa_cons (pv 7) pa_nil))) (pe_tup (pa_cons pe_str (pa_cons pe_str pa_nil))) (by rfl)) (pss_one (ps_ret pe_bl)) pss_nil)
      (pss_cons (ps_if (PW.pt (pw_or (pt_not (pt_val (pe_callGs GF hr hg' (by rfl) gF FF.kp bF pass0 (pa_cons (pv 1) (pa_cons (pv 3) (pa_cons (pv 4) (pa_cons (pv 6) pa_nil))))))) (pw_or1 (pt_cmpR (OwI.op_neI R2.req.e R2.geq R2.beq (hr.mono (by decide)) pass0) (pe_make R2.rcl.mkc R2.GI (hr.mono (by decide)) (by rfl) R2.rcl.g R2.bI1 (show Vals [V.ref p0] [Value.ref p0] from .cons rfl .nil) (passes_call LamX.takes0 fun _ _ _ _ h => h) (pa_cons (pv 3) pa_nil)) (pe_make R2.rcl.mkc R2.GI (hr.mono (by decide)) (by rfl) R2.rcl.g R2.bI0 .nil (passes_call LamX.takes0 fun _ _ _ _ h => h) (pa_cons (pe_callTy call_tuple_of (by rfl) R.tr.tuple btup (pa_cons (pv 3) pa_nil)) (pa_cons (pe_tup pa_nil) pa_nil))) (by rfl))))) (pss_one (ps_ret pe_bl)) pss_nil)
      (pss_cons (ps_par rfl scLw.nd (i := 9) (j := 10) rfl rfl (by decide) rfl rfl (pa_cons (pe_lst (pa_cons (pe_callTy call_tuple_of (by rfl) R.tr.tuple btup (pa_cons (pv 3) pa_nil)) (pa_cons (pe_lst pa_nil) (pa_cons (pe_tup pa_nil) (pa_cons pe_non (pa_cons pe_int (pa_cons pe_str (pa_cons pe_dnewK (pa_cons (pe_op op_rep (pv 3) pe_int) pa_nil))))))))) (pa_cons (pe_lst (pa_cons (pe_callTy call_tuple_of (by rfl) R.tr.tuple btup (pa_cons (pv 4) pa_nil)) (pa_cons pe_non (pa_cons pe_int (pa_cons (pe_op op_cat (pv 4) (pe_op op_rep (pe_lst (pa_cons pe_non pa_nil)) pe_int)) (pa_cons pe_str (pa_cons pe_dnewK pa_nil))))))) pa_nil)) rfl)
      (pss_cons (ps_for PassesOwn.never rfl (pi_range1 rfl tR (pa_cons pe_int pa_nil)) (pg_name (i := 11) scLw.nd rfl (Or.inl rfl)) (pss_cons (ps_set (i := 12) scLw.nd rfl (Or.inl rfl) (pe_call GN (hr.mono (by decide)) (by rfl) gN FN.kp bN .nil pass0 (pa_cons (pv 1) (pa_cons (pe_callB call_len_seq (by rfl) R.tr.len PySem.boot_len (pa_cons (pv 3) pa_nil)) pa_nil))))
      (pss_cons (ps_expr (pe_bm PySem.F.plainAttrs_list PySem.F.slot_list_append PySem.F.type_list_append mt_append (pv 9) (pa_cons (pe_op op_cat (pe_op op_cat (pe_slice sl_list (pv 3) po_none (po_some (pv 12))) (pe_lst (pa_cons (pe_call (frame GE) (hr.mono (by decide)) (by rfl) gE FE.kp bE .nil pass0 (pa_cons (pv 1) (pa_cons (pe_ix ix_list (pv 3) (pv 12) (fun _ _ => rfl)) pa_nil))) pa_nil))) (pe_slice sl_list (pv 3) (po_some (pe_op op_add (pv 12) pe_int)) po_none)) pa_nil)))
      (pss_one (ps_expr (pe_bm PySem.F.plainAttrs_list PySem.F.slot_list_append PySem.F.type_list_append mt_append (pv 10) (pa_cons (pe_op op_cat (pe_op op_cat (pe_slice sl_list (pv 4) po_none (po_some (pv 12))) (pe_lc (own := [("body", 7)]) (g := gName 7) (tt := tYes) rfl scLw.nd (pi_list (pe_slice sl_list (pv 4) (po_some (pv 12)) (po_some (pe_op op_add (pv 12) pe_int)))) (blkOk_by (own := [("body", 7)]) (N := ["script", "m", "turn", "ends", "steps", "handed", "one", "body", "three", "some", "more", "k", "at", "first", "last", "far"]) (sc := defScope sLaw) (by decide +kernel))
          (fun _ _ _ _ _ => pg_name (i := 7) scLw.nd rfl (Or.inl rfl)) (fun _ _ _ _ _ => pts_nil) (fun _ _ _ _ _ => (pe_call (frame GE) (hr.mono (by decide)) (by rfl) gE FE.kp bE .nil pass0 (pa_cons (pv 1) (pa_cons (pv 7) pa_nil)))))) (pe_op op_rep (pe_lst (pa_cons pe_non pa_nil)) (pe_call GN (hr.mono (by decide)) (by rfl) gN FN.kp bN .nil pass0 (pa_cons (pv 1) (pa_cons pe_int pa_nil))))) pa_nil)))))))
      (pss_cons (ps_for PassesOwn.never rfl (pi_range1 rfl tR (pa_cons pe_int pa_nil)) (pg_name (i := 11) scLw.nd rfl (Or.inl rfl)) (pss_cons (ps_asg (pe_tup (pa_cons (pe_ix ix_list (pv 9) (pe_call GN (hr.mono (by decide)) (by rfl) gN FN.kp bN .nil pass0 (pa_cons (pv 1) (pa_cons (pe_callB call_len_seq (by rfl) R.tr.len PySem.boot_len (pa_cons (pv 9) pa_nil)) pa_nil))) (fun _ _ => rfl)) (pa_cons (pe_ix ix_list (pv 10) (pe_call GN (hr.mono (by decide)) (by rfl) gN FN.kp bN .nil pass0 (pa_cons (pv 1) (pa_cons (pe_callB call_len_seq (by rfl) R.tr.len PySem.boot_len (pa_cons (pv 10) pa_nil)) pa_nil))) (fun _ _ => rfl)) pa_nil))) (pg_tup (n := 2) rfl (pgs_cons (pg_name (i := 13) scLw.nd rfl (Or.inr rfl)) (pgs_cons (pg_name (i := 14) scLw.nd rfl (Or.inr rfl)) pgs_nil))))
      (pss_one (ps_if (pt_cmpR op_ne (pe_callB (call_reprP hg' hu) (by rfl) R.repr brepr (pa_cons (pe_told (T := T) (C := C) (CB := CB) (CN := CN) (k := 14) R.fto R.bto rfl R.gto hg' R.gB R.gN R.repr R.rB R.rN R.two R.cl R.n1 R.n2 TB hcd hmT huT (hr.mono (by decide)) (lamS_by (sc := defScope sLaw) (by decide +kernel)) rfl (fun _ _ _ _ _ => rfl) (fun A2 o2 s2 H2 E2 f2 c2 hr2 => pe_make R2.rcl.mkc R2.GI (hr2.mono (by decide)) (by rfl) R2.rcl.g R2.bI0 .nil (passes_call (takes_of rfl rfl rfl rfl) fun _ _ _ _ h => h) (pa_cons (pv 13) (pa_cons (pv 14) pa_nil)))) pa_nil)) (pe_callB (call_reprP hg' hu) (by rfl) R.repr brepr (pa_cons (pe_callGs GD (hr.mono (by decide)) hg' (by rfl) gD FD.kp bD pass0 (pa_cons (pv 13) (pa_cons (pv 14) pa_nil))) pa_nil)) (by rfl)) (pss_one (ps_ret pe_bl)) pss_nil))))
      (pss_cons (ps_set (i := 15) scLw.nd rfl (Or.inl rfl) (pe_call GS (hr.mono (by decide)) (by rfl) gS FS.kp bS .nil pass0 (pa_cons (pv 1) (pa_cons (pe_tup (pa_cons pe_int (pa_cons pe_int (pa_cons pe_int pa_nil)))) pa_nil))))
      (pss_one (ps_if (PW.pt (pw_or (pt_cmpR op_ne (pe_cmpR (OwI.op_eqI R2.req.e R2.geq R2.beq rfl (hr.mono (by decide)) pass0) (pv 6) (pe_make R2.rcl.mkc R2.GI (hr.mono (by decide)) (by rfl) R2.rcl.g R2.bI0 .nil (passes_call LamX.takes0 fun _ _ _ _ h => h) (pa_cons (pe_ix ix_tup (pv 15) pe_int (fun _ _ => rfl)) (pa_cons (pe_ix ix_tup (pv 15) pe_int (fun _ _ => rfl)) pa_nil))) (by rfl)) (pe_cmpR (op_eqD hu2) (pe_tup (pa_cons (pv 3) (pa_cons (pv 4) pa_nil))) (pv 15) (by rfl)) (by rfl)) (pw_or1 (pt_cmpR op_ne (pe_cmpR (op_neD hu2) (pv 4) (pe_lst pa_nil) (by rfl)) (pe_cmpR (OwI.op_neI R2.req.e R2.geq R2.beq (hr.mono (by decide)) pass0) (pv 6) (pe_make R2.rcl.mkc R2.GI (hr.mono (by decide)) (by rfl) R2.rcl.g R2.bI1 (show Vals [V.ref p0] [Value.ref p0] from .cons rfl .nil) (passes_call LamX.takes0 fun _ _ _ _ h => h) (pa_cons (pv 3) pa_nil)) (by rfl)) (by rfl))))) (pss_one (ps_ret pe_bl)) pss_nil))))))))))))))))
    (pss_one (ps_ret pe_bl)))
, ?_⟩
  refine ⟨_, rfl, sc, ns, rfl, hsc, hlen, fun H1 m c l cs ls sm1 M1 => ?_⟩
  have sys1 : Sys (fr H1 m l) := by
    obtain ⟨o, u, e⟩ := sy
    have e1 := sm1 _ _ e
    exact ⟨o, u, fr_some e1 (ne_of e1 M1.hm (by intro z; cases z)) (ne_of e1 M1.hl (by intro z; cases z))⟩
  have tab1 := tabs_fr M1 (tb.ext sm1)
  refine ⟨_, rfl, sc, _, rfl, .inl (sm1.seq hsc), _, _, rfl, _, _, rfl, rfl, _, rfl, ?_, ?_, ?_⟩
  · split <;> omega
  · split <;> omega
  refine for_range (lo := 0) (fun i σ' H' => ∃ (l' : Addr) (ls' : List Int) (n' : Int) (v2 v3 v4 v5 v6 v7 v8 v9 v10 v11 v12 v13 v14 v15 : Option V), σ' = [some (V.ref sc), some (V.ref m), v2, v3, v4, v5, v6, v7, v8, v9, v10, v11, v12, v13, v14, v15] ∧ MAt H' m c l' cs ls' n' ∧ n' ≤ 20000 * (i : Int) ∧ Sys (fr H' m l') ∧ Tabs T (fr H' m l'))
    ⟨l, ls, 0, none, none, none, none, none, none, none, none, none, none, none, none, none, none, rfl, M1, by omega, sys1, tab1⟩ ?_ ?_
  rotate_left
  · rintro σ' H' ⟨l', ls', n', v2, v3, v4, v5, v6, v7, v8, v9, v10, v11, v12, v13, v14, v15, rfl, _, _⟩
    exact kk H'
  rintro i σ' H' hi ⟨l', ls', n', v2, v3, v4, v5, v6, v7, v8, v9, v10, v11, v12, v13, v14, v15, rfl, M', hn', sys', tab'⟩
  have hi8 : i < 14 := by
    refine Nat.lt_of_lt_of_le hi ?_
    split <;> omega
  clear hsc hlen sy sm1 M1 sys1 tab1 tb
  -- ends, steps
  refine ⟨_, rfl, by show 3 ≤ sizeLine; decide, fun z0 nz0 => ?_⟩
  obtain ⟨G0, k0, e0⟩ := (Gw.mk (H := H') M' .refl).new (o := .tup [.int 3, .int 3, .int 4]) nz0
  refine ⟨m, c, l', z0, cs, ls', n', rfl, G0.mat, by omega, e0, fun p eL sL xs ys es ss H2 l2 ls2 n2 M2 nn2 s2 ep eE qE eS qS ES nES => ?_⟩
  refine ⟨p, _, rfl, SqT.of (fr_of ep).2.2, rfl, _, _, rfl, _, _, rfl, rfl, ?_⟩
  have sys2 : Sys (fr H2 m l2) := (sys'.same k0).same s2.1
  have tab2 : Tabs T (fr H2 m l2) := (tab'.ext k0).ext s2.1
  have n2b : n2 ≤ 20000 * (i : Int) + 3000 := by omega
  clear sys' tab' e0 k0 G0 s2 M' nz0
  have sh := sh_of ES
  obtain ⟨tE, tS⟩ := es_tup ES
  have lx : xs.length = es.length := qE.len
  have ly : ys.length = ss.length := qS.len
  have x3 : xs.length ≤ 3 := by have := sh.l3; omega
  have y3 : ys.length ≤ 3 := by have := sh.m3; omega
  have W2 : Wd T m c l2 cs ls2 n2 H2 H2 := ⟨M2, fun _ _ e _ => e, tab2⟩
  -- handed
  have hE2 := (fr_of eE).2.2
  have hS2 := (fr_of eS).2.2
  have qE2 := qE.same (fr_same (H := H2))
  have qS2 := qS.same (fr_same (H := H2))
  refine ⟨_, rfl, eL, xs, rfl, .inl (SqL.of hE2), fun h1 nh1 => ?_⟩
  have u1 := same_new (o := .lst xs) nh1
  refine ⟨_, rfl, sL, ys, rfl, .inl (SqL.of (u1 _ _ hS2)), fun h2 nh2 => ⟨by show 2 ≤ sizeLine; decide, fun hL nhL => ?_⟩⟩
  have u2 := same_new (o := .lst ys) nh2
  have u3 := same_new (o := .lst [.ref h1, .ref h2]) nhL
  have a1 := u3 _ _ (u2 _ _ (upd_same (H := H2) (a := h1) (o := .lst xs)))
  have a2 := u3 _ _ (upd_same (H := upd H2 h1 (.lst xs)) (a := h2) (o := .lst ys))
  have a3 := upd_same (H := upd (upd H2 h1 (.lst xs)) h2 (.lst ys)) (a := hL) (o := .lst [.ref h1, .ref h2])
  have s3 := same_trans u1 (same_trans u2 u3)
  have nh12 : h1 ≠ h2 := ne_of_none (upd_same (H := H2) (a := h1) (o := .lst xs)) nh2
  have nh1L : h1 ≠ hL := ne_of_none (u2 _ _ (upd_same (H := H2) (a := h1) (o := .lst xs))) nhL
  have nh2L : h2 ≠ hL := ne_of_none (upd_same (H := upd H2 h1 (.lst xs)) (a := h2) (o := .lst ys)) nhL
  have z1 : H2 h1 = none := nh1
  have z2 : H2 h2 = none := same_out u1 nh2
  generalize upd (upd (upd H2 h1 (.lst xs)) h2 (.lst ys)) hL (.lst [.ref h1, .ref h2]) = H3 at a1 a2 a3 s3 ⊢
  -- one
  refine ⟨_, rfl, hL, _, 0, .ref h1, rfl, rfl, SqL.of a3, rfl, _, rfl, hL, _, 1, .ref h2, rfl, rfl, SqL.of a3, rfl, fun one dxo n1 nd ned => ?_⟩
  refine make_yes (de := .list es) (ds := .list ss) (.inl (.lst a1 (qE2.same s3))) (.inl (.lst a2 (qS2.same s3))) n1 nd ned (dueR_lists sh) fun H4 s4 r4 => ⟨rfl, ?_⟩
  -- the appends
  have b1 := s4 _ _ a1
  have b2 := s4 _ _ a2
  have b3 := s4 _ _ a3
  refine ⟨_, rfl, hL, _, 0, .ref h1, rfl, rfl, SqL.of b3, rfl, .inl ⟨rfl, _, SqL.of b1⟩, h1, xs, _, rfl, rfl, b1, small1000 (by omega), ?_⟩
  have r5 := r4.put (o := .lst (xs ++ [.non])) b1 tE tS
  refine ⟨_, rfl, hL, _, 1, .ref h2, rfl, rfl, SqL.of (by rw [upd_ne nh1L.symm]; exact b3), rfl, .inl ⟨rfl, _, SqL.of (by rw [upd_ne nh12.symm]; exact b2)⟩, h2, ys, _, rfl, rfl, by rw [upd_ne nh12.symm]; exact b2, small1000 (by omega), ?_⟩
  have r6 := r5.put (p := h2) (o := .lst (ys ++ [.non])) (by rw [upd_ne nh12.symm]; exact b2) tE tS
  have s6 : Same H2 (upd (upd H4 h1 (.lst (xs ++ [.non]))) h2 (.lst (ys ++ [.non]))) := fun b u e => by
    have nb1 : b ≠ h1 := fun w => by rw [w, z1] at e; cases e
    have nb2 : b ≠ h2 := fun w => by rw [w, z2] at e; cases e
    rw [upd_ne nb2, upd_ne nb1]
    exact s4 _ _ (s3 _ _ e)
  generalize upd (upd H4 h1 (.lst (xs ++ [.non]))) h2 (.lst (ys ++ [.non])) = H6 at r6 s6 ⊢
  have W6 := W2.same s6
  -- told one; one == one.ends
  have y6 : Sys H6 := (sys2.same fr_same).same s6
  have okO : dueOk (.inr (es, ss)) := ⟨sh.pe, sh.ps⟩
  refine or_ne (tells_one (i := 6) rfl r6 W6.tb fun H7 e7 t7 => tells_of okO fun g1 H8 s8 dg1 => ?_)
  have E8 : ExtN H6 H8 := extN_trans e7 (extN_same s8)
  have W8 := (W6.lam e7 t7).same s8
  have cE8 := E8 _ _ (s6 _ _ hE2) fun _ w => by cases w
  have cS8 := E8 _ _ (s6 _ _ hS2) fun _ w => by cases w
  have qE8 := (qE2.same s6).extN E8
  have qS8 := (qS2.same s6).extN E8
  have r8 := r6.extN E8
  unfold tTup
  refine tcons_of (tuple_te (fun Q' q => ⟨_, rfl, q⟩) (.inl (SqL.of cE8)) fun q1 H9 s9 e9 => ?_)
  refine tcons_of (tuple_te (fun Q' q => ⟨_, rfl, q⟩) (.inl (SqL.of (s9 _ _ cS8))) fun q2 H10 s10 e10 => ?_)
  refine ⟨by show 2 ≤ sizeLine; decide, fun q3 nq3 => ?_⟩
  have v10 := same_trans s9 (same_trans s10 (same_new (o := .tup [.ref q1, .ref q2]) nq3))
  refine ⟨tdOf (.inr (es, ss)), tdOf (.inr (es, ss)), dp_same dg1 v10, .tup (SqT.of upd_same) (.cons (.tup (sqt_same e9 (same_trans s10 (same_new nq3))) ((qE8.same v10).dp (can_of sh.pe))) (.cons (.tup (sqt_same e10 (same_new nq3)) ((qS8.same v10).dp (can_of sh.ps))) .nil)), shaped_of (td_plain okO) (by decide), shaped_of (td_plain okO) (by decide), _, rfl, ?_⟩
  rw [eqv_self (shaped_of (td_plain okO) (by decide))]
  refine iteF ?_
  have r11 := r8.same v10
  have W11 := W8.same v10
  generalize upd H10 q3 (.tup [.ref q1, .ref q2]) = H11 at r11 W11 ⊢
  have shE : SeqAt.shaped (.tuple es) = true := shaped_of (plain_tup sh.pe) (by decide)
  have shS : SeqAt.shaped (.tuple ss) = true := shaped_of (plain_tup sh.ps) (by decide)
  obtain ⟨dx1, pe1, ps1, xs1, ys1, o1, o2, o3, o4, o5⟩ := id r11
  refine ⟨_, rfl, _, rfl, one, C, dx1, _, .ref pe1, rfl, o1, R.cl, R.n1, lk_e _ _, one, dx1, _, rfl, o1, ⟨pe1, rfl, .inr ⟨xs1, o2, R2.req.n2⟩⟩, one, .ref pe1, es, ss, rfl, r11, shE, shS, .inr ⟨pe1, xs1, rfl, o2, false, rfl, _, rfl, iteF (nx_go ?_)⟩⟩
  -- body, three
  have M11 := W11.mat
  have k11 : ExtN (fr H2 m l2) (fr H11 m l2) := W11.ext
  have fE := k11 _ _ eE fun _ w => by cases w
  have fS := k11 _ _ eS fun _ w => by cases w
  have fqE := qE.extN k11
  have fqS := qS.extN k11
  have fsys := sys_extN sys2 k11
  have ftab := W11.tabs
  have fR := r11.fr M11 tE tS
  refine ⟨_, rfl, m, c, l2, cs, ls2, n2, 3, rfl, M11, by omega, by decide, by decide, fun vb db qb H12 l3 ls3 n3 M3 nn3 s12 dqb tpb hqb => ?_⟩
  refine ⟨_, rfl, _, rfl, by decide, by decide, fun D nD => ?_⟩
  obtain ⟨G12, t12, e12⟩ := (Gw.mk (H := H12) M3 .refl).new (o := .lst []) nD
  have Dm : D ≠ m := (ne_of_none M3.hm nD).symm
  have Dc : D ≠ c := (ne_of_none M3.hc nD).symm
  refine lc_range (fun j H' => ∃ (l' : Addr) (ls' : List Int) (n' : Int) (zs : List V) (ds : List PyData), Dl H12 m c l3 cs n3 (700 * (j : Int)) D zs H' l' ls' n' ∧ DqAll (fr H' m l') zs ds ∧ zs.length = j ∧ ∀ d ∈ ds, StepD d)
    ⟨l3, ls3, n3, [], [], ⟨G12.mat, by omega, G12.sm, e12⟩, .nil, rfl, fun d hd => absurd hd (by simp)⟩ ?_ ?_
  · rintro j H8' hj ⟨l8, ls8, n8, zs, ds, d8, q8, hl8, he8⟩
    have hj3 : j < 3 := hj
    refine ⟨rfl, ?_⟩
    unfold tYes
    try dsimp only
    rw [if_pos rfl]
    have le8 := d8.le
    refine ⟨_, rfl, m, c, l8, cs, ls8, n8, 2, rfl, d8.mat, by omega, by omega, by omega, fun rA dA qA HA lA lsA nA MA nnA sA dqA tpA hqA => ?_⟩
    have dE := d8.next (k' := 700 * ((j + 1 : Nat) : Int)) MA nnA sA (by omega)
    have lz : zs.length < sizeLine := small1000 (by omega)
    have te : tupA ds = true := tupA_iff.mpr fun d hd => by
      obtain ⟨q, h, _⟩ := he8 d hd
      exact h.tc.tup
    have qa : DqAll (fr HA m lA) (zs ++ [rA]) (ds ++ [dA]) := (q8.same sA.1).app (.cons dqA .nil)
    have ta : tupA (ds ++ [dA]) = true := tupA_iff.mpr fun d hd => by
      rcases List.mem_append.mp hd with h | h
      · exact tupA_iff.mp te d h
      · rw [List.mem_singleton.mp h]
        exact tpA.tc.tup
    refine ⟨_, (fr_of dE.dd).2.2, lz, lA, lsA, nA, zs ++ [rA], ds ++ [dA], dE.put nD Dm Dc, qa.tups (gw_put dE.dd) ta, by rw [List.length_append, hl8]; rfl, fun d hd => ?_⟩
    rcases List.mem_append.mp hd with h | h
    · exact he8 d h
    · rw [List.mem_singleton.mp h]
      exact ⟨qA, tpA, by omega⟩
  rintro H13 ⟨l4, ls4, n4, zs, b3s, d13, q13, hl13, he13⟩
  have l3s : b3s.length = 3 := by
    rw [← q13.len, hl13]
    rfl
  have n4b : n4 ≤ n2 + 2800 := by have := d13.le; have : ((3 : Int)).toNat = 3 := rfl; omega
  have sh3 : SH es b3s := ⟨sh.l1, sh.l3, by omega, sh.e, fun d hd => by
    obtain ⟨q, t, hq⟩ := he13 d hd
    refine body_shape t.tc ?_ hq
    obtain ⟨ms, bs, n0, rfl, _⟩ := t
    rfl⟩
  have k13 : Same (fr H11 m l2) (fr H13 m l4) := same_trans s12.1 d13.sm.1
  have gE := k13 _ _ fE
  have gS := k13 _ _ fS
  have gqE := fqE.same k13
  have gqS := fqS.same k13
  have gsys := fsys.same k13
  have gtab := ftab.ext k13
  have gR := fR.same k13
  have gb := dqb.same d13.sm.1
  have M13 := d13.mat
  have gD := (fr_of d13.dd).2.2
  have gE' := (fr_of gE).2.2
  refine fun three dx3 hx3 hdx3 ne3 => make_yes (.inl (.lst gE' (gqE.same fr_same))) (.inl (.lst gD (q13.same fr_same))) hx3 hdx3 ne3 (dueR_lists sh3) fun H14 s14 r14 => ⟨rfl, by show 2 ≤ sizeLine; decide, fun pt npt => ⟨pt, _, rfl, SqT.of upd_same, rfl, _, _, rfl, _, _, rfl, rfl, ?_⟩⟩
  have vv14 := same_trans s14 (same_new (o := .tup [vb, .ref three]) npt)
  have r15 := r14.same (same_new (o := .tup [vb, .ref three]) npt)
  generalize upd H14 pt (.tup [vb, .ref three]) = H15 at vv14 r15 ⊢
  have W15 : Wd T m c l4 cs ls4 n4 H13 H15 := ⟨M13.same vv14, extN_same (fr_sm vv14), gtab.ext (fr_sm vv14)⟩
  have b15 : Dq H15 vb db := (gb.same fr_same).same vv14
  have y15 : Sys H15 := (gsys.same fr_same).same vv14
  have hsb : shape 1 db = true := body_shape tpb.tc (by obtain ⟨ms, bs, n0, rfl, _⟩ := tpb; rfl) (by omega)
  have dwe : dWS es b3s db = .inl (.inl .none) := by
    unfold dWS
    rw [if_pos hsb, if_neg (by omega)]
  dsimp only
  refine tseq_of (ifne1 ?_)
  refine tells_meth (m := "with_step") (due := fun es ss d => asB (dueWS es ss d)) (i := 8) (j := 7) rfl rfl r15 (by have := sh.l3; omega) (by omega) b15 y15 W15.tb (by decide) (by decide) fun H16 e16 t16 => tells_cast ((due_ws sh3).trans dwe) (tells_of (due := .inl (.inl .none)) pl_none fun g2 H17 s17 dg2 => ?_)
  refine ⟨by show 2 ≤ sizeLine; decide, fun p5 np5 => ⟨tdOf (.inl (.inl .none)), tdOf (.inl (.inl .none)), dp_same dg2 (same_new np5), dp_two upd_same, by decide +kernel, by decide +kernel, _, rfl, ?_⟩⟩
  rw [eqv_self (by decide +kernel)]
  refine iteF (nx_go ?_)
  have W17 := ((W15.lam e16 t16).same s17).same (same_new (o := .tup [.str "rules", .str "None"]) np5)
  generalize upd H17 p5 (.tup [.str "rules", .str "None"]) = H18 at W17 ⊢
  -- further right; Rules(ends) != Rules(tuple(ends), ())
  have k18 : ExtN (fr H13 m l4) (fr H18 m l4) := W17.ext
  refine ⟨_, rfl, _, rfl, _, rfl, _, rfl, rfl, m, c, l4, eL, sL, one, cs, ls4, n4, xs, ys, es, ss, rfl, W17.mat, by omega, sys_extN gsys k18, W17.tabs, k18 _ _ gE (fun _ w => by cases w), gqE.extN k18, k18 _ _ gS (fun _ w => by cases w), gqS.extN k18, ES, gR.extN k18, fun H19 l5 ls5 n5 M5 nn5 e19 t19 => ⟨_, rfl, iteF ?_⟩⟩
  have k19 : ExtN (fr H13 m l4) (fr H19 m l5) := extN_trans k18 e19
  have pE := k19 _ _ gE fun _ w => by cases w
  have pS := k19 _ _ gS fun _ w => by cases w
  have pqE := gqE.extN k19
  have pqS := gqS.extN k19
  have psys := sys_extN gsys k19
  have pR := gR.extN k19
  have pb := gb.extN k19
  have pE' := (fr_of pE).2.2
  have sh0 : SH es [] := ⟨sh.l1, sh.l3, by decide, sh.e, fun d hd => absurd hd (by simp)⟩
  refine ⟨_, rfl, fun x1 dx2 hx1 hdx1 ne1 => make_yes (.inl (.lst pE' (pqE.same fr_same))) (.inr ⟨p0, [], [], rfl, rfl, R2.d0 _, .nil⟩) hx1 hdx1 ne1 (dueR_lt sh0) fun H20 s20 r20 => ⟨rfl, ?_⟩⟩
  refine ⟨_, rfl, eL, xs, rfl, .inl ⟨SqL.of (s20 _ _ pE'), fun q5 nq5 => ⟨by show 0 ≤ sizeLine; decide, fun q6 nq6 => ?_⟩⟩⟩
  have s21 := same_new (o := .tup xs) nq5
  have s22 := same_new (o := .tup []) nq6
  have s23 := same_trans s20 (same_trans s21 s22)
  refine fun x2 dx4 hx2 hdx2 ne2 => make_yes (.inl (.tup (s22 _ _ upd_same) ((pqE.same fr_same).same s23))) (.inl (.tup upd_same .nil)) hx2 hdx2 ne2 (dueR_tt sh0) fun H24 s24 r24 => ⟨rfl, ?_⟩
  have r20' := r20.same (same_trans s21 (same_trans s22 s24))
  obtain ⟨dx5, pe5, ps5, xs5, ys5, g1, g2', g3, g4, g5⟩ := id r20'
  obtain ⟨dx6, pe6, ps6, xs6, ys6, f1, f2', f3, f4, f5⟩ := id r24
  have sh0S : SeqAt.shaped (.tuple []) = true := by decide
  refine ⟨x1, dx5, _, rfl, g1, ⟨x2, rfl, .inl ⟨C, dx6, _, f1, R2.req.n1⟩⟩, x1, .ref x2, es, [], rfl, r20', shE, sh0S, .inl ⟨x2, es, [], rfl, r24, shE, sh0S, _, rfl, _, rfl, ?_⟩⟩
  have eqt : eqR es [] es [] = true := by
    unfold eqR
    rw [eqv_self shE, eqv_self sh0S]
    rfl
  rw [eqt]
  refine iteF (nx_go ?_)
  have s25 := same_trans s23 s24
  have W24 : Wd T m c l5 cs ls5 n5 H19 H24 := (Wd.mk (H0 := H19) M5 (fun _ _ e _ => e) t19).same s25
  -- some, more
  have hE24 := s25 _ _ pE'
  have hS24 := s25 _ _ ((fr_of pS).2.2)
  have Z0 : Ls T (fun _ => False) m c l5 cs ls5 n5 (fr H19 m l5) H24 := ⟨W24.mat, id, id, fun b z => z.elim, by rw [show cut H24 (fun _ => False) = H24 from funext fun b => cut_n id]; exact W24.ext, by rw [show cut H24 (fun _ => False) = H24 from funext fun b => cut_n id]; exact W24.tabs⟩
  have oE := W24.ext _ _ pE fun _ w => by cases w
  have oS := W24.ext _ _ pS fun _ w => by cases w
  have oqE := pqE.extN W24.ext
  have oqS := pqS.extN W24.ext
  have Zf : cut H24 (fun _ => False) = H24 := funext fun b => cut_n id
  rw [← Zf] at oE oS oqE oqS
  refine ⟨_, rfl, eL, xs, rfl, .inl ⟨SqL.of hE24, fun t1 nt1 => ⟨by show 0 ≤ sizeLine; decide, fun e1' ne1' => ⟨by show 0 ≤ sizeLine; decide, fun u1' nu1' => fun d1' nd1' => ?_⟩⟩⟩⟩
  obtain ⟨L1, j1, f1⟩ := Z0.new (o := .tup xs) nt1
  obtain ⟨L2, j2, f2⟩ := L1.new (o := .lst []) ne1'
  obtain ⟨L3, j3, f3⟩ := L2.new (o := .tup []) nu1'
  obtain ⟨L4, j4, f4⟩ := L3.new (o := .dK []) nd1'
  have w4 := same_trans (same_new (o := .tup xs) nt1) (same_trans (same_new (o := .lst []) ne1') (same_trans (same_new (o := .tup []) nu1') (same_new (o := .dK []) nd1')))
  refine ⟨_, rfl, eL, 4, xs, rfl, rfl, w4 _ _ hE24, by decide, by decide, ?_, fun r1' nr1' => ⟨by show 8 ≤ sizeLine; decide, fun sL1 nsL1 => ?_⟩⟩
  · show xs.length * 4 ≤ sizeLine
    exact Nat.le_of_lt (small1000 (by omega))
  obtain ⟨L5, j5, f5⟩ := L4.new (o := .lst (List.replicate (Int.toNat 4) xs).flatten) nr1'
  have w5 := same_trans w4 (same_new (o := .lst (List.replicate (Int.toNat 4) xs).flatten) nr1')
  obtain ⟨L6, j6⟩ := L5.more nsL1 [.ref t1, .ref e1', .ref u1', .non, .int 5, .str "a", .ref d1', .ref r1']
  have w6 := same_trans w5 (same_new (o := .lst [.ref t1, .ref e1', .ref u1', .non, .int 5, .str "a", .ref d1', .ref r1']) nsL1)
  have m5 := same_trans j1 (same_trans j2 (same_trans j3 (same_trans j4 j5)))
  have dS5 := DqAll.cons (.tup (j5 _ _ (j4 _ _ (j3 _ _ (j2 _ _ f1)))) (oqE.same m5)) (.cons (.lst (j5 _ _ (j4 _ _ (j3 _ _ f2))) .nil) (.cons (.tup (j5 _ _ (j4 _ _ f3)) .nil) (.cons .non (.cons (.int 5) (.cons (.str "a" (by decide +kernel)) (.cons (.dic (j5 _ _ f4)) (.cons (.lst f5 ((oqE.same m5).app ((oqE.same m5).app ((oqE.same m5).app ((oqE.same m5).app .nil))))) .nil)))))))
  have dS6 := dS5.same j6
  have m6 := same_trans m5 j6
  have qs6 : (upd _ sL1 (.lst [.ref t1, .ref e1', .ref u1', .non, .int 5, .str "a", .ref d1', .ref r1'])) sL1 = some (.lst [.ref t1, .ref e1', .ref u1', .non, .int 5, .str "a", .ref d1', .ref r1']) := upd_same (H := upd (upd (upd (upd (upd H24 t1 (.tup xs)) e1' (.lst [])) u1' (.tup [])) d1' (.dK [])) r1' (.lst (List.replicate (Int.toNat 4) xs).flatten))
  generalize upd (upd (upd (upd (upd (upd H24 t1 (.tup xs)) e1' (.lst [])) u1' (.tup [])) d1' (.dK [])) r1' (.lst (List.replicate (Int.toNat 4) xs).flatten)) sL1 (.lst [.ref t1, .ref e1', .ref u1', .non, .int 5, .str "a", .ref d1', .ref r1']) = HA at L6 j6 w6 dS6 m6 qs6 ⊢
  refine ⟨_, rfl, sL, ys, rfl, .inl ⟨SqL.of (w6 _ _ hS24), fun t2 nt2 => ?_⟩⟩
  obtain ⟨L7, j7, f7⟩ := L6.new (o := .tup ys) nt2
  refine ⟨_, rfl, by show 1 ≤ sizeLine; decide, fun n1' nn1' => ?_⟩
  obtain ⟨L8, j8, f8⟩ := L7.new (o := .lst [.non]) nn1'
  refine ⟨n1', 4, [.non], rfl, rfl, upd_same, by decide, by decide, by show 1 * 4 ≤ sizeLine; decide, fun n2' nn2' => ?_⟩
  obtain ⟨L9, j9, f9⟩ := L8.new (o := .lst (List.replicate (Int.toNat 4) [V.non]).flatten) nn2'
  have w9 := same_trans w6 (same_trans (same_new (o := .tup ys) nt2) (same_trans (same_new (o := .lst [.non]) nn1') (same_new (o := .lst (List.replicate (Int.toNat 4) [V.non]).flatten) nn2')))
  refine ⟨sL, n2', ys, _, rfl, rfl, w9 _ _ hS24, upd_same, Nat.le_of_lt (small1000 (by show ys.length + 4 ≤ 1000; omega)), fun n3' nn3' => fun d2' nd2' => ⟨by show 6 ≤ sizeLine; decide, fun mL nmL => ⟨_, _, rfl, ?_⟩⟩⟩
  obtain ⟨LA, jA, fA⟩ := L9.new (o := .lst (ys ++ (List.replicate (Int.toNat 4) [V.non]).flatten)) nn3'
  obtain ⟨LB, jB, fB⟩ := LA.new (o := .dK []) nd2'
  obtain ⟨LC, jC⟩ := LB.more nmL [.ref t2, .non, .int 5, .ref n3', .str "e", .ref d2']
  have m9 := same_trans j7 (same_trans j8 (same_trans j9 (same_trans jA jB)))
  have oqS9 := (oqS.same m6).same m9
  have dMB := DqAll.cons (.tup (jB _ _ (jA _ _ (j9 _ _ (j8 _ _ f7)))) oqS9) (.cons .non (.cons (.int 5) (.cons (.lst (jB _ _ fA) (oqS9.app (.cons .non (.cons .non (.cons .non (.cons .non .nil)))))) (.cons (.str "e" (by decide +kernel)) (.cons (.dic fB) .nil)))))
  have dMC := dMB.same jC
  have dSC := (dS6.same m9).same jC
  have wC : Same HA (upd _ mL (.lst [.ref t2, .non, .int 5, .ref n3', .str "e", .ref d2'])) := same_trans (same_new (o := .tup ys) nt2) (same_trans (same_new (o := .lst [.non]) nn1') (same_trans (same_new (o := .lst (List.replicate (Int.toNat 4) [V.non]).flatten) nn2') (same_trans (same_new (o := .lst (ys ++ (List.replicate (Int.toNat 4) [V.non]).flatten)) nn3') (same_trans (same_new (o := .dK []) nd2') (same_new (o := .lst [.ref t2, .non, .int 5, .ref n3', .str "e", .ref d2']) nmL)))))
  have qsC := wC _ _ qs6
  have qmC := upd_same (H := upd (upd (upd (upd (upd HA t2 (.tup ys)) n1' (.lst [.non])) n2' (.lst (List.replicate (Int.toNat 4) [V.non]).flatten)) n3' (.lst (ys ++ (List.replicate (Int.toNat 4) [V.non]).flatten))) d2' (.dK [])) (a := mL) (o := .lst [.ref t2, .non, .int 5, .ref n3', .str "e", .ref d2'])
  generalize upd (upd (upd (upd (upd (upd HA t2 (.tup ys)) n1' (.lst [.non])) n2' (.lst (List.replicate (Int.toNat 4) [V.non]).flatten)) n3' (.lst (ys ++ (List.replicate (Int.toNat 4) [V.non]).flatten))) d2' (.dK [])) mL (.lst [.ref t2, .non, .int 5, .ref n3', .str "e", .ref d2']) = HC at LC jC dMC dSC wC qsC qmC ⊢
  generalize hZ : (fun b => (False ∨ b = sL1) ∨ b = mL) = Z at LC jC dMC dSC
  have zs : Z sL1 := by
    rw [← hZ]
    exact .inl (.inr rfl)
  have zm : Z mL := by
    rw [← hZ]
    exact .inr rfl
  have nzm : sL1 ≠ mL := fun w => by
    rw [w, qmC] at qsC
    cases qsC
  dsimp only
  refine tseq_of ⟨_, rfl, by decide, by decide, for_range (lo := 0) (fun k σ' H' => ∃ (l' : Addr) (ls' : List Int) (n' : Int) (zv wv : List V) (zd wd : List PyData) (v11 v12 : Option V), σ' = [some (.ref sc), some (.ref m), some (V.int (0 + (i : Int))), some (.ref eL), some (.ref sL), some (.ref hL), some (.ref one), some vb, some (.ref three), some (.ref sL1), some (.ref mL), v11, v12, v13, v14, v15] ∧ Ls T Z m c l' cs ls' n' (fr H19 m l5) H' ∧ n' ≤ n5 + 300 * (k : Int) ∧
      H' sL1 = some (.lst zv) ∧ DqAll (fr (cut H' Z) m l') zv zd ∧ zv.length = 8 + k ∧ H' mL = some (.lst wv) ∧ DqAll (fr (cut H' Z) m l') wv wd ∧ wv.length = 6 + k) ⟨l5, ls5, n5, _, _, _, _, _, _, rfl, LC, by omega, qsC, dSC, rfl, qmC, dMC, rfl⟩ ?_ ?_⟩
  · rintro k σ' Hk hk ⟨lk, lsk, nk, zv, wv, zd, wd, v11, v12, rfl, L, hnk, hz, qz, lz, hw, qw, lw⟩
    have hk5 : k < 5 := hk
    have kE := L.sm _ _ pE fun _ w => by cases w
    have kE' := cut_sub _ _ (fr_of kE).2.2
    -- at
    refine ⟨_, rfl, _, rfl, eL, xs, rfl, .inl (SqL.of kE'), m, c, lk, _, cs, lsk, nk, rfl, L.mat, by have := sh.l1; omega, by omega, by omega, fun at' Ha la lsa na a0 a1 Ma nna sa => ?_⟩
    obtain ⟨aN, rfl⟩ := Int.eq_ofNat_of_zero_le a0
    have aN' : aN < xs.length := by omega
    obtain ⟨L1a, k1a⟩ := L.fs Ma sa
    have z1' := L.at sa zs hz
    have w1' := L.at sa zm hw
    have qz1 := qz.same k1a
    have qw1 := qw.same k1a
    have eE1 := L1a.sm _ _ pE fun _ w => by cases w
    have qE1 := pqE.extN L1a.sm
    -- some.append
    refine ⟨_, rfl, .inl ⟨rfl, _, SqL.of z1'⟩, ?_⟩
    refine ⟨_, rfl, _, rfl, _, rfl, eL, xs, rfl, SqL.of (cut_sub _ _ (fr_of eE1).2.2), fun b1 nb1 => ?_⟩
    obtain ⟨L2a, k2a, f2a⟩ := L1a.new (o := .lst (cutV xs none (some ((aN : Nat) : Int)))) nb1
    have eE2 := k2a _ _ eE1
    have qE2' := qE1.same k2a
    obtain ⟨d, hd⟩ : ∃ d, es[aN]? = some d := ⟨_, List.getElem?_eq_getElem (by omega)⟩
    obtain ⟨v, hv, dv⟩ := qE2'.at hd
    obtain ⟨qq, tcd, hqq⟩ := ES.2.2.2.1 d (List.mem_of_getElem? hd)
    obtain ⟨bg, bs', bd'⟩ := tcd.bound
    refine ⟨_, rfl, _, rfl, _, rfl, eL, xs, _, v, rfl, rfl, SqL.of (cut_sub _ _ (fr_of eE2).2.2), atI_nat hv, Z, L2a.zz, m, c, la, cs, lsa, na, v, d, rfl, L2a.cut, by omega, dv, gd_mono (Nat.zero_le _) _ bg, by omega, by omega, fun rb db2 Hb lb lsb nb' Mb nnb sb dqb2 bnb gone => ⟨by show 1 ≤ sizeLine; decide, fun b2 nb2 => ?_⟩⟩
    obtain ⟨L3a, k3a⟩ := L2a.frame Mb sb gone
    have dqb3 : Dq (fr (cut (join Hb (upd Ha b1 (.lst (cutV xs none (some ((aN : Nat) : Int))))) Z) Z) m lb) rb db2 := by rw [cut_join gone]; exact dqb2
    have z3 : (join Hb (upd Ha b1 (.lst (cutV xs none (some ((aN : Nat) : Int))))) Z) sL1 = some (.lst zv) := (join_z zs).trans (same_new nb1 _ _ z1')
    have w3 : (join Hb (upd Ha b1 (.lst (cutV xs none (some ((aN : Nat) : Int))))) Z) mL = some (.lst wv) := (join_z zm).trans (same_new nb1 _ _ w1')
    generalize join Hb (upd Ha b1 (.lst (cutV xs none (some ((aN : Nat) : Int))))) Z = J at L3a k3a dqb3 z3 w3 nb2 ⊢
    have f3a := k3a _ _ f2a
    have eE3 := k3a _ _ eE2
    have qE3 := qE2'.same k3a
    obtain ⟨L4a, k4a, f4a⟩ := L3a.new (o := .lst [rb]) nb2
    have t4 := same_new (o := .lst [rb]) nb2
    refine ⟨b1, b2, _, _, rfl, rfl, t4 _ _ (cut_sub _ _ (fr_of f3a).2.2), upd_same, Nat.le_of_lt (small1000 ?_), fun b3 nb3 => ?_⟩
    · rw [cut_to, List.length_take]
      show min aN xs.length + 1 ≤ 1000
      omega
    obtain ⟨L5a, k5a, f5a⟩ := L4a.new (o := .lst (cutV xs none (some ((aN : Nat) : Int)) ++ [rb])) nb3
    have t5 := same_new (o := .lst (cutV xs none (some ((aN : Nat) : Int)) ++ [rb])) nb3
    have eE5 := k5a _ _ (k4a _ _ eE3)
    refine ⟨_, rfl, _, rfl, _, _, rfl, rfl, _, rfl, eL, xs, rfl, SqL.of (cut_sub _ _ (fr_of eE5).2.2), fun b4 nb4 => ?_⟩
    obtain ⟨L6a, k6a, f6a⟩ := L5a.new (o := .lst (cutV xs (some (((aN : Nat) : Int) + 1)) none)) nb4
    have t6 := same_new (o := .lst (cutV xs (some (((aN : Nat) : Int) + 1)) none)) nb4
    refine ⟨b3, b4, _, _, rfl, rfl, t6 _ _ upd_same, upd_same, Nat.le_of_lt (small1000 ?_), fun b5 nb5 => ?_⟩
    · rw [cut_to, show (((aN : Nat) : Int) + 1) = ((aN + 1 : Nat) : Int) by omega, cut_from, List.length_append, List.length_take, List.length_drop]
      show min aN xs.length + 1 + (xs.length - (aN + 1)) ≤ 1000
      omega
    obtain ⟨L7a, k7a, f7a⟩ := L6a.new (o := .lst (cutV xs none (some ((aN : Nat) : Int)) ++ [rb] ++ cutV xs (some (((aN : Nat) : Int) + 1)) none)) nb5
    have t7 := same_trans t4 (same_trans t5 (same_trans t6 (same_new (o := .lst (cutV xs none (some ((aN : Nat) : Int)) ++ [rb] ++ cutV xs (some (((aN : Nat) : Int) + 1)) none)) nb5)))
    have kk7 := same_trans k4a (same_trans k5a (same_trans k6a k7a))
    have item : Dq _ (.ref b5) (.list (es.take aN ++ [db2] ++ es.drop (aN + 1))) := .lst f7a (by
      rw [cut_to, show (((aN : Nat) : Int) + 1) = ((aN + 1 : Nat) : Int) by omega, cut_from]
      exact (((qE3.take aN).app (.cons dqb3 .nil)).app (qE3.drop (aN + 1))).same (by
        rw [cut_to, show (((aN : Nat) : Int) + 1) = ((aN + 1 : Nat) : Int) by omega, cut_from] at kk7
        exact kk7))
    have z7 := t7 _ _ z3
    have w7' := t7 _ _ w3
    have qz7 := (qz1.same (same_trans k2a (same_trans k3a kk7))).app (.cons item .nil)
    have qw7 := qw1.same (same_trans k2a (same_trans k3a kk7))
    refine ⟨sL1, zv, .ref b5, rfl, rfl, z7, small1000 (by omega), ?_⟩
    have L8a := L7a.put (p := sL1) (ys := zv ++ [.ref b5]) zs
    generalize hH7 : upd (upd (upd (upd J b2 (.lst [rb])) b3 (.lst (cutV xs none (some ((aN : Nat) : Int)) ++ [rb]))) b4 (.lst (cutV xs (some (((aN : Nat) : Int) + 1)) none))) b5 (.lst (cutV xs none (some ((aN : Nat) : Int)) ++ [rb] ++ cutV xs (some (((aN : Nat) : Int) + 1)) none)) = H7' at L8a z7 w7' qz7 qw7 ⊢
    have w8' : (upd H7' sL1 (.lst (zv ++ [.ref b5]))) mL = some (.lst wv) := by rw [upd_ne nzm.symm]; exact w7'
    have z8' : (upd H7' sL1 (.lst (zv ++ [.ref b5]))) sL1 = some (.lst (zv ++ [.ref b5])) := upd_same
    rw [← cut_put (H := H7') (p := sL1) (o := .lst (zv ++ [.ref b5])) zs] at qz7 qw7
    generalize upd H7' sL1 (.lst (zv ++ [.ref b5])) = H8 at L8a w8' z8' qz7 qw7 ⊢
    -- more.append
    have eS8 := L8a.sm _ _ pS fun _ w => by cases w
    have qS8' := pqS.extN L8a.sm
    refine ⟨_, rfl, .inl ⟨rfl, _, SqL.of w8'⟩, ?_⟩
    refine ⟨_, rfl, _, rfl, _, rfl, sL, ys, rfl, SqL.of (cut_sub _ _ (fr_of eS8).2.2), fun c1 nc1 => ?_⟩
    obtain ⟨L9a, k9a, f9a⟩ := L8a.new (o := .lst (cutV ys none (some ((aN : Nat) : Int)))) nc1
    have t9 := same_new (o := .lst (cutV ys none (some ((aN : Nat) : Int)))) nc1
    refine ⟨_, rfl, _, rfl, _, rfl, _, rfl, _, _, rfl, rfl, _, rfl, sL, ys, rfl, SqL.of (t9 _ _ (cut_sub _ _ (fr_of eS8).2.2)), fun c2 nc2 => ⟨c2, rfl, ⟨_, SqL.of upd_same⟩, fun D2 nD2 => ?_⟩⟩
    rw [cut_at2] at nD2 ⊢
    obtain ⟨L10, k10, f10⟩ := L9a.new (o := .lst ((ys.drop aN).take 1)) nc2
    have t10 := same_new (o := .lst ((ys.drop aN).take 1)) nc2
    have z10 := t10 _ _ (t9 _ _ z8')
    have w10 := t10 _ _ (t9 _ _ w8')
    have qz10 := qz7.same (same_trans k9a k10)
    have qw10 := qw7.same (same_trans k9a k10)
    have f9b := k10 _ _ f9a
    have qS10 := qS8'.same (same_trans k9a k10)
    generalize upd (upd H8 c1 (.lst (cutV ys none (some ((aN : Nat) : Int))))) c2 (.lst ((ys.drop aN).take 1)) = H10 at L10 k10 f10 t10 z10 w10 qz10 qw10 f9b qS10 nD2 ⊢
    obtain ⟨L11, k11'⟩ := L10.more nD2 []
    have cl1 : ((ys.drop aN).take 1).length ≤ 1 := by rw [List.length_take]; exact Nat.min_le_left _ _
    have zD : sL1 ≠ D2 := ne_of_none z10 nD2
    have wD : mL ≠ D2 := ne_of_none w10 nD2
    refine lc_list (K := K) (fun j H' => ∃ (l' : Addr) (ls' : List Int) (n' : Int) (ev : List V) (ed : List PyData), Ls T (fun b => Z b ∨ b = D2) m c l' cs ls' n' (fr H19 m l5) H' ∧ n' ≤ nb' + 120 * (j : Int) ∧ ExtN (fr (cut H10 Z) m lb) (fr (cut H' fun b => Z b ∨ b = D2) m l') ∧
        H' D2 = some (.lst ev) ∧ DqAll (fr (cut H' fun b => Z b ∨ b = D2) m l') ev ed ∧ ev.length = j ∧ H' sL1 = some (.lst (zv ++ [.ref b5])) ∧ H' mL = some (.lst wv))
      ⟨lb, lsb, nb', [], [], L11, by omega, extN_same k11', upd_same, .nil, rfl, by rw [upd_ne zD]; exact z10, by rw [upd_ne wD]; exact w10⟩
      (fun j H' _ ⟨l', ls', n', ev, ed, L', _, e', _⟩ => SqL.of (cut_sub _ _ (fr_of (e' _ _ f10 fun _ w => by cases w)).2.2)) ?_ ?_
    · rintro j x H' hx ⟨l', ls', n', ev, ed, L', hn'', e', hD', qD', lD', hz', hw'⟩
      have j0 : j < 1 := by
        have := (List.getElem?_eq_some_iff.mp hx).1
        omega
      refine ⟨rfl, ?_⟩
      unfold tYes
      try dsimp only
      rw [if_pos rfl]
      have qc := ((qS10.drop aN).take 1).extN e'
      obtain ⟨d2', hd2⟩ : ∃ d2', ((ss.drop aN).take 1)[j]? = some d2' := ⟨_, List.getElem?_eq_getElem (by rw [← qc.len]; exact (List.getElem?_eq_some_iff.mp hx).1)⟩
      obtain ⟨x', hx', dx2⟩ := qc.at hd2
      rw [hx] at hx'
      obtain rfl : x = x' := Option.some.inj hx'
      obtain ⟨q2, tp2, hq2⟩ := ES.2.2.2.2 d2' (List.mem_of_mem_drop (List.mem_of_mem_take (List.mem_of_getElem? hd2)))
      obtain ⟨cg, cs', cd'⟩ := tp2.tc.bound
      refine ⟨_, rfl, _, rfl, _, L'.zz, m, c, l', cs, ls', n', x, d2', rfl, L'.cut, by omega, dx2, gd_mono (Nat.zero_le _) _ cg, by omega, by omega, fun rb2 db3 Hb2 lb2 lsb2 nb2' Mb2 nnb2 sb2 dqb bnb2 gone2 => ?_⟩
      obtain ⟨L'', k''⟩ := L'.frame Mb2 sb2 gone2
      have dqb' : Dq (fr (cut (join Hb2 H' fun b => Z b ∨ b = D2) fun b => Z b ∨ b = D2) m lb2) rb2 db3 := by rw [cut_join gone2]; exact dqb
      have jz : ∀ b, (Z b ∨ b = D2) → (join Hb2 H' fun b => Z b ∨ b = D2) b = H' b := fun b z => join_z z
      generalize (join Hb2 H' fun b => Z b ∨ b = D2) = J2 at L'' k'' dqb' jz ⊢
      refine ⟨ev, (jz D2 (.inr rfl)).trans hD', small1000 (by omega), lb2, lsb2, nb2', ev ++ [rb2], ed ++ [db3], L''.put (p := D2) (.inr rfl), by omega, ?_, upd_same, ?_, by rw [List.length_append, lD']; rfl, ?_, ?_⟩
      · rw [cut_put (p := D2) (.inr rfl)]
        exact extN_trans e' (extN_same k'')
      · rw [cut_put (p := D2) (.inr rfl)]
        exact (qD'.same k'').app (.cons dqb' .nil)
      · rw [upd_ne zD]
        exact (jz sL1 (.inl zs)).trans hz'
      · rw [upd_ne wD]
        exact (jz mL (.inl zm)).trans hw'
    rintro H' ⟨l', ls', n', ev, ed, L', hn'', e', hD', qD', lD', hz', hw'⟩
    obtain ⟨L12, k12⟩ := L'.less
    have e12 := extN_trans e' (extN_same k12)
    have qz12 := qz10.extN e12
    have qw12 := qw10.extN e12
    have qD12 := qD'.same k12
    have f12 := e12 _ _ f9b fun _ w => by cases w
    have qS12 := qS10.extN e12
    have lev : ev.length ≤ 1 := by rw [lD']; exact cl1
    refine ⟨c1, D2, _, _, rfl, rfl, cut_sub _ _ (fr_of f12).2.2, hD', Nat.le_of_lt (small1000 ?_), fun c3 nc3 => ?_⟩
    · rw [cut_to, List.length_take]
      omega
    obtain ⟨L13, k13', f13⟩ := L12.new (o := .lst (cutV ys none (some ((aN : Nat) : Int)) ++ ev)) nc3
    refine ⟨by show 1 ≤ sizeLine; decide, fun c4 nc4 => ?_⟩
    obtain ⟨L14, k14, f14⟩ := L13.new (o := .lst [.non]) nc4
    have t14 := same_trans (same_new (o := .lst (cutV ys none (some ((aN : Nat) : Int)) ++ ev)) nc3) (same_new (o := .lst [.non]) nc4)
    refine ⟨_, rfl, m, c, l', 2, cs, ls', n', rfl, L14.mat, by decide, by decide, ?_, fun rr Hq lq lsq nq rr0 rr1 Mq nnq sq => ?_⟩
    · have : ((ys.drop aN).take 1).length ≤ 1 := cl1
      omega
    obtain ⟨L15, k15⟩ := L14.fs Mq sq
    have z15 := L14.at sq zs (t14 _ _ hz')
    have w15 := L14.at sq zm (t14 _ _ hw')
    have f14' := k15 _ _ f14
    have f13' := k15 _ _ (k14 _ _ f13)
    refine ⟨c4, rr, [.non], rfl, rfl, cut_sub _ _ (fr_of f14').2.2, by omega, by omega, ?_, fun c5 nc5 => ?_⟩
    · show 1 * rr.toNat ≤ sizeLine
      exact Nat.le_of_lt (small1000 (by omega))
    obtain ⟨L16, k16, f16⟩ := L15.new (o := .lst (List.replicate rr.toNat [V.non]).flatten) nc5
    have t16 := same_new (o := .lst (List.replicate rr.toNat [V.non]).flatten) nc5
    have lrr : (List.replicate rr.toNat [V.non]).flatten.length ≤ 1 := by
      have hh : rr.toNat = 0 ∨ rr.toNat = 1 := by omega
      rcases hh with h | h
      · rw [h]
        exact Nat.zero_le _
      · rw [h]
        exact Nat.le_refl 1
    refine ⟨c3, c5, _, _, rfl, rfl, t16 _ _ (cut_sub _ _ (fr_of f13').2.2), upd_same, Nat.le_of_lt (small1000 ?_), fun c6 nc6 => ?_⟩
    · rw [cut_to, List.length_append, List.length_take]
      omega
    obtain ⟨L17, k17, f17⟩ := L16.new (o := .lst (cutV ys none (some ((aN : Nat) : Int)) ++ ev ++ (List.replicate rr.toNat [V.non]).flatten)) nc6
    have t17 := same_trans t16 (same_new (o := .lst (cutV ys none (some ((aN : Nat) : Int)) ++ ev ++ (List.replicate rr.toNat [V.non]).flatten)) nc6)
    have kk17 := same_trans k13' (same_trans k14 (same_trans k15 (same_trans k16 k17)))
    have item2 : Dq _ (.ref c6) (.list (ss.take aN ++ ed ++ (List.replicate rr.toNat [PyData.none]).flatten)) := .lst f17 (by
      rw [cut_to]
      refine DqAll.app ?_ (dq_nons _)
      have zz := ((qS12.take aN).app qD12).same kk17
      rw [cut_to] at zz
      exact zz)
    have z17 := t17 _ _ z15
    have w17 := t17 _ _ w15
    have qz17 := qz12.same kk17
    have qw17 := (qw12.same kk17).app (.cons item2 .nil)
    refine ⟨mL, wv, .ref c6, rfl, rfl, w17, small1000 (by omega), ?_⟩
    have L18 := L17.put (p := mL) (ys := wv ++ [.ref c6]) zm
    refine ⟨lq, lsq, nq, zv ++ [.ref b5], wv ++ [.ref c6], zd ++ [.list (es.take aN ++ [db2] ++ es.drop (aN + 1))], wd ++ [.list (ss.take aN ++ ed ++ (List.replicate rr.toNat [PyData.none]).flatten)], _, _, rfl, L18, ?_, ?_, ?_, by rw [List.length_append, lz]; show 8 + k + 1 = 8 + (k + 1); omega, upd_same, ?_, by rw [List.length_append, lw]; show 6 + k + 1 = 6 + (k + 1); omega⟩
    · omega
    · rw [upd_ne nzm]
      exact z17
    · rw [cut_put zm]
      exact qz17
    · rw [cut_put zm]
      exact qw17
  rintro σ' Hk ⟨lk, lsk, nk, zv, wv, zd, wd, v11, v12, rfl, L, hnk, hz, qz, lz, hw, qw, lw⟩
  dsimp only
  refine tseq_of ⟨_, rfl, by decide, by decide, for_range (lo := 0) (fun k σ' H' => ∃ (l' : Addr) (ls' : List Int) (n' : Int) (v11 v12 v13 v14 : Option V), σ' = [some (.ref sc), some (.ref m), some (V.int (0 + (i : Int))), some (.ref eL), some (.ref sL), some (.ref hL), some (.ref one), some vb, some (.ref three), some (.ref sL1), some (.ref mL), v11, v12, v13, v14, v15] ∧ Ls T Z m c l' cs ls' n' (fr H19 m l5) H' ∧ n' ≤ nk + 2 * (k : Int) ∧
      H' sL1 = some (.lst zv) ∧ DqAll (fr (cut H' Z) m l') zv zd ∧ H' mL = some (.lst wv) ∧ DqAll (fr (cut H' Z) m l') wv wd) ⟨lk, lsk, nk, _, _, _, _, rfl, L, by omega, hz, qz, hw, qw⟩ ?_ ?_⟩
  · rintro k σ' Hx hk ⟨lx', lsx, nx, v11, v12, v13, v14, rfl, Lx, hnx, hzx, qzx, hwx, qwx⟩
    have hk12 : k < 12 := hk
    have lz' : (zv.length : Int) = 13 := by rw [lz]; rfl
    have lw' : (wv.length : Int) = 11 := by rw [lw]; rfl
    refine ⟨_, rfl, _, rfl, _, rfl, sL1, zv, rfl, .inl (SqL.of hzx), m, c, lx', _, cs, lsx, nx, rfl, Lx.mat, by omega, by omega, by omega, fun a1 Ha la lsa na a10 a11 Ma nna sa => ?_⟩
    obtain ⟨aN, rfl⟩ := Int.eq_ofNat_of_zero_le a10
    obtain ⟨L1x, k1x⟩ := Lx.fs Ma sa
    have hz1 := Lx.at sa zs hzx
    have hw1 := Lx.at sa zm hwx
    have qz1 := qzx.same k1x
    have qw1 := qwx.same k1x
    obtain ⟨dz, hdz⟩ : ∃ dz, zd[aN]? = some dz := ⟨_, List.getElem?_eq_getElem (by rw [← qz1.len]; omega)⟩
    obtain ⟨vz, hvz, qvz⟩ := qz1.at hdz
    refine ⟨sL1, zv, _, vz, rfl, rfl, SqL.of hz1, atI_nat hvz, ?_⟩
    refine ⟨_, rfl, _, rfl, _, rfl, mL, wv, rfl, .inl (SqL.of hw1), m, c, la, _, cs, lsa, na, rfl, L1x.mat, by omega, by omega, by omega, fun a2 Hb lb lsb nb2 a20 a21 Mb nnb sb => ?_⟩
    obtain ⟨bN, rfl⟩ := Int.eq_ofNat_of_zero_le a20
    obtain ⟨L2x, k2x⟩ := L1x.fs Mb sb
    have hz2 := L1x.at sb zs hz1
    have hw2 := L1x.at sb zm hw1
    have qz2 := qz1.same k2x
    have qw2 := qw1.same k2x
    obtain ⟨dw, hdw⟩ : ∃ dw, wd[bN]? = some dw := ⟨_, List.getElem?_eq_getElem (by rw [← qw2.len]; omega)⟩
    obtain ⟨vw, hvw, qvw⟩ := qw2.at hdw
    refine ⟨mL, wv, _, vw, rfl, rfl, SqL.of hw2, atI_nat hvw, by show 2 ≤ sizeLine; decide, fun pt2 npt2 => ⟨pt2, _, rfl, SqT.of upd_same, rfl, _, _, rfl, _, _, rfl, rfl, ?_⟩⟩
    obtain ⟨L3x, k3x, _⟩ := L2x.new (o := .tup [vz, vw]) npt2
    have t3 := same_new (o := .tup [vz, vw]) npt2
    have hz3 := t3 _ _ hz2
    have hw3 := t3 _ _ hw2
    have qz3 := qz2.same k3x
    have qw3 := qw2.same k3x
    have d1 := ((qvz.same k2x).same k3x).same (same_trans fr_same cut_sub)
    have d2 := (qvw.same k3x).same (same_trans fr_same cut_sub)
    generalize upd Hb pt2 (.tup [vz, vw]) = Hc3 at L3x k3x t3 hz3 hw3 qz3 qw3 d1 d2 ⊢
    obtain ⟨okq, okd⟩ := dueR_ok dz dw
    have cl := (td_plain okq).1
    have y3' : Sys Hc3 := (sys_extN psys L3x.sm).same (same_trans fr_same cut_sub)
    dsimp only
    refine ifop_of (tcb_of (tcons_of ?_))
    refine tells_make (i := 13) (j := 14) rfl rfl d1 d2 y3' L3x.tb fun H1x e1 t1 => tells_of okq fun g1 H2x s2x dg1 => ?_
    obtain ⟨L4x, k4x⟩ := L3x.lam e1 t1
    have L5x := L4x.same s2x
    have E2 : ExtN Hc3 H2x := extN_trans e1 (extN_same s2x)
    have E2f := extN_trans k4x (extN_same (fr_sm (cut_same (Z := Z) s2x)))
    refine ⟨g1, _, rfl, dg1, cl, okd, ?_⟩
    refine ⟨_, rfl, _, rfl, rfl, due_of (d1.extN E2) (d2.extN E2) (sys_extN y3' E2) (tells_of okq fun g2 H3x s3x dg2 => ?_)⟩
    refine ⟨g2, _, rfl, dg2, cl, okd, rfl, _, rfl, ?_⟩
    refine iteNS rfl (nx_go ?_)
    have L6x := L5x.same s3x
    have E3f := extN_trans E2f (extN_same (fr_sm (cut_same (Z := Z) s3x)))
    have E3 := extN_trans E2 (extN_same s3x)
    exact ⟨lb, lsb, nb2, _, _, _, _, rfl, L6x, by omega, E3 _ _ hz3 (fun _ w => by cases w), qz3.extN E3f, E3 _ _ hw3 (fun _ w => by cases w), qw3.extN E3f⟩
  rintro σ' Hx ⟨lx', lsx, nx, v11, v12, v13, v14, rfl, Lx, hnx, hzx, qzx, hwx, qwx⟩
  dsimp only
  refine tseq_of ?_
  -- far
  refine ⟨_, rfl, by show 3 ≤ sizeLine; decide, fun z9 nz9 => ?_⟩
  obtain ⟨L9z, k9z, _⟩ := Lx.new (o := .tup [.int 3, .int 3, .int 4]) nz9
  have e9z := (Lx.mat.fresh (o := .tup [.int 3, .int 3, .int 4]) nz9).2.2
  refine ⟨m, c, lx', z9, cs, lsx, nx, rfl, L9z.mat, by omega, e9z, fun pF eF sF xf yf esf ssf H9 l9 ls9 n9 M9 nn9 s9 epF eEF qEF eSF qSF ESF nESF => ?_⟩
  obtain ⟨L9, k9⟩ := L9z.fs M9 s9
  have X9 : ExtN (fr H19 m l5) (fr H9 m l9) := extN_trans L9.sm (extN_same (fr_sm cut_sub))
  have hE9 := (fr_of (X9 _ _ pE fun _ w => by cases w)).2.2
  have hS9 := (fr_of (X9 _ _ pS fun _ w => by cases w)).2.2
  have qE9 := (pqE.extN X9).same (fr_same (H := H9))
  have qS9 := (pqS.extN X9).same (fr_same (H := H9))
  have rO9 := (pR.extN X9).same (fr_same (H := H9))
  have shf := sh_of ESF
  have shEf : SeqAt.shaped (.tuple esf) = true := shaped_of (plain_tup shf.pe) (by decide)
  have shSf : SeqAt.shaped (.tuple ssf) = true := shaped_of (plain_tup shf.ps) (by decide)
  have hpF := (fr_of epF).2.2
  have hEF := (fr_of eEF).2.2
  have hSF := (fr_of eSF).2.2
  have qEF9 := qEF.same (fr_same (H := H9))
  have qSF9 := qSF.same (fr_same (H := H9))
  refine ⟨_, rfl, _, rfl, pF, _, 0, .ref eF, rfl, rfl, SqT.of hpF, rfl, _, rfl, pF, _, 1, .ref sF, rfl, rfl, SqT.of hpF, rfl, fun x9 dx9 hx9 hdx9 ne9 => ?_⟩
  refine make_yes (.inl (.lst hEF qEF9)) (.inl (.lst hSF qSF9)) hx9 hdx9 ne9 (dueR_lists shf) fun H10f s10f r10f => ⟨rfl, ?_⟩
  have rO10 := rO9.same s10f
  obtain ⟨dxa, pea, psa, xsa, ysa, i1, i2, i3, i4, i5⟩ := id rO10
  obtain ⟨dxb, peb, psb, xsb, ysb, j1', j2', j3', j4', j5'⟩ := id r10f
  refine ⟨one, dxa, _, rfl, i1, ⟨x9, rfl, .inl ⟨C, dxb, _, j1', R2.req.n1⟩⟩, one, .ref x9, es, ss, rfl, rO10, shE, shS, .inl ⟨x9, esf, ssf, rfl, r10f, shEf, shSf, _, rfl, ?_⟩⟩
  refine ⟨_, rfl, _, rfl, by show 2 ≤ sizeLine; decide, fun pp9 npp9 => ⟨_, rfl, .tuple [.list es, .list ss], .tuple [.list esf, .list ssf], ?_, ?_, ?_, ?_, rfl, _, rfl, ?_⟩⟩
  · have v := same_trans s10f (same_new (o := .tup [.ref eL, .ref sL]) npp9)
    exact .tup (SqT.of upd_same) (.cons (.lst (SqL.of (v _ _ hE9)) ((qE9.same v).dp (can_of sh.pe))) (.cons (.lst (SqL.of (v _ _ hS9)) ((qS9.same v).dp (can_of sh.ps))) .nil))
  · have v := same_trans s10f (same_new (o := .tup [.ref eL, .ref sL]) npp9)
    exact .tup (SqT.of (v _ _ hpF)) (.cons (.lst (SqL.of (v _ _ hEF)) ((qEF9.same v).dp (can_of shf.pe))) (.cons (.lst (SqL.of (v _ _ hSF)) ((qSF9.same v).dp (can_of shf.ps))) .nil))
  · exact shaped_of (n := 14) (plain_tup (n := 13) fun d hd => by
      rcases List.mem_cons.mp hd with rfl | hd
      · exact plain_lst sh.pe
      · rw [List.mem_singleton.mp hd]
        exact plain_lst sh.ps) (by decide)
  · exact shaped_of (n := 14) (plain_tup (n := 13) fun d hd => by
      rcases List.mem_cons.mp hd with rfl | hd
      · exact plain_lst shf.pe
      · rw [List.mem_singleton.mp hd]
        exact plain_lst shf.ps) (by decide)
  refine iteNS ?_ ?_
  · congr 1
    simp [eqR, PyData.eqv, PyData.eqvAll]
  have s11f := same_trans s10f (same_new (o := .tup [.ref eL, .ref sL]) npp9)
  generalize upd H10f pp9 (.tup [.ref eL, .ref sL]) = H11f at s11f ⊢
  refine ⟨_, rfl, by show 0 ≤ sizeLine; decide, fun q12 nq12 => ?_⟩
  have s12f := same_trans s11f (same_new (o := .lst []) nq12)
  refine ⟨.list ss, .list [], .lst (SqL.of (s12f _ _ hS9)) ((qS9.same s12f).dp (can_of sh.ps)), .lst (SqL.of upd_same) .nil, shaped_of (plain_lst sh.ps) (by decide), by decide, ?_⟩
  refine ⟨_, rfl, _, rfl, fun x10 dx10 hx10 hdx10 ne10 => ?_⟩
  refine make_yes (.inl (.lst (s12f _ _ hE9) (qE9.same s12f))) (.inr ⟨p0, [], [], rfl, rfl, R2.d0 _, .nil⟩) hx10 hdx10 ne10 (dueR_lt sh0) fun H13f s13f r13f => ⟨rfl, ?_⟩
  have s14f := same_trans s12f s13f
  have rO13 := rO9.same s14f
  obtain ⟨dxc, pec, psc, xsc, ysc, c1', c2', c3', c4', c5'⟩ := id rO13
  obtain ⟨dxe, pee, pse, xse, yse, f1', f2'', f3', f4', f5'⟩ := id r13f
  refine ⟨one, dxc, _, rfl, c1', ⟨x10, rfl, .inl ⟨C, dxe, _, f1', R2.req.n1⟩⟩, one, .ref x10, es, ss, rfl, rO13, shE, shS, .inl ⟨x10, es, [], rfl, r13f, shE, sh0S, _, rfl, rfl, _, rfl, ?_⟩⟩
  refine iteNS ?_ (nx_go ?_)
  · congr 2
    unfold eqR
    rw [eqv_self shE, Bool.true_and]
    rfl
  refine ⟨l9, ls9, n9, _, _, _, _, _, _, _, _, _, _, _, _, _, _, rfl, M9.same s14f, ?_, ?_, ?_⟩
  · omega
  · exact (sys_extN psys X9).same (fr_sm s14f)
  · exact (L9.tabs.ext (fr_sm cut_sub)).ext (fr_sm s14f)
end
end RU
set_option Elab.async false
set_option linter.all false
set_option maxRecDepth 100000
set_option maxHeartbeats 4000000
/-! the law's own def, called from the very top: the table of modules and some tables of code objects are tracked -/
namespace L2H
open PySem PySem.Spec PyProof.Rows L2 LamX
/-- what is tracked when the law begins -/
def hT (om : Obj) (cs : List (Addr × Addr)) (a : Addr) (tr : Bool) (al : Obj) (xs : List V) : Hp := fun b =>
  if b = sysModules then some (.frz om (.ext fun _ => True)) else if b ∈ cs.map (·.2) then some (.tbl #[]) else if b = a ∧ tr = true then some (.frz al (.lst xs)) else none
section
variable {om al : Obj} {cs : List (Addr × Addr)} {a b : Addr} {tr : Bool} {xs : List V}
theorem hT_sys : hT om cs a tr al xs sysModules = some (.frz om (.ext fun _ => True)) := if_pos rfl
theorem hT_tab {p : Addr × Addr} (hp : p ∈ cs) (n : p.2 ≠ sysModules) : hT om cs a tr al xs p.2 = some (.tbl #[]) := by
  unfold hT
  rw [if_neg n, if_pos (List.mem_map.mpr ⟨p, hp, rfl⟩)]
theorem hT_scr (n : a ≠ sysModules) (m : a ∉ cs.map (·.2)) (h : tr = true) : hT om cs a tr al xs a = some (.frz al (.lst xs)) := by
  unfold hT
  rw [if_neg n, if_neg m, if_pos ⟨rfl, h⟩]
theorem hT_or {u : HO} (h : hT om cs a tr al xs b = some u) : (b = sysModules ∧ u = .frz om (.ext fun _ => True)) ∨ ((∃ p ∈ cs, p.2 = b) ∧ u = .tbl #[]) ∨ (b = a ∧ tr = true ∧ u = .frz al (.lst xs)) := by
  unfold hT at h
  by_cases h1 : b = sysModules
  · rw [if_pos h1] at h
    exact .inl ⟨h1, (Option.some.inj h).symm⟩
  · rw [if_neg h1] at h
    by_cases h2 : b ∈ cs.map (·.2)
    · rw [if_pos h2] at h
      obtain ⟨p, hp, e⟩ := List.mem_map.mp h2
      exact .inr (.inl ⟨⟨p, hp, e⟩, (Option.some.inj h).symm⟩)
    · rw [if_neg h2] at h
      by_cases h3 : b = a ∧ tr = true
      · rw [if_pos h3] at h
        exact .inr (.inr ⟨h3.1, h3.2, (Option.some.inj h).symm⟩)
      · rw [if_neg h3] at h
        cases h
end
section
variable {P : Program} {w : World} {K : PySem.W.Frag} {mg mb : Str → Option Value} {fa a : Addr} {fd : FuncData} {x : Str} {sp : Sp} {t : Shared} {vs : List Value} {ns : List Int} {k : Nat} {cs : List (Addr × Addr)}
theorem from_topT (KX : K.In t.heap) (gn : t.heap.Ns mainGlobals mg) (bn : t.heap.Ns builtinsNs mb) (bb : ∀ y : Str, y ≠ "__name__" → mb y = bootBuiltins y) (lim : t.heap.NoLimit) (g0 : t.gens = #[])
    (sm : ∃ m, t.heap.Ns sysModules m) (km : K.lookup sysModules = none)
    (tabs : ∀ p ∈ cs, t.heap.get? p.2 = some { cls := .none, data := .fields #[] }) (nT : ∀ p ∈ cs, K.lookup p.2 = none) (C : ∀ p ∈ cs, PySem.W.CodeHd t.heap p.1 p.2)
    (hbm : ∃ (bm : Addr) (ob : Obj), mg "__builtins__" = some (.ref bm) ∧ bm ≠ builtinsNs ∧ t.heap.get? bm = some ob ∧ ob.cls = .type "module" ∧ ob.dict = some builtinsNs ∧ ob.data = .plain)
    (at_a : t.heap.get? a = some { cls := .type "list", data := .seq vs.toArray }) (allInt : IntsAre vs ns) (short : ns.length ≤ sizeLine) (hr : Room k callerA)
    (F : ∀ base : Heap, K.In base → base.Ns mainGlobals mg → (∀ p ∈ cs, TabB base mg p.1 p.2) → FnGs P w K mg base k fa fd [x] sp) (bind : ∀ (s : Shared) (u : Value), BindsTo s fd ⟨[u], []⟩ [(x, u)])
    (wish : ∀ H : Hp, SysF H → (∀ p ∈ cs, H p.2 = some (.tbl #[])) → SqL K H a (ns.map V.int) → sp [.ref a] H (fun v _ => v = .bl true) fun _ _ _ => False) :
    codeAny (model P w) callerA (.call (.ref fa) ⟨[.ref a], []⟩) (Good t) t := by
  have rvs := vals_ints allInt
  obtain ⟨mm, om, esm, epm, hom, hdm, _⟩ := sm
  have tn : ∀ p ∈ cs, p.2 ≠ sysModules := fun p hp z => by
    have q := tabs p hp
    rw [z, hom] at q
    have y := congrArg Obj.data (Option.some.inj q)
    rw [show om.data = Data.dict esm epm from hdm] at y
    cases y
  have na : a ≠ sysModules := fun z => by
    rw [z, hom] at at_a
    have y := congrArg Obj.data (Option.some.inj at_a)
    rw [show om.data = Data.dict esm epm from hdm] at y
    cases y
  have ta : a ∉ cs.map (·.2) := fun z => by
    obtain ⟨p, hp, e⟩ := List.mem_map.mp z
    have q := tabs p hp
    rw [e, at_a] at q
    have y : Data.seq vs.toArray _ = Data.fields #[] := congrArg Obj.data (Option.some.inj q)
    cases y
  obtain ⟨tr, htr⟩ : ∃ tr : Bool, tr = (K.lookup a).isNone := ⟨_, rfl⟩
  have inK : tr = false → ∃ o, K.lookup a = some o := fun z => by
    rw [z] at htr
    cases q : K.lookup a with
    | none => rw [q] at htr; cases htr
    | some o => exact ⟨o, rfl⟩
  have nK : tr = true → K.lookup a = none := fun z => by
    rw [z] at htr
    cases q : K.lookup a with
    | none => rfl
    | some o => rw [q] at htr; cases htr
  obtain ⟨H, hH⟩ : ∃ H : Hp, H = hT om cs a tr { cls := .type "list", data := .seq vs.toArray } (ns.map V.int) := ⟨_, rfl⟩
  have or_ : ∀ {b : Addr} {u : HO}, H b = some u → (b = sysModules ∧ u = .frz om (.ext fun _ => True)) ∨ ((∃ p ∈ cs, p.2 = b) ∧ u = .tbl #[]) ∨ (b = a ∧ tr = true ∧ u = .frz { cls := .type "list", data := .seq vs.toArray } (.lst (ns.map V.int))) := fun {b u} e => by
    rw [hH] at e
    exact hT_or e
  -- what may be seen in the base
  have free : ∀ {b : Addr} {o : Obj}, t.heap.get? b = some o → b ≠ sysModules → (∀ vs n, o.data ≠ .seq vs n) → o.data ≠ .fields #[] → H b = none := fun {b o} e n1 n2 n3 => by
    cases q : H b with
    | none => rfl
    | some u =>
      rcases or_ q with ⟨z, _⟩ | ⟨⟨p, hp, z⟩, _⟩ | ⟨z, _, _⟩
      · exact absurd z n1
      · rw [← z, tabs p hp] at e
        cases e
        exact absurd rfl n3
      · rw [z, at_a] at e
        cases e
        exact absurd rfl (n2 _ _)
  have pass : ∀ {b : Addr} {o : Obj}, t.heap.get? b = some o → H b = none → (hidT t.heap H).get? b = some o := fun z n => hidT_get z n
  have nsp : ∀ {b : Addr} {m : Str → Option Value}, b ≠ sysModules → t.heap.Ns b m → (hidT t.heap H).Ns b m := fun {b m} nb ⟨o, es, ep, z, dz, r⟩ =>
    ⟨o, es, ep, pass z (free z nb (fun vs n y => by rw [show o.data = _ from dz] at y; cases y) fun y => by rw [show o.data = _ from dz] at y; cases y), dz, r⟩
  have Kb : K.In (hidT t.heap H) := fun b o z => pass (KX b o z) (by
    cases q : H b with
    | none => rfl
    | some u =>
      rcases or_ q with ⟨y, _⟩ | ⟨⟨p, hp, y⟩, _⟩ | ⟨y, h1, _⟩
      · rw [y, km] at z
        cases z
      · rw [← y, nT p hp] at z
        cases z
      · rw [y, nK h1] at z
        cases z)
  have md : Mod K mg (hidT t.heap H) := ⟨Kb, nsp (by decide) gn, ⟨mb, nsp (by decide) bn, bb⟩, let ⟨mc, q1, q2⟩ := lim; ⟨mc, nsp (by decide) q1, q2⟩⟩
  have hok : HOk P w H t.heap := fun b u e => by
    rcases or_ e with ⟨rfl, rfl⟩ | ⟨⟨p, hp, rfl⟩, rfl⟩ | ⟨rfl, _, rfl⟩
    · exact ⟨hom, trivial, ⟨om, hom⟩, fun _ _ _ _ => trivial⟩
    · exact tabs p hp
    · exact ⟨at_a, by rw [List.length_map]; exact short, vs, _, rvs, at_a⟩
  have tbl : ∀ p ∈ cs, H p.2 = some (.tbl #[]) := fun p hp => by rw [hH]; exact hT_tab hp (tn p hp)
  have sq : SqL K H a (ns.map V.int) := by
    cases htr' : tr with
    | true => exact .inl (.inr ⟨_, by rw [hH]; exact hT_scr na ta htr'⟩)
    | false =>
      obtain ⟨o, hk⟩ := inK htr'
      have z := KX a o hk
      rw [at_a] at z
      cases z
      exact .inr ⟨_, vs.toArray, _, hk, rfl, rfl, rfl, by rw [List.size_toArray, allInt.length]; exact short, by simpa using rvs⟩
  have notSys : ∀ {b : Addr} {o : Obj}, t.heap.get? b = some o → (∀ es ep, o.data ≠ .dict es ep) → b ≠ sysModules := fun {b o} e n z => by
    rw [z, hom] at e
    cases e
    exact n _ _ hdm
  have TB : ∀ p ∈ cs, TabB (hidT t.heap H) mg p.1 p.2 := fun p hp => by
    refine ⟨?_, ?_, fun z => ?_⟩
    · obtain ⟨o, us, file, tf, flags, tg, inF, text, tt, c1, c2, c3, c4, c5⟩ := C p hp
      refine ⟨o, us, file, tf, flags, tg, inF, text, tt, pass c1 (free c1 (notSys c1 fun es ep y => ?_) (fun vs n y => ?_) fun y => ?_), c2, c3, c4, c5⟩
      · rw [c3] at y
        cases y
      · rw [c3] at y
        cases y
      · rw [c3] at y
        cases y
        simp at c4
    · obtain ⟨bm, ob, b1, b2, b3, b4, b5, b6⟩ := hbm
      have nG : bm ≠ mainGlobals := fun q => by
        obtain ⟨o, es, ep, e, hd, _⟩ := gn
        rw [q, e] at b3
        cases b3
        rw [hd] at b6
        cases b6
      have nP : bm ≠ p.2 := fun q => by
        rw [q, tabs p hp] at b3
        cases b3
        cases b6
      refine ⟨bm, ob, b1, b2, nG, nP, pass b3 (free b3 (notSys b3 fun es ep y => ?_) (fun vs n y => ?_) fun y => ?_), b4, b5, b6⟩
      · rw [b6] at y
        cases y
      · rw [b6] at y
        cases y
      · rw [b6] at y
        cases y
    · obtain ⟨o, es, ep, e, hd, _⟩ := gn
      rw [z, tabs p hp] at e
      cases e
      cases hd
  have sysf : SysF H := ⟨om, .ext fun _ => True, by rw [hH]; exact hT_sys⟩
  have env : Env0 P w K mg (hidT t.heap H) callerA [] t H :=
    ⟨rfl, md, fun b o z => of_hidT z, Nat.le_of_eq (hidT_size _ _), trivial, fun b hb => absurd (show b ∈ ([] : List Addr) from hb) (by simp), hok, .of_eq g0⟩
  refine codeAny_mono (F _ Kb (nsp (by decide) gn) TB callerA [] t H [.ref a] [.ref a] _ _ hr rfl env (bind t (.ref a)) (.cons rfl .nil) rfl (wish H sysf tbl sq)) fun r t' h => ?_
  cases r with
  | error e => exact False.elim h
  | ok fl =>
    cases fl with
    | next => exact False.elim h
    | brk => exact False.elim h
    | cont => exact False.elim h
    | ret u =>
      obtain ⟨v, H', os, bare, un, hok', r', q⟩ := h
      obtain rfl : v = V.bl true := q
      obtain rfl : u = Value.bool true := r'
      have stay : ∀ b o, t.heap.get? b = some o → (∀ p ∈ cs, p.2 ≠ b) → t'.heap.get? b = some o := fun b o z n => by
        cases q : H b with
        | none => exact un.keep b o z q (by intro y; exact absurd (show b ∈ ([] : List Addr) from y) (by simp)) (by simp)
        | some u =>
          have lock : ∀ ob u', u = .frz ob u' → t'.heap.get? b = some o := fun ob u' e => by
            rw [e] at q
            obtain ⟨e1, _⟩ := hok b _ q
            obtain ⟨e2, _⟩ := hok' b _ (un.frzs b ob _ q)
            rw [z] at e1
            cases e1
            exact e2
          rcases or_ q with ⟨_, y⟩ | ⟨⟨p, hp, y⟩, _⟩ | ⟨_, _, y⟩
          · exact lock _ _ y
          · exact absurd y (n p hp)
          · exact lock _ _ y
      have grown : ∀ p ∈ cs, ∃ more : Array Value, t'.heap.get? p.2 = some { cls := .none, data := .fields more } := fun p hp => by
        obtain ⟨more, z⟩ := un.tbls p.2 #[] (tbl p hp)
        exact ⟨_, hok' p.2 _ z⟩
      refine ⟨rfl, ⟨fun b o e => ?_, fun b o e => ?_⟩, os, bare⟩
      · by_cases hb : ∃ p ∈ cs, p.2 = b
        · obtain ⟨p, hp, rfl⟩ := hb
          obtain ⟨more, hm⟩ := grown p hp
          rw [tabs p hp] at e
          cases e
          exact .inr (.inl ⟨((C p hp).tab (tabs p hp)).isCodeTable, rfl, #[], more, rfl, by rw [Array.empty_append]; exact hm⟩)
        · exact .inl (stay b o e fun p hp y => hb ⟨p, hp, y⟩)
      · by_cases hb : ∃ p ∈ cs, p.2 = b
        · obtain ⟨p, hp, rfl⟩ := hb
          obtain ⟨more, hm⟩ := grown p hp
          exact ⟨_, hm⟩
        · exact ⟨o, stay b o e fun p hp y => hb ⟨p, hp, y⟩⟩
end
end L2H
set_option Elab.async false
set_option linter.all false
set_option maxRecDepth 100000
set_option maxHeartbeats 4000000
namespace L2H
open PySem PySem.Spec PyProof.Rows L2 LamX
/-- what is known of the law's promise at the head's heap h -/
def LawAtT (l : PySem.W.OpenLaw) (w : World) (k n : Nat) (x : Str) (mg : Str → Option Value) (fa : Addr) (h : Heap) : Prop :=
  ∃ (K : PySem.W.Frag) (fd : FuncData) (cs : List (Addr × Addr)) (sp : Sp), K.In h ∧ K.lookup sysModules = none ∧ (∀ p ∈ cs, h.get? p.2 = some { cls := .none, data := .fields #[] }) ∧ (∀ p ∈ cs, K.lookup p.2 = none) ∧ (∀ p ∈ cs, PySem.W.CodeHd h p.1 p.2) ∧
    (∀ (s : Shared) (u : Value), BindsTo s fd ⟨[u], []⟩ [(x, u)]) ∧
    (∀ (H : Hp) (a : Addr) (ns : List Int), ns.length ≤ n → SysF H → (∀ p ∈ cs, H p.2 = some (.tbl #[])) → SqL K H a (ns.map V.int) → sp [.ref a] H (fun v _ => v = .bl true) fun _ _ _ => False) ∧
    ∀ base : Heap, K.In base → base.Ns mainGlobals mg → (∀ p ∈ cs, TabB base mg p.1 p.2) → FnGs l.prog w K mg base k fa fd [x] sp
theorem walk_topT {l : PySem.W.OpenLaw} {n k : Nat} {q : Program} {loose : List Str} {XP : (Str → Option Value) → Heap → Prop} {YP : World → Heap → Prop} {d : DefRec} {x : Str}
    (hn : l.most = some n) (few : n ≤ sizeLine) (hdf : d.params.defaults = []) (hi : importsNone q = true) (hr : Room k callerA)
    (F : ∀ (w : World) (mg : Str → Option Value) (fa : Addr) (h : Heap), YP w h → h.Ns mainGlobals mg → mg d.name = some (.ref fa) → LawAtT l w k n x mg fa h) :
    PySem.W.WalkO q loose XP YP l.row.toRowW d [] (fun f vs => PySem.call f vs) := by
  refine Att.attach_call hn hdf fun w s₀ t mg mb fa o pm cd doc a vs ns G Y ho hd hcd hmg hobj hints hlen g0 => ?_
  obtain ⟨K, fd, cs, sp, KX, km, tabs, nT, C, hb, wish, hF⟩ := F w mg fa _ Y G.T.g hmg
  have S := G.T.seer hi
  exact from_topT KX G.T.g G.T.b G.T.builtins G.T.nolimit g0 (let ⟨mm, y, _⟩ := S.mods; ⟨mm, y⟩) km tabs nT C G.T.bmain hobj hints (Nat.le_trans hlen few) hr hF hb fun H hO hT hS => wish H a ns hlen hO hT hS
end L2H
set_option Elab.async false
set_option linter.all false
set_option maxRecDepth 100000
set_option maxHeartbeats 4000000
/-! what is asked of the classes of k03, in one look each -/
namespace X03
open PySem L2 L2H DQ K01 EnT LamX LamD RZ RU PySem.W
open XH hiding same_refl same_trans same_new
abbrev pK3 : Program := PySem.Challenge.pw_onlyjoins_k03_whole_rules_made
abbrev mro (B : String) : List Value := [.type B, .type "Exception", .type "BaseException", .type "object"]
/-- what is asked of an error's class and its maker, in one look -/
def exB (K : Frag) (C fI cda : Addr) (f qn : Str) (B newId initId : String) (bmB : List Value) : Bool :=
  excInitIn K C bmB newId && (excOver K C bmB && (hasDictIn K C && (decide (findIn K (.ref C) "__init__" = some (some (.ref fI))) && (isFn K (.ref fI) && (codeIn K (.ref cda) qn &&
  (decide (ks_superIn K C C "__init__" = some (some (.builtin initId))) && (decide (subIn K (.ref C) (.type B) = some true) && (decide (mroIn K C (.ref C) = some true) && (decide (nsIn K cStatics "thirdparty.any" = some none) &&
  (decide (findIn K (.ref C) "__setattr__" = some (some (.builtin "object.__setattr__"))) && decide (findIn K (.ref C) f = some none)))))))))))
theorem nf_of {K : Frag} {C fI cda : Addr} {f qn : Str} {B newId initId : String} {bmB : List Value} (b : exB K C fI cda f qn B newId initId bmB = true) : findIn K (.ref C) f = some none := by
  simp only [exB, Bool.and_eq_true, decide_eq_true_eq] at b
  exact b.2.2.2.2.2.2.2.2.2.2.2
/-- what is asked of an error's class, so that it is raised and read -/
def exR (K : Frag) (C : Addr) : Bool :=
  decide (findIn K (.ref C) "__getattribute__" = some (some (.builtin "BaseException.__getattribute__"))) && (decide (findIn K (.ref C) "__getattr__" = some none) &&
  (decide (subIn K (.ref C) (.type "BaseException") = some true) && (decide (typeIn K (.ref C) = some (.type "type")) && (hasDictIn K C && keepIn K (.ref C)))))
theorem exR_ok {K : Frag} {C : Addr} {f : Str} (h : exR K C = true) (n : findIn K (.ref C) f = some none) : ExR K C f ∧ keepIn K (.ref C) = true := by
  simp only [exR, Bool.and_eq_true, decide_eq_true_eq] at h
  obtain ⟨h1, h2, h3, h4, h5, h6⟩ := h
  exact ⟨⟨h1, h2, n, h3, h4, h5⟩, h6⟩
theorem scopeOk : ∀ f ∈ (["value", "place"] : List Str), (iScope f).names.lookup ("self" : Str) = some .local ∧ (iScope f).names.lookup f = some .local ∧ (iScope f).names.lookup ("__class__" : Str) = some .free ∧
    (iScope f).names.lookup ("super" : Str) = some .globalImplicit ∧ (∀ x ∈ (iScope f).names, x.2 ≠ .cell) ∧ (f == ("__debug__" : Str)) = false ∧ ¬ ("self" : Str) = f := by decide +kernel
theorem ext_br {K : Frag} {mg : Str → Option Value} {C fI cda cc : Addr} {oc doc pm ct ccl cl : Value} {od an cdd cld : Option Addr} {osl ccs csl : Array (Option Value)} {vs : Array Value} {file : Str} {tf : Tok}
    (l1 : K.lookup fI = some ⟨oc, od, .func (ksFn "__init__" "BadRules.__init__" (defArgs (inClass (top 2) 0)) (defBody (inClass (top 2) 0)) (defScope (inClass (top 2) 0)) .none .none doc pm an (.ref cda) ct cc), osl⟩) (l2 : K.lookup cda = some ⟨ccl, cdd, .fields vs, ccs⟩) (h2 : vs[2]? = some (.str file tf)) (hf : ((pK3.main.file : Str) == file) = true)
    (l3 : K.lookup cc = some ⟨cl, cld, .cell (some (.ref C)), csl⟩) (b : exB K C fI cda "place" "BadRules.__init__" "ValueError" "ValueError.__new__" "ValueError.__init__" (mro "ValueError") = true) (gs : mg "super" = none) :
    ∃ fI fd qn B newId initId bmB, ExT pK3 K mg C fI fd "place" qn B newId initId bmB := by
  simp only [exB, Bool.and_eq_true, decide_eq_true_eq] at b
  obtain ⟨b1, b2, b3, b4, b5, b6, b7, b8, b9, b10, b11, b12⟩ := b
  obtain ⟨s0, s1, s2, s3, s4, s5, s6⟩ := scopeOk "place" (by decide +kernel)
  exact ⟨fI, ksFn "__init__" "BadRules.__init__" (defArgs (inClass (top 2) 0)) (defBody (inClass (top 2) 0)) (defScope (inClass (top 2) 0)) .none .none doc pm an (.ref cda) ct cc, "BadRules.__init__", "ValueError", "ValueError.__new__", "ValueError.__init__", mro "ValueError",
    { FB := PySem.F.excBase_ValueError, KF := kxs_ValueError, SF := PySem.F.store_ValueError, q := b1, ov := b2, hd := b3, iC := b4, isf := b5, sup := b7, sB := b8, sC := b9, op := b10, sa := b11, nf := b12, mgS := gs,
      fn := ⟨oc, doc, pm, ct, od, an, cda, cc, osl, _, _, _, _, _, _, _, _, _, _, _, _, _, by exact rfl, rfl, l1, b6, ⟨ccl, cdd, vs, ccs, file, tf, l2, h2, hf⟩, cl, cld, csl, l3⟩,
      tp := by decide +kernel, l0 := s0, l1 := s1, l2 := s2, l3 := s3, lc := s4, ld := s5, lf := s6,
      bp := fun s x v => .of_eq rfl, bk := fun s x v => .of_eq rfl }⟩
theorem ext_bn {K : Frag} {mg : Str → Option Value} {C fI cda cc : Addr} {oc doc pm ct ccl cl : Value} {od an cdd cld : Option Addr} {osl ccs csl : Array (Option Value)} {vs : Array Value} {file : Str} {tf : Tok}
    (l1 : K.lookup fI = some ⟨oc, od, .func (ksFn "__init__" "BadNumber.__init__" (defArgs (inClass (top 3) 0)) (defBody (inClass (top 3) 0)) (defScope (inClass (top 3) 0)) .none .none doc pm an (.ref cda) ct cc), osl⟩) (l2 : K.lookup cda = some ⟨ccl, cdd, .fields vs, ccs⟩) (h2 : vs[2]? = some (.str file tf)) (hf : ((pK3.main.file : Str) == file) = true)
    (l3 : K.lookup cc = some ⟨cl, cld, .cell (some (.ref C)), csl⟩) (b : exB K C fI cda "value" "BadNumber.__init__" "ValueError" "ValueError.__new__" "ValueError.__init__" (mro "ValueError") = true) (gs : mg "super" = none) :
    ∃ fI fd qn B newId initId bmB, ExT pK3 K mg C fI fd "value" qn B newId initId bmB := by
  simp only [exB, Bool.and_eq_true, decide_eq_true_eq] at b
  obtain ⟨b1, b2, b3, b4, b5, b6, b7, b8, b9, b10, b11, b12⟩ := b
  obtain ⟨s0, s1, s2, s3, s4, s5, s6⟩ := scopeOk "value" (by decide +kernel)
  exact ⟨fI, ksFn "__init__" "BadNumber.__init__" (defArgs (inClass (top 3) 0)) (defBody (inClass (top 3) 0)) (defScope (inClass (top 3) 0)) .none .none doc pm an (.ref cda) ct cc, "BadNumber.__init__", "ValueError", "ValueError.__new__", "ValueError.__init__", mro "ValueError",
    { FB := PySem.F.excBase_ValueError, KF := kxs_ValueError, SF := PySem.F.store_ValueError, q := b1, ov := b2, hd := b3, iC := b4, isf := b5, sup := b7, sB := b8, sC := b9, op := b10, sa := b11, nf := b12, mgS := gs,
      fn := ⟨oc, doc, pm, ct, od, an, cda, cc, osl, _, _, _, _, _, _, _, _, _, _, _, _, _, by exact rfl, rfl, l1, b6, ⟨ccl, cdd, vs, ccs, file, tf, l2, h2, hf⟩, cl, cld, csl, l3⟩,
      tp := by decide +kernel, l0 := s0, l1 := s1, l2 := s2, l3 := s3, lc := s4, ld := s5, lf := s6,
      bp := fun s x v => .of_eq rfl, bk := fun s x v => .of_eq rfl }⟩
/-- which except clause takes which error -/
def twoB (K : Frag) (c1 c2 : Addr) : Bool :=
  decide (exmOne K (.ref c1) (.ref c1) = some true) && (decide (exmOne K (.ref c2) (.ref c1) = some false) && decide (exmOne K (.ref c2) (.ref c2) = some true))
theorem twoB_ok {K : Frag} {c1 c2 : Addr} (h : twoB K c1 c2 = true) : TwoX K c1 c2 := by
  simp only [twoB, Bool.and_eq_true, decide_eq_true_eq] at h
  exact ⟨h.1, h.2.1, h.2.2⟩
/-- what is asked of the class Rules -/
def rulB (K : Frag) (C fI fEq fwe fws foe fos : Addr) : Bool :=
  (plainGet K C Str.empty && (hasDictIn K C && (plainOver K C && decide (findIn K (.ref C) "__setattr__" = some (some (.builtin "object.__setattr__")))))) &&
  ((decide (findIn K (.ref C) "ends" = some none) && decide (findIn K (.ref C) "steps" = some none)) &&
  ((makesIn K C && (decide (findIn K (.ref C) "__init__" = some (some (.ref fI))) && (isFn K (.ref fI) && keepIn K (.ref C)))) &&
  ((decide (findIn K (.ref C) "__class__" = some (some (.builtin "object.__class__"))) && (decide (specialIn K (.builtin "object.__class__") "__get__" = some (some (.builtin "getset_descriptor.__get__"))) && (decide (takesIn K (.builtin "object.__class__") = some true) &&
   (decide (mroIn K C (.type "object") = some true) && decide (kitOne K (.ref C) (.ref C) = some true))))) &&
  ((decide (kitOne K (.type "tuple") (.ref C) = some false) && ((decide (findIn K (.ref C) "__eq__" = some (some (.ref fEq))) && (isFn K (.ref fEq) && decide (findIn K (.ref C) "__ne__" = some (some (.builtin "object.__ne__"))))) &&
   (notFirst K C (.ref C) && notFirst K C (.type "tuple")))) &&
  (isFn K (.ref fwe) && (isFn K (.ref fws) && (isFn K (.ref foe) && isFn K (.ref fos))))))))
theorem rulB_ok {K : Frag} {C fI fEq fwe fws foe fos : Addr} (h : rulB K C fI fEq fwe fws foe fos = true) : Cls K C ∧ NoAttr K C "ends" ∧ NoAttr K C "steps" ∧ Mk K C fI ∧ REq K C fEq ∧
    (isFn K (.ref fwe) = true ∧ isFn K (.ref fws) = true ∧ isFn K (.ref foe) = true ∧ isFn K (.ref fos) = true) := by
  simp only [rulB, Bool.and_eq_true, decide_eq_true_eq] at h
  obtain ⟨⟨a1, a2, a3, a4⟩, ⟨b1, b2⟩, ⟨c1, c2, c3, c4⟩, ⟨d1, d2, d3, d4, d5⟩, ⟨e1, ⟨f1, f2, f3⟩, g1, g2⟩, i1, i2, i3, i4⟩ := h
  have cl : Cls K C := ⟨a1, a2, a3, a4⟩
  exact ⟨cl, b1, b2, ⟨c1, c2, c3, c4⟩, ⟨⟨cl, d1, d2, d3, d4, d5⟩, e1, ⟨f1, f2, f3, d4⟩, g1, g2⟩, i1, i2, i3, i4⟩
theorem bI_0 {K : Frag} {f p0 : Addr} {fd : FuncData} (F : FunD K "__init__" "Rules.__init__" (defArgs sRI) (defBody sRI) (defScope sRI) [V.ref p0] [] f fd) : Binds K fd ["self", "ends", "steps"] [] := by
  obtain ⟨ds, v, b⟩ := F.binds1 (ps := ["self", "ends", "steps"]) 3 1 (by simp) rfl fun T kV doc pm an cdv ct us its hu hi => match us, hu, its, hi with
    | [_, _, _], _, [_], _ => ⟨_, rfl, rfl⟩
  cases v
  exact b
theorem bI_1 {K : Frag} {f p0 : Addr} {fd : FuncData} (F : FunD K "__init__" "Rules.__init__" (defArgs sRI) (defBody sRI) (defScope sRI) [V.ref p0] [] f fd) : Binds K fd ["self", "ends", "steps"] [.ref p0] := by
  obtain ⟨ds, v, b⟩ := F.binds1 (ps := ["self", "ends", "steps"]) 2 0 (by simp) rfl fun T kV doc pm an cdv ct us its hu hi => match us, hu, its, hi with
    | [_, _], _, [_], _ => ⟨_, rfl, rfl⟩
  cases v with
  | cons r z =>
    cases z
    rw [show _ = Value.ref p0 from r] at b
    exact b
end X03
set_option Elab.async false
set_option linter.all false
set_option maxRecDepth 100000
set_option maxHeartbeats 4000000
namespace RU
open PySem L2 L2H DQ K01 EnT LamX LamD RZ X03
open XH hiding same_refl same_trans same_new
abbrev pK : Program := PySem.Challenge.pw_onlyjoins_k03_whole_rules_made
theorem all_mk {l : PySem.W.OpenLaw} {w : World} {K : PySem.W.Frag} {h : Heap} {mg : Str → Option Value} {fa PF PL C p0 T0 fI : Addr} (hp : l.prog = pK) (X : K.In h) (G : h.Ns mainGlobals mg) (hfa : mg "law" = some (.ref fa)) (km : K.lookup sysModules = none)
    (tF : h.get? PF = some { cls := .none, data := .fields #[] }) (tL : h.get? PL = some { cls := .none, data := .fields #[] }) (nF : K.lookup PF = none) (nL : K.lookup PL = none) (nFL : PF ≠ PL)
    {fW : Addr} {odW anW : Option Addr} {slW : Array (Option Value)} {ocW kVW dcW pmW cdW ctW : Value}
    {fM : Addr} {odM anM : Option Addr} {slM : Array (Option Value)} {ocM kVM dcM pmM cdM ctM : Value}
    {fTr : Addr} {odTr anTr : Option Addr} {slTr : Array (Option Value)} {ocTr kVTr dcTr pmTr cdTr ctTr : Value}
    {fBo : Addr} {odBo anBo : Option Addr} {slBo : Array (Option Value)} {ocBo kVBo dcBo pmBo cdBo ctBo : Value}
    {fSh : Addr} {odSh anSh : Option Addr} {slSh : Array (Option Value)} {ocSh kVSh dcSh pmSh cdSh ctSh : Value}
    {fCt : Addr} {odCt anCt : Option Addr} {slCt : Array (Option Value)} {ocCt kVCt dcCt pmCt cdCt ctCt : Value}
    {fNd : Addr} {odNd anNd : Option Addr} {slNd : Array (Option Value)} {ocNd kVNd dcNd pmNd cdNd ctNd : Value}
    {fP : Addr} {odP anP : Option Addr} {slP : Array (Option Value)} {ocP kVP dcP pmP cdP ctP : Value}
    {fCl : Addr} {odCl anCl : Option Addr} {slCl : Array (Option Value)} {ocCl kVCl dcCl pmCl cdCl ctCl : Value}
    {fNu : Addr} {odNu anNu : Option Addr} {slNu : Array (Option Value)} {ocNu kVNu dcNu pmNu cdNu ctNu : Value}
    {fRo : Addr} {odRo anRo : Option Addr} {slRo : Array (Option Value)} {ocRo kVRo dcRo pmRo cdRo ctRo : Value}
    {fWo : Addr} {odWo anWo : Option Addr} {slWo : Array (Option Value)} {ocWo kVWo dcWo pmWo cdWo ctWo : Value}
    {fB : Addr} {odB anB : Option Addr} {slB : Array (Option Value)} {ocB kVB dcB pmB cdB ctB : Value}
    {fN : Addr} {odN anN : Option Addr} {slN : Array (Option Value)} {ocN kVN dcN pmN cdN ctN : Value}
    {fO : Addr} {odO anO : Option Addr} {slO : Array (Option Value)} {ocO kVO dcO pmO cdO ctO : Value}
    {fE : Addr} {odE anE : Option Addr} {slE : Array (Option Value)} {ocE kVE dcE pmE cdE ctE : Value}
    {fT : Addr} {odT anT : Option Addr} {slT : Array (Option Value)} {ocT kVT dcT pmT cdT ctT : Value}
    {fY : Addr} {odY anY : Option Addr} {slY : Array (Option Value)} {ocY kVY dcY pmY cdY ctY : Value}
    {fS : Addr} {odS anS : Option Addr} {slS : Array (Option Value)} {ocS kVS dcS pmS cdS ctS : Value}
    {fD : Addr} {odD anD : Option Addr} {slD : Array (Option Value)} {ocD kVD dcD pmD cdD ctD : Value}
    {fTo : Addr} {odTo anTo : Option Addr} {slTo : Array (Option Value)} {ocTo kVTo dcTo pmTo cdTo ctTo : Value}
    {fF : Addr} {odF anF : Option Addr} {slF : Array (Option Value)} {ocF kVF dcF pmF ctF : Value} {cdF : Addr}
    {fL : Addr} {odL anL : Option Addr} {slL : Array (Option Value)} {ocL kVL dcL pmL ctL : Value} {cdL : Addr}
    {fEq : Addr} {odEq anEq : Option Addr} {slEq : Array (Option Value)} {ocEq kVEq dcEq pmEq cdEq ctEq : Value}
    {fwe : Addr} {odwe anwe : Option Addr} {slwe : Array (Option Value)} {ocwe kVwe dcwe pmwe cdwe ctwe : Value}
    {fws : Addr} {odws anws : Option Addr} {slws : Array (Option Value)} {ocws kVws dcws pmws cdws ctws : Value}
    {foe : Addr} {odoe anoe : Option Addr} {sloe : Array (Option Value)} {ocoe kVoe dcoe pmoe cdoe ctoe : Value}
    {fos : Addr} {odos anos : Option Addr} {slos : Array (Option Value)} {ocos kVos dcos pmos cdos ctos : Value}
    {odI anI odp odt : Option Addr} {slI slp slt : Array (Option Value)} {ocI kVI dcI pmI cdI ctI oct : Value} {np nt : Nat}
    {c1 f1 d1 e1 : Addr} {oc1 doc1 pm1 ct1 ccl1 cl1 : Value} {od1 an1 cdd1 cld1 : Option Addr} {osl1 ccs1 csl1 : Array (Option Value)} {vs1 : Array Value} {fil1 : Str} {tf1 : Tok}
    {c2 f2 d2 e2 : Addr} {oc2 doc2 pm2 ct2 ccl2 cl2 : Value} {od2 an2 cdd2 cld2 : Option Addr} {osl2 ccs2 csl2 : Array (Option Value)} {vs2 : Array Value} {fil2 : Str} {tf2 : Tok}
    {t8 tm3 tb3 tn6 tl3 tca te3 ts3 : Tok}
    (aW : PySem.W.nsIn K mainGlobals "is_word" = some (some (.ref fW)))
    (lW : K.lookup fW = some ⟨ocW, odW, .func (PySem.W.fnOf "is_word" "is_word" (defArgs sWord) (defBody sWord) (defScope sWord) .none kVW dcW pmW anW cdW ctW), slW⟩)
    (cW : PySem.W.codeIn K cdW "is_word" = true)
    (kW : PySem.W.keepIn K (.ref fW) = true)
    (aM : PySem.W.nsIn K mainGlobals "are_words" = some (some (.ref fM)))
    (lM : K.lookup fM = some ⟨ocM, odM, .func (PySem.W.fnOf "are_words" "are_words" (defArgs sMarks) (defBody sMarks) (defScope sMarks) .none kVM dcM pmM anM cdM ctM), slM⟩)
    (cM : PySem.W.codeIn K cdM "are_words" = true)
    (kM : PySem.W.keepIn K (.ref fM) = true)
    (aTr : PySem.W.nsIn K mainGlobals "is_tree" = some (some (.ref fTr)))
    (lTr : K.lookup fTr = some ⟨ocTr, odTr, .func (PySem.W.fnOf "is_tree" "is_tree" (defArgs sTr) (defBody sTr) (defScope sTr) .none kVTr dcTr pmTr anTr cdTr ctTr), slTr⟩)
    (cTr : PySem.W.codeIn K cdTr "is_tree" = true)
    (kTr : PySem.W.keepIn K (.ref fTr) = true)
    (aBo : PySem.W.nsIn K mainGlobals "is_body" = some (some (.ref fBo)))
    (lBo : K.lookup fBo = some ⟨ocBo, odBo, .func (PySem.W.fnOf "is_body" "is_body" (defArgs sBo) (defBody sBo) (defScope sBo) .none kVBo dcBo pmBo anBo cdBo ctBo), slBo⟩)
    (cBo : PySem.W.codeIn K cdBo "is_body" = true)
    (kBo : PySem.W.keepIn K (.ref fBo) = true)
    (aSh : PySem.W.nsIn K mainGlobals "_is_shape" = some (some (.ref fSh)))
    (lSh : K.lookup fSh = some ⟨ocSh, odSh, .func (PySem.W.fnOf "_is_shape" "_is_shape" (defArgs sShape) (defBody sShape) (defScope sShape) .none kVSh dcSh pmSh anSh cdSh ctSh), slSh⟩)
    (cSh : PySem.W.codeIn K cdSh "_is_shape" = true)
    (kSh : PySem.W.keepIn K (.ref fSh) = true)
    (aCt : PySem.W.nsIn K mainGlobals "_counts" = some (some (.ref fCt)))
    (lCt : K.lookup fCt = some ⟨ocCt, odCt, .func (PySem.W.fnOf "_counts" "_counts" (defArgs sCount) (defBody sCount) (defScope sCount) .none kVCt dcCt pmCt anCt cdCt ctCt), slCt⟩)
    (cCt : PySem.W.codeIn K cdCt "_counts" = true)
    (kCt : PySem.W.keepIn K (.ref fCt) = true)
    (aNd : PySem.W.nsIn K mainGlobals "_is_node" = some (some (.ref fNd)))
    (lNd : K.lookup fNd = some ⟨ocNd, odNd, .func (PySem.W.fnOf "_is_node" "_is_node" (defArgs sNode) (defBody sNode) (defScope sNode) .none kVNd dcNd pmNd anNd cdNd ctNd), slNd⟩)
    (cNd : PySem.W.codeIn K cdNd "_is_node" = true)
    (kNd : PySem.W.keepIn K (.ref fNd) = true)
    (aP : PySem.W.nsIn K mainGlobals "_is_pair" = some (some (.ref fP)))
    (lP : K.lookup fP = some ⟨ocP, odP, .func (PySem.W.fnOf "_is_pair" "_is_pair" (defArgs sPair) (defBody sPair) (defScope sPair) .none kVP dcP pmP anP cdP ctP), slP⟩)
    (cP : PySem.W.codeIn K cdP "_is_pair" = true)
    (kP : PySem.W.keepIn K (.ref fP) = true)
    (aCl : PySem.W.nsIn K mainGlobals "_is_call" = some (some (.ref fCl)))
    (lCl : K.lookup fCl = some ⟨ocCl, odCl, .func (PySem.W.fnOf "_is_call" "_is_call" (defArgs sCall) (defBody sCall) (defScope sCall) .none kVCl dcCl pmCl anCl cdCl ctCl), slCl⟩)
    (cCl : PySem.W.codeIn K cdCl "_is_call" = true)
    (kCl : PySem.W.keepIn K (.ref fCl) = true)
    (aNu : PySem.W.nsIn K mainGlobals "is_number" = some (some (.ref fNu)))
    (lNu : K.lookup fNu = some ⟨ocNu, odNu, .func (PySem.W.fnOf "is_number" "is_number" (defArgs sNum) (defBody sNum) (defScope sNum) .none kVNu dcNu pmNu anNu cdNu ctNu), slNu⟩)
    (cNu : PySem.W.codeIn K cdNu "is_number" = true)
    (kNu : PySem.W.keepIn K (.ref fNu) = true)
    (aRo : PySem.W.nsIn K mainGlobals "_is_row" = some (some (.ref fRo)))
    (lRo : K.lookup fRo = some ⟨ocRo, odRo, .func (PySem.W.fnOf "_is_row" "_is_row" (defArgs sRow) (defBody sRow) (defScope sRow) .none kVRo dcRo pmRo anRo cdRo ctRo), slRo⟩)
    (cRo : PySem.W.codeIn K cdRo "_is_row" = true)
    (kRo : PySem.W.keepIn K (.ref fRo) = true)
    (aWo : PySem.W.nsIn K mainGlobals "_without" = some (some (.ref fWo)))
    (lWo : K.lookup fWo = some ⟨ocWo, odWo, .func (PySem.W.fnOf "_without" "_without" (defArgs sWo) (defBody sWo) (defScope sWo) .none kVWo dcWo pmWo anWo cdWo ctWo), slWo⟩)
    (cWo : PySem.W.codeIn K cdWo "_without" = true)
    (kWo : PySem.W.keepIn K (.ref fWo) = true)
    (aB : PySem.W.nsIn K mainGlobals "_law_begun" = some (some (.ref fB)))
    (lB : K.lookup fB = some ⟨ocB, odB, .func (PySem.W.fnOf "_law_begun" "_law_begun" (defArgs sBeg) (defBody sBeg) (defScope sBeg) .none kVB dcB pmB anB cdB ctB), slB⟩)
    (cB : PySem.W.codeIn K cdB "_law_begun" = true)
    (kB : PySem.W.keepIn K (.ref fB) = true)
    (aN : PySem.W.nsIn K mainGlobals "_law_next" = some (some (.ref fN)))
    (lN : K.lookup fN = some ⟨ocN, odN, .func (PySem.W.fnOf "_law_next" "_law_next" (defArgs sNext) (defBody sNext) (defScope sNext) .none kVN dcN pmN anN cdN ctN), slN⟩)
    (cN : PySem.W.codeIn K cdN "_law_next" = true)
    (kN : PySem.W.keepIn K (.ref fN) = true)
    (aO : PySem.W.nsIn K mainGlobals "_law_odd" = some (some (.ref fO)))
    (lO : K.lookup fO = some ⟨ocO, odO, .func (PySem.W.fnOf "_law_odd" "_law_odd" (defArgs sOdd) (defBody sOdd) (defScope sOdd) .none kVO dcO pmO anO cdO ctO), slO⟩)
    (cO : PySem.W.codeIn K cdO "_law_odd" = true)
    (kO : PySem.W.keepIn K (.ref fO) = true)
    (aE : PySem.W.nsIn K mainGlobals "_law_bent" = some (some (.ref fE)))
    (lE : K.lookup fE = some ⟨ocE, odE, .func (PySem.W.fnOf "_law_bent" "_law_bent" (defArgs sBent) (defBody sBent) (defScope sBent) .none kVE dcE pmE anE cdE ctE), slE⟩)
    (cE : PySem.W.codeIn K cdE "_law_bent" = true)
    (kE : PySem.W.keepIn K (.ref fE) = true)
    (aT : PySem.W.nsIn K mainGlobals "_law_tree" = some (some (.ref fT)))
    (lT : K.lookup fT = some ⟨ocT, odT, .func (PySem.W.fnOf "_law_tree" "_law_tree" (defArgs sTree) (defBody sTree) (defScope sTree) .none kVT dcT pmT anT cdT ctT), slT⟩)
    (cT : PySem.W.codeIn K cdT "_law_tree" = true)
    (kT : PySem.W.keepIn K (.ref fT) = true)
    (aY : PySem.W.nsIn K mainGlobals "_law_body" = some (some (.ref fY)))
    (lY : K.lookup fY = some ⟨ocY, odY, .func (PySem.W.fnOf "_law_body" "_law_body" (defArgs sBody) (defBody sBody) (defScope sBody) .none kVY dcY pmY anY cdY ctY), slY⟩)
    (cY : PySem.W.codeIn K cdY "_law_body" = true)
    (kY : PySem.W.keepIn K (.ref fY) = true)
    (aS : PySem.W.nsIn K mainGlobals "_law_ends_and_steps" = some (some (.ref fS)))
    (lS : K.lookup fS = some ⟨ocS, odS, .func (PySem.W.fnOf "_law_ends_and_steps" "_law_ends_and_steps" (defArgs sEas) (defBody sEas) (defScope sEas) .none kVS dcS pmS anS cdS ctS), slS⟩)
    (cS : PySem.W.codeIn K cdS "_law_ends_and_steps" = true)
    (kS : PySem.W.keepIn K (.ref fS) = true)
    (aD : PySem.W.nsIn K mainGlobals "_law_due" = some (some (.ref fD)))
    (lD : K.lookup fD = some ⟨ocD, odD, .func (PySem.W.fnOf "_law_due" "_law_due" (defArgs sDue) (defBody sDue) (defScope sDue) .none kVD dcD pmD anD cdD ctD), slD⟩)
    (cD : PySem.W.codeIn K cdD "_law_due" = true)
    (kD : PySem.W.keepIn K (.ref fD) = true)
    (aTo : PySem.W.nsIn K mainGlobals "_law_told" = some (some (.ref fTo)))
    (lTo : K.lookup fTo = some ⟨ocTo, odTo, .func (PySem.W.fnOf "_law_told" "_law_told" (defArgs sTold) (defBody sTold) (defScope sTold) .none kVTo dcTo pmTo anTo cdTo ctTo), slTo⟩)
    (cTo : PySem.W.codeIn K cdTo "_law_told" = true)
    (kTo : PySem.W.keepIn K (.ref fTo) = true)
    (aF : PySem.W.nsIn K mainGlobals "_law_further_right" = some (some (.ref fF)))
    (lF : K.lookup fF = some ⟨ocF, odF, .func (PySem.W.fnOf "_law_further_right" "_law_further_right" (defArgs sFur) (defBody sFur) (defScope sFur) .none kVF dcF pmF anF (.ref cdF) ctF), slF⟩)
    (cF : PySem.W.codeIn K (.ref cdF) "_law_further_right" = true)
    (kF : PySem.W.keepIn K (.ref fF) = true)
    (aL : PySem.W.nsIn K mainGlobals "law" = some (some (.ref fL)))
    (lL : K.lookup fL = some ⟨ocL, odL, .func (PySem.W.fnOf "law" "law" (defArgs sLaw) (defBody sLaw) (defScope sLaw) .none kVL dcL pmL anL (.ref cdL) ctL), slL⟩)
    (cL : PySem.W.codeIn K (.ref cdL) "law" = true)
    (kL : PySem.W.keepIn K (.ref fL) = true)
    (hC : PySem.W.nsIn K mainGlobals "Rules" = some (some (.ref C)))
    (aEq : PySem.W.findIn K (.ref C) "__eq__" = some (some (.ref fEq)))
    (lEq : K.lookup fEq = some ⟨ocEq, odEq, .func (PySem.W.fnOf "__eq__" "Rules.__eq__" (defArgs sREq) (defBody sREq) (defScope sREq) .none kVEq dcEq pmEq anEq cdEq ctEq), slEq⟩)
    (cEq : PySem.W.codeIn K cdEq "Rules.__eq__" = true)
    (kEq : PySem.W.keepIn K (.ref fEq) = true)
    (awe : PySem.W.findIn K (.ref C) "with_end" = some (some (.ref fwe)))
    (lwe : K.lookup fwe = some ⟨ocwe, odwe, .func (PySem.W.fnOf "with_end" "Rules.with_end" (defArgs sWE) (defBody sWE) (defScope sWE) .none kVwe dcwe pmwe anwe cdwe ctwe), slwe⟩)
    (cwe : PySem.W.codeIn K cdwe "Rules.with_end" = true)
    (kwe : PySem.W.keepIn K (.ref fwe) = true)
    (aws : PySem.W.findIn K (.ref C) "with_step" = some (some (.ref fws)))
    (lws : K.lookup fws = some ⟨ocws, odws, .func (PySem.W.fnOf "with_step" "Rules.with_step" (defArgs sWS) (defBody sWS) (defScope sWS) .none kVws dcws pmws anws cdws ctws), slws⟩)
    (cws : PySem.W.codeIn K cdws "Rules.with_step" = true)
    (kws : PySem.W.keepIn K (.ref fws) = true)
    (aoe : PySem.W.findIn K (.ref C) "without_end" = some (some (.ref foe)))
    (loe : K.lookup foe = some ⟨ocoe, odoe, .func (PySem.W.fnOf "without_end" "Rules.without_end" (defArgs sOE) (defBody sOE) (defScope sOE) .none kVoe dcoe pmoe anoe cdoe ctoe), sloe⟩)
    (coe : PySem.W.codeIn K cdoe "Rules.without_end" = true)
    (koe : PySem.W.keepIn K (.ref foe) = true)
    (aos : PySem.W.findIn K (.ref C) "without_step" = some (some (.ref fos)))
    (los : K.lookup fos = some ⟨ocos, odos, .func (PySem.W.fnOf "without_step" "Rules.without_step" (defArgs sOS) (defBody sOS) (defScope sOS) .none kVos dcos pmos anos cdos ctos), slos⟩)
    (cos : PySem.W.codeIn K cdos "Rules.without_step" = true)
    (kos : PySem.W.keepIn K (.ref fos) = true)
    (aI : PySem.W.findIn K (.ref C) "__init__" = some (some (.ref fI)))
    (lI : K.lookup fI = some ⟨ocI, odI, .func (PySem.W.fnOf "__init__" "Rules.__init__" (defArgs sRI) (defBody sRI) (defScope sRI) (.ref T0) kVI dcI pmI anI cdI ctI), slI⟩)
    (cI : PySem.W.codeIn K cdI "Rules.__init__" = true)
    (kI : PySem.W.keepIn K (.ref fI) = true)
    (lTd : K.lookup T0 = some ⟨oct, odt, .seq #[.ref p0] nt, slt⟩)
    (lpd : K.lookup p0 = some ⟨.type "tuple", odp, .seq #[] np, slp⟩)
    (bC : rulB K C fI fEq fwe fws foe fos = true)
    (a1 : PySem.W.nsIn K mainGlobals "BadRules" = some (some (.ref c1)))
    (i1 : PySem.W.findIn K (.ref c1) "__init__" = some (some (.ref f1)))
    (l1 : K.lookup f1 = some ⟨oc1, od1, .func (PySem.W.ksFn "__init__" "BadRules.__init__" (defArgs (inClass (top 2) 0)) (defBody (inClass (top 2) 0)) (defScope (inClass (top 2) 0)) .none .none doc1 pm1 an1 (.ref d1) ct1 e1), osl1⟩)
    (m1 : K.lookup d1 = some ⟨ccl1, cdd1, .fields vs1, ccs1⟩)
    (v1 : vs1[2]? = some (.str fil1 tf1))
    (h1 : ((pK.main.file : Str) == fil1) = true)
    (n1 : K.lookup e1 = some ⟨cl1, cld1, .cell (some (.ref c1)), csl1⟩)
    (b1 : exB K c1 f1 d1 "place" "BadRules.__init__" "ValueError" "ValueError.__new__" "ValueError.__init__" (mro "ValueError") = true)
    (q1 : exR K c1 = true)
    (a2 : PySem.W.nsIn K mainGlobals "BadNumber" = some (some (.ref c2)))
    (i2 : PySem.W.findIn K (.ref c2) "__init__" = some (some (.ref f2)))
    (l2 : K.lookup f2 = some ⟨oc2, od2, .func (PySem.W.ksFn "__init__" "BadNumber.__init__" (defArgs (inClass (top 3) 0)) (defBody (inClass (top 3) 0)) (defScope (inClass (top 3) 0)) .none .none doc2 pm2 an2 (.ref d2) ct2 e2), osl2⟩)
    (m2 : K.lookup d2 = some ⟨ccl2, cdd2, .fields vs2, ccs2⟩)
    (v2 : vs2[2]? = some (.str fil2 tf2))
    (h2 : ((pK.main.file : Str) == fil2) = true)
    (n2 : K.lookup e2 = some ⟨cl2, cld2, .cell (some (.ref c2)), csl2⟩)
    (b2 : exB K c2 f2 d2 "value" "BadNumber.__init__" "ValueError" "ValueError.__new__" "ValueError.__init__" (mro "ValueError") = true)
    (q2 : exR K c2 = true)
    (tw : twoB K c1 c2 = true)
    (hF : PySem.W.codeHdIn K cdF PF = true)
    (hL : PySem.W.codeHdIn K cdL PL = true)
    (y8 : PySem.W.nsIn K mainGlobals "LONGEST_WORD" = some (some (.int 8 t8)))
    (ym3 : PySem.W.nsIn K mainGlobals "MOST_MARKS" = some (some (.int 3 tm3)))
    (yb3 : PySem.W.nsIn K mainGlobals "MOST_BRANCHES" = some (some (.int 3 tb3)))
    (yn6 : PySem.W.nsIn K mainGlobals "MOST_NODES" = some (some (.int 6 tn6)))
    (yl3 : PySem.W.nsIn K mainGlobals "MOST_LEVEL" = some (some (.int 3 tl3)))
    (yca : PySem.W.nsIn K mainGlobals "CALL" = some (some (.str "call" tca)))
    (ye3 : PySem.W.nsIn K mainGlobals "MOST_ENDS" = some (some (.int 3 te3)))
    (ys3 : PySem.W.nsIn K mainGlobals "MOST_STEPS" = some (some (.int 3 ts3)))
    (z0 : PySem.W.nsIn K mainGlobals "isinstance" = some none)
    (z1 : PySem.W.nsIn K mainGlobals "str" = some none)
    (z2 : PySem.W.nsIn K mainGlobals "tuple" = some none)
    (z3 : PySem.W.nsIn K mainGlobals "len" = some none)
    (z4 : PySem.W.nsIn K mainGlobals "all" = some none)
    (z5 : PySem.W.nsIn K mainGlobals "zip" = some none)
    (z6 : PySem.W.nsIn K mainGlobals "list" = some none)
    (z7 : PySem.W.nsIn K mainGlobals "int" = some none)
    (z8 : PySem.W.nsIn K mainGlobals "bool" = some none)
    (z9 : PySem.W.nsIn K mainGlobals "enumerate" = some none)
    (z10 : PySem.W.nsIn K mainGlobals "range" = some none)
    (z11 : PySem.W.nsIn K mainGlobals "min" = some none)
    (z12 : PySem.W.nsIn K mainGlobals "repr" = some none)
    (z13 : PySem.W.nsIn K mainGlobals "super" = some none)
    (z14 : PySem.W.nsIn K mainGlobals "sorted" = some none)
    (z15 : PySem.W.nsIn K mainGlobals "set" = some none) :
    LawAtT l w 18 63 "script" mg fa h := by
  have e := hfa.symm.trans (PySem.W.mg_of X G aL)
  cases e
  have no : ∀ {n : Str}, PySem.W.nsIn K mainGlobals n = some none → mg n = none := fun {n} z => PySem.W.mg_none_of X G z
  have FW := fun_mk (st := sWord) lW cW kW
  have BW := FW.binds (ps := ["thing"]) fun _ _ _ _ _ _ us hl => match us, hl with | [_], _ => rfl
  have gW : mg "is_word" = some (.ref fW) := PySem.W.mg_of X G aW
  have FM := fun_mk (st := sMarks) lM cM kM
  have BM := FM.binds (ps := ["thing", "least", "most"]) fun _ _ _ _ _ _ us hl => match us, hl with | [_, _, _], _ => rfl
  have gM : mg "are_words" = some (.ref fM) := PySem.W.mg_of X G aM
  have FTr := fun_mk (st := sTr) lTr cTr kTr
  have BTr := FTr.binds (ps := ["thing"]) fun _ _ _ _ _ _ us hl => match us, hl with | [_], _ => rfl
  have gTr : mg "is_tree" = some (.ref fTr) := PySem.W.mg_of X G aTr
  have FBo := fun_mk (st := sBo) lBo cBo kBo
  have BBo := FBo.binds (ps := ["thing"]) fun _ _ _ _ _ _ us hl => match us, hl with | [_], _ => rfl
  have gBo : mg "is_body" = some (.ref fBo) := PySem.W.mg_of X G aBo
  have FSh := fun_mk (st := sShape) lSh cSh kSh
  have BSh := FSh.binds (ps := ["thing", "calls"]) fun _ _ _ _ _ _ us hl => match us, hl with | [_, _], _ => rfl
  have gSh : mg "_is_shape" = some (.ref fSh) := PySem.W.mg_of X G aSh
  have FCt := fun_mk (st := sCount) lCt cCt kCt
  have BCt := FCt.binds (ps := ["thing", "level"]) fun _ _ _ _ _ _ us hl => match us, hl with | [_, _], _ => rfl
  have gCt : mg "_counts" = some (.ref fCt) := PySem.W.mg_of X G aCt
  have FNd := fun_mk (st := sNode) lNd cNd kNd
  have BNd := FNd.binds (ps := ["thing", "level"]) fun _ _ _ _ _ _ us hl => match us, hl with | [_, _], _ => rfl
  have gNd : mg "_is_node" = some (.ref fNd) := PySem.W.mg_of X G aNd
  have FP := fun_mk (st := sPair) lP cP kP
  have BP := FP.binds (ps := ["thing"]) fun _ _ _ _ _ _ us hl => match us, hl with | [_], _ => rfl
  have gP : mg "_is_pair" = some (.ref fP) := PySem.W.mg_of X G aP
  have FCl := fun_mk (st := sCall) lCl cCl kCl
  have BCl := FCl.binds (ps := ["thing"]) fun _ _ _ _ _ _ us hl => match us, hl with | [_], _ => rfl
  have gCl : mg "_is_call" = some (.ref fCl) := PySem.W.mg_of X G aCl
  have FNu := fun_mk (st := sNum) lNu cNu kNu
  have BNu := FNu.binds (ps := ["thing", "many"]) fun _ _ _ _ _ _ us hl => match us, hl with | [_, _], _ => rfl
  have gNu : mg "is_number" = some (.ref fNu) := PySem.W.mg_of X G aNu
  have FRo := fun_mk (st := sRow) lRo cRo kRo
  have BRo := FRo.binds (ps := ["thing", "least", "most"]) fun _ _ _ _ _ _ us hl => match us, hl with | [_, _, _], _ => rfl
  have gRo : mg "_is_row" = some (.ref fRo) := PySem.W.mg_of X G aRo
  have FWo := fun_mk (st := sWo) lWo cWo kWo
  have BWo := FWo.binds (ps := ["items", "number"]) fun _ _ _ _ _ _ us hl => match us, hl with | [_, _], _ => rfl
  have gWo : mg "_without" = some (.ref fWo) := PySem.W.mg_of X G aWo
  have FB := fun_mk (st := sBeg) lB cB kB
  have BB := FB.binds (ps := ["script"]) fun _ _ _ _ _ _ us hl => match us, hl with | [_], _ => rfl
  have gB : mg "_law_begun" = some (.ref fB) := PySem.W.mg_of X G aB
  have FN := fun_mk (st := sNext) lN cN kN
  have BN := FN.binds (ps := ["m", "many"]) fun _ _ _ _ _ _ us hl => match us, hl with | [_, _], _ => rfl
  have gN : mg "_law_next" = some (.ref fN) := PySem.W.mg_of X G aN
  have FO := fun_mk (st := sOdd) lO cO kO
  have BO := FO.binds (ps := ["m"]) fun _ _ _ _ _ _ us hl => match us, hl with | [_], _ => rfl
  have gO : mg "_law_odd" = some (.ref fO) := PySem.W.mg_of X G aO
  have FE := fun_mk (st := sBent) lE cE kE
  have BE := FE.binds (ps := ["m", "thing"]) fun _ _ _ _ _ _ us hl => match us, hl with | [_, _], _ => rfl
  have gE : mg "_law_bent" = some (.ref fE) := PySem.W.mg_of X G aE
  have FT := fun_mk (st := sTree) lT cT kT
  have BT := FT.binds (ps := ["m", "size", "deep"]) fun _ _ _ _ _ _ us hl => match us, hl with | [_, _, _], _ => rfl
  have gT : mg "_law_tree" = some (.ref fT) := PySem.W.mg_of X G aT
  have FY := fun_mk (st := sBody) lY cY kY
  have BY := FY.binds (ps := ["m", "size"]) fun _ _ _ _ _ _ us hl => match us, hl with | [_, _], _ => rfl
  have gY : mg "_law_body" = some (.ref fY) := PySem.W.mg_of X G aY
  have FS := fun_mk (st := sEas) lS cS kS
  have BS := FS.binds (ps := ["m", "sizes"]) fun _ _ _ _ _ _ us hl => match us, hl with | [_, _], _ => rfl
  have gS : mg "_law_ends_and_steps" = some (.ref fS) := PySem.W.mg_of X G aS
  have FD := fun_mk (st := sDue) lD cD kD
  have BD := FD.binds (ps := ["ends", "steps"]) fun _ _ _ _ _ _ us hl => match us, hl with | [_, _], _ => rfl
  have gD : mg "_law_due" = some (.ref fD) := PySem.W.mg_of X G aD
  have FTo := fun_mk (st := sTold) lTo cTo kTo
  have BTo := FTo.binds (ps := ["call"]) fun _ _ _ _ _ _ us hl => match us, hl with | [_], _ => rfl
  have gTo : mg "_law_told" = some (.ref fTo) := PySem.W.mg_of X G aTo
  have FF := fun_mk (st := sFur) lF cF kF
  have BF := FF.binds (ps := ["m", "ends", "steps", "one"]) fun _ _ _ _ _ _ us hl => match us, hl with | [_, _, _, _], _ => rfl
  have gF : mg "_law_further_right" = some (.ref fF) := PySem.W.mg_of X G aF
  have FL := fun_mk (st := sLaw) lL cL kL
  have FEq := fun_mk (st := sREq) lEq cEq kEq
  have BEq := FEq.binds (ps := ["self", "other"]) fun _ _ _ _ _ _ us hl => match us, hl with | [_, _], _ => rfl
  have Fwe := fun_mk (st := sWE) lwe cwe kwe
  have Bwe := Fwe.binds (ps := ["self", "tree"]) fun _ _ _ _ _ _ us hl => match us, hl with | [_, _], _ => rfl
  have Fws := fun_mk (st := sWS) lws cws kws
  have Bws := Fws.binds (ps := ["self", "body"]) fun _ _ _ _ _ _ us hl => match us, hl with | [_, _], _ => rfl
  have Foe := fun_mk (st := sOE) loe coe koe
  have Boe := Foe.binds (ps := ["self", "number"]) fun _ _ _ _ _ _ us hl => match us, hl with | [_, _], _ => rfl
  have Fos := fun_mk (st := sOS) los cos kos
  have Bos := Fos.binds (ps := ["self", "number"]) fun _ _ _ _ _ _ us hl => match us, hl with | [_, _], _ => rfl
  obtain ⟨cl, nE, nS, mkc, req, sm⟩ := rulB_ok bC
  have two := twoB_ok tw
  have FI : FunD K "__init__" "Rules.__init__" (defArgs sRI) (defBody sRI) (defScope sRI) [V.ref p0] [] fI _ := ⟨⟨_, _, _, _, _, _, _, _, _, _, rfl, lI, cI, .inr ⟨by simp, T0, _, [.ref p0], nt, rfl, lTd, rfl, .cons rfl .nil⟩, .inl rfl⟩, kI⟩
  have BI0 : Binds K _ ["self", "ends", "steps"] [] := bI_0 FI
  have BI1 : Binds K _ ["self", "ends", "steps"] [.ref p0] := bI_1 FI
  have TPm : TP mg := { isi := no z0, str := no z1, tuple := no z2, len := no z3, all := no z4, zip := no z5, w8 := ⟨_, PySem.W.mg_of X G y8⟩, m3 := ⟨_, PySem.W.mg_of X G ym3⟩, b3 := ⟨_, PySem.W.mg_of X G yb3⟩, n6 := ⟨_, PySem.W.mg_of X G yn6⟩, l3 := ⟨_, PySem.W.mg_of X G yl3⟩, ca := ⟨_, PySem.W.mg_of X G yca⟩ }
  have TBm : TxtB mg := ⟨no z6, no z7, no z3⟩
  have TRm : TR mg := { isi := no z0, len := no z3, list := no z6, tuple := no z2, int := no z7, bool := no z8, enum := no z9 }
  have TI : TI3 mg := { tr := TRm, e3 := ⟨_, PySem.W.mg_of X G ye3⟩, s3 := ⟨_, PySem.W.mg_of X G ys3⟩ }
  have TDm : TD mg := ⟨TRm, no z12⟩
  have PFm : K01.PF K mg fW fP fCl fM _ _ _ _ := { W := FW, bW := BW, gW := gW, P := FP, bP := BP, gP := gP, C := FCl, bC := BCl, gC := gCl, M := FM, bM := BM, gM := gM }
  have x1 := ext_br l1 m1 v1 h1 n1 b1 (no z13)
  have x2 := ext_bn l2 m2 v2 h2 n2 b2 (no z13)
  obtain ⟨r1, kp1⟩ := exR_ok q1 (nf_of b1)
  obtain ⟨r2, kp2⟩ := exR_ok q2 (nf_of b2)
  have gB' : mg "BadRules" = some (.ref c1) := PySem.W.mg_of X G a1
  have gN' : mg "BadNumber" = some (.ref c2) := PySem.W.mg_of X G a2
  have gC' : mg "Rules" = some (.ref C) := PySem.W.mg_of X G hC
  have E1 : ExF pK K mg "BadRules" "place" c1 := ⟨x1, r1, gB', kp1⟩
  have E2 : ExF pK K mg "BadNumber" "value" c2 := ⟨x2, r2, gN', kp2⟩
  have RCm : RCl K mg C fI := { g := gC', cl := cl, mkc := mkc, n1 := nE, n2 := nS }
  have GCt := fun base : Heap => ok_counts (P := pK) (w := w) (base := base) FCt BCt gCt FNd BNd gNd PFm TPm 4 (by decide)
  have GSh := fun base : Heap => ok_shape (P := pK) (w := w) (base := base) FSh FCt BCt gCt (GCt base) TPm
  have GTr := fun base : Heap => ok_tr (P := pK) (w := w) (base := base) FTr FSh BSh gSh (GSh base)
  have GBo := fun base : Heap => ok_bo (P := pK) (w := w) (base := base) FBo FSh BSh gSh (GSh base)
  have GN := fun base : Heap => ok_next (P := pK) (w := w) (base := base) FN TBm
  have GNX := fun base : Heap => (GN base).imp fun _ _ _ _ => nx_of
  have GT := fun base : Heap => ok_tree (P := pK) (w := w) (base := base) FT BT gT FN BN gN TBm (no z2) 2 (by decide)
  have GY := fun base : Heap => ok_body (P := pK) (w := w) (base := base) FY FN BN gN FT BT gT TBm (no z2)
  have GE := fun base : Heap => ok_bent (P := pK) (w := w) (base := base) FE BE gE FN BN gN FO BO gO TBm TPm (no z8) (Nat.le_refl _) 12 (by decide)
  have GS := fun base : Heap => ok_eas (P := pK) (w := w) (base := base) FS FN BN gN (GNX base) FT BT gT (GT base) FY BY gY (GY base) (no z10)
  have GI := fun base : Heap => ok_ri (P := pK) (w := w) (base := base) FI FRo BRo gRo FTr BTr gTr (GTr base) FBo BBo gBo (GBo base) TI E1 cl nE nS
  have Gwe := fun base : Heap => ok_we (P := pK) (w := w) (base := base) (CN := c2) Fwe RCm BI0 (GI base) FTr BTr gTr (GTr base) TI E1
  have Gws := fun base : Heap => ok_ws (P := pK) (w := w) (base := base) (CN := c2) Fws RCm BI0 (GI base) FBo BBo gBo (GBo base) TI E1
  have Goe := fun base : Heap => ok_oe (P := pK) (w := w) (base := base) (CB := c1) Foe RCm BI0 (GI base) FNu BNu gNu FWo BWo gWo TI E2
  have Gos := fun base : Heap => ok_os (P := pK) (w := w) (base := base) (CB := c1) Fos RCm BI0 (GI base) FNu BNu gNu FWo BWo gWo TI E2
  have Geq := fun base : Heap => ok_req (P := pK) (w := w) (base := base) FEq RCm TI req
  have RXm : ∀ base : Heap, RX pK w K mg base C c1 c2 fTo _ := fun base =>
    { cl := cl, n1 := nE, n2 := nS, we := ⟨_, _, _, ⟨awe, sm.1, kwe⟩, Bwe, Gwe base⟩, ws := ⟨_, _, _, ⟨aws, sm.2.1, kws⟩, Bws, Gws base⟩, oe := ⟨_, _, _, ⟨aoe, sm.2.2.1, koe⟩, Boe, Goe base⟩, os := ⟨_, _, _, ⟨aos, sm.2.2.2, kos⟩, Bos, Gos base⟩,
      fto := FTo, bto := BTo, gto := gTo, gB := gB', gN := gN', rB := r1, rN := r2, two := two, repr := no z12, bool := no z8, tr := TRm }
  have RX2m : ∀ base : Heap, RX2 pK w K mg base C c1 fI fEq p0 _ _ := fun base =>
    { rcl := RCm, GI := GI base, bI0 := BI0, bI1 := BI1, d0 := fun H => .inr ⟨_, #[], np, lpd, rfl, rfl, by decide, .nil⟩, geq := Geq base, beq := BEq, req := req }
  have GD := fun base : Heap => ok_due (P := pK) (w := w) (base := base) FD FTr BTr gTr (GTr base) FBo BBo gBo (GBo base) TDm
  have huF : ∀ p ∈ [(PF, qFu), (PL, qLw)], p.1 = PF → p.2 = qFu := fun p hp' e => by
    rcases List.mem_cons.mp hp' with rfl | q
    · rfl
    · obtain rfl := List.mem_singleton.mp q
      exact absurd e.symm nFL
  have huL : ∀ p ∈ [(PF, qFu), (PL, qLw)], p.1 = PL → p.2 = qLw := fun p hp' e => by
    rcases List.mem_cons.mp hp' with rfl | q
    · exact absurd e nFL
    · obtain rfl := List.mem_singleton.mp q
      rfl
  have GF := fun (base : Heap) (tb : TabB base mg cdF PF) => ok_fur (P := pK) (w := w) (base := base) (T := [(PF, qFu), (PL, qLw)]) FF rfl tb (List.mem_cons_self ..) huF (RXm base) FT BT gT (GT base) FY BY gY (GY base) FE BE gE (GE base) FTr BTr gTr (GTr base) FBo BBo gBo (GBo base)
  have key := fun (base : Heap) (tb : TabB base mg cdF PF) (tb2 : TabB base mg cdL PL) => ok_law (P := pK) (w := w) (base := base) (T := [(PF, qFu), (PL, qLw)]) FL rfl tb2 (List.mem_cons_of_mem _ (List.mem_cons_self ..)) huL (RXm base) (RX2m base)
    FB BB gB (ok_beg FB TBm) FN BN gN (GNX base) FY BY gY (GY base) FE BE gE (GE base) FS BS gS (GS base) FF BF gF (GF base tb) FD BD gD (GD base) (no z10) (no z11)
  refine ⟨K, ?fd, [(cdF, PF), (cdL, PL)], spLaw [(PF, qFu), (PL, qLw)] K, X, km, ?t1, ?t2, ?t3, ?b, ?wish, ?last⟩
  case last =>
    intro base Kb Nb tb
    rw [hp]
    exact key base (tb (cdF, PF) (List.mem_cons_self ..)) (tb (cdL, PL) (List.mem_cons_of_mem _ (List.mem_cons_self ..)))
  case b => exact fun s v => .of_eq rfl
  case t1 =>
    intro p hp'
    rcases List.mem_cons.mp hp' with rfl | q
    · exact tF
    · obtain rfl := List.mem_singleton.mp q
      exact tL
  case t2 =>
    intro p hp'
    rcases List.mem_cons.mp hp' with rfl | q
    · exact nF
    · obtain rfl := List.mem_singleton.mp q
      exact nL
  case t3 =>
    intro p hp'
    rcases List.mem_cons.mp hp' with rfl | q
    · exact PySem.W.codeHd_of_K X hF
    · obtain rfl := List.mem_singleton.mp q
      exact PySem.W.codeHd_of_K X hL
  case wish =>
    intro H a ns hl sy tb sq
    refine ⟨a, ns, rfl, sq, hl, sy, fun p hp' => ?_, fun _ => rfl⟩
    rcases List.mem_cons.mp hp' with rfl | q
    · exact .nil (tb (cdF, PF) (List.mem_cons_self ..))
    · obtain rfl := List.mem_singleton.mp q
      exact .nil (tb (cdL, PL) (List.mem_cons_of_mem _ (List.mem_cons_self ..)))
end RU
set_option Elab.async false
open PySem PySem.W PyProof.Rows
theorem RU.room18 : L2.Room 18 callerA := ⟨rfl, by decide, by decide⟩
set_option maxRecDepth 100000 in
set_option maxHeartbeats 0 in
theorem PySem.Challenge.cw_onlyjoins_k03_whole_rules_made_holds : PySem.Challenge.rw_onlyjoins_k03_whole_rules_made.Holds := by
  w_on; o_law; k_head; (case hw => w_witness2)
  k_fill
  refine L2H.walk_topT (l := PySem.Challenge.rw_onlyjoins_k03_whole_rules_made) (n := 63) (k := 18) (x := "script") rfl (by decide) rfl (by decide +kernel) RU.room18 ?F
  case F =>
    intro w mg fa h Y G hmg
    have KX := PySem.W.km_in_of Y
    have tabs := PySem.W.km_tabs_of Y
    refine' RU.all_mk (PF := 266) (PL := 273) rfl KX G hmg rfl (tabs 266 (by decide)) (tabs 273 (by decide)) rfl rfl (by decide) ?aW ?lW ?cW ?kW ?aM ?lM ?cM ?kM ?aTr ?lTr ?cTr ?kTr ?aBo ?lBo ?cBo ?kBo ?aSh ?lSh ?cSh ?kSh ?aCt ?lCt ?cCt ?kCt ?aNd ?lNd ?cNd ?kNd ?aP ?lP ?cP ?kP ?aCl ?lCl ?cCl ?kCl ?aNu ?lNu ?cNu ?kNu ?aRo ?lRo ?cRo ?kRo ?aWo ?lWo ?cWo ?kWo ?aB ?lB ?cB ?kB ?aN ?lN ?cN ?kN ?aO ?lO ?cO ?kO ?aE ?lE ?cE ?kE ?aT ?lT ?cT ?kT ?aY ?lY ?cY ?kY ?aS ?lS ?cS ?kS ?aD ?lD ?cD ?kD ?aTo ?lTo ?cTo ?kTo ?aF ?lF ?cF ?kF ?aL ?lL ?cL ?kL ?hC ?aEq ?lEq ?cEq ?kEq ?awe ?lwe ?cwe ?kwe ?aws ?lws ?cws ?kws ?aoe ?loe ?coe ?koe ?aos ?los ?cos ?kos ?aI ?lI ?cI ?kI ?lTd ?lpd ?bC ?a1 ?i1 ?l1 ?m1 ?v1 ?h1 ?n1 ?b1 ?q1 ?a2 ?i2 ?l2 ?m2 ?v2 ?h2 ?n2 ?b2 ?q2 ?tw ?hF ?hL ?y8 ?ym3 ?yb3 ?yn6 ?yl3 ?yca ?ye3 ?ys3 ?z0 ?z1 ?z2 ?z3 ?z4 ?z5 ?z6 ?z7 ?z8 ?z9 ?z10 ?z11 ?z12 ?z13 ?z14 ?z15
    (case aW => k_is)
    (case lW => k_is)
    (case cW => k_is)
    (case kW => k_is)
    (case aM => k_is)
    (case lM => k_is)
    (case cM => k_is)
    (case kM => k_is)
    (case aTr => k_is)
    (case lTr => k_is)
    (case cTr => k_is)
    (case kTr => k_is)
    (case aBo => k_is)
    (case lBo => k_is)
    (case cBo => k_is)
    (case kBo => k_is)
    (case aSh => k_is)
    (case lSh => k_is)
    (case cSh => k_is)
    (case kSh => k_is)
    (case aCt => k_is)
    (case lCt => k_is)
    (case cCt => k_is)
    (case kCt => k_is)
    (case aNd => k_is)
    (case lNd => k_is)
    (case cNd => k_is)
    (case kNd => k_is)
    (case aP => k_is)
    (case lP => k_is)
    (case cP => k_is)
    (case kP => k_is)
    (case aCl => k_is)
    (case lCl => k_is)
    (case cCl => k_is)
    (case kCl => k_is)
    (case aNu => k_is)
    (case lNu => k_is)
    (case cNu => k_is)
    (case kNu => k_is)
    (case aRo => k_is)
    (case lRo => k_is)
    (case cRo => k_is)
    (case kRo => k_is)
    (case aWo => k_is)
    (case lWo => k_is)
    (case cWo => k_is)
    (case kWo => k_is)
    (case aB => k_is)
    (case lB => k_is)
    (case cB => k_is)
    (case kB => k_is)
    (case aN => k_is)
    (case lN => k_is)
    (case cN => k_is)
    (case kN => k_is)
    (case aO => k_is)
    (case lO => k_is)
    (case cO => k_is)
    (case kO => k_is)
    (case aE => k_is)
    (case lE => k_is)
    (case cE => k_is)
    (case kE => k_is)
    (case aT => k_is)
    (case lT => k_is)
    (case cT => k_is)
    (case kT => k_is)
    (case aY => k_is)
    (case lY => k_is)
    (case cY => k_is)
    (case kY => k_is)
    (case aS => k_is)
    (case lS => k_is)
    (case cS => k_is)
    (case kS => k_is)
    (case aD => k_is)
    (case lD => k_is)
    (case cD => k_is)
    (case kD => k_is)
    (case aTo => k_is)
    (case lTo => k_is)
    (case cTo => k_is)
    (case kTo => k_is)
    (case aF => k_is)
    (case lF => k_is)
    (case cF => k_is)
    (case kF => k_is)
    (case aL => k_is)
    (case lL => k_is)
    (case cL => k_is)
    (case kL => k_is)
    (case hC => k_is)
    (case aEq => k_is)
    (case lEq => k_is)
    (case cEq => k_is)
    (case kEq => k_is)
    (case awe => k_is)
    (case lwe => k_is)
    (case cwe => k_is)
    (case kwe => k_is)
    (case aws => k_is)
    (case lws => k_is)
    (case cws => k_is)
    (case kws => k_is)
    (case aoe => k_is)
    (case loe => k_is)
    (case coe => k_is)
    (case koe => k_is)
    (case aos => k_is)
    (case los => k_is)
    (case cos => k_is)
    (case kos => k_is)
    (case aI => k_is)
    (case lI => k_is)
    (case cI => k_is)
    (case kI => k_is)
    (case lTd => k_is)
    (case lpd => k_is)
    (case bC => kernel_rfl)
    (case a1 => k_is)
    (case i1 => k_is)
    (case l1 => k_is)
    (case m1 => k_is)
    (case v1 => exact rfl)
    (case h1 => decide +kernel)
    (case n1 => k_is)
    (case b1 => kernel_rfl)
    (case q1 => kernel_rfl)
    (case a2 => k_is)
    (case i2 => k_is)
    (case l2 => k_is)
    (case m2 => k_is)
    (case v2 => exact rfl)
    (case h2 => decide +kernel)
    (case n2 => k_is)
    (case b2 => kernel_rfl)
    (case q2 => kernel_rfl)
    (case tw => kernel_rfl)
    (case hF => kernel_rfl)
    (case hL => kernel_rfl)
    (case y8 => k_is)
    (case ym3 => k_is)
    (case yb3 => k_is)
    (case yn6 => k_is)
    (case yl3 => k_is)
    (case yca => k_is)
    (case ye3 => k_is)
    (case ys3 => k_is)
    (case z0 => k_is)
    (case z1 => k_is)
    (case z2 => k_is)
    (case z3 => k_is)
    (case z4 => k_is)
    (case z5 => k_is)
    (case z6 => k_is)
    (case z7 => k_is)
    (case z8 => k_is)
    (case z9 => k_is)
    (case z10 => k_is)
    (case z11 => k_is)
    (case z12 => k_is)
    (case z13 => k_is)
    (case z14 => k_is)
    (case z15 => k_is)
