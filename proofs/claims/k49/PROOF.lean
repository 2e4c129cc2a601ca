import PyProof.Rows.All
import Wide.All
import OpenK.AllK
import Wide.FinOn
import HandS.ForMost
import HandS.Spec
import HandS.IsInst
import HandS.RaiseMore
import PyProof.ReprRoads
import PyProof.EqAt
import PyProof.EqKinds
import PyProof.NeKinds
import HandS.Base
import HandS.Call
import HandS.List
import HandS.Set
import HandS.SetFor
import HandS.SetTxt0
import PyProof.Rows.SortStr
import PyProof.Rows.SortKeyStr
import PyProof.Rows.SortShellK
import HandS.Strs
import PyProof.StrOps2
import HandS.Exc
import HandS.ExcInit
import HandS.ExcValue
import KE.KExcSuper
import KE.KExcInit
import KE.KExcIs
import HandS.Defaults
import HandS.Walk
import HandS.TupAny
import HandS.Zip
import HandS.Steps
import PyProof.Rows.ReprOcc
import HandS.Style
import PyProof.StrLawsRepr
import HandS.ForSpec
import HandS.Lambda
import KE.KDflt
import KE.GoesEnum
import HandS.Iter
import PyProof.InstNe
import HandS.More
import HandS.SlotsOwn
import HandS.Flow
import HandS.Codes
import HandS.StrMore
import HandS.StrSplit
import HandS.FStr
import PyProof.MinMaxWalk
import PyProof.WalkInts
import HandS.FltList
import HandS.SortKw
import HandS.Deep
import PyProof.P3In
import PyProof.Rows.InDataRows
import HandS.EndTab
import KE.GoesEnumKw
import HandS.OwnEq
import HandS.Comp
import PySem.Challenge.RW_onlyjoins_k49_whole_rules_texts
set_option Elab.async false
set_option linter.all false
set_option maxRecDepth 100000
set_option maxHeartbeats 4000000
/-! The law's own def, called from the very top: its surroundings are known (no repr is under way). -/
namespace L2H
open PySem PySem.Spec PyProof.Rows L2
/-- a promise kept when called from the top -/
def AtTop (P : Program) (w : World) (K : PySem.W.Frag) (mg : Str → Option Value) (base : Heap) (f : Addr) (fd : FuncData) (x : Str) (sp : Sp) : Prop :=
  ∀ (s : Shared) (H : Hp) (u : Value) (v : V) (Q : VK) (E : XK), Env0 P w K mg base callerA [] s H → BindsTo s fd ⟨[u], []⟩ [(x, u)] → RelV v u → sp [v] H Q E →
    codeAny (model P w) callerA (.call (.ref f) ⟨[u], []⟩) (CR CX0 [] P w H s Q E) s
section
variable {P : Program} {w : World} {K : PySem.W.Frag} {mg : Str → Option Value} {base : Heap} {x name : Str} {st : Stmt} {f : Addr} {fd : FuncData} {N : List Str} {k : Nat} {sp : Sp}
theorem atTop_of (F : Fun K name name st f fd) (S : FnScope N [x] (defScope st)) (hr : Room (k + 1) callerA)
    (body : ∀ (cdv : Value) (s : Shared) (H : Hp) (v : V) (Q : VK) (E : XK), Room k (callerA.deeper (envOfC name (defScope st) s.heap.objs.size f cdv)) → sp [v] H Q E →
      ∃ t, PSs (cxOf CX0 P w K mg base N name (defScope st) f cdv callerA [] s H E).nox (defBody st) t ∧ t { nx := fun _ H' => Q .non H', rt := Q } (start N [v]) H) :
    AtTop P w K mg base f fd x sp := by
  obtain ⟨oc, od, kV, doc, pm, an, cdv, ct, osl, rfl, lk, hcd⟩ := F.ex
  intro s H u v Q E e0 hb ru hsp
  have KX : K.In s.heap := e0.mod.kin.keeps fun b o z => (e0.bs b o z).1
  have lim : s.heap.NoLimit := e0.mod.nolimit.keeps fun b o z => (e0.bs b o z).1
  have kinds : ∀ y ∈ [(x, u)], (defScope st).names.lookup y.1 = some .local ∨ ((defScope st).names.lookup y.1 = some .cell ∧ ((cellsFrom (s.heap.objs.size + 1) (defScope st).names []).lookup y.1).isSome = true) := fun y hy => by
    rcases List.mem_cons.mp hy with rfl | z
    · rcases S.par x (List.mem_cons_self ..) with q | q
      · exact .inl q
      · exact .inr ⟨q, PySem.W.cellsFrom_some _ _ _ (.inl q)⟩
    · cases z
  refine codeAny_call_function hr.depth (KX _ _ lk) rfl S.co S.gen rfl (PySem.W.codeRec_of KX hcd) (hb _ _ _ _ ?_)
  refine wpAny_newFunctionEnv_cells S.kind kinds fun env he s1 y => ?_
  subst he
  refine ⟨lim.keeps y.toInCall.keep, codeAny_func ?_⟩
  obtain ⟨t, ht, hq⟩ := body cdv s H v Q E (hr.deeper _) hsp
  have I : Inv (cxOf CX0 P w K mg base N name (defScope st) f cdv callerA [] s H E) [] (start N [v]) H s1 := inv_start (ps := [x]) (us := [u]) S hr.hd e0 rfl (.cons ru .nil) y
  refine wpAny_mono (ht.nox.run [] s1 (start N [v]) H _ I hq) (fun fl s' hs => ?_) fun _ _ z => z
  cases fl with
  | ret u' =>
    obtain ⟨v', σ', H', J, rv, q⟩ := hs
    exact ⟨v', H', J.os, J.bare, J.base, J.hok, rv, q⟩
  | next =>
    obtain ⟨σ', H', J, q⟩ := hs
    exact ⟨V.non, H', J.os, J.bare, J.base, J.hok, rfl, q⟩
  | brk =>
    obtain ⟨_, _, _, q⟩ := hs
    exact q.elim
  | cont =>
    obtain ⟨_, _, _, q⟩ := hs
    exact q.elim
end
section
variable {P : Program} {w : World} {K : PySem.W.Frag} {mg mb : Str → Option Value} {fa a : Addr} {fd : FuncData} {x : Str} {sp : Sp} {t : Shared} {vs : List Value} {ns : List Int}
/-- what the law's row asks of the call -/
abbrev Good (t : Shared) : Result → Shared → Prop := fun r t' => r = .ok (.ret (.bool true)) ∧ OldK t.heap t'.heap ∧ t'.os = t.os ∧ AllBare t'.gens
theorem from_top (KX : K.In t.heap) (gn : t.heap.Ns mainGlobals mg) (bn : t.heap.Ns builtinsNs mb) (bb : ∀ y : Str, y ≠ "__name__" → mb y = bootBuiltins y) (lim : t.heap.NoLimit) (g0 : t.gens = #[])
    (at_a : t.heap.get? a = some { cls := .type "list", data := .seq vs.toArray }) (allInt : IntsAre vs ns) (short : ns.length ≤ sizeLine)
    (F : ∀ base : Heap, K.In base → base.Ns mainGlobals mg → AtTop P w K mg base fa fd x sp) (bind : ∀ (s : Shared) (u : Value), BindsTo s fd ⟨[u], []⟩ [(x, u)])
    (wish : ∀ H : Hp, Only H → SqL K H a (ns.map V.int) → sp [.ref a] H (fun v _ => v = .bl true) fun _ _ _ => False) :
    codeAny (model P w) callerA (.call (.ref fa) ⟨[.ref a], []⟩) (Good t) t := by
  have rvs := vals_ints allInt
  have inner : ∀ H : Hp, Only H → SqL K H a (ns.map V.int) → HOk P w H t.heap → (∀ b, H b ≠ none → b = a) → (H a ≠ none → K.lookup a = none) →
      codeAny (model P w) callerA (.call (.ref fa) ⟨[.ref a], []⟩) (Good t) t := fun H hO hS hok one out => by
    have pass : ∀ {b : Addr} {o : Obj}, t.heap.get? b = some o → H b = none → (hidT t.heap H).get? b = some o := fun z n => hidT_get z n
    have dicts : ∀ {b : Addr} {o : Obj} {es : Array DictEntry} {ep : Nat}, t.heap.get? b = some o → o.data = .dict es ep → H b = none := fun {b o es ep} z dz => by
      cases q : H b with
      | none => rfl
      | some u =>
        obtain rfl : b = a := one b (by rw [q]; simp)
        rw [at_a] at z
        cases z
        have y : Data.seq vs.toArray _ = Data.dict es ep := dz
        cases y
    have nsp : ∀ {b : Addr} {m : Str → Option Value}, t.heap.Ns b m → (hidT t.heap H).Ns b m := fun {b m} ⟨o, es, ep, z, dz, r⟩ => ⟨o, es, ep, pass z (dicts z dz), dz, r⟩
    have Kb : K.In (hidT t.heap H) := fun b o z => pass (KX b o z) (by
      cases q : H b with
      | none => rfl
      | some u =>
        obtain rfl : b = a := one b (by rw [q]; simp)
        rw [out (by rw [q]; simp)] at z
        cases z)
    have md : Mod K mg (hidT t.heap H) := ⟨Kb, nsp gn, ⟨mb, nsp bn, bb⟩, let ⟨mc, q1, q2⟩ := lim; ⟨mc, nsp q1, q2⟩⟩
    have env : Env0 P w K mg (hidT t.heap H) callerA [] t H :=
      ⟨rfl, md, fun b o z => of_hidT z, Nat.le_of_eq (hidT_size _ _), trivial, fun b hb => absurd (show b ∈ ([] : List Addr) from hb) (by simp), hok, .of_eq g0⟩
    refine codeAny_mono (F _ Kb (nsp gn) t H (.ref a) (.ref a) _ _ env (bind t (.ref a)) rfl (wish H hO hS)) fun r t' h => ?_
    cases r with
    | error e => exact False.elim h
    | ok fl =>
     cases fl with
     | next => exact False.elim h
     | brk => exact False.elim h
     | cont => exact False.elim h
     | ret u =>
      obtain ⟨v, H', os, bare, un, hok', r', q⟩ := h
      obtain rfl : v = V.bl true := q
      obtain rfl : u = Value.bool true := r'
      refine ⟨rfl, OldK.of_keep fun b o z => ?_, os, bare⟩
      cases q : H b with
      | none => exact un.keep b o z q (by intro y; exact absurd (show b ∈ ([] : List Addr) from y) (by simp)) (by simp)
      | some u =>
        rcases hO b with y | ⟨ob, xs, y⟩
        · rw [q] at y
          cases y
        · obtain ⟨e1, _⟩ := hok b _ y
          obtain ⟨e2, _⟩ := hok' b _ (un.frzs b ob _ y)
          rw [z] at e1
          cases e1
          exact e2
  cases hk : K.lookup a with
  | some o =>
    have z := KX a o hk
    rw [at_a] at z
    cases z
    have sq : SqL K (fun _ => none) a (ns.map V.int) := .inr ⟨_, vs.toArray, _, hk, rfl, rfl, rfl, by rw [List.size_toArray, allInt.length]; exact short, by simpa using rvs⟩
    exact inner (fun _ => none) (fun _ => .inl rfl) sq (fun b u y => by cases (show (none : Option HO) = some u from y)) (fun b y => absurd rfl y) fun y => absurd rfl y
  | none =>
    let Hs : Hp := fun b => if b = a then some (.frz { cls := .type "list", data := .seq vs.toArray } (.lst (ns.map V.int))) else none
    have on : Hs a = some (.frz { cls := .type "list", data := .seq vs.toArray } (.lst (ns.map V.int))) := if_pos rfl
    have off : ∀ b, b ≠ a → Hs b = none := fun b hb => if_neg hb
    refine inner Hs (fun b => ?_) (.inl (.inr ⟨_, on⟩)) (fun b u z => ?_) (fun b z => ?_) fun _ => hk
    · by_cases hb : b = a
      · subst hb
        exact .inr ⟨_, _, on⟩
      · exact .inl (off b hb)
    · by_cases hb : b = a
      · subst hb
        rw [on] at z
        cases z
        exact ⟨at_a, by rw [List.length_map]; exact short, vs, _, rvs, at_a⟩
      · rw [off b hb] at z
        cases z
    · by_cases hb : b = a
      · exact hb
      · exact absurd (off b hb) z
end
/-- the law's row, from the promise of its def called from the top -/
theorem walk_top {l : PySem.W.OpenLaw} {n : Nat} {q : Program} {loose : List Str} {XP : (Str → Option Value) → Heap → Prop} {YP : World → Heap → Prop} {d : DefRec} {K : Params → PySem.W.Frag} {sp : World → Sp} {x : Str}
    (hn : l.most = some n) (few : n ≤ sizeLine) (hdf : d.params.defaults = []) (hY : ∀ (w : World) (h : Heap), YP w h → (K w.params).In h)
    (F : ∀ (w : World) (mg : Str → Option Value) (fa : Addr) (h : Heap), (K w.params).In h → h.Ns mainGlobals mg → mg d.name = some (.ref fa) →
      ∃ fd : FuncData, (∀ (s : Shared) (u : Value), BindsTo s fd ⟨[u], []⟩ [(x, u)]) ∧
        ∀ base : Heap, (K w.params).In base → base.Ns mainGlobals mg → AtTop l.prog w (K w.params) mg base fa fd x (sp w))
    (wish : ∀ (w : World) (H : Hp) (a : Addr) (ns : List Int), ns.length ≤ n → Only H → SqL (K w.params) H a (ns.map V.int) → sp w [.ref a] H (fun v _ => v = .bl true) fun _ _ _ => False) :
    PySem.W.WalkO q loose XP YP l.row.toRowW d [] (fun f vs => PySem.call f vs) := by
  refine Att.attach_call hn hdf fun w s₀ t mg mb fa o pm cd doc a vs ns G Y ho hd hcd hmg hobj hints hlen g0 => ?_
  have KX := hY w _ Y
  obtain ⟨fd, hb, hF⟩ := F w mg fa _ KX G.T.g hmg
  exact from_top KX G.T.g G.T.b G.T.builtins G.T.nolimit g0 hobj hints (Nat.le_trans hlen few) hF hb fun H hO hS => wish w H a ns hlen hO hS
end L2H
set_option Elab.async false
set_option linter.all false
set_option maxRecDepth 100000
set_option maxHeartbeats 4000000
/-! The law's own def, called from the very top: the table of modules stands apart, too. -/
namespace L2H
open PySem PySem.Spec PyProof.Rows L2
/-- the table of modules is tracked, and locked -/
def SysF (H : Hp) : Prop := ∃ o u, H sysModules = some (.frz o u)
section
variable {P : Program} {w : World} {K : PySem.W.Frag} {mg mb : Str → Option Value} {fa a : Addr} {fd : FuncData} {x : Str} {sp : Sp} {t : Shared} {vs : List Value} {ns : List Int}
theorem from_topB (KX : K.In t.heap) (gn : t.heap.Ns mainGlobals mg) (bn : t.heap.Ns builtinsNs mb) (bb : ∀ y : Str, y ≠ "__name__" → mb y = bootBuiltins y) (lim : t.heap.NoLimit) (g0 : t.gens = #[])
    (sm : ∃ m, t.heap.Ns sysModules m) (km : K.lookup sysModules = none)
    (at_a : t.heap.get? a = some { cls := .type "list", data := .seq vs.toArray }) (allInt : IntsAre vs ns) (short : ns.length ≤ sizeLine)
    (F : ∀ base : Heap, K.In base → base.Ns mainGlobals mg → AtTop P w K mg base fa fd x sp) (bind : ∀ (s : Shared) (u : Value), BindsTo s fd ⟨[u], []⟩ [(x, u)])
    (wish : ∀ H : Hp, SysF H → SqL K H a (ns.map V.int) → sp [.ref a] H (fun v _ => v = .bl true) fun _ _ _ => False) :
    codeAny (model P w) callerA (.call (.ref fa) ⟨[.ref a], []⟩) (Good t) t := by
  have rvs := vals_ints allInt
  obtain ⟨mm, om, esm, epm, hom, hdm, _⟩ := sm
  have na : a ≠ sysModules := fun z => by
    rw [z, hom] at at_a
    cases at_a
    have y : Data.seq vs.toArray _ = Data.dict esm epm := hdm
    cases y
  have inner : ∀ H : Hp, OnlyF H → SysF H → SqL K H a (ns.map V.int) → HOk P w H t.heap → (∀ b, H b ≠ none → b = a ∨ b = sysModules) → (H a ≠ none → K.lookup a = none) →
      codeAny (model P w) callerA (.call (.ref fa) ⟨[.ref a], []⟩) (Good t) t := fun H hO hY hS hok one out => by
    have pass : ∀ {b : Addr} {o : Obj}, t.heap.get? b = some o → H b = none → (hidT t.heap H).get? b = some o := fun z n => hidT_get z n
    have dicts : ∀ {b : Addr} {o : Obj} {es : Array DictEntry} {ep : Nat}, b ≠ sysModules → t.heap.get? b = some o → o.data = .dict es ep → H b = none := fun {b o es ep} nb z dz => by
      cases q : H b with
      | none => rfl
      | some u =>
        rcases one b (by rw [q]; simp) with rfl | y
        · rw [at_a] at z
          cases z
          have y : Data.seq vs.toArray _ = Data.dict es ep := dz
          cases y
        · exact absurd y nb
    have nsp : ∀ {b : Addr} {m : Str → Option Value}, b ≠ sysModules → t.heap.Ns b m → (hidT t.heap H).Ns b m := fun {b m} nb ⟨o, es, ep, z, dz, r⟩ => ⟨o, es, ep, pass z (dicts nb z dz), dz, r⟩
    have Kb : K.In (hidT t.heap H) := fun b o z => pass (KX b o z) (by
      cases q : H b with
      | none => rfl
      | some u =>
        rcases one b (by rw [q]; simp) with rfl | y
        · rw [out (by rw [q]; simp)] at z
          cases z
        · rw [y, km] at z
          cases z)
    have md : Mod K mg (hidT t.heap H) := ⟨Kb, nsp (by decide) gn, ⟨mb, nsp (by decide) bn, bb⟩, let ⟨mc, q1, q2⟩ := lim; ⟨mc, nsp (by decide) q1, q2⟩⟩
    have env : Env0 P w K mg (hidT t.heap H) callerA [] t H :=
      ⟨rfl, md, fun b o z => of_hidT z, Nat.le_of_eq (hidT_size _ _), trivial, fun b hb => absurd (show b ∈ ([] : List Addr) from hb) (by simp), hok, .of_eq g0⟩
    refine codeAny_mono (F _ Kb (nsp (by decide) gn) t H (.ref a) (.ref a) _ _ env (bind t (.ref a)) rfl (wish H hY hS)) fun r t' h => ?_
    cases r with
    | error e => exact False.elim h
    | ok fl =>
     cases fl with
     | next => exact False.elim h
     | brk => exact False.elim h
     | cont => exact False.elim h
     | ret u =>
      obtain ⟨v, H', os, bare, un, hok', r', q⟩ := h
      obtain rfl : v = V.bl true := q
      obtain rfl : u = Value.bool true := r'
      refine ⟨rfl, OldK.of_keep fun b o z => ?_, os, bare⟩
      cases q : H b with
      | none => exact un.keep b o z q (by intro y; exact absurd (show b ∈ ([] : List Addr) from y) (by simp)) (by simp)
      | some u =>
        rcases hO b with y | ⟨ob, xs, y⟩
        · rw [q] at y
          cases y
        · obtain ⟨e1, _⟩ := hok b _ y
          obtain ⟨e2, _⟩ := hok' b _ (un.frzs b ob _ y)
          rw [z] at e1
          cases e1
          exact e2
  have hoks : ∀ {H : Hp} {u : HO}, ObjOk P w H t.heap sysModules (.frz om (.ext fun _ => True)) := fun {H u} => ⟨hom, trivial, ⟨om, hom⟩, fun _ _ _ _ => trivial⟩
  cases hk : K.lookup a with
  | some o =>
    have z := KX a o hk
    rw [at_a] at z
    cases z
    let Hs : Hp := fun b => if b = sysModules then some (.frz om (.ext fun _ => True)) else none
    have ons : Hs sysModules = some (.frz om (.ext fun _ => True)) := if_pos rfl
    have off : ∀ b, b ≠ sysModules → Hs b = none := fun b h1 => if_neg h1
    have sq : SqL K Hs a (ns.map V.int) := .inr ⟨_, vs.toArray, _, hk, rfl, rfl, rfl, by rw [List.size_toArray, allInt.length]; exact short, by simpa using rvs⟩
    refine inner Hs (fun b => ?_) ⟨_, _, ons⟩ sq (fun b u z => ?_) (fun b z => ?_) fun y => absurd (off a na) y
    · by_cases hb : b = sysModules
      · subst hb
        exact .inr ⟨_, _, ons⟩
      · exact .inl (off b hb)
    · by_cases hb : b = sysModules
      · subst hb
        rw [ons] at z
        cases z
        exact hoks (u := .lst [])
      · rw [off b hb] at z
        cases z
    · by_cases hb : b = sysModules
      · exact .inr hb
      · exact absurd (off b hb) z
  | none =>
    let Hs : Hp := fun b => if b = a then some (.frz { cls := .type "list", data := .seq vs.toArray } (.lst (ns.map V.int))) else if b = sysModules then some (.frz om (.ext fun _ => True)) else none
    have on : Hs a = some (.frz { cls := .type "list", data := .seq vs.toArray } (.lst (ns.map V.int))) := if_pos rfl
    have ons : Hs sysModules = some (.frz om (.ext fun _ => True)) := by
      show (if _ then _ else _) = _
      rw [if_neg na.symm, if_pos rfl]
    have off : ∀ b, b ≠ a → b ≠ sysModules → Hs b = none := fun b h1 h2 => by
      show (if _ then _ else _) = _
      rw [if_neg h1, if_neg h2]
    refine inner Hs (fun b => ?_) ⟨_, _, ons⟩ (.inl (.inr ⟨_, on⟩)) (fun b u z => ?_) (fun b z => ?_) fun _ => hk
    · by_cases hb : b = a
      · subst hb
        exact .inr ⟨_, _, on⟩
      · by_cases hc : b = sysModules
        · subst hc
          exact .inr ⟨_, _, ons⟩
        · exact .inl (off b hb hc)
    · by_cases hb : b = a
      · subst hb
        rw [on] at z
        cases z
        exact ⟨at_a, by rw [List.length_map]; exact short, vs, _, rvs, at_a⟩
      · by_cases hc : b = sysModules
        · subst hc
          rw [ons] at z
          cases z
          exact hoks (u := .lst [])
        · rw [off b hb hc] at z
          cases z
    · by_cases hb : b = a
      · exact .inl hb
      · by_cases hc : b = sysModules
        · exact .inr hc
        · exact absurd (off b hb hc) z
end
/-- the law's row, from the promise of its def called from the top; the table of modules is tracked -/
theorem walk_topB {l : PySem.W.OpenLaw} {n : Nat} {q : Program} {loose : List Str} {XP : (Str → Option Value) → Heap → Prop} {YP : World → Heap → Prop} {d : DefRec} {K : Params → PySem.W.Frag} {sp : World → Sp} {x : Str}
    (hn : l.most = some n) (few : n ≤ sizeLine) (hdf : d.params.defaults = []) (hi : importsNone q = true) (hY : ∀ (w : World) (h : Heap), YP w h → (K w.params).In h) (km : ∀ w : World, (K w.params).lookup sysModules = none)
    (F : ∀ (w : World) (mg : Str → Option Value) (fa : Addr) (h : Heap), (K w.params).In h → h.Ns mainGlobals mg → mg d.name = some (.ref fa) →
      ∃ fd : FuncData, (∀ (s : Shared) (u : Value), BindsTo s fd ⟨[u], []⟩ [(x, u)]) ∧
        ∀ base : Heap, (K w.params).In base → base.Ns mainGlobals mg → AtTop l.prog w (K w.params) mg base fa fd x (sp w))
    (wish : ∀ (w : World) (H : Hp) (a : Addr) (ns : List Int), ns.length ≤ n → SysF H → SqL (K w.params) H a (ns.map V.int) → sp w [.ref a] H (fun v _ => v = .bl true) fun _ _ _ => False) :
    PySem.W.WalkO q loose XP YP l.row.toRowW d [] (fun f vs => PySem.call f vs) := by
  refine Att.attach_call hn hdf fun w s₀ t mg mb fa o pm cd doc a vs ns G Y ho hd hcd hmg hobj hints hlen g0 => ?_
  have KX := hY w _ Y
  obtain ⟨fd, hb, hF⟩ := F w mg fa _ KX G.T.g hmg
  have S := G.T.seer hi
  exact from_topB KX G.T.g G.T.b G.T.builtins G.T.nolimit g0 (let ⟨mm, y, _⟩ := S.mods; ⟨mm, y⟩) (km w) hobj hints (Nat.le_trans hlen few) hF hb fun H hO hS => wish w H a ns hlen hO hS
end L2H
set_option Elab.async false
set_option linter.all false
set_option maxRecDepth 100000
set_option maxHeartbeats 4000000
/-! Data as the law passes it: None, bools, ints, texts, lists, tuples, empty dicts; all of it tracked. -/
namespace DQ
open PySem PySem.W PySem.Calls PyProof.Rows L2
theorem same_refl {H : Hp} : Same H H := fun _ _ e => e
theorem same_trans {H H' H'' : Hp} (a : Same H H') (b : Same H' H'') : Same H H'' := fun x o e => b x o (a x o e)
theorem same_new {H : Hp} {a : Addr} {o : HO} (h : H a = none) : Same H (upd H a o) := fun b u e => by
  rw [upd_ne (ne_of_none e h)]
  exact e
theorem same_out {H H' : Hp} (s : Same H H') {b : Addr} (h : H' b = none) : H b = none := by
  cases e : H b with
  | none => rfl
  | some o => rw [s _ _ e] at h; cases h
mutual
inductive Dq (H : Hp) : V → PyData → Prop
  | non : Dq H .non .none
  | bl (b : Bool) : Dq H (.bl b) (.bool b)
  | int (i : Int) : Dq H (.int i) (.int i)
  | str (x : Str) (h : x.length ≤ sizeLine ∧ PyData.strOk x = true) : Dq H (.str x) (.str x)
  | lst {a : Addr} {xs : List V} {ds : List PyData} : H a = some (.lst xs) → DqAll H xs ds → Dq H (.ref a) (.list ds)
  | tup {a : Addr} {xs : List V} {ds : List PyData} : H a = some (.tup xs) → DqAll H xs ds → Dq H (.ref a) (.tuple ds)
  | dic {a : Addr} : H a = some (.dK []) → Dq H (.ref a) (.dict [])
inductive DqAll (H : Hp) : List V → List PyData → Prop
  | nil : DqAll H [] []
  | cons {v : V} {vs : List V} {d : PyData} {ds : List PyData} : Dq H v d → DqAll H vs ds → DqAll H (v :: vs) (d :: ds)
end
mutual
theorem Dq.same {H H' : Hp} (s : Same H H') : ∀ {v : V} {d : PyData}, Dq H v d → Dq H' v d
  | _, _, .non => .non
  | _, _, .bl b => .bl b
  | _, _, .int i => .int i
  | _, _, .str x h => .str x h
  | _, _, .lst h a => .lst (s _ _ h) (a.same s)
  | _, _, .tup h a => .tup (s _ _ h) (a.same s)
  | _, _, .dic h => .dic (s _ _ h)
theorem DqAll.same {H H' : Hp} (s : Same H H') : ∀ {vs : List V} {ds : List PyData}, DqAll H vs ds → DqAll H' vs ds
  | _, _, .nil => .nil
  | _, _, .cons h t => .cons (h.same s) (t.same s)
end
theorem DqAll.len {H : Hp} : ∀ {vs : List V} {ds : List PyData}, DqAll H vs ds → vs.length = ds.length
  | _, _, .nil => rfl
  | _, _, .cons _ t => congrArg Nat.succ t.len
theorem DqAll.at {H : Hp} : ∀ {vs : List V} {ds : List PyData} {i : Nat} {d : PyData}, DqAll H vs ds → ds[i]? = some d → ∃ v, vs[i]? = some v ∧ Dq H v d
  | _, _, _, _, .nil, e => by simp at e
  | _, _, 0, _, .cons h _, e => by
    cases e
    exact ⟨_, rfl, h⟩
  | _, _, i + 1, _, .cons _ t, e => t.at (i := i) e
theorem DqAll.app {H : Hp} : ∀ {vs ws : List V} {ds es : List PyData}, DqAll H vs ds → DqAll H ws es → DqAll H (vs ++ ws) (ds ++ es)
  | _, _, _, _, .nil, b => b
  | _, _, _, _, .cons h t, b => .cons h (t.app b)
theorem DqAll.take {H : Hp} : ∀ {vs : List V} {ds : List PyData} (n : Nat), DqAll H vs ds → DqAll H (vs.take n) (ds.take n)
  | _, _, 0, _ => by simpa using DqAll.nil
  | _, _, n + 1, .nil => .nil
  | _, _, n + 1, .cons h t => .cons h (t.take n)
theorem DqAll.drop {H : Hp} : ∀ {vs : List V} {ds : List PyData} (n : Nat), DqAll H vs ds → DqAll H (vs.drop n) (ds.drop n)
  | _, _, 0, h => h
  | _, _, n + 1, .nil => .nil
  | _, _, n + 1, .cons h t => t.drop n
theorem DqAll.rev {H : Hp} : ∀ {vs : List V} {ds : List PyData}, DqAll H vs ds → DqAll H vs.reverse ds.reverse
  | _, _, .nil => .nil
  | _, _, .cons h t => by
    rw [List.reverse_cons, List.reverse_cons]
    exact t.rev.app (.cons h .nil)
theorem DqAll.strs {H : Hp} : ∀ (ws : List Str), (∀ x ∈ ws, x.length ≤ sizeLine ∧ PyData.strOk x = true) → DqAll H (ws.map V.str) (ws.map PyData.str)
  | [], _ => .nil
  | w :: ws, h => .cons (.str w (h w (List.mem_cons_self ..))) (DqAll.strs ws fun x hx => h x (List.mem_cons_of_mem _ hx))
/-- the list of modules stands apart -/
abbrev Sys (H : Hp) : Prop := L2H.SysF H
theorem _root_.L2H.SysF.same {H H' : Hp} (x : Sys H) (s : Same H H') : Sys H' := let ⟨o, u, e⟩ := x; ⟨o, u, s _ _ e⟩
section
variable {X : Cx} {pins : List (Addr × Obj)} {σ : L2.St} {H : Hp} {s : Shared}
mutual
theorem Dq.reads (I : Inv X pins σ H s) (y : Sys H) : ∀ {v : V} {d : PyData} {u : Value}, Dq H v d → RelV v u → ∃ as, Reads s.heap u d as ∧ sysModules ∉ as
  | _, _, _, .non, r => by
    cases r
    exact ⟨_, .none, by simp⟩
  | _, _, _, .bl b, r => by
    cases r
    exact ⟨_, .bool b, by simp⟩
  | _, _, _, .int i, r => by
    obtain ⟨t, rfl⟩ := r
    exact ⟨_, .int i t, by simp⟩
  | _, _, _, .str x _, r => by
    obtain ⟨t, rfl⟩ := r
    exact ⟨_, .str x t, by simp⟩
  | _, _, _, .lst (a := a) h ha, r => by
    cases r
    obtain ⟨_, its, n, rv, e⟩ := (show ObjOk X.prog X.w H s.heap a (.lst _) from I.hok a _ h)
    obtain ⟨as, ra, na⟩ := ha.reads I y rv
    refine ⟨_, .list e rfl rfl ra, fun z => ?_⟩
    rcases List.mem_cons.mp z with q | q
    · obtain ⟨o, u, ey⟩ := y
      rw [q, h] at ey
      cases ey
    · exact na q
  | _, _, _, .tup (a := a) h ha, r => by
    cases r
    obtain ⟨_, its, rv, o, ho, hc, n, hd⟩ := (show ObjOk X.prog X.w H s.heap a (.tup _) from I.hok a _ h)
    obtain ⟨as, ra, na⟩ := ha.reads I y rv
    exact ⟨_, .tuple ho hc hd ra, na⟩
  | _, _, _, .dic (a := a) h, r => by
    cases r
    obtain ⟨_, hsys, vs, kv, hd⟩ := (show ObjOk X.prog X.w H s.heap a (.dK []) from I.hok a _ h)
    cases kv
    obtain ⟨o, es, ep, h1, h2, h3, _, h4, _⟩ := hd
    have e0 : es.toList = [] := by
      cases e : es.toList with
      | nil => rfl
      | cons x r =>
        rw [e] at h4
        cases h4
    refine ⟨a :: [] ++ [], Reads.dict h1 h2.1 h3 (by rw [e0]; exact .nil) (by rw [e0]; exact .nil), fun z => ?_⟩
    rcases List.mem_cons.mp z with q | q
    · rw [← q] at hsys
      simp at hsys
    · cases q
theorem DqAll.reads (I : Inv X pins σ H s) (y : Sys H) : ∀ {vs : List V} {ds : List PyData} {us : List Value}, DqAll H vs ds → Vals vs us → ∃ as, ReadsAll s.heap us ds as ∧ sysModules ∉ as
  | _, _, _, .nil, r => by
    cases r
    exact ⟨_, .nil, by simp⟩
  | _, _, _, .cons h t, r => by
    cases r with
    | cons r1 r2 =>
      obtain ⟨as, q1, n1⟩ := h.reads I y r1
      obtain ⟨bs, q2, n2⟩ := t.reads I y r2
      exact ⟨_, .cons q1 q2, fun z => by
        rcases List.mem_append.mp z with q | q
        · exact n1 q
        · exact n2 q⟩
end
end
/-- repr of such data -/
def rReprX : List V → Hp → VK → Prop := fun xs H Q => ∃ (v : V) (d : PyData), xs = [v] ∧ Sys H ∧ Dq H v d ∧ d.showable = true ∧ d.depth ≤ 60 ∧ d.shown.length ≤ sizeLine ∧ Q (.str d.shown) H
theorem call_reprX {X : Cx} (hg : X.A.guards = some []) (hu : X.A.units + 100 < cLine) : CallR X (.builtin "repr") rReprX := by
  intro pins s σ H xs us Q I r h
  obtain ⟨v, d, rfl, y, hd, sh, dp, sz, q⟩ := h
  obtain ⟨u, rfl, ru⟩ := vals1 r
  obtain ⟨as, rd, na⟩ := hd.reads I y ru
  cases hd with
  | non =>
    cases (show u = Value.none from ru)
    exact PySem.P.repr_of_none ⟨.str _, H, I.tok _, ⟨_, rfl⟩, q⟩
  | bl b =>
    cases (show u = Value.bool b from ru)
    exact PySem.P.repr_of_bool ⟨.str _, H, I.tok _, ⟨_, rfl⟩, q⟩
  | int i =>
    obtain ⟨t, rfl⟩ := (show ∃ t, u = Value.int i t from ru)
    exact PySem.P.repr_of_int (by simpa [PyData.showable] using sh) ⟨.str _, H, I.tok _, ⟨_, rfl⟩, q⟩
  | str x hx =>
    obtain ⟨t, rfl⟩ := (show ∃ t, u = Value.str x t from ru)
    exact PySem.P.repr_of_str ⟨.str _, H, I.tok _, ⟨_, rfl⟩, q⟩ sz
  | lst hs ha =>
    cases ru
    exact repr_of_reads' rd sh (fun _ => na) hg (by omega) (fun _ _ e => e) (fun h' t tk kp => ⟨.str _, H, I.kept kp, ⟨_, rfl⟩, q⟩) sz
  | tup hs ha =>
    cases ru
    exact repr_of_reads' rd sh (fun _ => na) hg (by omega) (fun _ _ e => e) (fun h' t tk kp => ⟨.str _, H, I.kept kp, ⟨_, rfl⟩, q⟩) sz
  | dic hs =>
    cases ru
    exact repr_of_reads' rd sh (fun _ => na) hg (by omega) (fun _ _ e => e) (fun h' t tk kp => ⟨.str _, H, I.kept kp, ⟨_, rfl⟩, q⟩) sz
/-- of which built-in class data is -/
def tyN : PyData → String
  | .none => "NoneType" | .bool _ => "bool" | .int _ => "int" | .str _ => "str" | .list _ => "list" | .tuple _ => "tuple" | .dict _ => "dict"
theorem Dq.ty {K : Frag} {H : Hp} {v : V} {d : PyData} (h : Dq H v d) : TyX K H v (.type (tyN d)) := by
  cases h with
  | non => exact .base .non
  | bl b => exact .base (.bl b)
  | int i => exact .base (.int i)
  | str x _ => exact .base (.str x)
  | lst e _ => exact .base (.lst e)
  | tup e _ => exact .base (.tup e)
  | dic e => exact .base (.dK e)
def isTup : PyData → Bool | .tuple _ => true | _ => false
def isStr : PyData → Bool | .str _ => true | _ => false
def isInt : PyData → Bool | .int _ => true | .bool _ => true | _ => false
def isBool : PyData → Bool | .bool _ => true | _ => false
theorem kt (d : PyData) : kitB (tyN d) "tuple" = some (isTup d) := by
  cases d
  · exact (by decide +kernel : kitB "NoneType" "tuple" = some false)
  · exact (by decide +kernel : kitB "bool" "tuple" = some false)
  · exact (by decide +kernel : kitB "int" "tuple" = some false)
  · exact (by decide +kernel : kitB "str" "tuple" = some false)
  · exact (by decide +kernel : kitB "list" "tuple" = some false)
  · exact (by decide +kernel : kitB "tuple" "tuple" = some true)
  · exact (by decide +kernel : kitB "dict" "tuple" = some false)
theorem ks (d : PyData) : kitB (tyN d) "str" = some (isStr d) := by
  cases d
  · exact (by decide +kernel : kitB "NoneType" "str" = some false)
  · exact (by decide +kernel : kitB "bool" "str" = some false)
  · exact (by decide +kernel : kitB "int" "str" = some false)
  · exact (by decide +kernel : kitB "str" "str" = some true)
  · exact (by decide +kernel : kitB "list" "str" = some false)
  · exact (by decide +kernel : kitB "tuple" "str" = some false)
  · exact (by decide +kernel : kitB "dict" "str" = some false)
theorem ki (d : PyData) : kitB (tyN d) "int" = some (isInt d) := by
  cases d
  · exact (by decide +kernel : kitB "NoneType" "int" = some false)
  · exact (by decide +kernel : kitB "bool" "int" = some true)
  · exact (by decide +kernel : kitB "int" "int" = some true)
  · exact (by decide +kernel : kitB "str" "int" = some false)
  · exact (by decide +kernel : kitB "list" "int" = some false)
  · exact (by decide +kernel : kitB "tuple" "int" = some false)
  · exact (by decide +kernel : kitB "dict" "int" = some false)
theorem kb (d : PyData) : kitB (tyN d) "bool" = some (isBool d) := by
  cases d
  · exact (by decide +kernel : kitB "NoneType" "bool" = some false)
  · exact (by decide +kernel : kitB "bool" "bool" = some true)
  · exact (by decide +kernel : kitB "int" "bool" = some false)
  · exact (by decide +kernel : kitB "str" "bool" = some false)
  · exact (by decide +kernel : kitB "list" "bool" = some false)
  · exact (by decide +kernel : kitB "tuple" "bool" = some false)
  · exact (by decide +kernel : kitB "dict" "bool" = some false)
/-- what isinstance(x, tuple) and the like ask -/
theorem is_tup {K : Frag} {H : Hp} {v : V} {d : PyData} {Q : VK} (h : Dq H v d) (q : Q (.bl (isTup d)) H) : rIsi K [v, .ty "tuple"] H Q := ⟨v, .ty "tuple", _, _, _, rfl, .ty _, h.ty, kit_ty (kt d), q⟩
theorem is_str {K : Frag} {H : Hp} {v : V} {d : PyData} {Q : VK} (h : Dq H v d) (q : Q (.bl (isStr d)) H) : rIsi K [v, .ty "str"] H Q := ⟨v, .ty "str", _, _, _, rfl, .ty _, h.ty, kit_ty (ks d), q⟩
theorem is_int {K : Frag} {H : Hp} {v : V} {d : PyData} {Q : VK} (h : Dq H v d) (q : Q (.bl (isInt d)) H) : rIsi K [v, .ty "int"] H Q := ⟨v, .ty "int", _, _, _, rfl, .ty _, h.ty, kit_ty (ki d), q⟩
theorem is_bool {K : Frag} {H : Hp} {v : V} {d : PyData} {Q : VK} (h : Dq H v d) (q : Q (.bl (isBool d)) H) : rIsi K [v, .ty "bool"] H Q := ⟨v, .ty "bool", _, _, _, rfl, .ty _, h.ty, kit_ty (kb d), q⟩
end DQ
set_option Elab.async false
set_option linter.all false
set_option maxRecDepth 100000
set_option maxHeartbeats 4000000
/-! a list or a tuple of anything, held against the empty one -/
namespace NI
open PySem PySem.Spec PyProof.Rows L2 PySem.SeqAt
section
variable {X : Cx}
def rNilL (K : PySem.W.Frag) (f : Bool → Bool) : R2 := fun x y H Q => ∃ a b xs, x = .ref a ∧ y = .ref b ∧ SqL K H a xs ∧ SqL K H b [] ∧ Q (.bl (f xs.isEmpty)) H
def rNilT (K : PySem.W.Frag) (f : Bool → Bool) : R2 := fun x y H Q => ∃ a b xs, x = .ref a ∧ y = .ref b ∧ SqT K H a xs ∧ SqT K H b [] ∧ Q (.bl (f xs.isEmpty)) H
theorem op_eqNil (hu : X.A.units < cLine) : OpR X (compareOp .Eq) (rNilL X.K id) := by
  intro pins s σ H x y v u Q I rx ry h
  obtain ⟨a, b, xs, rfl, rfl, ha, hb, q⟩ := h
  cases rx
  cases ry
  obtain ⟨its, r, pl, hz⟩ := I.list ha
  obtain ⟨its2, r2, pl2, hz2⟩ := I.list hb
  cases r2
  cases xs with
  | nil =>
    cases r
    exact eq_listAt (e := fun _ => true) pl.isList pl2.isList rfl hu (fun j h1 _ => absurd h1 (Nat.not_lt_zero j)) ⟨.bl true, H, I, rfl, q⟩
  | cons x xs =>
    cases r with
    | cons r1 r2 => exact eq_list_lengthsAt pl.isList pl2.isList (by simp) hu ⟨.bl false, H, I, rfl, q⟩
theorem op_neNil (hu : X.A.units < cLine) : OpR X (compareOp .NotEq) (rNilL X.K not) := by
  intro pins s σ H x y v u Q I rx ry h
  obtain ⟨a, b, xs, rfl, rfl, ha, hb, q⟩ := h
  cases rx
  cases ry
  obtain ⟨its, r, pl, hz⟩ := I.list ha
  obtain ⟨its2, r2, pl2, hz2⟩ := I.list hb
  cases r2
  cases xs with
  | nil =>
    cases r
    exact RcNeAt.lists (e := fun _ => true) pl.isList pl2.isList rfl hu (fun j h1 _ => absurd h1 (Nat.not_lt_zero j)) _ _ _ _ ⟨.bl false, H, I, rfl, q⟩
  | cons x xs =>
    cases r with
    | cons r1 r2 => exact RcNeAt.lists_lengths pl.isList pl2.isList (by simp) hu _ _ _ _ ⟨.bl true, H, I, rfl, q⟩
theorem op_eqNilT (hu : X.A.units < cLine) : OpR X (compareOp .Eq) (rNilT X.K id) := by
  intro pins s σ H x y v u Q I rx ry h
  obtain ⟨a, b, xs, rfl, rfl, ha, hb, q⟩ := h
  cases rx
  cases ry
  obtain ⟨its, r, pl, hz⟩ := I.tuple ha
  obtain ⟨its2, r2, pl2, hz2⟩ := I.tuple hb
  cases r2
  cases xs with
  | nil =>
    cases r
    exact eq_tupleAt (e := fun _ => true) pl pl2 hu (fun j h1 _ => absurd h1 (Nat.not_lt_zero j)) ⟨.bl true, H, I, rfl, q⟩
  | cons x xs =>
    cases r with
    | cons r1 r2 => exact eq_tupleAt (e := fun _ => true) pl pl2 hu (fun j _ h2 => absurd h2 (Nat.not_lt_zero j)) ⟨.bl false, H, I, rfl, q⟩
end
end NI
namespace NI
open PySem PySem.Spec PyProof.Rows L2 PySem.SeqAt
section
variable {X : Cx}
theorem op_neNilT (hu : X.A.units < cLine) : OpR X (compareOp .NotEq) (rNilT X.K not) := by
  intro pins s σ H x y v u Q I rx ry h
  obtain ⟨a, b, xs, rfl, rfl, ha, hb, q⟩ := h
  cases rx
  cases ry
  obtain ⟨its, r, pl, hz⟩ := I.tuple ha
  obtain ⟨its2, r2, pl2, hz2⟩ := I.tuple hb
  cases r2
  cases xs with
  | nil =>
    cases r
    exact RcNeAt.tuples (e := fun _ => true) pl pl2 hu (fun j h1 _ => absurd h1 (Nat.not_lt_zero j)) _ _ _ _ ⟨.bl false, H, I, rfl, q⟩
  | cons x xs =>
    cases r with
    | cons r1 r2 => exact RcNeAt.tuples (e := fun _ => true) pl pl2 hu (fun j _ h2 => absurd h2 (Nat.not_lt_zero j)) _ _ _ _ ⟨.bl true, H, I, rfl, q⟩
end
end NI
set_option Elab.async false
set_option linter.all false
set_option maxRecDepth 100000
set_option maxHeartbeats 4000000
/-! sets of texts, made of a tuple, gathered, sorted -/
namespace SX
open PySem PySem.Spec PyProof.Rows PySem.Froz L2
/-- the entries' texts are l in some order; the places rise; the order is told -/
structure TP (P : Program) (w : World) (D : SD) (l : List Str) : Prop where
  ok : TxOk P w D l
  pm : (D.1.toList.map fun e => strOf e.2).Perm l
  ri : Ris D.2.2.place.toList
  le : w.params.followText "set-order" = true ∨ D.2.2.led = true
def SetT (P : Program) (w : World) (h : Heap) (a : Addr) (l : List Str) : Prop := ∃ D : SD, h.get? a = some (sObj "set" D) ∧ TP P w D l
theorem tail_keep (ep : Nat) (es1 : Array (Int × Value)) (t2 : SetTable) (wd : Bool) (r : Ris t2.place.toList) :
    (tailTx ep es1 t2 wd).1.toList.Perm es1.toList ∧ Ris (tailTx ep es1 t2 wd).2.2.place.toList ∧ (tailTx ep es1 t2 wd).2.2.led = t2.led := by
  unfold tailTx
  by_cases c : (!wd && t2.tooFull) = true
  · rw [if_pos c]
    exact ⟨relayAll_perm t2 es1 _, relayAll_ris t2 es1 _, relayAll_led t2 es1 _⟩
  · rw [if_neg c]
    exact ⟨.refl _, r, rfl⟩
theorem TP.add {P : Program} {w : World} {D : SD} {l : List Str} {k : Str} (u : Tok) (F : TP P w D l) : TP P w (addTx (hashStr w k) (.str k u) D) (k :: l) := by
  obtain ⟨es, ep, t⟩ := D
  have r1 : Ris (layNew t es (hashStr w k) (.str k u)).2.1.place.toList := layNew_ris t es _ _ F.ri
  have e1 := layNew_led t es (hashStr w k) (.str k u)
  have p1 := layNew_perm t es (hashStr w k) (.str k u)
  let t2 : SetTable := if (layNew t es (hashStr w k) (.str k u)).2.1.plain = true then { (layNew t es (hashStr w k) (.str k u)).2.1 with plain := false } else (layNew t es (hashStr w k) (.str k u)).2.1
  have r2 : Ris t2.place.toList := by
    show Ris (if _ then _ else _ : SetTable).place.toList
    split
    · exact r1
    · exact r1
  have e2 : t2.led = t.led := by
    show (if _ then _ else _ : SetTable).led = _
    split
    · exact e1
    · exact e1
  obtain ⟨q1, q2, q3⟩ := tail_keep ep (layNew t es (hashStr w k) (.str k u)).1 t2 (layNew t es (hashStr w k) (.str k u)).2.2.1 r2
  refine ⟨add_ok u F.ok, ?_, q2, ?_⟩
  · refine (q1.map _).trans ((p1.map _).trans ?_)
    rw [Array.toList_push, List.map_append]
    exact (List.perm_append_comm (l₁ := List.map _ es.toList) (l₂ := [k])).trans (List.Perm.cons k F.pm)
  · rcases F.le with z | z
    · exact .inl z
    · exact .inr (q3.trans (e2.trans z))
section
variable {P : Program} {w : World} {A : Around} {E : Value → Shared → Prop} {s : Shared}
theorem found {a : Addr} {D : SD} {l : List Str} {k : Str} {u : Tok} {Q : Bool → Shared → Prop} (ho : s.heap.get? a = some (sObj "set" D)) (F : TxOk P w D l) (hk : k ∈ l) (hb : l.length < scanBound) (h : Q false s) :
    wpAny (model P w) A (setAddHashed a (.str k u) (hashStr w k)) Q E s := by
  obtain ⟨es, ep, t⟩ := D
  have hd : (sObj "set" (es, ep, t)).data = .set es ep t := rfl
  have el : ElemsOf (PySem.strKind P w) es.toList := F.el
  have f1 : t.fits es.size = true := F.fit
  have n1 : es.size < scanBound := by
    have z : es.size = l.length := F.sz
    omega
  obtain ⟨e, he, ie⟩ := (F.mem k).mp hk
  unfold setAddHashed setAddHashedIn
  refine wpAny_holding (wpAny_bind (wpAny_setState_of ho hd f1 ?_))
  dsimp only
  rw [byScan_of rfl n1 el]
  simp only [↓reduceIte]
  unfold setAddByScan
  refine wpAny_bind (wpAny_bind (wpAny_rule (wpAny_bind (wpAny_setScan_of (knd := PySem.strKind P w) (k := k) (is_str k u) ho hd f1 el ?_))))
  cases hf : List.findIdx? (fun e => (PySem.strKind P w).is k e.2) es.toList with
  | none =>
    have c := List.findIdx?_eq_none_iff.mp hf e he
    rw [ie] at c
    cases c
  | some j =>
    dsimp only
    exact wpAny_pure (wpAny_pure h)
/-- one more text put into it -/
def plus (l : List Str) (k : Str) : List Str := if k ∈ l then l else k :: l
theorem add_one {a : Addr} {l : List Str} {k : Str} {u : Tok} {Q : Bool → Shared → Prop} (S : SetT P w s.heap a l) (hb : l.length + 1 < scanBound)
    (h : ∀ h' b, Heap.SameBut a s.heap h' → SetT P w h' a (plus l k) → Q b { s with heap := h' }) : wpAny (model P w) A (setAddHashed a (.str k u) (hashStr w k)) Q E s := by
  obtain ⟨D, ho, F⟩ := S
  by_cases hk : k ∈ l
  · refine found ho F.ok hk (by omega) (h s.heap false (Heap.SameBut.refl a s.heap) ?_)
    unfold plus
    rw [if_pos hk]
    exact ⟨D, ho, F⟩
  · refine add_x ho F.ok hk hb (h _ true (Heap.SameBut.update s.heap a _) ?_)
    unfold plus
    rw [if_neg hk]
    exact ⟨_, get_upd _ ho rfl, F.add u⟩
theorem SetT.at {h h' : Heap} {a : Addr} {l : List Str} (S : SetT P w h a l) (k : ∀ o, h.get? a = some o → h'.get? a = some o) : SetT P w h' a l := by
  obtain ⟨D, e, F⟩ := S
  exact ⟨D, k _ e, F⟩
/-- the list gathered from the first texts -/
def pack (ns : List Str) : List Str := ns.foldl plus []
theorem pack_take {ns : List Str} {i : Nat} {z : Str} (h : ns[i]? = some z) : pack (ns.take (i + 1)) = plus (pack (ns.take i)) z := by
  unfold pack
  rw [List.take_add_one, h]
  show ((ns.take i) ++ [z]).foldl plus [] = _
  rw [List.foldl_append]
  rfl
theorem plus_len (l : List Str) (k : Str) : (plus l k).length ≤ l.length + 1 := by
  unfold plus
  split
  · omega
  · exact Nat.le_refl _
theorem fold_len : ∀ (ns l : List Str), (ns.foldl plus l).length ≤ l.length + ns.length
  | [], l => Nat.le_refl _
  | n :: ns, l => by
    have a := fold_len ns (plus l n)
    have b := plus_len l n
    show ((ns.foldl plus (plus l n)).length) ≤ _
    rw [List.length_cons]
    omega
theorem pack_len (ns : List Str) : (pack ns).length ≤ ns.length := by
  have z := fold_len ns []
  rw [List.length_nil, Nat.zero_add] at z
  exact z
theorem plus_mem {l : List Str} {k x : Str} : x ∈ plus l k ↔ x ∈ l ∨ x = k := by
  unfold plus
  split
  · rename_i h
    exact ⟨.inl, fun z => z.elim id fun e => e ▸ h⟩
  · rw [List.mem_cons]
    exact Or.comm
theorem plus_nodup {l : List Str} {k : Str} (h : l.Nodup) : (plus l k).Nodup := by
  unfold plus
  split
  · exact h
  · rename_i z
    exact List.nodup_cons.mpr ⟨z, h⟩
theorem fold_mem {x : Str} : ∀ (ns l : List Str), x ∈ ns.foldl plus l ↔ x ∈ l ∨ x ∈ ns
  | [], l => by simp
  | n :: ns, l => by
    show x ∈ ns.foldl plus (plus l n) ↔ _
    rw [fold_mem ns, plus_mem, List.mem_cons, or_assoc]
theorem fold_nodup : ∀ (ns l : List Str), l.Nodup → (ns.foldl plus l).Nodup
  | [], l, h => h
  | n :: ns, l, h => fold_nodup ns _ (plus_nodup h)
theorem pack_mem {x : Str} {ns : List Str} : x ∈ pack ns ↔ x ∈ ns := by
  unfold pack
  rw [fold_mem]
  simp
theorem pack_nodup (ns : List Str) : (pack ns).Nodup := fold_nodup ns [] List.nodup_nil
theorem loop {I : Addr} {fp wr : List Addr} {G : Array GenState → Array GenState → Prop} {n : Nat} {Pv : Nat → Value → Prop} {St : Nat → Shared → Prop} {R : Result → Shared → Prop}
    (W : WalksS P w A.in1 I fp wr G n Pv St) (S : Addr) (nf : S ∉ fp) (ns : List Str) (en : n = ns.length) (hb : ns.length + 1 < scanBound) (val : ∀ i v, Pv i v → ∃ k t, ns[i]? = some k ∧ v = .str k t) :
    ∀ (k i : Nat) (s : Shared), n - i = k → i ≤ n → St i s → SetT P w s.heap S (pack (ns.take i)) →
      (∀ s', Moved (S :: wr) G s s' → SetT P w s'.heap S (pack ns) → R (.ok (.ret .none)) s') → codeAny (model P w) A (.builtin "set.update.loop" ⟨[.ref S, .ref I], []⟩) R s := by
  have nw : S ∉ wr := fun h => nf (W.sub _ h)
  have sub : ∀ b ∈ wr, b ∈ S :: wr := fun b hb => List.mem_cons_of_mem _ hb
  intro k
  induction k with
  | zero =>
    intro i s ek hi st hS fin
    obtain rfl : i = n := by omega
    refine codeAny_builtin PyProof.Rows.F.entry_set_update_loop ?_
    rw [Around.under_plainId PyProof.Rows.F.plain_set_update_loop _]
    show wpAny _ A.in1 (pyNext (Value.ref I) >>= _) _ _ s
    refine wpAny_bind (W.done s _ _ st fun s1 m1 => ?_)
    rw [List.take_of_length_le (show ns.length ≤ i by omega)] at hS
    show wpAny _ A.in1 (ret Value.none) _ _ s1
    exact wpAny_pure (fin s1 (m1.mono sub) (hS.at fun o e => m1.heap S o nw e))
  | succ k ih =>
    intro i s ek hi st hS fin
    have lt : i < n := by omega
    refine codeAny_builtin PyProof.Rows.F.entry_set_update_loop ?_
    rw [Around.under_plainId PyProof.Rows.F.plain_set_update_loop _]
    show wpAny _ A.in1 (pyNext (Value.ref I) >>= _) _ _ s
    refine wpAny_bind (W.item i s _ _ lt st fun v s1 hP st1 m1 => ?_)
    obtain ⟨z, t, hz, rfl⟩ := val i v hP
    have hS1 : SetT P w s1.heap S (pack (ns.take i)) := hS.at fun o e => m1.heap S o nw e
    show wpAny _ A.in1 (holding [Value.str z t] (setAdd S (.str z t)) >>= _) _ _ s1
    refine wpAny_bind (wpAny_holding ?_)
    unfold setAdd
    refine wpAny_holding (wpAny_bind ((PySem.strKind P w).pyHash (k := z) (is_str z t) ?_))
    have pl := pack_len (ns.take i)
    rw [List.length_take] at pl
    refine add_one (s := { s1 with toks := s1.toks + 1 }) hS1 (by omega) fun h2 bb sb S2 => ?_
    rw [← pack_take hz] at S2
    refine wpAny_pure ⟨plainId_quiet PyProof.Rows.F.plain_set_update_loop _, ih (i + 1) _ (by omega) lt (W.frame _ s1 _ _ st1 (Nat.le_succ _) fun b hb o e => ?_) S2 fun s3 m3 S3 => fin s3 (Moved.trans W.gtrans ((m1.mono sub).then_heap (Nat.le_succ _) fun b o hb e => ?_) m3) S3⟩
    · rw [sb.2 b fun z : b = S => nf (z ▸ hb)]
      exact e
    · rw [sb.2 b fun z : b = S => hb (by rw [z]; exact List.mem_cons_self)]
      exact e
end
end SX
set_option Elab.async false
set_option linter.all false
set_option maxRecDepth 100000
set_option maxHeartbeats 6400000
namespace SX
open PySem PySem.Spec PyProof.Rows PySem.Froz L2
/-- a set as it is made, in this world -/
def bare (w : World) : Obj := { cls := .type "set", dict := none, data := .set #[] 0 (.fresh 0 0 (!w.params.followText "set-order")) }
theorem bare_ok {P : Program} {w : World} {h : Heap} {a : Addr} (e : h.get? a = some (bare w)) : SetT P w h a [] := by
  refine ⟨(#[], 0, .fresh 0 0 (!w.params.followText "set-order")), e, TxOk.nil (by rfl), .refl _, List.Pairwise.nil, ?_⟩
  show _ ∨ (!w.params.followText "set-order") = true
  cases w.params.followText "set-order"
  · exact .inr rfl
  · exact .inl rfl
section
variable {P : Program} {w : World} {A : Around} {E : Value → Shared → Prop} {s : Shared}
theorem strs_get : ∀ {us : List Value} {xs : List Str}, StrsAre us xs → ∀ {i : Nat} {v : Value}, us[i]? = some v → ∃ k t, xs[i]? = some k ∧ v = .str k t
  | _, _, .nil, i, v, h => by simp at h
  | _, _, .cons n t r, 0, v, h => by
    rw [List.getElem?_cons_zero] at h
    exact ⟨n, t, rfl, (Option.some.inj h).symm⟩
  | _, _, .cons n t r, i + 1, v, h => by
    rw [List.getElem?_cons_succ] at h ⊢
    exact strs_get r h
theorem of_tuple {l : Addr} {items : Array Value} (ns : List Str) {Q : Value → Shared → Prop} (hh : A.handled = none) (hl : s.heap.IsTuple l items) (it : StrsAre items.toList ns) (hb : ns.length + 1 < scanBound)
    (fin : ∀ (h' : Heap) (tk : Nat), SetT P w h' s.heap.objs.size (pack ns) → (∀ b o, s.heap.get? b = some o → h'.get? b = some o) → Q (.ref s.heap.objs.size) { s with heap := h', toks := tk }) :
    wpAny (model P w) A (call (.type "set") [.ref l]) Q E s := by
  have n1 : items.size = ns.length := by
    have q := StrsAre.len_eq it
    rw [Array.length_toList] at q
    exact q
  have ⟨c, tl, hmro⟩ := PySem.F.called_set.mro
  have hmade := PySem.F.called_set.made
  have hsub := PySem.F.called_set.sub
  refine wpAny_call (codeAny_of_tree ?_)
  show wpAny _ _ (callAny (.type "set") _) _ _ _
  refine wpAny_pure ⟨Code.quiet_builtin _ (by decide +kernel), codeAny_builtin PySem.F.entry_type_call ?_⟩
  rw [Around.under_plain (weight_type_call_type "set" [.ref l] []) rfl]
  have x1 := PySem.F.called_set.notType
  have x2 := PySem.F.called_set.canCreate
  have x3 := PySem.F.typeCall_set_1 (.ref l)
  repeat (any_goals (first | assumption | wp_step))
  refine codeAny_mono (code_set_led1 (.ref l) (E := E) (Q₁ := fun x y => x = .ref s.heap.objs.size ∧ y = { s with heap := s.heap.push (bare w) }) ⟨rfl, rfl⟩) fun r s1 hr => ?_
  cases r with
  | error e => exact hr
  | ok fl =>
    cases fl with
    | ret x =>
      obtain ⟨rfl, rfl⟩ := hr
      have hS : (s.heap.push (bare w)).get? s.heap.objs.size = some (bare w) := Heap.get?_push_size _ rfl
      have hT : Shared.TypeIs { s with heap := s.heap.push (bare w) } (.ref s.heap.objs.size) "set" := ⟨_, hS, rfl⟩
      have y1 := PySem.F.called_set.init.lookup
      have y2 := PySem.F.called_set.init.bind (.ref s.heap.objs.size)
      repeat (any_goals (first | assumption | wp_step))
      refine codeAny_mono (codeAny_call_builtin (R := wants (fun r y => r = .none ∧ ∃ h' tk, y = { s with heap := h', toks := tk } ∧ SetT P w h' s.heap.objs.size (pack ns) ∧ (∀ b o, s.heap.get? b = some o → h'.get? b = some o)) E)
        PySem.F.called_set.init.plain PySem.F.entry_set_init (check_set_init_1 hT ?_)) fun r2 s2 hr2 => ?_
      · obtain ⟨⟨ocls, odict, odata, oslots⟩, hol, hcl, nl, hdl⟩ := hl
        simp only at hcl hdl
        subst hcl hdl
        have hol2 : (s.heap.push (bare w)).get? l = some { cls := .type "tuple", dict := odict, data := .seq items nl, slots := oslots } := Heap.get?_push_of_some _ hol
        have z1 := PySem.F.sub_tuple_set
        have z2 := PySem.F.sub_tuple_frozenset
        have z3 : (Value.type "tuple" == Value.type "dict") = false := by decide
        have hl1 : (s.heap.push (bare w)).IsTuple l items := ⟨_, hol2, rfl, nl, rfl⟩
        unfold Builtin.«set.__init__» noKeywords Builtin.Frozenset.updateFrom
        generalize hPI : pyIter = PI
        wp_walk
        subst hPI
        refine wpAny_pyIter_tuple hl1 (wpAny_bind (wpAny_runValue ?_))
        have lS : l < s.heap.objs.size := Heap.lt_size hol
        have h3 : A.in1.in1.in1.handled = none := by simp [hh]
        have nI : l ≠ (s.heap.push (bare w)).objs.size := by
          rw [Heap.size_push]
          exact Nat.ne_of_lt (Nat.lt_succ_of_lt lS)
        have nf : s.heap.objs.size ∉ [(s.heap.push (bare w)).objs.size, l] := fun z => by
          rw [Heap.size_push] at z
          rcases List.mem_cons.mp z with z | z
          · omega
          · have z := List.mem_singleton.mp z
            exact Nat.ne_of_gt lS z
        refine loop ((Walks.tuple h3 _ l nI items).toS) s.heap.objs.size nf ns n1 hb (fun i v hv => strs_get it (by rw [Array.getElem?_toList]; exact hv)) (items.size - 0) 0 _ (by omega) (Nat.zero_le _)
          ⟨⟨_, Heap.get?_push_size _ rfl, rfl, rfl⟩, hl1.push _⟩ (bare_ok (Heap.get?_push_of_some _ hS)) fun s' hm hS' => ?_
        obtain ⟨h', g', d', tk', os'⟩ := s'
        have eg : g' = s.gens := hm.gens
        have ed : d' = s.drawn := hm.drawn
        have eo : os' = s.os := hm.os
        subst eg ed eo
        show wpAny _ _ _ _ _ _
        refine wpAny_pure ?_
        show wpAny _ _ (ret Value.none) _ _ _
        refine wpAny_pure ⟨rfl, h', tk', rfl, hS', fun b o e => hm.heap b o (fun z => ?_) (Heap.get?_push_of_some _ (Heap.get?_push_of_some _ e))⟩
        have b0 : b < s.heap.objs.size := Heap.lt_size e
        rcases List.mem_cons.mp z with z | z
        · exact Nat.ne_of_lt b0 z
        · have z := List.mem_singleton.mp z
          rw [Heap.size_push] at z
          exact Nat.ne_of_lt (Nat.lt_succ_of_lt b0) z
      · cases r2 with
        | error e => exact hr2
        | ok f2 =>
          cases f2 with
          | ret r =>
            obtain ⟨rfl, h', tk, rfl, S2, k2⟩ := hr2
            repeat (any_goals (first | assumption | wp_step))
            exact fin _ _ S2 k2
          | _ => exact hr2.elim
    | _ => exact hr.elim
/-- sorted of it -/
theorem strs_rev {vs : List Value} (h : ∀ v ∈ vs, ∃ k t, v = Value.str k t) : StrsAre vs (vs.map strOf) := strsAre_map vs h
theorem sorted_of {a : Addr} {l : List Str} {Q : Value → Shared → Prop} (S : SetT P w s.heap a l) (hh : A.handled = none) (n64 : l.length < 64)
    (fin : ∀ s' p (out : Array Value) (c : Nat) (ns : List Str), (∀ b o, s.heap.get? b = some o → s'.heap.get? b = some o) → s'.gens = s.gens → s'.os = s.os → s.heap.objs.size ≤ p →
      s'.heap.get? p = some (seqObj "list" out c) → StrsAre out.toList ns → sortedS ns = true → ns.Perm l → Q (.ref p) s') : wpAny (model P w) A (call (.builtin "sorted") [.ref a]) Q E s := by
  obtain ⟨⟨es, ep, t⟩, ho, F⟩ := S
  have sz : es.size = l.length := F.ok.sz
  have b1 : es.size < scanBound := by
    show es.size < 4096
    omega
  refine Calls.call_function_entry kind_sorted plain_sorted entry_sorted (args_sorted1 _) ?_
  unfold Builtin.«sorted»
  refine wpAny_bind (m := checkCount "sorted" 1 1 _) (wpAny_pure (wpAny_bind (collect_set (A := A.in1) hh ⟨_, ho, rfl, rfl⟩ F.ok.fit b1 F.ri F.le fun s1 vs k1 z1 g1 o1 pm => ?_)))
  have vl : vs.length = l.length := by
    rw [pm.length_eq, List.length_map, Array.length_toList]
    exact sz
  have hI : StrsAre vs (vs.map strOf) := strs_rev fun v hv => by
    obtain ⟨e, he, q⟩ := List.mem_map.mp (pm.mem_iff.mp hv)
    obtain ⟨⟨k, ik, _⟩, _⟩ := F.ok.el e he
    obtain ⟨u, hu⟩ := Value.isStrOf_shape ik
    exact ⟨k, u, q.symm.trans hu⟩
  have pk : (vs.map strOf).Perm l := by
    have q := pm.map strOf
    rw [List.map_map] at q
    exact q.trans F.pm
  refine wpAny_bind (wpAny_newList ?_ (by rw [vl, sizeLine_eq]; omega))
  have hoL : (s1.heap.push (seqObj "list" vs.toArray 0)).get? s1.heap.objs.size = some (seqObj "list" vs.toArray 0) := Heap.get?_push_size _ rfl
  have k0 : KeysOf PyProof.Rows.strKind (pairsOf vs) := fun p hp => by
    rw [pairsOf_toList] at hp
    obtain ⟨x, u, e⟩ := hI.all _ (mem_zip_self hp).2
    exact ⟨x.cps.toList, by rw [e]⟩
  have kk : ∀ v1 v2 rest, vs = v1 :: v2 :: rest → keyKind' (v1 :: v2 :: rest).toArray = pure oneType' := fun v1 v2 rest e => by
    rw [e] at hI
    exact keyKind_strs hI
  refine wpAny_bind (wpAny_holding (wpAny_call_entry slot_list_sort ⟨_, hoL, rfl⟩ entry_list_sort (list_sort_treeK strKind_oneLt hoL k0 kk (by rw [vl]; exact n64) fun st' a1 a2 => ⟨_, rfl, ?_⟩) (args_list_sort _)))
  obtain ⟨c, hc⟩ := sortedHeap_at (vs := vs) (out := (arrOf st').map (·.2)) hoL
  obtain ⟨ss, q1, q2, q3⟩ := sorted_out_str hI a1 a2
  refine wpAny_pure ⟨_, rfl, fin _ s1.heap.objs.size _ c ss (fun b u e => ?_) g1 o1 z1 hc q1 q3 (q2.trans pk)⟩
  have q := k1 b u e
  have lt := Heap.lt_size q
  show (sortedHeap (s1.heap.push (seqObj "list" vs.toArray 0)) s1.heap.objs.size vs _).get? b = some u
  rw [sortedHeap_old (Nat.ne_of_lt lt) (by rw [size_push']; exact Nat.lt_succ_of_lt lt)]
  exact Heap.get?_push_of_some _ q
end
end SX
set_option Elab.async false
set_option linter.all false
set_option maxRecDepth 100000
set_option maxHeartbeats 4000000
namespace SX
open PySem PySem.Spec PyProof.Rows PySem.Froz L2
/-- the set of texts at a -/
def SetTO (P : Program) (w : World) (a : Addr) (l : List Str) : HO := .ext fun h => SetT P w h a l
theorem setTO_new {w : World} {P : Program} {H : Hp} {h : Heap} {a : Addr} {l : List Str} (R : SetT P w h a l) : ObjOk P w H h a (SetTO P w a l) := by
  have ⟨D, ho, _⟩ := R
  exact ⟨R, ⟨_, ho⟩, fun h1 h2 p k => SetT.at p k⟩
theorem vals_of_texts : ∀ {us : List Value} {xs : List Str}, StrsAre us xs → Vals (xs.map V.str) us
  | _, _, .nil => .nil
  | _, _, .cons x t r => .cons ⟨t, rfl⟩ (vals_of_texts r)
theorem texts_of : ∀ {us : List Value} {xs : List Str}, Vals (xs.map V.str) us → StrsAre us xs
  | _, [], r => by
    cases r
    exact .nil
  | _, x :: xs, r => by
    cases r with
    | cons a b =>
      obtain ⟨t, rfl⟩ := a
      exact .cons x t (texts_of b)
section
variable {X : Cx}
/-- set(t) of a tuple of texts -/
def rSetTx (P : Program) (w : World) (K : PySem.W.Frag) : List V → Hp → VK → Prop := fun xs H Q => ∃ (a : Addr) (ws : List Str), xs = [V.ref a] ∧ SqT K H a (ws.map V.str) ∧ ws.length ≤ 1000 ∧
  ∀ p, H p = none → Q (.ref p) (upd H p (SetTO P w p (pack ws)))
theorem cr_setTx (hc : X.calm = true) : CallR X (.type "set") (rSetTx X.prog X.w X.K) := by
  intro pins s σ H xs us Q I r h
  obtain ⟨a, ws, rfl, hq, hn, q⟩ := h
  rw [Vals.ref1 r]
  obtain ⟨its, rv, pl, hz⟩ := I.tuple hq
  refine of_tuple (items := its.toArray) ws (I.ok.hd hc) pl (by rw [List.toList_toArray]; exact texts_of rv) (by show _ < 4096; omega) fun h' tk S k => ?_
  have hn : H s.heap.objs.size = none := I.hok.fresh (Nat.le_refl _)
  exact ⟨.ref _, upd H s.heap.objs.size (SetTO X.prog X.w s.heap.objs.size (pack ws)), I.laid (t' := tk) k (Nat.le_refl _) (setTO_new S), rfl, q _ hn⟩
/-- sorted(s) of a set of fewer than 64 texts -/
def rSortTx (P : Program) (w : World) : List V → Hp → VK → Prop := fun xs H Q => ∃ (a : Addr) (l : List Str), xs = [V.ref a] ∧ H a = some (SetTO P w a l) ∧ l.length < 64 ∧
  ∀ (ns : List Str) (p : Addr), sortedS ns = true → ns.Perm l → H p = none → Q (.ref p) (upd H p (.lst (ns.map V.str)))
theorem cr_sortTx (hc : X.calm = true) : CallR X (.builtin "sorted") (rSortTx X.prog X.w) := by
  intro pins s σ H xs us Q I r h
  obtain ⟨a, l, rfl, ha, n64, q⟩ := h
  have R : SetT X.prog X.w s.heap a l := (I.hok a _ ha).1
  rw [Vals.ref1 r]
  refine sorted_of R (I.ok.hd hc) n64 fun s' p out c ns k g o hp hg hi hs pm => ?_
  have nl : (ns.map V.str).length ≤ sizeLine := by
    rw [List.length_map, pm.length_eq, sizeLine_eq]
    omega
  have np : H p = none := I.hok.fresh hp
  obtain ⟨h2, g2, d2, t2, o2⟩ := s'
  obtain rfl : o2 = s.os := o
  have J : Inv X pins σ (upd H p (.lst (ns.map V.str))) { s with heap := h2, gens := g2, drawn := d2, toks := t2 } :=
    I.call (ch := []) (Un.laid k hp np) (I.hok.laid k hp ⟨nl, out.toList, c, vals_of_texts hi, hg⟩) (by rw [show g2 = s.gens from g]; exact I.bare) (fun _ z => nomatch z)
  exact ⟨.ref p, _, J, rfl, q ns p hs pm np⟩
end
end SX
set_option Elab.async false
set_option linter.all false
set_option maxRecDepth 100000
set_option maxHeartbeats 4000000
/-! text * 2 -/
namespace NI
open PySem PySem.Spec PyProof.Rows L2
section
variable {X : Cx}
def rDbl : R2 := fun a b H Q => ∃ x, a = .str x ∧ b = .int 2 ∧ x.length ≤ 1000000 ∧ ∀ y : Str, y.length ≤ 2 * x.length → (∀ c ∈ y.cps.toList, c ∈ x.cps.toList) → Q (.str y) H
theorem op_dbl : OpR X (binaryOp .Mult) rDbl := by
  intro pins s σ H a b v u Q I ra rb h
  obtain ⟨x, rfl, rfl, hx, q⟩ := h
  obtain ⟨t, rfl⟩ := ra
  obtain ⟨t', rfl⟩ := rb
  refine P.mul_str (by decide) (fun _ _ => by omega) (fun _ _ => ?_) ?_
  · show decide (x.length * (2 : Int).toNat > sizeLine) = false
    refine decide_eq_false ?_
    have e : (2 : Int).toNat = 2 := rfl
    rw [e]
    show ¬ x.length * 2 > 2 ^ 24
    omega
  · rw [if_neg (by decide)]
    split
    · exact ⟨.str x, H, I, ⟨_, rfl⟩, q x (by omega) fun c hc => hc⟩
    · have e : ((List.replicate (2 : Int).toNat x.cps).foldl (· ++ ·) #[]) = x.cps ++ x.cps := by
        show (#[] ++ x.cps) ++ x.cps = _
        rw [Array.empty_append]
      rw [e]
      have l2 : (⟨x.cps ++ x.cps⟩ : Str).length = 2 * x.length := by
        show (x.cps ++ x.cps).size = 2 * x.cps.size
        rw [Array.size_append]
        omega
      refine ⟨by rw [l2]; show _ ≤ 2 ^ 24; omega, ?_⟩
      exact ⟨.str _, H, I.tok _, ⟨_, rfl⟩, q _ (Nat.le_of_eq l2) fun c hc => by
        rw [show ((⟨x.cps ++ x.cps⟩ : Str).cps.toList) = x.cps.toList ++ x.cps.toList from Array.toList_append] at hc
        rcases List.mem_append.mp hc with h | h <;> exact h⟩
end
end NI
set_option Elab.async false
set_option linter.all false
set_option maxRecDepth 100000
set_option maxHeartbeats 4000000
/-! An own exception class whose maker says super() and keeps one field: made by position and by the field's name. -/
namespace XH
open PySem PySem.W PySem.Calls PyProof.Rows Builtin.ObjectAttr

def iArgs (f : Str) (p1 p2 : Pos) : Arguments :=
  { posonlyargs := [], args := [{ arg := "self", annotation := none, pos := p1 }, { arg := f, annotation := none, pos := p2 }],
    vararg := none, kwonlyargs := [], kw_defaults := [], kwarg := none, defaults := [] }
def iSup (txt : Str) (a0 a1 a2 a3 a4 a5 : Pos) : Stmt :=
  .Expr (.Call (.Attribute (.Call (.Name "super" a0) [] [] a1) "__init__" a2) [.Constant (.str txt) 0 a3] [] a4) a5
def iSet (f : Str) (b0 b1 b2 b3 : Pos) : Stmt := .Assign [.Attribute (.Name "self" b0) f b1] (.Name f b2) b3
def iScope (f : Str) : Scope :=
  { kind := .function, names := [("self", .local), (f, .local), ("__class__", .free), ("super", .globalImplicit)], isGenerator := false, isCoroutine := false, more := [] }
/-- an exception of the class at C: its args at t, its dict -/
abbrev exr (C t : Addr) (dv : Option Addr) : Obj := excRec (.ref C) t dv .none .none (.bool false)

/-- what the text's written part says of such a class -/
structure ExT (prog : Program) (K : Frag) (mg : Str → Option Value) (C fI : Addr) (fd : FuncData) (f qn : Str) (B newId initId : String) (bmB : List Value) : Prop where
  FB : ExcBaseFacts B newId initId bmB
  KF : KxsFacts B initId
  SF : StoreFacts B bmB "object.__setattr__" "object"
  q : excInitIn K C bmB newId = true
  ov : excOver K C bmB = true
  hd : hasDictIn K C = true
  iC : findIn K (.ref C) "__init__" = some (some (.ref fI))
  fn : ∃ (oc doc pm ct : Value) (od an : Option Addr) (cda cc : Addr) (osl : Array (Option Value)) (txt : Str) (p1 p2 a0 a1 a2 a3 a4 a5 b0 b1 b2 b3 : Pos), (a2.endLine == a4.line) = true ∧
    fd = ksFn "__init__" qn (iArgs f p1 p2) [iSup txt a0 a1 a2 a3 a4 a5, iSet f b0 b1 b2 b3] (iScope f) .none .none doc pm an (.ref cda) ct cc ∧
    K.lookup fI = some ⟨oc, od, .func fd, osl⟩ ∧ codeIn K (.ref cda) qn = true ∧
    (∃ (ccl : Value) (cdd : Option Addr) (vs : Array Value) (ccs : Array (Option Value)) (file : Str) (tf : Tok),
      K.lookup cda = some ⟨ccl, cdd, .fields vs, ccs⟩ ∧ vs[2]? = some (.str file tf) ∧ ((prog.main.file : Str) == file) = true) ∧
    ∃ (cl : Value) (cld : Option Addr) (csl : Array (Option Value)), K.lookup cc = some ⟨cl, cld, .cell (some (.ref C)), csl⟩
  isf : isFn K (.ref fI) = true
  sup : ks_superIn K C C "__init__" = some (some (.builtin initId))
  sB : subIn K (.ref C) (.type B) = some true
  sC : mroIn K C (.ref C) = some true
  op : nsIn K cStatics "thirdparty.any" = some none
  sa : findIn K (.ref C) "__setattr__" = some (some (.builtin "object.__setattr__"))
  nf : findIn K (.ref C) f = some none
  mgS : mg "super" = none
  tp : (prog.main.scope.names.lookup ("super" : Str)).isSome = false
  l0 : (iScope f).names.lookup ("self" : Str) = some .local
  l1 : (iScope f).names.lookup f = some .local
  l2 : (iScope f).names.lookup ("__class__" : Str) = some .free
  l3 : (iScope f).names.lookup ("super" : Str) = some .globalImplicit
  lc : ∀ x ∈ (iScope f).names, x.2 ≠ .cell
  ld : (f == ("__debug__" : Str)) = false
  lf : ¬ ("self" : Str) = f
  bp : ∀ (s : Shared) (x v : Value), BindsTo s fd ⟨[x, v], []⟩ [("self", x), (f, v)]
  bk : ∀ (s : Shared) (x v : Value), BindsTo s fd ⟨[x], [(f, v)]⟩ [("self", x), (f, v)]

/-- a method's call whose name and bracket stand in one row -/
theorem mc_eq (env : Env) {o c : Expr} {x : Str} {p2 p4 : Pos} (e : (p2.endLine == p4.line) = true) :
    eval (.Call (.Attribute o x p2) [c] [] p4) env = (do
      let ov ← attributeBase o x env (eval o env)
      standAt p2.atName
      let r ← holding [ov] (calleeOf (methodCallForm 1 (backTo p4 (starEach [c] env)) []) o env ov x)
      callWith p4 r.1 r.2 (backTo p4 (starEach [c] env)) []) := by
  rw [arm_eval_Call]
  have z : methodCallPos (methodCallForm 1 (backTo p4 (starEach [c] env)) []) o env p2 p4 = pure p4 := by
    unfold methodCallPos
    rw [if_pos (by rw [e, Bool.or_true])]
  show (attributeBase o x env (eval o env) >>= fun ov => standAt p2.atName >>= fun _ => methodCall o x p2 p4 env ov 1 (backTo p4 (starEach [c] env)) []) = _
  unfold methodCall
  rw [z]
  rfl
section
variable {prog : Program} {w : World} {A : Around} {E : Value → Shared → Prop} {h : Heap} {g : Array GenState} {d : Drawn} {t : Nat} {os : OsState}
variable {nm q : Str} {C N : Addr} {bs bm bmB : List Value} {hdct : Bool} {sn : List Str} {sub : List Value} {ab : Bool} {col : Option Bool} {dd : Option Addr} {k0 k1 k2 k3 k5 : Option Value} {B newId initId : String}
/-- the bound maker of the base, called -/
theorem mw_call (FB : ExcBaseFacts B newId initId bmB) {u e t0 : Addr} {ws : List Value} {Q : Value → Shared → Prop}
    (cC : h.get? C = some (excClassObj nm q C N bs bm hdct sn sub ab col dd k0 k1 k2 k3 k5 newId)) (ce : h.get? e = some (exr C t0 none)) (cu : h.get? u = some (kxs_mw initId e)) (hz : ws.length ≤ sizeLine)
    (k : ∀ h', (∀ b o, b ≠ e → h.get? b = some o → h'.get? b = some o) → h'.get? e = some (exr C h.objs.size none) → Q .none ⟨h', g, d, t, os⟩) :
    wpAny (model prog w) A (call (.ref u) ws) Q E ⟨h, g, d, t, os⟩ := by
  refine wpAny_call (codeAny_of_tree ?_)
  show wpAny _ A.in1 (callAny (.ref u) ⟨ws, []⟩) _ _ _
  unfold callAny
  refine wpAny_bind (wpAny_load cu ?_)
  simp only [kxs_mw, show (Value.type "method-wrapper" == Value.type "method" || Value.type "method-wrapper" == Value.type "builtin_function_or_method" ||
    Value.type "method-wrapper" == Value.type "method-wrapper") = true by decide, if_true]
  refine KFB.if_so (by decide) ?_
  refine wpAny_bind (check_bound_init FB.toExcCallFacts cC ce rfl (wpAny_bind (wpAny_pure (wpAny_pure ?_))))
  refine ⟨plainId_quiet FB.init.plain _, codeAny_builtin FB.initEntry ?_⟩
  exact exc_init_tree (cls := .ref C) (t0 := t0) (dv := none) (c2 := .none) (c3 := .none) (b4 := .bool false) ce hz fun h' a b _ => k h' a b
end

section
variable {prog : Program} {w : World} {K : Frag} {mg : Str → Option Value} {C fI : Addr} {fd : FuncData} {f qn : Str} {B newId initId : String} {bmB : List Value}
variable {A : Around} {R : Result → Shared → Prop}
/-- the maker runs on a fresh exception -/
theorem init_run (T : ExT prog K mg C fI fd f qn B newId initId bmB) {s : Shared} {v : Value} {ar : Args} {x t0 : Addr} (X : K.In s.heap) (hg : s.heap.Ns mainGlobals mg)
    (hb : ∃ mb, s.heap.Ns builtinsNs mb ∧ ∀ y : Str, y ≠ "__name__" → mb y = bootBuiltins y) (hlim : s.heap.NoLimit)
    (hx : s.heap.get? x = some (exr C t0 none)) (hnx : K.lookup x = none) (hroom : A.depth < recursionLimit) (hbind : BindsTo s fd ar [("self", .ref x), (f, v)])
    (k : ∀ h' tk dx t1, (∀ b o, b ≠ x → s.heap.get? b = some o → h'.get? b = some o) → s.heap.objs.size ≤ dx → dx ≠ x → h'.get? x = some (exr C t1 (some dx)) →
      h'.Ns1 dx (fun y => if y = f then some v else none) → R (.ok (.ret .none)) { s with heap := h', toks := tk }) :
    codeAny (model prog w) A (.call (.ref fI) ar) R s := by
  obtain ⟨oc, doc, pm, ct, od, an, cda, cc, osl, txt, p1, p2, a0, a1, a2, a3, a4, a5, b0, b1, b2, b3, hpos, rfl, lk, hcd, ⟨ccl, cdd, vs, ccs, file, tf, lcode, hvs, hfile⟩, cl, cld, csl, lcell⟩ := T.fn
  refine ks_codeAny_call_defAt hroom (X _ _ lk) rfl hlim (codeRec_of X hcd) rfl hbind T.lc (fun y hy => ?_) (fun h₀ hns hk₀ => ?_) rfl rfl rfl
  · rcases List.mem_cons.mp hy with rfl | hy
    · exact T.l0
    · rcases List.mem_cons.mp hy with rfl | hy
      · exact T.l1
      · cases hy
  have kL : ∀ b o, s.heap.get? b = some o → h₀.get? b = some o := hk₀
  have X0 : K.In h₀ := X.keeps kL
  have hC : ∃ nm N' qn' bs bm hdct sn sub ab col dd k0 k1 k2 k3 k5, s.heap.get? C = some (excClassObj nm qn' C N' bs bm hdct sn sub ab col dd k0 k1 k2 k3 k5 newId) ∧ ∀ Y : String, bm.contains (.type Y) = bmB.contains (.type Y) := excInit_of X T.q
  obtain ⟨nm, N', qn', bs, bm, hdct, sn, sub, ab, col, dd, k0, k1, k2, k3, k5, hC, hT⟩ := hC
  obtain ⟨cd, hcd', hhd⟩ : ∃ cd, clsIn K C = some cd ∧ cd.hasDict = true := any_some T.hd
  obtain ⟨oD, hD1, hD2⟩ : ∃ oD, s.heap.get? C = some oD ∧ oD.data = .cls cd := by
    have z := hcd'
    unfold clsIn at z
    split at z
    · rename_i c' d' cd' sl' ho
      cases z
      exact ⟨_, X _ _ ho, rfl⟩
    · cases z
  have hmf : ([(("self" : Str), Value.ref x), (f, v)].reverse).lookup f = some v := by
    show List.lookup f [(f, v), (("self" : Str), Value.ref x)] = _
    simp [List.lookup]
  have hms : List.lookup ("self" : Str) ([(("self" : Str), Value.ref x), (f, v)].reverse) = some (Value.ref x) := by
    show List.lookup ("self" : Str) [(f, v), (("self" : Str), Value.ref x)] = _
    have e1 : (("self" : Str) == f) = false := by simpa using T.lf
    simp [List.lookup, e1]
  have hx0 := kL _ _ hx
  have hxL : x < s.heap.objs.size := Heap.lt_size hx
  obtain ⟨mb, hb1, hb2⟩ := hb
  have sup : bootBuiltins "super" = some (.type "super") := by first | boot_by_name | rfl | kernel_rfl
  -- super().__init__(txt)
  refine ks_wpAt_execs_cons (ks_wpAt_Expr_any (ks_wpAt_MethodCall ?_ (mc_eq _ hpos)))
  refine ks_wpAt_super_base (env := ksEnv qn (iScope f) s.heap.objs.size fI (.ref cda) cc) T.l3 T.l2 (by decide) rfl (X0 _ _ lk) rfl rfl rfl (X0 _ _ lcode) rfl hvs hfile T.tp ?_
  refine ks_loadName_global rfl T.l3 (loadGlobal_builtin (env := ksEnv qn (iScope f) s.heap.objs.size fI (.ref cda) cc) (hg.keeps kL) T.mgS (hb1.keeps kL) ((hb2 _ (by decide)).trans sup) ⟨rfl, ?_⟩)
  refine wpAny_loadName_free rfl T.l2 rfl ⟨_, X0 _ _ lcell, rfl⟩ ?_
  refine wpAny_loadName_local rfl T.l0 hns hms ?_
  refine ks_wpAny_isType_cls (kL _ _ hD1) hD2 ⟨rfl, ?_⟩
  refine ks_wpAny_call_super (kL _ _ hD1) hD2 hx0 rfl (fun c e => by cases e) (looks_mroIn X0 T.sC) (fun h1 e1 k1 => ?_)
  have X1 : K.In h1 := X0.keeps k1
  have hx1 := k1 _ _ hx0
  have I1 : InstAt h1 x (exr C t0 none) C none := ⟨hx1, rfl, rfl, trivial⟩
  have hsup : alongIn K "__init__" ((cd.mro.dropWhile (· != .ref C)).drop 1) = some (some (.builtin initId)) := by
    have z := T.sup
    unfold ks_superIn at z
    rw [hcd'] at z
    exact z
  refine kxs_getMethod T.KF e1 (looks_opaque X1 T.op) (l₀ := cd.mro) (fun A Q E s k q => wpAny_bind ((looks_clsIn X1 hcd') A _ E s k (wpAny_pure q))) rfl X1 hsup (I1.type.andThen (looks_subIn X1 T.sB)) (ks_ne X1 I1 hcd') (by decide) ?_
  have k2 : ∀ b o, h1.get? b = some o → (h1.push (kxs_mw initId x)).get? b = some o := fun b o e => Heap.get?_push_of_some _ e
  have hmw : (h1.push (kxs_mw initId x)).get? h1.objs.size = some (kxs_mw initId x) := Heap.get?_push_at rfl rfl
  refine kxs_callWith (i := initId) (x := x) (by rfl) (evalArgs_plain ?_)
  show wpAny _ _ (spliced ((false, eval (.Constant (.str txt) 0 a3) _) :: backTo a4 (starEach [] _))) _ _ _
  refine spliced_cons (Calls.Constant_str (spliced_nil ⟨hmw, ?_⟩))
  have up : ∀ b o, s.heap.get? b = some o → (h1.push (kxs_mw initId x)).get? b = some o := fun b o e => k2 _ _ (k1 _ _ (kL _ _ e))
  refine mw_call T.FB (up _ _ hC) (up _ _ hx) hmw (by show 1 ≤ sizeLine; rw [sizeLine_eq]; omega) fun h3 k3 e3 => ?_
  -- self.f = f
  have up3 : ∀ b o, b ≠ x → s.heap.get? b = some o → h3.get? b = some o := fun b o hb e => k3 _ _ hb (up _ _ e)
  have X3 : K.In h3 := fun b o e => up3 b o (fun z => ?_) (X _ _ e)
  have hns3 : h3.Ns s.heap.objs.size (fun y => List.lookup y ([(("self" : Str), Value.ref x), (f, v)].reverse)) := by
    obtain ⟨o, es, ep, e, r⟩ := hns
    exact ⟨o, es, ep, k3 _ _ (Nat.ne_of_gt hxL) (k2 _ _ (k1 _ _ e)), r⟩
  refine wpAt_of_wpAny (wpAny_execs_cons (plainObj_wpAny_Assign_Attribute ?_))
  refine wpAny_Name (wpAny_loadName_local rfl T.l1 hns3 hmf ?_) T.ld
  refine wpAny_Name (wpAny_loadName_local rfl T.l0 hns3 hms ?_) (by decide)
  have I3 : InstAt h3 x (exr C (h1.push (kxs_mw initId x)).objs.size none) C none := ⟨e3, rfl, rfl, trivial⟩
  refine set_plain X3 I3 T.sa ?_
  refine osa_openX (r := none) T.SF X3 I3 T.ov (by unfold takerIn; rw [T.nf]; rfl) fun bb => ?_
  have hcls : Looks (model prog w) h3 (classData C) cd := looks_clsIn X3 hcd'
  have hxs : x ≠ h3.objs.size := Nat.ne_of_lt (Heap.lt_size e3)
  have big : s.heap.objs.size < h3.objs.size := by
    obtain ⟨o, es, ep, e, r⟩ := hns3
    exact Heap.lt_size e
  obtain ⟨cn, cbs, cmro, cns, cqn, chd, csn, csb, cab, ccol, cdel⟩ := cd
  dsimp only at hhd
  subst hhd
  show wpAny _ _ (storeInOwnDict (.ref x) (.ref C) (.str f _) f v bb) _ _ _
  unfold storeInOwnDict ownDictForStores
  repeat (first
    | with_reducible refine PX.store_in_new ?_ ?_
    | with_reducible refine wpAny_loadPart_at e3 ?_
    | with_reducible refine hcls.at ?_
    | wp_step)
  · have z := Heap.get?_push_at (h := h3) (o := ({ cls := .type "dict", data := .dict #[] } : Obj)) rfl rfl
    exact ⟨_, #[], _, (Heap.get?_update_ne _ _ _ _ hxs.symm).trans z, rfl, fun e he => absurd he (by simp), fun _ => rfl⟩
  · intro h4 tk4 hn4 hs4
    have hx4 : (h3.push { cls := .type "dict", data := .dict #[] }).get? x = some (exr C (h1.push (kxs_mw initId x)).objs.size none) := Heap.get?_push_of_some _ e3
    refine wpAny_execs_nil (k h4 tk4 h3.objs.size (h1.push (kxs_mw initId x)).objs.size (fun b o hb ho => ?_) (Nat.le_of_lt big) hxs.symm ?_ hn4)
    · refine (hs4.2 b (Nat.ne_of_lt (Heap.lt_size (up3 b o hb ho)))).trans ?_
      exact (Heap.get?_update_ne _ _ _ _ hb).trans (Heap.get?_push_of_some _ (up3 b o hb ho))
    · exact (hs4.2 x hxs).trans (Heap.get?_update_self _ hx4 rfl)
  rw [z, hnx] at e
  cases e
end
end XH
set_option Elab.async false
set_option linter.all false
set_option maxRecDepth 100000
set_option maxHeartbeats 4000000
namespace XH
open PySem PySem.W PySem.Calls PyProof.Rows Builtin.ObjectAttr
section
variable {prog : Program} {w : World} {M : Model} {A : Around} {E : Value → Shared → Prop} {R : Result → Shared → Prop} {h : Heap} {g : Array GenState} {d : Drawn} {t : Nat} {os : OsState}
variable {nm q : Str} {C N : Addr} {bs bm bmB : List Value} {hdct : Bool} {sn : List Str} {sub : List Value} {ab : Bool} {col : Option Bool} {dd : Option Addr} {k0 k1 k2 k3 k5 : Option Value} {B newId initId : String}

theorem kw_check (FB : ExcBaseFacts B newId initId bmB) (same : ∀ Y : String, bm.contains (.type Y) = bmB.contains (.type Y)) {f : Str} {v : Value} {Q : Unit → Shared → Prop}
    (cC : h.get? C = some (excClassObj nm q C N bs bm hdct sn sub ab col dd k0 k1 k2 k3 k5 newId)) (k : Q () ⟨h, g, d, t, os⟩) :
    wpAny M A (checkBuiltinCall newId ⟨[.ref C], [(f, v)]⟩) Q E ⟨h, g, d, t, os⟩ := by
  have has : (Value.ref C :: bm).contains (.type B) = true := by
    rw [List.contains_cons, same, FB.hasB, Bool.or_true]
  have star := FB.noStar
  simp only [checkBuiltinCall, FB.newKind, FB.newSplit, FB.newRow]
  repeat (first
    | refine wpAny_loadPart_at cC ?_
    | (refine wpAny_isSubtype_exc cC ?_; rw [has])
    | refine wpAny_staticBase_exc cC ?_
    | refine wpAny_madeBy_exc cC ?_
    | simp only [bne_self_eq_false, Bool.false_eq_true, if_false]
    | wp_step)
  exact k

theorem kw_new (FB : ExcBaseFacts B newId initId bmB) (same : ∀ Y : String, bm.contains (.type Y) = bmB.contains (.type Y)) {f : Str} {v : Value}
    (cC : h.get? C = some (excClassObj nm q C N bs bm hdct sn sub ab col dd k0 k1 k2 k3 k5 newId))
    (k : R (.ok (.ret (.ref (h.objs.size + 1)))) ⟨(h.push (excTup [])).push (exr C h.objs.size none), g, d, t, os⟩) :
    codeAny (model prog w) A (.builtin newId ⟨[.ref C], [(f, v)]⟩) R ⟨h, g, d, t, os⟩ := by
  have ends := FB.ends
  have hB : (Value.ref C :: bm).contains (.type B) = true := by
    rw [List.contains_cons, same, FB.hasB, Bool.or_true]
  have hA : (Value.ref C :: bm).contains (.type "AttributeError") = false := by
    rw [List.contains_cons, same, FB.noAttr]; rfl
  have hN : (Value.ref C :: bm).contains (.type "NameError") = false := by
    rw [List.contains_cons, same, FB.noName]; rfl
  have hz : ([] : List Value).length ≤ sizeLine := by show 0 ≤ sizeLine; omega
  refine codeAny_builtinAt FB.entry ?_
  unfold Builtin.«BaseException.__new__»
  refine _root_.PySem.wpAt_bind ?_
  show _root_.PySem.wpAt _ _ _ (stack >>= _) _ _ _
  refine _root_.PySem.wpAt_bind (_root_.PySem.wpAt_stack fun p below => _root_.PySem.wpAt_of_wpAny ?_)
  wp_walk
  refine _root_.PySem.wpAt_of_wpAny ?_
  rw [FB.owner]
  repeat (first
    | with_reducible refine wpAny_madeHere_exc FB.canon cC ?_
    | with_reducible refine wpAny_loadPart_at cC ?_
    | (with_reducible refine wpAny_isSubtype_exc cC ?_; first | rw [hB] | rw [hA] | rw [hN])
    | wp_step)
  show R _ _
  rw [Heap.size_push]
  exact k

theorem kw_type (FB : ExcBaseFacts B newId initId bmB) (same : ∀ Y : String, bm.contains (.type Y) = bmB.contains (.type Y)) {f : Str} {v : Value} {fI : Addr} {Q : Fin → Shared → Prop}
    (cC : h.get? C = some (excClassObj nm q C N bs bm hdct sn sub ab col dd k0 k1 k2 k3 k5 newId))
    (li : Looks (model prog w) h (typeLookup (.ref C) "__init__") (some (.ref fI))) (lb : ∀ self, Looks (model prog w) h (bindSpecial (.ref fI) self) (.ref fI, [self]))
    (k : codeAny (model prog w) A (.call (.ref fI) ⟨[.ref (h.objs.size + 1)], [(f, v)]⟩)
      (fun r s' => match r with | .ok (.ret u) => u = .none ∧ Q (.done (.ret (.ref (h.objs.size + 1)))) s' | .ok _ => False | .error e => E e s')
      ⟨(h.push (excTup [])).push (exr C h.objs.size none), g, d, t, os⟩) :
    wpAny (model prog w) A (Builtin.«type.__call__» ⟨[.ref C], [(f, v)]⟩) Q E ⟨h, g, d, t, os⟩ := by
  repeat (first | with_reducible refine wpAny_loadPart_at cC ?_ | with_reducible refine wpAny_madeBy_exc cC ?_ | wp_step)
  refine codeAny_call_builtin_code (Code.quiet_builtin _ FB.quiet) (kw_check FB same cC ?_)
  refine kw_new FB same cC ?_
  show wpAny _ _ _ _ _ _
  have up : ∀ b o, h.get? b = some o → ((h.push (excTup [])).push (exr C h.objs.size none)).get? b = some o :=
    fun b o e => Heap.get?_push_of_some _ (Heap.get?_push_of_some _ e)
  have cC1 := up _ _ cC
  have ge : ((h.push (excTup [])).push (exr C h.objs.size none)).get? (h.objs.size + 1) = some (exr C h.objs.size none) := by heap_get
  have cc : (Value.ref C :: bm).contains (.ref C) = true := by simp
  have li1 := li.keeps up
  have lb1 := (lb (.ref (h.objs.size + 1))).keeps up
  unfold isInstance
  repeat (first
    | with_reducible refine wpAny_loadPart_at ge ?_
    | (with_reducible refine wpAny_isSubtype_exc cC1 ?_; rw [cc])
    | wp_step)
  show wpAny _ _ (typeLookup (.ref C) _) _ _ _
  refine li1.at (wpAny_holding (wpAny_bind (lb1.at (wpAny_bind (wpAny_call (codeAny_mono k fun r s' z => ?_))))))
  rcases r with e | (v | _ | _ | _) <;> first | exact z | exact z.elim | skip
  obtain ⟨rfl, z⟩ := z
  first
    | exact wpAny_pure (wpAny_pure z)
    | (wp_walk; exact z)

theorem kw_call (FB : ExcBaseFacts B newId initId bmB) (same : ∀ Y : String, bm.contains (.type Y) = bmB.contains (.type Y)) {f : Str} {v : Value} {fI : Addr}
    (cC : h.get? C = some (excClassObj nm q C N bs bm hdct sn sub ab col dd k0 k1 k2 k3 k5 newId))
    (li : Looks (model prog w) h (typeLookup (.ref C) "__init__") (some (.ref fI))) (lb : ∀ self, Looks (model prog w) h (bindSpecial (.ref fI) self) (.ref fI, [self]))
    (k : codeAny (model prog w) (A.under (.builtin "type.__call__" ⟨[.ref C], [(f, v)]⟩)) (.call (.ref fI) ⟨[.ref (h.objs.size + 1)], [(f, v)]⟩) (InitBack (h.objs.size + 1) R)
      ⟨(h.push (excTup [])).push (exr C h.objs.size none), g, d, t, os⟩) :
    codeAny (model prog w) A (.call (.ref C) ⟨[], [(f, v)]⟩) R ⟨h, g, d, t, os⟩ := by
  have f1 := tc_lookup
  have f2 := tc_bind (.ref C)
  have ty : (⟨h, g, d, t, os⟩ : Shared).TypeIs (.ref C) "type" := ⟨_, cC, rfl⟩
  refine codeAny_of_tree ?_
  show wpAny _ _ (callAny (.ref C) _) _ _ _
  repeat (any_goals (first
    | assumption
    | with_reducible refine wpAny_loadPart_at cC ?_
    | wp_step))
  refine ⟨rfl, ?_⟩
  refine codeAny_call_builtin_at (Code.quiet_builtin _ (by decide +kernel)) entry_typeCall ?_
  have f3 := tc_sub
  have last : wpAny (model prog w) (A.under (.builtin "type.__call__" ⟨[.ref C], [(f, v)]⟩)) (Builtin.«type.__call__» ⟨[.ref C], [(f, v)]⟩)
      (fun fin s' => match fin with | .done fl => R (.ok fl) s' | .again c' => c'.quiet = true ∧ codeAny (model prog w) A c' R s') (fun e s' => R (.error e) s') ⟨h, g, d, t, os⟩ := by
    refine kw_type FB same cC li lb (codeAny_mono k fun r s' z => ?_)
    rcases r with e | (v | _ | _ | _) <;> exact z
  simp only [checkBuiltinCall, tc_kind, tc_split]
  repeat (any_goals (first
    | assumption
    | with_reducible refine wpAny_loadPart_at cC ?_
    | with_reducible refine wpAny_onRaise ?_
    | with_reducible refine wpAny_map ?_
    | wp_step))
end

section
variable {prog : Program} {w : World} {K : Frag} {mg : Str → Option Value} {C fI : Addr} {fd : FuncData} {f qn : Str} {B newId initId : String} {bmB : List Value}
variable {A : Around} {E : Value → Shared → Prop}
/-- what is there behind the making -/
structure Made (h h' : Heap) (C e dx : Addr) (f : Str) (v : Value) : Prop where
  keep : ∀ b o, h.get? b = some o → h'.get? b = some o
  eb : h.objs.size ≤ e
  db : h.objs.size ≤ dx
  ne : dx ≠ e
  ob : ∃ t1, h'.get? e = some (exr C t1 (some dx))
  ns : h'.Ns1 dx (fun y => if y = f then some v else none)
theorem fresh_out {h : Heap} {b : Addr} (X : K.In h) (hb : h.objs.size ≤ b) : K.lookup b = none := by
  cases e : K.lookup b with
  | none => rfl
  | some o => exact absurd (Heap.lt_size (X _ _ e)) (Nat.not_lt.mpr hb)
theorem made_pos (T : ExT prog K mg C fI fd f qn B newId initId bmB) {s : Shared} {v : Value} {Q : Value → Shared → Prop} (X : K.In s.heap) (hg : s.heap.Ns mainGlobals mg)
    (hb : ∃ mb, s.heap.Ns builtinsNs mb ∧ ∀ y : Str, y ≠ "__name__" → mb y = bootBuiltins y) (hlim : s.heap.NoLimit) (hroom : A.depth + 1 < recursionLimit)
    (k : ∀ h' tk e dx, Made s.heap h' C e dx f v → Q (.ref e) { s with heap := h', toks := tk }) : wpAny (model prog w) A (call (.ref C) [v]) Q E s := by
  obtain ⟨nm, N', qn', bs, bm, hdct, sn, sub, ab, col, dd, k0, k1, k2, k3, k5, hC, hT⟩ := excInit_of X T.q
  obtain ⟨oI, hoI, hcI⟩ : ∃ oI, s.heap.get? fI = some oI ∧ oI.cls = .type "function" := by
    obtain ⟨o, ho, hc⟩ := Option.map_eq_some_iff.mp (show (K.lookup fI).map (·.cls) = some (.type "function") from beq_iff_eq.mp T.isf)
    exact ⟨o, X _ _ ho, hc⟩
  have up : ∀ b o, s.heap.get? b = some o → ((s.heap.push (excTup [v])).push (exr C s.heap.objs.size none)).get? b = some o :=
    fun b o e => Heap.get?_push_of_some _ (Heap.get?_push_of_some _ e)
  have ge : ((s.heap.push (excTup [v])).push (exr C s.heap.objs.size none)).get? (s.heap.objs.size + 1) = some (exr C s.heap.objs.size none) := by heap_get
  have sz : ((s.heap.push (excTup [v])).push (exr C s.heap.objs.size none)).objs.size = s.heap.objs.size + 2 := by rw [Heap.size_push, Heap.size_push]
  have hg' : ((s.heap.push (excTup [v])).push (exr C s.heap.objs.size none)).Ns mainGlobals mg := hg.keeps up
  have hb' : ∃ mb, ((s.heap.push (excTup [v])).push (exr C s.heap.objs.size none)).Ns builtinsNs mb ∧ ∀ y : Str, y ≠ "__name__" → mb y = bootBuiltins y :=
    let ⟨mb, h1, h2⟩ := hb
    ⟨mb, h1.keeps up, h2⟩
  have out := fresh_out (b := s.heap.objs.size + 1) X (Nat.le_succ _)
  obtain ⟨hp, g, d, tk, os⟩ := s
  refine wpAny_call (PX.call_own T.FB hT hC (looks_findIn X T.iC) (fun self => exc_bind hoI hcI self) (by show 1 ≤ sizeLine; rw [sizeLine_eq]; omega) ?_)
  refine init_run (s := ⟨(hp.push (excTup [v])).push (exr C hp.objs.size none), g, d, tk, os⟩) T (X.keeps up) hg' hb' (hlim.keeps up) ge out hroom (T.bp _ _ _) fun h' tk' dx t1 kk db ne ob ns => ?_
  refine ⟨rfl, k h' tk' _ dx ⟨fun b o e => kk b o (Nat.ne_of_lt (Nat.lt_succ_of_lt (Heap.lt_size e))) (up b o e), Nat.le_succ _, Nat.le_trans (by rw [sz]; exact Nat.le_add_right _ _) db, ne, ⟨t1, ob⟩, ns⟩⟩
theorem made_kw (T : ExT prog K mg C fI fd f qn B newId initId bmB) {s : Shared} {v : Value} {Q : Value → Shared → Prop} (X : K.In s.heap) (hg : s.heap.Ns mainGlobals mg)
    (hb : ∃ mb, s.heap.Ns builtinsNs mb ∧ ∀ y : Str, y ≠ "__name__" → mb y = bootBuiltins y) (hlim : s.heap.NoLimit) (hroom : A.depth + 1 < recursionLimit)
    (k : ∀ h' tk e dx, Made s.heap h' C e dx f v → Q (.ref e) { s with heap := h', toks := tk }) : wpAny (model prog w) A (call (.ref C) [] [(f, v)]) Q E s := by
  obtain ⟨nm, N', qn', bs, bm, hdct, sn, sub, ab, col, dd, k0, k1, k2, k3, k5, hC, hT⟩ := excInit_of X T.q
  obtain ⟨oI, hoI, hcI⟩ : ∃ oI, s.heap.get? fI = some oI ∧ oI.cls = .type "function" := by
    obtain ⟨o, ho, hc⟩ := Option.map_eq_some_iff.mp (show (K.lookup fI).map (·.cls) = some (.type "function") from beq_iff_eq.mp T.isf)
    exact ⟨o, X _ _ ho, hc⟩
  have up : ∀ b o, s.heap.get? b = some o → ((s.heap.push (excTup [])).push (exr C s.heap.objs.size none)).get? b = some o :=
    fun b o e => Heap.get?_push_of_some _ (Heap.get?_push_of_some _ e)
  have ge : ((s.heap.push (excTup [])).push (exr C s.heap.objs.size none)).get? (s.heap.objs.size + 1) = some (exr C s.heap.objs.size none) := by heap_get
  have sz : ((s.heap.push (excTup [])).push (exr C s.heap.objs.size none)).objs.size = s.heap.objs.size + 2 := by rw [Heap.size_push, Heap.size_push]
  have hg' : ((s.heap.push (excTup [])).push (exr C s.heap.objs.size none)).Ns mainGlobals mg := hg.keeps up
  have hb' : ∃ mb, ((s.heap.push (excTup [])).push (exr C s.heap.objs.size none)).Ns builtinsNs mb ∧ ∀ y : Str, y ≠ "__name__" → mb y = bootBuiltins y :=
    let ⟨mb, h1, h2⟩ := hb
    ⟨mb, h1.keeps up, h2⟩
  have out := fresh_out (b := s.heap.objs.size + 1) X (Nat.le_succ _)
  obtain ⟨hp, g, d, tk, os⟩ := s
  refine wpAny_call (kw_call T.FB hT hC (looks_findIn X T.iC) (fun self => exc_bind hoI hcI self) ?_)
  refine init_run (s := ⟨(hp.push (excTup [])).push (exr C hp.objs.size none), g, d, tk, os⟩) T (X.keeps up) hg' hb' (hlim.keeps up) ge out hroom (T.bk _ _ _) fun h' tk' dx t1 kk db ne ob ns => ?_
  refine ⟨rfl, k h' tk' _ dx ⟨fun b o e => kk b o (Nat.ne_of_lt (Nat.lt_succ_of_lt (Heap.lt_size e))) (up b o e), Nat.le_succ _, Nat.le_trans (by rw [sz]; exact Nat.le_add_right _ _) db, ne, ⟨t1, ob⟩, ns⟩⟩
end
end XH
set_option Elab.async false
set_option linter.all false
set_option maxRecDepth 100000
set_option maxHeartbeats 4000000
/-! The rules over the hand layer: such an exception made as a value, asked by isinstance, its field read; repr of data. -/
namespace XH
open PySem PySem.W PySem.Calls PyProof.Rows L2
/-- at a: an exception of the class at C that keeps v in its field f -/
def ExcAt (H : Hp) (a C : Addr) (f : Str) (v : V) : Prop := ∃ d, H a = some (exo a C (some d)) ∧ H d = some (exd d [(f, v)])
theorem ExcAt.same {H H' : Hp} {a C : Addr} {f : Str} {v : V} (x : ExcAt H a C f v) (s : Same H H') : ExcAt H' a C f v :=
  let ⟨d, h1, h2⟩ := x
  ⟨d, s _ _ h1, s _ _ h2⟩
theorem same_refl {H : Hp} : Same H H := fun _ _ e => e
theorem same_trans {H H' H'' : Hp} (a : Same H H') (b : Same H' H'') : Same H H'' := fun x o e => b x o (a x o e)
theorem same_new {H : Hp} {a : Addr} {o : HO} (h : H a = none) : Same H (upd H a o) := fun b u e => by
  rw [upd_ne (ne_of_none e h)]
  exact e
section
variable {X : Cx} {pins : List (Addr × Obj)} {σ : L2.St} {H : Hp} {s : Shared}
theorem inv_made {h' : Heap} {tk : Nat} {C e dx : Addr} {f : Str} {v : V} {u : Value} (I : Inv X pins σ H s) (r : RelV v u) (m : Made s.heap h' C e dx f u) :
    Inv X pins σ (upd (upd H dx (exd dx [(f, v)])) e (exo e C (some dx))) { s with heap := h', toks := tk } := by
  obtain ⟨kp, eb, db, ne, ⟨t1, ob⟩, ns⟩ := m
  obtain ⟨G, g1, g2⟩ := restrict h' fun b => decide (b ≠ e)
  have gk : ∀ b, b ≠ e → G.get? b = h'.get? b := fun b hb => g1 b (decide_eq_true hb)
  have ge : G.get? e = none := g2 e (decide_eq_false fun z => z rfl)
  have gs : ∀ b o, G.get? b = some o → h'.get? b = some o := fun b o z => by
    by_cases hb : b = e
    · rw [hb, ge] at z
      cases z
    · rw [← gk b hb]
      exact z
  have old : ∀ b o, s.heap.get? b = some o → G.get? b = some o := fun b o z => by
    rw [gk b (Nat.ne_of_lt (Nat.lt_of_lt_of_le (Heap.lt_size z) eb))]
    exact kp b o z
  have od : ObjOk X.prog X.w (upd H dx (exd dx [(f, v)])) G dx (exd dx [(f, v)]) := by
    refine exd_ok (ns.at fun o z => (gk dx ne).trans z) fun g => ?_
    have z := relO_put (f := f) (fs := []) (mA := fun _ => none) r (fun _ => trivial) g
    exact z
  have I2 : Inv X pins σ (upd H dx (exd dx [(f, v)])) { s with heap := G, toks := tk } := I.laid (t' := tk) old db od
  have hn : (upd H dx (exd dx [(f, v)])) e = none := by
    rw [upd_ne (Ne.symm ne)]
    exact I.hok.fresh eb
  exact I2.laidN (t' := tk) gs ge hn (exo_ok ob)
theorem made_at {C e dx : Addr} {f : Str} {v : V} (h : e ≠ dx) : ExcAt (upd (upd H dx (exd dx [(f, v)])) e (exo e C (some dx))) e C f v :=
  ⟨dx, upd_same, by rw [upd_ne (Ne.symm h), upd_same]⟩
end
/-- C(e), C(f=e): a new exception; what was tracked stands -/
def tMk (C : Addr) (f : Str) (te : TE) : TE := fun σ H Q => te σ H fun v H1 => ∀ a H2, H1 a = none → Same H1 H2 → ExcAt H2 a C f v → Q (.ref a) H2
section
variable {X : Cx} {C fI : Addr} {fd : FuncData} {f qn : Str} {B newId initId : String} {bmB : List Value}
theorem inv_glob {pins : List (Addr × Obj)} {σ : L2.St} {H : Hp} {s : Shared} (I : Inv X pins σ H s) : s.heap.Ns mainGlobals X.mg ∧ ∃ mb, s.heap.Ns builtinsNs mb ∧ ∀ y : Str, y ≠ "__name__" → mb y = bootBuiltins y :=
  ⟨I.mod.glob.keeps I.bk, let ⟨mb, h1, h2⟩ := I.mod.blt; ⟨mb, h1.keeps I.bk, h2⟩⟩
theorem mk_run {pins : List (Addr × Obj)} {σ : L2.St} {H : Hp} {s : Shared} {v : V} {u : Value} {Q : VK} {kw : Bool} (T : ExT X.prog X.K X.mg C fI fd f qn B newId initId bmB) (dp : X.A.depth + 1 < recursionLimit)
    (I : Inv X pins σ H s) (r : RelV v u) (k : ∀ a H2, H a = none → Same H H2 → ExcAt H2 a C f v → Q (.ref a) H2) :
    ∀ h' tk e dx, Made s.heap h' C e dx f u → EP X pins σ Q (.ref e) { s with heap := h', toks := tk } := fun h' tk e dx m => by
  have he : H e = none := I.hok.fresh m.eb
  have hd : H dx = none := I.hok.fresh m.db
  refine ⟨.ref e, _, inv_made I r m, rfl, k e _ he ?_ (made_at (Ne.symm m.ne))⟩
  exact same_trans (same_new hd) (same_new (by rw [upd_ne (Ne.symm m.ne)]; exact he))
theorem pe_mkp {x : Str} {e : Expr} {te : TE} {p pos : Pos} (T : ExT X.prog X.K X.mg C fI fd f qn B newId initId bmB) (dp : X.A.depth + 1 < recursionLimit) (gC : X.mg x = some (.ref C)) (kC : keepIn X.K (.ref C) = true) (hg : Gl X x) (he : PE X e te)
    (hs : starEach [e] X.env = (false, eval e X.env) :: starEach [] X.env := by rfl) (hdb : (x == ("__debug__" : Str)) = false := by decide) :
    PE X (.Call (.Name x p) [e] [] pos) (tMk C f te) := by
  refine ⟨fun pins s σ H Q I h => ?_⟩
  refine wpAny_Call_Name_kw (ld_glob I hg gC ?_ hdb)
  refine callWith_K (h₀ := X.base) I.ok.mod.kin kC ?_ hs (by rfl)
  rw [hs]
  show wpAny _ _ (spliced ((false, eval e X.env) :: backTo pos (starEach [] X.env))) _ _ s
  refine spliced_cons (thn (he.run pins s σ H _ I h) fun u s1 ⟨v, H1, I1, r1, q1⟩ => ?_)
  refine spliced_nil ⟨I1.kIn, ?_⟩
  show wpAny _ _ (call (.ref C) [u]) _ _ _
  exact made_pos T I1.kIn (inv_glob I1).1 (inv_glob I1).2 I1.nolimit dp (mk_run (kw := false) T dp I1 r1 q1)
theorem pe_mkk {x : Str} {e : Expr} {te : TE} {p pos kp : Pos} (T : ExT X.prog X.K X.mg C fI fd f qn B newId initId bmB) (dp : X.A.depth + 1 < recursionLimit) (gC : X.mg x = some (.ref C)) (kC : keepIn X.K (.ref C) = true) (hg : Gl X x) (he : PE X e te)
    (hdb : (x == ("__debug__" : Str)) = false := by decide) :
    PE X (.Call (.Name x p) [] [⟨some f, e, kp⟩] pos) (tMk C f te) := by
  refine ⟨fun pins s σ H Q I h => ?_⟩
  refine wpAny_Call_Name_kw (ld_glob I hg gC ?_ hdb)
  refine callWith_KW0 (h₀ := X.base) I.ok.mod.kin kC rfl ?_ rfl
  refine thn ((pk_cons he pk_nil).run pos pins s σ H (fun vs H1 => match vs with | [v] => ∀ a H2, H1 a = none → Same H1 H2 → ExcAt H2 a C f v → Q (.ref a) H2 | _ => False) I h) fun ws s2 ⟨zs, H2, I2, rz, q2⟩ => ⟨I2.kIn, ?_⟩
  rcases zs with _ | ⟨v, _ | ⟨_, _⟩⟩
  · exact q2.elim
  · obtain ⟨u, rfl, ru⟩ := vals1 rz
    exact made_kw T I2.kIn (inv_glob I2).1 (inv_glob I2).2 I2.nolimit dp (mk_run (kw := true) T dp I2 ru q2)
  · exact q2.elim
end
/-- what a class says, so that its exceptions are asked and read rightly -/
structure ExQ (K : Frag) (C : Addr) : Prop where
  cl : (clsIn K C).isSome = true
  hd : hasDictIn K C = true
  ga : findIn K (.ref C) "__getattribute__" = some (some (.builtin "BaseException.__getattribute__"))
  gt : findIn K (.ref C) "__getattr__" = some none
  sb : subIn K (.ref C) (.type "BaseException") = some true
  hc : findIn K (.ref C) "__class__" = some (some (.builtin "object.__class__"))
  hn : specialIn K (.builtin "object.__class__") "__get__" = some (some (.builtin "getset_descriptor.__get__"))
  tk : takesIn K (.builtin "object.__class__") = some true
  hm : mroIn K C (.type "object") = some true
section
variable {X : Cx} {pins : List (Addr × Obj)} {σ : L2.St} {H : Hp} {s : Shared}
theorem ExcAt.inst {a C : Addr} {f : Str} {v : V} (I : Inv X pins σ H s) (x : ExcAt H a C f v) : ∃ (ox od : Obj) (u : Value), InstAt s.heap a ox C (some od) ∧ RelV v u ∧ lookIn f od = some (some u) := by
  obtain ⟨d, h1, h2⟩ := x
  obtain ⟨t1, e1⟩ := exo_at I.hok h1
  obtain ⟨mA, ns, rel⟩ := exd_at I.hok h2
  obtain ⟨od, ho, hl⟩ := lookIn_ns ns
  have z : RelO (some v) (mA f) := by
    have y := rel f
    simpa [List.lookup] using y
  obtain ⟨u, hu, ru⟩ := RelO.some_of (v := v) (o := mA f) z
  exact ⟨_, od, u, ⟨e1, rfl, rfl, ho⟩, ru, by rw [hl, hu]⟩
end
/-- isinstance(x, c), x such an exception -/
def rIsX (K : Frag) : List V → Hp → VK → Prop := fun xs H Q => ∃ (a C : Addr) (f : Str) (v c : V) (u : Value) (b : Bool), xs = [.ref a, c] ∧ ClsV c u ∧ ExQ K C ∧ ExcAt H a C f v ∧ kitOne K (.ref C) u = some b ∧ Q (.bl b) H
/-- isinstance(x, (c, ..)), the tuple just laid -/
def rIsXT (K : Frag) : List V → Hp → VK → Prop := fun xs H Q => ∃ (a C tp : Addr) (f : Str) (v : V) (cs : List V) (us : List Value) (b : Bool), xs = [.ref a, .ref tp] ∧ H tp = some (.tup cs) ∧ Paired ClsV cs us ∧ ExQ K C ∧ ExcAt H a C f v ∧ kitAny K (.ref C) us = some b ∧ Q (.bl b) H
section
variable {X : Cx}
theorem call_isX : CallR X (.builtin "isinstance") (rIsX X.K) := by
  intro pins s σ H xs us Q I r h
  obtain ⟨a, C, f, v, c, u, b, rfl, kc, T, x, e, q⟩ := h
  obtain ⟨u1, u2, rfl, r1, r2⟩ := vals2 r
  have e2 := kc.eq r2
  subst e2
  obtain rfl : u1 = Value.ref a := r1
  obtain ⟨ox, od, w', J, _, _⟩ := x.inst I
  exact kia_one (kitx_exc T.cl T.ga T.gt T.sb T.hc T.hn T.tk T.hm) I.kIn J e (fun z => nomatch z) fun tk => ⟨.bl b, H, I.tok tk, rfl, q⟩
theorem call_isXT : CallR X (.builtin "isinstance") (rIsXT X.K) := by
  intro pins s σ H xs us Q I r h
  obtain ⟨a, C, tp, f, v, cs, ws, b, rfl, hT, kc, T, x, e, q⟩ := h
  obtain ⟨u1, u2, rfl, r1, r2⟩ := vals2 r
  obtain rfl : u1 = Value.ref a := r1
  obtain rfl : u2 = Value.ref tp := r2
  obtain ⟨ox, od, w', J, _, _⟩ := x.inst I
  obtain ⟨_, its, rv, o, h1, h2, n, h3⟩ := (show ObjOk X.prog X.w H s.heap tp (.tup cs) from I.hok tp _ hT)
  have e3 := ClsV.all kc rv
  subst e3
  obtain ⟨oc, odd, dt, sl⟩ := o
  simp only at h2 h3
  subst h2 h3
  exact kia_tup (kitx_exc T.cl T.ga T.gt T.sb T.hc T.hn T.tk T.hm) I.kIn J h1 e (fun z => nomatch z) fun tk => ⟨.bl b, H, I.tok tk, rfl, q⟩
/-- e.f, e such an exception -/
def tXfl (K : Frag) (f : Str) (te : TE) : TE := fun σ H Q => te σ H fun x H1 => ∃ (a C : Addr) (v : V), x = .ref a ∧ ExQ K C ∧ findIn K (.ref C) f = some none ∧ ExcAt H1 a C f v ∧ Q v H1
theorem pe_xfl {e : Expr} {te : TE} {pos : Pos} {f : Str} (he : PE X e te) (hb : attributeBase e f X.env (eval e X.env) = eval e X.env := by rfl) : PE X (.Attribute e f pos) (tXfl X.K f te) := by
  refine ⟨fun pins s σ H Q I h => ?_⟩
  refine attr_of hb (thn (he.run pins s σ H _ I h) fun u s1 hh => ?_)
  obtain ⟨x, H1, I1, rx, a, C, v, rfl, T, hno, xa, q⟩ := hh
  obtain rfl : u = Value.ref a := rx
  obtain ⟨ox, od, w', J, rw', hl⟩ := xa.inst I1
  exact HandSPX.exc_get I1.kIn J T.ga T.gt T.sb (findObj_own T.hd hno rfl hl) (handed_of rw') ⟨v, H1, I1.tok _, rw', q⟩
/-- repr of data without dicts, where no repr is under way -/
def rReprD (K : Frag) : List V → Hp → VK → Prop := fun xs H Q => ∃ (v : V) (d : PyData), xs = [v] ∧ Dp K H v d ∧ d.showable = true ∧ d.depth ≤ 60 ∧ d.shown.length ≤ sizeLine ∧ Q (.str d.shown) H
mutual
theorem dp_plain {K : Frag} {H : Hp} : ∀ (d : PyData) (v : V), Dp K H v d → d.hasDict = false
  | .none, _, _ => by simp only [PyData.hasDict]
  | .bool _, _, _ => by simp only [PyData.hasDict]
  | .int _, _, _ => by simp only [PyData.hasDict]
  | .str _, _, _ => by simp only [PyData.hasDict]
  | .list ds, _, h => by
    cases h with
    | lst hs ha => simpa only [PyData.hasDict] using dp_plainAll ds _ ha
  | .tuple ds, _, h => by
    cases h with
    | tup hs ha => simpa only [PyData.hasDict] using dp_plainAll ds _ ha
  | .dict _, _, h => by cases h
theorem dp_plainAll {K : Frag} {H : Hp} : ∀ (ds : List PyData) (vs : List V), DpAll K H vs ds → PyData.hasDictAll ds = false
  | [], _, _ => by simp only [PyData.hasDictAll]
  | d :: ds, _, h => by
    cases h with
    | cons h1 h2 => rw [PyData.hasDictAll, dp_plain d _ h1, dp_plainAll ds _ h2, Bool.or_false]
end
theorem call_reprD (hg : X.A.guards = some []) (hu : X.A.units + 100 < cLine) : CallR X (.builtin "repr") (rReprD X.K) := by
  intro pins s σ H xs us Q I r h
  obtain ⟨v, d, rfl, hd, sh, dp, sz, q⟩ := h
  obtain ⟨u, rfl, ru⟩ := vals1 r
  have nd := dp_plain d v hd
  obtain ⟨as, rd⟩ := Dp.reads I d v u hd ru
  cases hd with
  | non =>
    cases (show u = Value.none from ru)
    exact PySem.P.repr_of_none ⟨.str _, H, I.tok _, ⟨_, rfl⟩, q⟩
  | bl b =>
    cases (show u = Value.bool b from ru)
    exact PySem.P.repr_of_bool ⟨.str _, H, I.tok _, ⟨_, rfl⟩, q⟩
  | int i =>
    obtain ⟨t, rfl⟩ := (show ∃ t, u = Value.int i t from ru)
    exact PySem.P.repr_of_int (by simpa [PyData.showable] using sh) ⟨.str _, H, I.tok _, ⟨_, rfl⟩, q⟩
  | str x =>
    obtain ⟨t, rfl⟩ := (show ∃ t, u = Value.str x t from ru)
    exact PySem.P.repr_of_str ⟨.str _, H, I.tok _, ⟨_, rfl⟩, q⟩ sz
  | lst hs ha =>
    cases ru
    exact repr_of_reads' rd sh (PyData.noDict_hsm nd) hg (by omega) (fun _ _ e => e) (fun h' t tk kp => ⟨.str _, H, I.kept kp, ⟨_, rfl⟩, q⟩) sz
  | tup hs ha =>
    cases ru
    exact repr_of_reads' rd sh (PyData.noDict_hsm nd) hg (by omega) (fun _ _ e => e) (fun h' t tk kp => ⟨.str _, H, I.kept kp, ⟨_, rfl⟩, q⟩) sz
/-- repr of an empty dict too -/
def rReprQ (K : Frag) : List V → Hp → VK → Prop := fun xs H Q => rReprD K xs H Q ∨ ∃ a, xs = [.ref a] ∧ H a = some (.dK []) ∧ Q (.str "{}") H
theorem call_reprQ (hg : X.A.guards = some []) (hu : X.A.units + 100 < cLine) : CallR X (.builtin "repr") (rReprQ X.K) := by
  intro pins s σ H xs us Q I r h
  rcases h with h | ⟨a, rfl, ha, q⟩
  · exact call_reprD hg hu pins s σ H xs us Q I r h
  · obtain ⟨u, rfl, ru⟩ := vals1 r
    obtain rfl : u = Value.ref a := ru
    obtain ⟨_, hsys, vs, kv, hd⟩ := (show ObjOk X.prog X.w H s.heap a (.dK []) from I.hok a _ ha)
    cases kv
    obtain ⟨o, es, ep, h1, h2, h3, _, h4, _⟩ := hd
    have e0 : es.toList = [] := by
      cases e : es.toList with
      | nil => rfl
      | cons x r =>
        rw [e] at h4
        cases h4
    have rd : Reads s.heap (.ref a) (.dict []) (a :: [] ++ []) := by
      refine Reads.dict h1 h2.1 h3 ?_ ?_
      · rw [e0]
        exact ReadsAll.nil
      · rw [e0]
        exact ReadsAll.nil
    have ns : sysModules ∉ a :: [] ++ [] := fun z => by
      rcases List.mem_cons.mp z with y | y
      · rw [← y] at hsys
        simp at hsys
      · cases y
    exact repr_of_reads' rd (by simp [PyData.showable, PyData.showableKv]) (fun _ => ns) hg (by simp [PyData.depth, PyData.depthKv]; omega) (fun _ _ e => e) (fun h' t tk kp => ⟨.str _, H, I.kept kp, ⟨_, rfl⟩, q⟩) (by decide +kernel)
end
end XH
set_option Elab.async false
set_option linter.all false
set_option maxRecDepth 100000
set_option maxHeartbeats 4000000
namespace K01
open PySem L2 L2H DQ
def top (i : Nat) : Stmt := PySem.Challenge.pw_onlyjoins_k49_whole_rules_texts.main.body.getD i (.Pass ⟨0, 0, 0, 0⟩)
abbrev sJE : Stmt := top 2
abbrev sBR : Stmt := top 3
abbrev sBX : Stmt := top 4
abbrev sWord : Stmt := top 12
abbrev sMarks : Stmt := top 13
abbrev sTr : Stmt := top 14
abbrev sBo : Stmt := top 15
abbrev sShape : Stmt := top 16
abbrev sCount : Stmt := top 17
abbrev sNode : Stmt := top 18
abbrev sPair : Stmt := top 19
abbrev sCall : Stmt := top 20
abbrev sRules : Stmt := top 24
abbrev sRow : Stmt := top 25
abbrev sRTx : Stmt := top 29
abbrev sRRu : Stmt := top 30
abbrev sNT : Stmt := top 31
abbrev sNoT : Stmt := top 32
abbrev sToT : Stmt := top 33
abbrev sSeN : Stmt := top 34
abbrev sSeM : Stmt := top 35
abbrev sNB : Stmt := top 36
abbrev sBeg : Stmt := top 38
abbrev sNext : Stmt := top 39
abbrev sName : Stmt := top 40
abbrev sTree : Stmt := top 41
abbrev sBody : Stmt := top 42
abbrev sEas : Stmt := top 43
abbrev sLCL : Stmt := top 44
abbrev sTextOf : Stmt := top 45
abbrev sSmall : Stmt := top 46
abbrev sLNode : Stmt := top 47
abbrev sParts : Stmt := top 48
abbrev sRead : Stmt := top 49
abbrev sRNode : Stmt := top 50
abbrev sNear : Stmt := top 51
abbrev sTold : Stmt := top 52
abbrev sDue : Stmt := top 53
abbrev sLin : Stmt := top 54
abbrev sLaw : Stmt := top 55
def mkv (c l : Addr) (n : Int) : List (Key × V) := [(Sum.inr "cells", .ref c), (Sum.inr "left", .ref l), (Sum.inr "at", .int n)]
/-- the state of the draws at m: its cells, what is left, the counter -/
structure MAt (H : Hp) (m c l : Addr) (cs ls : List Int) (n : Int) : Prop where
  hm : H m = some (.dK (mkv c l n))
  hc : H c = some (.lst (cs.map V.int))
  hl : H l = some (.lst (ls.map V.int))
  ne : c ≠ l
  n0 : 0 ≤ n
  nb : n ≤ 1000000000
  cb : cs.length ≤ 63
  lb : ls.length ≤ 63
theorem MAt.mc {H : Hp} {m c l : Addr} {cs ls : List Int} {n : Int} (M : MAt H m c l cs ls n) : m ≠ c := ne_of M.hm M.hc (by intro z; cases z)
theorem MAt.ml {H : Hp} {m c l : Addr} {cs ls : List Int} {n : Int} (M : MAt H m c l cs ls n) : m ≠ l := ne_of M.hm M.hl (by intro z; cases z)
theorem MAt.same {H H' : Hp} {m c l : Addr} {cs ls : List Int} {n : Int} (M : MAt H m c l cs ls n) (s : Same H H') : MAt H' m c l cs ls n :=
  ⟨s _ _ M.hm, s _ _ M.hc, s _ _ M.hl, M.ne, M.n0, M.nb, M.cb, M.lb⟩
def spBeg (K : PySem.W.Frag) : Sp := fun vs H Q _ => ∃ (a : Addr) (ns : List Int), vs = [.ref a] ∧ SqL K H a (ns.map V.int) ∧ ns.length ≤ 63 ∧
  ∀ H' m c l cs ls, Same H H' → MAt H' m c l cs ls 0 → Q (.ref m) H'
structure TxtB (mg : Str → Option Value) : Prop where
  list : mg "list" = none
  int : mg "int" = none
  len : mg "len" = none
theorem kne1 : ¬ (("cells" : Str) = "left") := by decide +kernel
theorem kne2 : ¬ (("cells" : Str) = "at") := by decide +kernel
theorem kne3 : ¬ (("left" : Str) = "at") := by decide +kernel
theorem kne4 : ¬ (("left" : Str) = "cells") := by decide +kernel
theorem kne5 : ¬ (("at" : Str) = "cells") := by decide +kernel
theorem kne6 : ¬ (("at" : Str) = "left") := by decide +kernel
section
variable {P : Program} {w : World} {K : PySem.W.Frag} {mg : Str → Option Value} {base : Heap}
theorem scB : FnScope ["script", "cell"] ["script"] (defScope sBeg) := ⟨rfl, rfl, rfl, by decide +kernel, rfl, by decide +kernel, by decide +kernel⟩
theorem ok_beg {f : Addr} {fd : FuncData} (F : Fun K "_law_begun" "_law_begun" sBeg f fd) (T : TxtB mg) : FnOk P w K mg base CX0 1 f fd ["script"] (spBeg K) := by
  refine F.ok scB (fun vs H Q E h => ?_) (fun cdv A outer s H vs Q E hr h => ?_)
  · obtain ⟨a, ns, rfl, _⟩ := h
    rfl
  · obtain ⟨a, ns, rfl, hS, hlen, k⟩ := h
    refine ⟨_, pss_one (ps_ret (pe_disp (pps_cons pe_str (pe_callTy call_list_of (by rfl) T.list (by decide +kernel) (pa_cons (pv 0) pa_nil))
      (pps_cons pe_str (pe_lc (own := [("cell", 1)]) (g := gName 1) rfl scB.nd (pi_list (pv 0)) (blkOk_by (own := [("cell", 1)]) (N := ["script", "cell"]) (sc := defScope sBeg) (by decide +kernel))
        (fun _ _ _ _ _ => pg_name (i := 1) scB.nd rfl (Or.inl rfl)) (fun _ _ _ _ _ => pts_one (pt_cmpR op_ge (pv 1) (pe_op op_pow pe_int pe_int) (nomark _))) (fun _ _ _ _ _ => pv 1))
      (pps_cons pe_str pe_int pps_nil))) (by rfl) (by rfl) (fun z => by cases z) (by decide))), ?_⟩
    intro p hp
    refine ⟨_, rfl, a, _, rfl, .inl (same_new hp |>.seq hS), fun c hc => ?_⟩
    have s1 : Same H (upd (upd H p (.dK [])) c (.lst (ns.map V.int))) := same_trans (same_new hp) (same_new hc)
    have pc : p ≠ c := ne_of_none upd_same hc
    generalize hH1 : upd (upd H p (.dK [])) c (.lst (ns.map V.int)) = H1 at s1
    have h1p : H1 p = some (.dK []) := by rw [← hH1, upd_ne pc, upd_same]
    have h1c : H1 c = some (.lst (ns.map V.int)) := by rw [← hH1, upd_same]
    refine ⟨_, rfl, a, rfl, ⟨_, s1.seq hS⟩, fun l nl => ?_⟩
    refine lc_list (K := K) (a := a) (xs := ns.map V.int) (fun i H' => ∃ ls : List Int, ls.length ≤ i ∧ Same H1 H' ∧ H' l = some (.lst (ls.map V.int)))
      ⟨[], Nat.le_refl _, same_new nl, upd_same⟩ (fun i H' _ ⟨_, _, s2, _⟩ => s2.seq (s1.seq hS)) ?_ ?_
    · rintro i y H' hi ⟨ls, ll, s2, e2⟩
      obtain ⟨z, rfl⟩ : ∃ z, y = V.int z := by
        rw [List.getElem?_map] at hi
        cases e : ns[i]? with
        | none => rw [e] at hi; cases hi
        | some z => rw [e] at hi; exact ⟨z, (Option.some.inj hi).symm⟩
      have hil : i < (ns.map V.int).length := (List.getElem?_eq_some_iff.mp hi).1
      rw [List.length_map] at hil
      refine ⟨rfl, _, rfl, _, _, rfl, rfl, ⟨by decide, by decide, by decide⟩, _, _, rfl, rfl, _, rfl, ?_⟩
      refine ite2 (fun _ => ?_) (fun _ => ?_)
      · refine ⟨_, rfl, _, e2, small1000 (by rw [List.length_map]; omega), ls ++ [z], ?_, ?_, ?_⟩
        · rw [List.length_append]
          show ls.length + 1 ≤ i + 1
          omega
        · intro b o e
          rw [upd_ne (ne_of_none e nl)]
          exact s2 b o e
        · rw [upd_same, List.map_append]
          rfl
      · exact ⟨ls, by omega, s2, e2⟩
    · rintro H' ⟨ls, ll, s2, e2⟩
      rw [List.length_map] at ll
      refine ⟨s2 _ _ h1p, mkv c l 0, rfl, by show 3 ≤ 15; decide, ?_⟩
      have hm : mergeK [] (mkv c l 0) = mkv c l 0 := by
        simp [mkv, mergeK, putK, kne1, kne2, kne3]
      rw [hm]
      refine k _ p c l ns ls ?_ ⟨upd_same, ?_, ?_, ?_, by decide, by decide, hlen, by omega⟩
      · intro b o e
        rw [upd_ne (ne_of_none e hp)]
        exact s2 b o (s1 b o e)
      · rw [upd_ne pc.symm]
        exact s2 _ _ h1c
      · rw [upd_ne (ne_of_none h1p nl).symm]
        exact e2
      · exact ne_of_none h1c nl
end
theorem dp_ints {K : PySem.W.Frag} {H : Hp} : ∀ ns : List Int, DpAll K H (ns.map V.int) (ns.map PyData.int)
  | [] => .nil
  | n :: ns => .cons (.int n) (dp_ints ns)
theorem dp_list {K : PySem.W.Frag} {H : Hp} {a : Addr} {ns : List Int} (h : SqL K H a (ns.map V.int)) : Dp K H (.ref a) (.list (ns.map PyData.int)) := .lst h (dp_ints ns)
theorem dp_nil {K : PySem.W.Frag} {H : Hp} {a : Addr} (h : H a = some (.lst [])) : Dp K H (.ref a) (.list []) := .lst (SqL.of h) .nil
theorem shaped_ints (ns : List Int) : SeqAt.shaped (.list (ns.map PyData.int)) = true := by
  have h : ∀ l : List Int, PyData.canLayAll0 (l.map PyData.int) = true ∧ PyData.depthAll (l.map PyData.int) ≤ 1 := by
    intro l
    induction l with
    | nil => exact ⟨rfl, Nat.zero_le _⟩
    | cons a l ih =>
      refine ⟨by simp [PyData.canLayAll0, PyData.canLay0, ih.1], ?_⟩
      simp only [List.map_cons, PyData.depthAll, PyData.depth]
      have := ih.2
      omega
  have z := h ns
  refine Bool.and_eq_true_iff.mpr ⟨by simp only [PyData.canLay0]; exact z.1, decide_eq_true ?_⟩
  simp only [PyData.depth]
  exact Nat.le_trans (Nat.succ_le_succ z.2) (by decide)
theorem eqv_ints (ns : List Int) : (!PyData.eqv (.list (ns.map PyData.int)) (.list [])) = !ns.isEmpty := by
  cases ns <;> simp [PyData.eqv, PyData.eqvAll]
/-- all but two objects stand -/
structure But (H H' : Hp) (m l : Addr) : Prop where
  kp : ∀ b o, H b = some o → b ≠ m → b ≠ l → H' b = some o
  out : ∀ b, H' b = none → H b = none
theorem But.then {H H' H'' : Hp} {m l : Addr} (x : But H H' m l) (s : Same H' H'') : But H H'' m l :=
  ⟨fun b o e h1 h2 => s _ _ (x.kp b o e h1 h2), fun b h => x.out b (same_out s h)⟩
theorem But.at {H H' : Hp} {m l a : Addr} {o : HO} (x : But H H' m l) (h : a = m ∨ a = l ∨ H a = none) (n : H' a ≠ none) : But H (upd H' a o) m l := by
  refine ⟨fun b u e h1 h2 => ?_, fun b hb => ?_⟩
  · have na : b ≠ a := fun z => by
      rcases h with y | y | y
      · exact h1 (z.trans y)
      · exact h2 (z.trans y)
      · rw [z, y] at e; cases e
    rw [upd_ne na]
    exact x.kp b u e h1 h2
  · by_cases e : b = a
    · rw [e, upd_same] at hb
      cases hb
    · rw [upd_ne e] at hb
      exact x.out b hb
theorem But.refl {H : Hp} {m l : Addr} : But H H m l := ⟨fun _ _ e _ _ => e, fun _ e => e⟩
theorem val_c {c l : Addr} {n : Int} : valV (mkv c l n) (Sum.inr "cells") = some (.ref c) := by simp [mkv, valV]
theorem val_l {c l : Addr} {n : Int} : valV (mkv c l n) (Sum.inr "left") = some (.ref l) := by simp [mkv, valV, kne1]
theorem val_a {c l : Addr} {n : Int} : valV (mkv c l n) (Sum.inr "at") = some (.int n) := by simp [mkv, valV, kne2, kne3]
theorem put_l {c l l' : Addr} {n : Int} : putK (mkv c l n) (Sum.inr "left") (.ref l') = mkv c l' n := by simp [mkv, putK, kne1, kne6]
theorem put_a {c l : Addr} {n n' : Int} : putK (mkv c l n) (Sum.inr "at") (.int n') = mkv c l n' := by simp [mkv, putK, kne2, kne3]
theorem MAt.getL {H : Hp} {m c l : Addr} {cs ls : List Int} {n : Int} (M : MAt H m c l cs ls n) : DGet H m (.str "left") (some (.ref l)) := by
  have z := DGet.k (k := Sum.inr "left") M.hm
  rw [val_l] at z
  exact z
theorem MAt.getC {H : Hp} {m c l : Addr} {cs ls : List Int} {n : Int} (M : MAt H m c l cs ls n) : DGet H m (.str "cells") (some (.ref c)) := by
  have z := DGet.k (k := Sum.inr "cells") M.hm
  rw [val_c] at z
  exact z
theorem MAt.getA {H : Hp} {m c l : Addr} {cs ls : List Int} {n : Int} (M : MAt H m c l cs ls n) : DGet H m (.str "at") (some (.int n)) := by
  have z := DGet.k (k := Sum.inr "at") M.hm
  rw [val_a] at z
  exact z
theorem MAt.putL {H : Hp} {m c l l' : Addr} {cs ls ls' : List Int} {n : Int} (M : MAt H m c l cs ls n) (e : H l' = some (.lst (ls'.map V.int))) (ne : c ≠ l') (nb : ls'.length ≤ 63) :
    DPut H m (.str "left") (.ref l') (upd H m (.dK (mkv c l' n))) ∧ MAt (upd H m (.dK (mkv c l' n))) m c l' cs ls' n := by
  constructor
  · have z := DPut.k (k := Sum.inr "left") (v := .ref l') M.hm (by show 3 < sizeLine; decide)
    rw [put_l] at z
    exact z
  · have n1 : c ≠ m := M.mc.symm
    have n2 : l' ≠ m := ne_of e M.hm (by intro z; cases z)
    exact ⟨upd_same, by rw [upd_ne n1]; exact M.hc, by rw [upd_ne n2]; exact e, ne, M.n0, M.nb, M.cb, nb⟩
theorem MAt.putA {H : Hp} {m c l : Addr} {cs ls : List Int} {n n' : Int} (M : MAt H m c l cs ls n) (h0 : 0 ≤ n') (hb : n' ≤ 1000000000) :
    DPut H m (.str "at") (.int n') (upd H m (.dK (mkv c l n'))) ∧ MAt (upd H m (.dK (mkv c l n'))) m c l cs ls n' := by
  constructor
  · have z := DPut.k (k := Sum.inr "at") (v := .int n') M.hm (by show 3 < sizeLine; decide)
    rw [put_a] at z
    exact z
  · exact ⟨upd_same, by rw [upd_ne M.mc.symm]; exact M.hc, by rw [upd_ne M.ml.symm]; exact M.hl, M.ne, h0, hb, M.cb, M.lb⟩
def leftLen (H : Hp) (m : Addr) : Nat :=
  match H m with
  | some (.dK (_ :: (_, .ref l) :: _)) => (match H l with | some (.lst xs) => xs.length | _ => 0)
  | _ => 0
theorem MAt.len {H : Hp} {m c l : Addr} {cs ls : List Int} {n : Int} (M : MAt H m c l cs ls n) : leftLen H m = ls.length := by
  simp [leftLen, M.hm, mkv, M.hl]
theorem cut_one (x : V) (xs : List V) : cutV (x :: xs) (some 1) none = xs := by
  have e : HT.sIx (x :: xs).length 0 (some ((1 : Nat) : Int)) = 1 := by
    rw [HT.sIx_nat, List.length_cons]
    omega
  have e' : HT.sIx (x :: xs).length 0 (some 1) = 1 := e
  unfold cutV
  rw [e', HT.sIx_none, List.drop_succ_cons, List.drop_zero, List.length_cons]
  exact List.take_of_length_le (by omega)
theorem at_some {ns : List Int} {j : Int} (h0 : 0 ≤ j) (h1 : j < (ns.length : Int)) : ∃ y, atI (ns.map V.int) j = some (V.int y) := by
  have hj : j.toNat < ns.length := by omega
  refine ⟨ns[j.toNat], ?_⟩
  have z := atI_nat (xs := ns.map V.int) (j := j.toNat) (v := V.int ns[j.toNat]) (by rw [List.getElem?_map, List.getElem?_eq_getElem hj]; rfl)
  rw [Int.toNat_of_nonneg h0] at z
  exact z
theorem while_two {c : TT} {tb : TS} {D : Ends} {σ : L2.St} {H : Hp} (Pv : L2.St → Hp → Prop) (μ : L2.St → Hp → Nat) (h0 : Pv σ H) (exit : ∀ σ H, Pv σ H → D.nx σ H)
    (mono : ∀ σ H Q Q', (∀ b H1, Q b H1 → Q' b H1) → c σ H Q → c σ H Q')
    (hs : ∀ σ H, Pv σ H → c σ H fun b H1 => if b = true then tb { D with nx := fun σ' H' => Pv σ' H' ∧ μ σ' H' < μ σ H, ct := fun σ' H' => Pv σ' H' ∧ μ σ' H' < μ σ H, bk := D.nx } σ H1 else Pv σ H1) : tWhile c tb D σ H :=
  while_by Pv μ h0 (fun σ H p => mono _ _ _ _ (fun b H1 q => by
    cases b with
    | true => exact q
    | false => exact exit _ _ q) (hs σ H p)) mono
/-- _law_next: a number below many; the state again -/
def spNext : Sp := fun vs H Q _ => ∃ (m c l : Addr) (many : Int) (cs ls : List Int) (n : Int), vs = [.ref m, .int many] ∧ MAt H m c l cs ls n ∧ 0 < many ∧ many < 1000000 ∧ n + 1 ≤ 1000000000 ∧
  ∀ r H' l' ls' n', 0 ≤ r → r < many → MAt H' m c l' cs ls' n' → n' ≤ n + 1 → But H H' m l → (l' = l ∨ H l' = none) → Q (.int r) H'
section
variable {P : Program} {w : World} {K : PySem.W.Frag} {mg : Str → Option Value} {base : Heap}
theorem scN : FnScope ["m", "many", "rest", "at", "bits", "cell", "blend"] ["m", "many"] (defScope sNext) := ⟨rfl, rfl, rfl, by decide +kernel, rfl, by decide +kernel, by decide +kernel⟩
theorem ok_next {f : Addr} {fd : FuncData} (F : Fun K "_law_next" "_law_next" sNext f fd) (T : TxtB mg) : FnOk P w K mg base CX0 1 f fd ["m", "many"] spNext := by
  refine F.ok scN (fun vs H Q E h => ?_) (fun cdv A outer s H vs Q E hr h => ?_)
  · obtain ⟨m, c, l, many, cs, ls, n, rfl, _⟩ := h
    rfl
  · obtain ⟨m, c, l, many, cs, ls, n, rfl, M, q0, q1, qn, k⟩ := h
    have hu := hu_of hr
    have hu2 : (A.deeper (PyProof.Rows.envOfC "_law_next" (defScope sNext) s.heap.objs.size f cdv)).units + 64 < cLine := by have := hr.un; omega
    have bi : bootBuiltins ("int" : Str) = some (.type "int") := by decide +kernel
    refine ⟨_, pss_cons (ps_while PassesOwn.never (PW.pt (pw_and (pt_cmpR (op_neD hu2) (pe_dget hu (pv 0) pe_str (fun _ _ => rfl)) (pe_lst pa_nil) (nomark _))
        (pw_and1 (pt_cmpR op_eq (pe_ix ix_list (pe_dget hu (pv 0) pe_str (fun _ _ => rfl)) pe_int (fun _ _ => rfl)) pe_int (nomark _)))))
        (pss_one (ps_dput hu (pv 0) pe_str (pe_slice sl_list (pe_dget hu (pv 0) pe_str (fun _ _ => rfl)) (po_some pe_int) po_none) rfl)))
      (pss_cons (ps_if (pt_cmpR (op_neD hu2) (pe_dget hu (pv 0) pe_str (fun _ _ => rfl)) (pe_lst pa_nil) (nomark _))
        (pss_cons (ps_set (i := 2) scN.nd rfl (Or.inl rfl) (pe_ix ix_list (pe_dget hu (pv 0) pe_str (fun _ _ => rfl)) pe_int (fun _ _ => rfl)))
          (pss_cons (ps_asg (pe_op op_fdivN (pv 2) (pv 1)) (pg_sub (pe_dget hu (pv 0) pe_str (fun _ _ => rfl)) pe_int set_list))
          (pss_one (ps_ret (pe_op op_modN (pe_callTy call_int1 (by rfl) T.int bi (pa_cons (pv 2) pa_nil)) (pv 1)))))) pss_nil)
      (pss_cons (ps_par rfl scN.nd (i := 3) (j := 4) rfl rfl (by decide) rfl rfl (pa_cons (pe_op op_add (pe_dget hu (pv 0) pe_str (fun _ _ => rfl)) pe_int) (pa_cons (pe_dget hu (pv 0) pe_str (fun _ _ => rfl)) pa_nil)) rfl)
      (pss_cons (ps_dput hu (pv 0) pe_str (pv 3) rfl)
      (pss_cons (ps_set (i := 5) scN.nd rfl (Or.inl rfl) (pe_ifExp (pt_cmpR (op_neD hu2) (pv 4) (pe_lst pa_nil) (nomark _))
        (pe_callTy call_int1 (by rfl) T.int bi (pa_cons (pe_ix ix_list (pv 4) (pe_op op_modN (pe_callTy call_int1 (by rfl) T.int bi (pa_cons (pe_op op_add (pe_op op_mul (pv 3) (pv 3)) (pe_op op_fdivN (pv 3) pe_int)) pa_nil))
          (pe_callB call_len_seq (by rfl) T.len PySem.boot_len (pa_cons (pv 4) pa_nil))) (fun _ _ => rfl)) pa_nil)) pe_int))
      (pss_cons (ps_set (i := 6) scN.nd rfl (Or.inl rfl) (pe_op op_modN (pe_callTy call_int1 (by rfl) T.int bi (pa_cons (pe_op op_add (pe_op op_add (pe_op op_mul (pv 5) pe_int) (pe_op op_mul (pv 3) pe_int)) (pe_op op_mul (pe_op op_mul pe_int (pv 3)) (pv 3))) pa_nil)) pe_int))
      (pss_one (ps_ret (pe_op op_modN (pe_callTy call_int1 (by rfl) T.int bi (pa_cons (pe_op op_fdivN (pe_op op_modN (pe_callTy call_int1 (by rfl) T.int bi (pa_cons (pe_op op_add (pe_op op_mul (pv 6) pe_int) (pe_op op_mul pe_int (pv 3))) pa_nil)) pe_int) pe_int) pa_nil)) (pv 1))))))))), ?_⟩
    refine while_two (fun σ' H' => ∃ l' ls', σ' = [some (V.ref m), some (V.int many), none, none, none, none, none] ∧ MAt H' m c l' cs ls' n ∧ But H H' m l ∧ (l' = l ∨ H l' = none)) (fun _ H' => leftLen H' m)
      ⟨l, ls, rfl, M, .refl, .inl rfl⟩ ?_ ?_ ?_
    · rintro σ' H' ⟨l', ls', rfl, M', bt, hl'⟩
      -- behind the loop
      refine ⟨_, rfl, m, _, rfl, M'.getL, by decide, fun p hp => ⟨_, _, dp_list (SqL.of (same_new hp _ _ M'.hl)), dp_nil upd_same, shaped_ints _, shaped_ints [], _, rfl, ?_⟩⟩
      have M1 := M'.same (same_new (o := .lst []) hp)
      have b1 := bt.then (same_new (o := .lst []) hp)
      generalize hG : upd H' p (HO.lst []) = G at M1 b1
      rw [eqv_ints]
      cases ls' with
      | cons z ls' =>
        refine iteT ⟨_, rfl, m, _, rfl, M1.getL, l', _, 0, .int z, rfl, rfl, SqL.of M1.hl, atI_nat (j := 0) rfl, ?_⟩
        refine ⟨_, rfl, _, rfl, _, _, rfl, rfl, ⟨by omega, by omega⟩, _, rfl, m, _, rfl, M1.getL, l', _, 0, 0, rfl, rfl, M1.hl, ?_, ?_⟩
        · unfold ixN
          rw [if_pos (by omega), List.length_map, List.length_cons]
          rw [if_pos (by omega)]
          rfl
        · refine ⟨_, rfl, .inl ⟨_, rfl, _, rfl, _, _, rfl, rfl, by omega, ?_⟩⟩
          have nl : G l' ≠ none := by rw [M1.hl]; simp
          have e1 : c ≠ l' := M1.ne
          have e2 : m ≠ l' := M1.ml
          refine k _ _ l' (z.fdiv many :: ls') n (Int.fmod_nonneg_of_pos _ q0) (Int.fmod_lt_of_pos _ q0) ⟨by rw [upd_ne e2]; exact M1.hm, by rw [upd_ne e1]; exact M1.hc, upd_same, e1, M1.n0, M1.nb, M1.cb, M1.lb⟩ (by omega) (b1.at (.inr hl') nl) hl'
      | nil =>
        refine iteF ⟨_, rfl, m, _, rfl, M1.getA, _, _, rfl, rfl, _, rfl, m, _, rfl, M1.getC, _, _, rfl, ?_⟩
        obtain ⟨dp, M2⟩ := M1.putA (n' := n + 1) (by have := M.n0; omega) qn
        have b2 := b1.at (o := .dK (mkv c l' (n + 1))) (.inl rfl) (by rw [M1.hm]; simp)
        refine ⟨_, rfl, _, rfl, m, _, rfl, dp, ?_⟩
        generalize hG2 : upd G m (HO.dK (mkv c l' (n + 1))) = G2 at M2 b2
        -- cell
        refine ⟨_, rfl, by decide, fun t ht => ⟨_, _, dp_list (SqL.of (same_new ht _ _ M2.hc)), dp_nil upd_same, shaped_ints _, shaped_ints [], _, rfl, ?_⟩⟩
        have M3 := M2.same (same_new (o := .lst []) ht)
        have b3 := b2.then (same_new (o := .lst []) ht)
        generalize hG3 : upd G2 t (HO.lst []) = G3 at M3 b3
        rw [eqv_ints]
        have big1 : -(2 ^ 64) < n + 1 := by have := M.n0; omega
        have big2 : n + 1 < 2 ^ 64 := by omega
        cases cs with
        | nil =>
          refine iteF ?_
          refine ⟨_, rfl, _, _, rfl, rfl, .inr ⟨by decide, by decide⟩, _, rfl, _, _, rfl, rfl, .inr ⟨by decide, by decide⟩, _, _, rfl, rfl, _, rfl, _, _, rfl, rfl, .inl ⟨by decide, by decide⟩, _, rfl, _, _, rfl, rfl, .inr ⟨big1, big2⟩, _, _, rfl, rfl, .inl ⟨_, rfl, _, _, rfl, rfl, (by show (2147483399 : Int) ≠ 0; decide), ?_⟩⟩
          refine ⟨_, rfl, _, _, rfl, rfl, .inr ⟨by decide, by decide⟩, _, rfl, _, _, rfl, rfl, .inl ⟨by decide, by decide⟩, _, _, rfl, rfl, .inl ⟨_, rfl, _, _, rfl, rfl, (by show (2147483647 : Int) ≠ 0; decide), _, _, rfl, rfl, ⟨by decide, by decide⟩, .inl ⟨_, rfl, _, rfl, _, _, rfl, rfl, by omega, ?_⟩⟩⟩
          exact k _ _ l' [] (n + 1) (Int.fmod_nonneg_of_pos _ q0) (Int.fmod_lt_of_pos _ q0) M3 (Int.le_refl _) b3 hl'
        | cons x cs =>
          have hl0 : (0 : Int) < ((x :: cs).length : Int) := by rw [List.length_cons]; omega
          obtain ⟨y, hy⟩ := at_some (ns := x :: cs) (j := ((n + 1) * (n + 1) + (n + 1).fdiv 2).fmod ((x :: cs).length : Int)) (Int.fmod_nonneg_of_pos _ hl0) (Int.fmod_lt_of_pos _ hl0)
          refine iteT ?_
          refine ⟨_, rfl, _, rfl, _, rfl, _, _, rfl, rfl, .inl ⟨big1, big2⟩, _, rfl, _, _, rfl, rfl, ⟨by decide, by decide⟩, _, _, rfl, rfl, .inl ⟨_, rfl, ?_⟩⟩
          refine ⟨_, rfl, c, _, rfl, .inl (SqL.of M3.hc), _, _, rfl, rfl, by rw [List.length_map]; omega, c, _, _, .int y, rfl, rfl, SqL.of M3.hc, by rw [List.length_map]; exact hy, .inl ⟨_, rfl, ?_⟩⟩
          refine ⟨_, rfl, _, _, rfl, rfl, .inr ⟨by decide, by decide⟩, _, rfl, _, _, rfl, rfl, .inr ⟨by decide, by decide⟩, _, _, rfl, rfl, _, rfl, _, _, rfl, rfl, .inl ⟨by decide, by decide⟩, _, rfl, _, _, rfl, rfl, .inr ⟨big1, big2⟩, _, _, rfl, rfl, .inl ⟨_, rfl, _, _, rfl, rfl, (by show (2147483399 : Int) ≠ 0; decide), ?_⟩⟩
          refine ⟨_, rfl, _, _, rfl, rfl, .inr ⟨by decide, by decide⟩, _, rfl, _, _, rfl, rfl, .inl ⟨by decide, by decide⟩, _, _, rfl, rfl, .inl ⟨_, rfl, _, _, rfl, rfl, (by show (2147483647 : Int) ≠ 0; decide), _, _, rfl, rfl, ⟨by decide, by decide⟩, .inl ⟨_, rfl, _, rfl, _, _, rfl, rfl, by omega, ?_⟩⟩⟩
          exact k _ _ l' [] (n + 1) (Int.fmod_nonneg_of_pos _ q0) (Int.fmod_lt_of_pos _ q0) M3 (Int.le_refl _) b3 hl'
    · intro σ' H' Q1 Q2 hq h
      obtain ⟨v, e1, a, u, e2, e3, e4, h⟩ := h
      refine ⟨v, e1, a, u, e2, e3, e4, fun p hp => ?_⟩
      obtain ⟨d, e, d1, d2, d3, d4, b, e5, h⟩ := h p hp
      refine ⟨d, e, d1, d2, d3, d4, b, e5, ?_⟩
      cases b with
      | false => exact hq _ _ h
      | true =>
        obtain ⟨v, e1, a, u, e2, e3, p2, xs, i, z, f1, f2, f3, f4, f5, k2, e6, h⟩ := h
        exact ⟨v, e1, a, u, e2, e3, p2, xs, i, z, f1, f2, f3, f4, f5, k2, e6, hq _ _ h⟩
    · rintro σ' H' ⟨l', ls', rfl, M', bt, hl'⟩
      refine ⟨_, rfl, m, _, rfl, M'.getL, by decide, fun p hp => ⟨_, _, dp_list (SqL.of (same_new hp _ _ M'.hl)), dp_nil upd_same, shaped_ints _, shaped_ints [], _, rfl, ?_⟩⟩
      have M1 := M'.same (same_new (o := .lst []) hp)
      rw [eqv_ints]
      cases ls' with
      | nil =>
        refine iteF (iteF ⟨l', [], rfl, M1, bt.then (same_new hp), hl'⟩)
      | cons z ls' =>
        refine iteT ⟨_, rfl, m, _, rfl, M1.getL, l', _, 0, .int z, rfl, rfl, SqL.of M1.hl, atI_nat (j := 0) rfl, rfl, _, rfl, ?_⟩
        refine ite2 (fun hz => ?_) (fun hz => ?_)
        · refine ⟨_, rfl, m, _, rfl, M1.getL, 1, rfl, l', _, rfl, SqL.of M1.hl, fun t ht => ?_⟩
          rw [List.map_cons, cut_one]
          have M2 := M1.same (same_new (o := .lst (ls'.map V.int)) ht)
          have ct : c ≠ t := ne_of_none M1.hc ht
          have nb2 : ls'.length ≤ 63 := Nat.le_trans (Nat.le_succ _) M1.lb
          obtain ⟨dp, M3⟩ := M2.putL (l' := t) (ls' := ls') upd_same ct nb2
          have b1 := bt.then (same_new (o := .lst []) hp)
          refine ⟨_, rfl, m, _, rfl, dp, ⟨t, ls', rfl, M3, (b1.then (same_new ht)).at (.inl rfl) (by rw [M2.hm]; simp), .inr (b1.out t ht)⟩, ?_⟩
          show leftLen _ m < leftLen H' m
          rw [M3.len, M'.len]
          exact Nat.lt_succ_self _
        · exact ⟨l', z :: ls', rfl, M1, bt.then (same_new hp), hl'⟩
end
end K01
set_option Elab.async false
set_option linter.all false
set_option maxRecDepth 100000
set_option maxHeartbeats 4000000
namespace K01
open PySem L2 L2H DQ
/-! the program's own defs, as functions of data -/
def low (c : Nat) : Bool := decide (97 ≤ c) && decide (c ≤ 122)
def wordS (x : Str) : Bool := decide (1 ≤ x.length) && (decide (x.length ≤ 8) && x.cps.toList.all low)
def isWord : PyData → Bool | .str x => wordS x | _ => false
theorem lt_one (a b : Nat) : ([a] : List Nat) < [b] ↔ a < b := by
  constructor
  · intro h
    cases h with
    | rel h => exact h
    | cons h => cases h
  · intro h
    exact List.Lex.rel h
theorem le_a (c : Nat) : (!decide ((⟨#[c]⟩ : Str).cps.toList < ("a" : Str).cps.toList)) = decide (97 ≤ c) := by
  have e : ("a" : Str).cps.toList = [97] := by decide +kernel
  rw [e]
  show (!decide ([c] < [97])) = _
  rw [← decide_not]
  exact decide_eq_decide.mpr (by rw [lt_one]; omega)
theorem le_z (c : Nat) : (!decide (("z" : Str).cps.toList < (⟨#[c]⟩ : Str).cps.toList)) = decide (c ≤ 122) := by
  have e : ("z" : Str).cps.toList = [122] := by decide +kernel
  rw [e]
  show (!decide ([122] < [c])) = _
  rw [← decide_not]
  exact decide_eq_decide.mpr (by rw [lt_one]; omega)
structure TP (mg : Str → Option Value) : Prop where
  isi : mg "isinstance" = none
  str : mg "str" = none
  tuple : mg "tuple" = none
  len : mg "len" = none
  all : mg "all" = none
  zip : mg "zip" = none
  w8 : ∃ t, mg "LONGEST_WORD" = some (.int 8 t)
  m3 : ∃ t, mg "MOST_MARKS" = some (.int 3 t)
  b3 : ∃ t, mg "MOST_BRANCHES" = some (.int 3 t)
  n6 : ∃ t, mg "MOST_NODES" = some (.int 6 t)
  l3 : ∃ t, mg "MOST_LEVEL" = some (.int 3 t)
  ca : ∃ t, mg "CALL" = some (.str "call" t)
/-- a def of one argument that tells a truth of its data -/
def spB (φ : PyData → Bool) : Sp := fun vs H Q _ => ∃ (v : V) (d : PyData), vs = [v] ∧ Dq H v d ∧ ∀ H', Same H H' → Q (.bl (φ d)) H'
theorem bisi : bootBuiltins ("isinstance" : Str) = some (.builtin "isinstance") := by decide +kernel
theorem bstr : bootBuiltins ("str" : Str) = some (.type "str") := by decide +kernel
theorem btup : bootBuiltins ("tuple" : Str) = some (.type "tuple") := by decide +kernel
theorem ball : bootBuiltins ("all" : Str) = some (.builtin "all") := by decide +kernel
section
variable {P : Program} {w : World} {K : PySem.W.Frag} {mg : Str → Option Value} {base : Heap}
theorem scW : FnScope ["thing", "letter"] ["thing"] (defScope sWord) := ⟨rfl, rfl, rfl, by decide +kernel, rfl, by decide +kernel, by decide +kernel⟩
theorem ok_word {f : Addr} {fd : FuncData} (F : Fun K "is_word" "is_word" sWord f fd) (T : TP mg) : FnOk P w K mg base CX0 1 f fd ["thing"] (spB isWord) := by
  refine F.ok scW (fun vs H Q E h => ?_) (fun cdv A outer s H vs Q E hr h => ?_)
  · obtain ⟨v, d, rfl, _⟩ := h
    rfl
  · obtain ⟨v, d, rfl, hd, k⟩ := h
    obtain ⟨t8, g8⟩ := T.w8
    refine ⟨_, pss_cons (ps_if (PW.pt (pw_or (pt_not (pt_val (pe_callB call_isi (by rfl) T.isi bisi (pa_cons (pv 0) (pa_cons (pe_bltn (v := .ty "str") (by rfl) T.str bstr rfl) pa_nil)))))
        (pw_or1 (pt_not (pt_chain op_le op_le pe_int (pe_callB call_len_str (by rfl) T.len PySem.boot_len (pa_cons (pv 0) pa_nil)) (pe_glob (v := .int 8) (by rfl) g8 ⟨_, rfl⟩)))))) (pss_one (ps_ret pe_bl)) pss_nil)
      (pss_one (ps_ret (pe_callB (cr_all rfl) (by rfl) T.all ball (pa_cons (pe_lc (own := [("letter", 1)]) (g := gName 1) (tt := tYes) rfl scW.nd (pi_str (pv 0)) (blkOk_by (own := [("letter", 1)]) (N := ["thing", "letter"]) (sc := defScope sWord) (by decide +kernel))
        (fun _ _ _ _ _ => pg_name (i := 1) scW.nd rfl (Or.inl rfl)) (fun _ _ _ _ _ => pts_nil) (fun _ _ _ _ _ => pe_chain op_le_str op_le_str pe_str (pv 1) pe_str)) pa_nil)))), ?_⟩
    refine ⟨_, rfl, _, .ty "str", _, _, _, rfl, .ty _, hd.ty, kit_ty (ks d), _, rfl, ?_⟩
    cases hd with
    | str x hx =>
      refine iteF ⟨_, rfl, x, rfl, hx.1, _, _, rfl, rfl, _, rfl, ?_⟩
      by_cases h1 : 1 ≤ x.length
      · have e1 : decide ((1 : Int) ≤ (x.length : Int)) = true := decide_eq_true (by omega)
        rw [e1]
        refine iteT ⟨_, _, rfl, rfl, _, rfl, ?_⟩
        by_cases h8 : x.length ≤ 8
        · have e8 : decide ((x.length : Int) ≤ 8) = true := decide_eq_true (by omega)
          rw [e8]
          refine iteF ⟨_, rfl, x, rfl, fun D nD => ?_⟩
          refine lc_it walk_str (fun i H' => Same H H' ∧ H' D = some (.lst (((x.cps.toList.take i).map low).map V.bl))) ⟨same_new nD, upd_same⟩ (fun _ _ _ _ => trivial) ?_ ?_
          · rintro i y H1 H2 hi ⟨s1, e⟩ ⟨rfl, c, hc, rfl⟩
            refine ⟨rfl, ?_⟩
            unfold tYes
            try dsimp only
            rw [if_pos rfl]
            have hl : (((x.cps.toList.take i).map low).map V.bl).length < sizeLine := by
              rw [List.length_map, List.length_map, List.length_take]
              exact Nat.lt_of_le_of_lt (Nat.min_le_left _ _) (Nat.lt_of_lt_of_le hi hx.1)
            have tk : x.cps.toList.take (i + 1) = x.cps.toList.take i ++ [c] := by
              have hc' : x.cps.toList[i]? = some c := by rw [Array.getElem?_toList]; exact hc
              rw [List.take_add_one, hc']
              rfl
            refine ⟨_, rfl, _, _, rfl, rfl, _, rfl, ?_⟩
            rw [le_a]
            by_cases ha : 97 ≤ c
            · rw [decide_eq_true ha]
              refine iteT ⟨_, _, rfl, rfl, _, e, hl, fun b o z => ?_, ?_⟩
              · rw [upd_ne (ne_of_none z nD)]
                exact s1 b o z
              · rw [upd_same, tk, List.map_append, List.map_append, le_z]
                simp [low, ha]
            · rw [decide_eq_false ha]
              refine iteF ⟨_, e, hl, fun b o z => ?_, ?_⟩
              · rw [upd_ne (ne_of_none z nD)]
                exact s1 b o z
              · rw [upd_same, tk, List.map_append, List.map_append]
                simp [low, ha]
          · rintro H1 ⟨s1, e⟩
            have tk : x.cps.toList.take x.cps.size = x.cps.toList := List.take_of_length_le (by simp)
            rw [tk] at e
            refine ⟨_, _, rfl, SqL.of e, ?_⟩
            have z := k H1 s1
            have y : isWord (.str x) = (x.cps.toList.map low).all id := by
              show (decide (1 ≤ x.length) && (decide (x.length ≤ 8) && x.cps.toList.all low)) = _
              rw [decide_eq_true h1, decide_eq_true h8, List.all_map]
              rfl
            rw [y] at z
            exact z
        · have e8 : decide ((x.length : Int) ≤ 8) = false := decide_eq_false (by omega)
          rw [e8]
          have z := k H same_refl
          have y : isWord (.str x) = false := by
            show (decide (1 ≤ x.length) && (decide (x.length ≤ 8) && _)) = _
            rw [decide_eq_false h8, Bool.false_and, Bool.and_false]
          rw [y] at z
          exact iteT z
      · have e1 : decide ((1 : Int) ≤ (x.length : Int)) = false := decide_eq_false (by omega)
        rw [e1]
        have z := k H same_refl
        have y : isWord (.str x) = false := by
          show (decide (1 ≤ x.length) && _) = _
          rw [decide_eq_false h1, Bool.false_and]
        rw [y] at z
        exact iteF ⟨_, rfl, iteT z⟩
    | _ => exact iteT (k H same_refl)
end
end K01
set_option Elab.async false
set_option linter.all false
set_option maxRecDepth 100000
set_option maxHeartbeats 4000000
namespace K01
open PySem L2 L2H DQ RZ
def isPair : PyData → Bool | .tuple ds => decide (ds.length = 2) | _ => false
def isCallS : Option PyData → Bool | some (.str x) => decide (V.str x = V.str "call") | _ => false
def isCall : PyData → Bool | .tuple ds => decide (ds.length = 3) && isCallS ds[2]? | _ => false
def ltD : PyData → PyData → Bool | .str x, .str y => decide (x.cps.toList < y.cps.toList) | _, _ => false
def areMarks : PyData → Bool | .tuple ds => decide (ds.length ≤ 3) && (ds.all isWord && (ds.zip ds.tail).all fun p => ltD p.1 p.2) | _ => false
theorem vint {n m : Nat} : n = m ↔ V.int (n : Int) = V.int (m : Int) := ⟨fun e => by rw [e], fun e => Int.ofNat.inj (V.int.inj e)⟩
section
variable {P : Program} {w : World} {K : PySem.W.Frag} {mg : Str → Option Value} {base : Heap}
theorem scP : FnScope ["thing"] ["thing"] (defScope sPair) := ⟨rfl, rfl, rfl, by decide +kernel, rfl, by decide +kernel, by decide +kernel⟩
theorem ok_pair {f : Addr} {fd : FuncData} (F : Fun K "_is_pair" "_is_pair" sPair f fd) (T : TP mg) : FnOk P w K mg base CX0 1 f fd ["thing"] (spB isPair) := by
  refine F.ok scP (fun vs H Q E h => ?_) (fun cdv A outer s H vs Q E hr h => ?_)
  · obtain ⟨v, d, rfl, _⟩ := h
    rfl
  · obtain ⟨v, d, rfl, hd, k⟩ := h
    refine ⟨_, pss_one (ps_ret (pe_and (pe_callB call_isi (by rfl) T.isi bisi (pa_cons (pv 0) (pa_cons (pe_bltn (v := .ty "tuple") (by rfl) T.tuple btup rfl) pa_nil))) (pe_one (pe_cmpR op_eq (pe_callB call_len_seq (by rfl) T.len PySem.boot_len (pa_cons (pv 0) pa_nil)) pe_int (nomark _))))), ?_⟩
    refine ⟨_, rfl, _, .ty "tuple", _, _, _, rfl, .ty _, hd.ty, kit_ty (kt _), _, rfl, ?_⟩
    cases hd with
    | @tup ad xs ds e a =>
      refine iteT ⟨_, rfl, _, _, rfl, .inr (SqT.of e), rfl, ?_⟩
      have z := k H same_refl
      have y : isPair (.tuple ds) = decide (V.int (xs.length : Nat) = V.int 2) := decide_eq_decide.mpr (by rw [← a.len]; exact vint)
      rw [y] at z
      exact z
    | _ => exact iteF (k H same_refl)
theorem scC : FnScope ["thing"] ["thing"] (defScope sCall) := ⟨rfl, rfl, rfl, by decide +kernel, rfl, by decide +kernel, by decide +kernel⟩
theorem ok_call {f : Addr} {fd : FuncData} (F : Fun K "_is_call" "_is_call" sCall f fd) (T : TP mg) : FnOk P w K mg base CX0 1 f fd ["thing"] (spB isCall) := by
  refine F.ok scC (fun vs H Q E h => ?_) (fun cdv A outer s H vs Q E hr h => ?_)
  · obtain ⟨v, d, rfl, _⟩ := h
    rfl
  · obtain ⟨v, d, rfl, hd, k⟩ := h
    obtain ⟨tc, gc⟩ := T.ca
    refine ⟨_, pss_one (ps_ret (pe_and (pe_callB call_isi (by rfl) T.isi bisi (pa_cons (pv 0) (pa_cons (pe_bltn (v := .ty "tuple") (by rfl) T.tuple btup rfl) pa_nil))) (pe_and (pe_cmpR op_eq (pe_callB call_len_seq (by rfl) T.len PySem.boot_len (pa_cons (pv 0) pa_nil)) pe_int (nomark _))
      (pe_and (pe_callB call_isi (by rfl) T.isi bisi (pa_cons (pe_ix ix_tup (pv 0) pe_int (fun _ _ => rfl)) (pa_cons (pe_bltn (v := .ty "str") (by rfl) T.str bstr rfl) pa_nil))) (pe_one (pe_cmpR op_eq (pe_ix ix_tup (pv 0) pe_int (fun _ _ => rfl)) (pe_glob (v := .str "call") (by rfl) gc ⟨_, rfl⟩) (nomark _))))))), ?_⟩
    refine ⟨_, rfl, _, .ty "tuple", _, _, _, rfl, .ty _, hd.ty, kit_ty (kt _), _, rfl, ?_⟩
    cases hd with
    | @tup ad xs ds e a =>
      refine iteT ⟨_, rfl, _, _, rfl, .inr (SqT.of e), rfl, _, rfl, ?_⟩
      have z := k H same_refl
      by_cases h3 : ds.length = 3
      · have e3 : decide (V.int (xs.length : Nat) = V.int 3) = true := decide_eq_true (by rw [a.len, h3]; rfl)
        rw [e3]
        obtain ⟨x2, hx2⟩ : ∃ x2, ds[2]? = some x2 := ⟨ds[2], List.getElem?_eq_getElem (by omega)⟩
        obtain ⟨v2, hv2, q2⟩ := a.at hx2
        refine iteT ⟨_, rfl, ad, _, _, v2, rfl, rfl, SqT.of e, atI_nat (j := 2) hv2, _, .ty "str", _, _, _, rfl, .ty _, q2.ty, kit_ty (ks _), _, rfl, ?_⟩
        have y : isCall (.tuple ds) = isCallS (some x2) := by
          show (decide (ds.length = 3) && isCallS ds[2]?) = _
          rw [decide_eq_true h3, hx2, Bool.true_and]
        rw [y] at z
        cases q2 with
        | str x hx => exact iteT ⟨_, rfl, ad, _, _, .str x, rfl, rfl, SqT.of e, atI_nat (j := 2) hv2, rfl, z⟩
        | _ => exact iteF z
      · have e3 : decide (V.int (xs.length : Nat) = V.int 3) = false := decide_eq_false fun q => h3 (by rw [← a.len]; exact vint.mpr q)
        rw [e3]
        have y : isCall (.tuple ds) = false := by
          show (decide (ds.length = 3) && isCallS ds[2]?) = _
          rw [decide_eq_false h3, Bool.false_and]
        rw [y] at z
        exact iteF z
    | _ => exact iteF (k H same_refl)
theorem walk_zipT {K : PySem.W.Frag} {a b : Addr} {xs ys : List V} {n : Nat} (hn : n = min xs.length ys.length) : Walk (ItzT K a b) n (fun H => SqT K H a xs ∧ SqT K H b ys) (YPair (fun i => xs[i]?) (fun i => ys[i]?)) where
  goes := fun i H hi g => by
    have h1 : i < xs.length := by omega
    have h2 : i < ys.length := by omega
    exact ⟨xs, ys, xs[i], ys[i], g.1, g.2, List.getElem?_eq_getElem h1, List.getElem?_eq_getElem h2⟩
  stops := fun H g => ⟨xs, ys, g.1, g.2, by omega⟩
  yields := fun i H x H' hi g y => by
    obtain ⟨T, x, y, h1, h2, h3, h4, h5⟩ := y
    exact ⟨T, x, y, h1, h2, h3, h4 _ g.1, h5 _ g.2⟩
theorem sqt_same {K : PySem.W.Frag} {H H' : Hp} {a : Addr} {xs : List V} (h : SqT K H a xs) (s : Same H H') : SqT K H' a xs := by
  rcases h with (h | ⟨o, h⟩) | h
  · exact .inl (.inl (s _ _ h))
  · exact .inl (.inr ⟨o, s _ _ h⟩)
  · exact .inr h
theorem _root_.DQ.DqAll.tail {H : Hp} {vs : List V} {ds : List PyData} (h : DqAll H vs ds) : DqAll H vs.tail ds.tail := by
  cases h with
  | nil => exact .nil
  | cons _ t => exact t
theorem all_tail {ds : List PyData} (h : ds.all isWord = true) : ds.tail.all isWord = true := by
  cases ds with
  | nil => rfl
  | cons d ds => exact (Bool.and_eq_true_iff.mp h).2
/-- where all are words, the i-th value is a text -/
theorem strs_at {H : Hp} {vs : List V} {ds : List PyData} {i : Nat} {v : V} (a : DqAll H vs ds) (w : ds.all isWord = true) (hi : i < ds.length) (hv : vs[i]? = some v) : ∃ x, v = .str x ∧ ds[i]? = some (.str x) := by
  obtain ⟨u, hu, q⟩ := a.at (List.getElem?_eq_getElem hi)
  obtain rfl : u = v := Option.some.inj (hu.symm.trans hv)
  have wi : isWord ds[i] = true := List.all_eq_true.mp w _ (List.getElem_mem hi)
  cases e : ds[i] with
  | str x =>
    rw [e] at q
    cases q
    exact ⟨x, rfl, by rw [List.getElem?_eq_getElem hi, e]⟩
  | _ => rw [e] at wi; cases wi
theorem scM : FnScope ["thing", "least", "most", "word", "later"] ["thing", "least", "most"] (defScope sMarks) := ⟨rfl, rfl, rfl, by decide +kernel, rfl, by decide +kernel, by decide +kernel⟩
/-- are_words of a thing, from none to three -/
def spM (φ : PyData → Bool) : Sp := fun vs H Q _ => ∃ (v : V) (d : PyData), vs = [v, .int 0, .int 3] ∧ Dq H v d ∧ ∀ H', Same H H' → Q (.bl (φ d)) H'
theorem ok_marks {f fW : Addr} {fd fdW : FuncData} (F : Fun K "are_words" "are_words" sMarks f fd) (FW : Fun K "is_word" "is_word" sWord fW fdW) (bW : Binds K fdW ["thing"] []) (gW : mg "is_word" = some (.ref fW)) (T : TP mg) :
    FnOk P w K mg base CX0 3 f fd ["thing", "least", "most"] (spM areMarks) := by
  have GW : FnOk P w K mg base CX0 1 fW fdW ["thing"] (spB isWord) := ok_word FW T
  refine F.ok scM (fun vs H Q E h => ?_) (fun cdv A outer s H vs Q E hr h => ?_)
  · obtain ⟨v, d, rfl, _⟩ := h
    rfl
  · obtain ⟨v, d, rfl, hd, k⟩ := h
    refine ⟨_, pss_cons (ps_if (PW.pt (pw_or (pt_not (pt_val (pe_callB call_isi (by rfl) T.isi bisi (pa_cons (pv 0) (pa_cons (pe_bltn (v := .ty "tuple") (by rfl) T.tuple btup rfl) pa_nil))))) (pw_or1 (pt_not (pt_chain op_le op_le (pv 1) (pe_callB call_len_seq (by rfl) T.len PySem.boot_len (pa_cons (pv 0) pa_nil)) (pv 2)))))) (pss_one (ps_ret pe_bl)) pss_nil)
      (pss_cons (ps_if (pt_not (pt_val (pe_callB (cr_all rfl) (by rfl) T.all ball (pa_cons (pe_lc (own := [("word", 3)]) (g := gName 3) (tt := tYes) rfl scM.nd (pi_tup (pv 0)) (blkOk_by (own := [("word", 3)]) (N := ["thing", "least", "most", "word", "later"]) (sc := defScope sMarks) (by decide +kernel))
        (fun _ _ _ _ _ => pg_name (i := 3) scM.nd rfl (Or.inl rfl)) (fun _ _ _ _ _ => pts_nil) (fun _ _ _ _ _ => pe_call GW (hr.mono (by decide)) (by rfl) gW FW.kp bW .nil pass0 (pa_cons (pv 3) pa_nil))) pa_nil)))) (pss_one (ps_ret pe_bl)) pss_nil)
      (pss_one (ps_ret (pe_callB (cr_all rfl) (by rfl) T.all ball (pa_cons (pe_lc (own := [("word", 3), ("later", 4)]) (g := gTup K 2 (gCons (gName 3) (gCons (gName 4) gNil))) (tt := tYes) rfl scM.nd (pi_zipA (by rfl) T.zip (pa_cons (pv 0) (pa_cons (pe_slice sl_tupA (pv 0) (po_some pe_int) po_none) pa_nil)))
        (blkOk_by (own := [("word", 3), ("later", 4)]) (N := ["thing", "least", "most", "word", "later"]) (sc := defScope sMarks) (by decide +kernel))
        (fun _ _ _ _ _ => pg_tup rfl (pgs_cons (pg_name (i := 3) scM.nd rfl (Or.inl rfl)) (pgs_cons (pg_name (i := 4) scM.nd rfl (Or.inl rfl)) pgs_nil))) (fun _ _ _ _ _ => pts_nil) (fun _ _ _ _ _ => pe_cmpR op_lt_str (pv 3) (pv 4) (nomark _))) pa_nil))))), ?_⟩
    refine ⟨_, rfl, _, .ty "tuple", _, _, _, rfl, .ty _, hd.ty, kit_ty (kt _), _, rfl, ?_⟩
    cases hd with
    | @tup ad xs ds e a =>
      refine iteF ⟨_, rfl, _, rfl, _, _, rfl, .inr (SqT.of e), _, _, rfl, rfl, _, rfl, ?_⟩
      rw [decide_eq_true (show (0 : Int) ≤ (xs.length : Int) by omega)]
      refine iteT ⟨_, rfl, _, _, rfl, rfl, _, rfl, ?_⟩
      by_cases h3 : ds.length ≤ 3
      · have e3 : decide ((xs.length : Int) ≤ 3) = true := decide_eq_true (by rw [a.len]; omega)
        rw [e3]
        refine iteF ⟨_, rfl, ad, rfl, ⟨_, SqT.of e⟩, fun D nD => ?_⟩
        refine lc_it (walk_tup (xs := xs)) (fun i H' => Same H H' ∧ H' D = some (.lst (((ds.take i).map isWord).map V.bl))) ⟨same_new nD, upd_same⟩ (fun i H' _ p => SqT.of (p.1 _ _ e)) ?_ ?_
        · rintro i y H1 H2 hi ⟨s1, e1⟩ ⟨rfl, hx⟩
          refine ⟨rfl, ?_⟩
          unfold tYes
          try dsimp only
          rw [if_pos rfl]
          obtain ⟨di, hdi⟩ : ∃ di, ds[i]? = some di := ⟨ds[i]'(by rw [← a.len]; exact hi), List.getElem?_eq_getElem _⟩
          obtain ⟨v, hv, qv⟩ := a.at hdi
          obtain rfl : v = y := Option.some.inj (hv.symm.trans hx)
          refine ⟨_, rfl, v, di, rfl, qv.same s1, fun H3 s3 => ?_⟩
          have tk : ds.take (i + 1) = ds.take i ++ [di] := by rw [List.take_add_one, hdi]; rfl
          refine ⟨_, s3 _ _ e1, small1000 ?_, fun b o z => ?_, ?_⟩
          · rw [List.length_map, List.length_map, List.length_take]
            omega
          · rw [upd_ne (ne_of_none z nD)]
            exact s3 _ _ (s1 _ _ z)
          · rw [upd_same, tk, List.map_append, List.map_append]
            rfl
        rintro H1 ⟨s1, e1⟩
        have tk : ds.take xs.length = ds := List.take_of_length_le (by rw [a.len]; exact Nat.le_refl _)
        rw [tk] at e1
        refine ⟨_, _, rfl, SqL.of e1, _, rfl, ?_⟩
        have al : (ds.map isWord).all id = ds.all isWord := by rw [List.all_map]; rfl
        rw [al]
        cases aw : ds.all isWord with
        | false =>
          have z := k H1 s1
          have y : areMarks (.tuple ds) = false := by
            show (decide (ds.length ≤ 3) && (ds.all isWord && _)) = _
            rw [aw, Bool.false_and, Bool.and_false]
          rw [y] at z
          exact iteT z
        | true =>
        refine iteF ⟨_, rfl, _, rfl, 1, rfl, ad, xs, rfl, SqT.of (s1 _ _ e), fun wh => ?_, fun nw p np => ?_⟩
        · have x0 : xs = [] := by
            cases xs with
            | nil => rfl
            | cons x xs =>
              have z := wh.1
              have y : HT.sIx (x :: xs).length 0 (some ((1 : Nat) : Int)) = 0 := z
              rw [HT.sIx_nat, List.length_cons] at y
              omega
          have sq : SqT K H1 ad xs.tail := by rw [x0]; rw [x0] at e; exact SqT.of (s1 _ _ e)
          refine ⟨ad, ad, xs, xs.tail, rfl, .inr ⟨SqT.of (s1 _ _ e), sq, fun D2 nD2 => lc_it (walk_zipT (xs := xs) (ys := xs.tail) rfl) (fun i H' => Same H1 H' ∧ H' D2 = some (.lst ((((ds.zip ds.tail).take i).map fun p => ltD p.1 p.2).map V.bl))) ⟨same_new nD2, upd_same⟩ (fun i H' _ p => ⟨SqT.of (p.1 _ _ (s1 _ _ e)), sqt_same sq p.1⟩) ?_ ?_⟩⟩
          · rintro i vv H3 H4 hi ⟨s3, e3⟩ ⟨tt, x, y, rfl, ntt, rfl, hx, hy⟩
            refine ⟨tt, _, rfl, SqT.of upd_same, rfl, _, _, rfl, _, _, rfl, rfl, rfl, ?_⟩
            unfold tYes
            try dsimp only
            rw [if_pos rfl]
            have ix : i < ds.length := by
              have := (List.getElem?_eq_some_iff.mp hx).1
              rw [a.len] at this
              exact this
            have iy : i < ds.tail.length := by
              have := (List.getElem?_eq_some_iff.mp hy).1
              rw [List.length_tail, a.len] at this
              rw [List.length_tail]
              exact this
            obtain ⟨x1, rfl, dx⟩ := strs_at a aw ix hx
            obtain ⟨y1, rfl, dy⟩ := strs_at a.tail (all_tail aw) iy (by exact hy)
            have tk : (ds.zip ds.tail).take (i + 1) = (ds.zip ds.tail).take i ++ [(PyData.str x1, PyData.str y1)] := by
              rw [List.take_add_one, List.getElem?_zip_eq_some (z := (PyData.str x1, PyData.str y1)) |>.mpr ⟨dx, dy⟩]
              rfl
            refine ⟨_, rfl, _, rfl, _, _, rfl, rfl, _, same_new ntt _ _ e3, small1000 ?_, fun b o z => ?_, ?_⟩
            · rw [List.length_map, List.length_map, List.length_take]
              have : (ds.zip ds.tail).length ≤ 3 := by rw [List.length_zip]; omega
              omega
            · rw [upd_ne (ne_of_none z nD2)]
              exact same_new ntt _ _ (s3 _ _ z)
            · rw [upd_same, tk, List.map_append, List.map_append]
              rfl
          · rintro H3 ⟨s3, e3⟩
            have n0 : min xs.length xs.tail.length = (ds.zip ds.tail).length := by rw [List.length_zip, List.length_tail, List.length_tail, a.len]
            rw [n0, List.take_length] at e3
            refine ⟨_, _, rfl, SqL.of e3, ?_⟩
            have z := k H3 (same_trans s1 s3)
            have y : areMarks (.tuple ds) = ((ds.zip ds.tail).map fun p => ltD p.1 p.2).all id := by
              show (decide (ds.length ≤ 3) && (ds.all isWord && (ds.zip ds.tail).all fun p => ltD p.1 p.2)) = _
              rw [decide_eq_true h3, aw, List.all_map]
              rfl
            rw [y] at z
            exact z

        · have cu : cutV xs (some 1) none = xs.tail := by
            cases xs with
            | nil => exact absurd ⟨by rfl, rfl⟩ nw
            | cons x xs => exact cut_one x xs
          rw [cu]
          have s2 : Same H (upd H1 p (.tup xs.tail)) := same_trans s1 (same_new np)
          have sq : SqT K (upd H1 p (.tup xs.tail)) p xs.tail := SqT.of upd_same
          generalize upd H1 p (HO.tup xs.tail) = H2 at s2 sq ⊢
          refine ⟨ad, p, xs, xs.tail, rfl, .inr ⟨SqT.of (s2 _ _ e), sq, fun D2 nD2 => lc_it (walk_zipT (xs := xs) (ys := xs.tail) rfl) (fun i H' => Same H2 H' ∧ H' D2 = some (.lst ((((ds.zip ds.tail).take i).map fun p => ltD p.1 p.2).map V.bl))) ⟨same_new nD2, upd_same⟩ (fun i H' _ p => ⟨SqT.of (p.1 _ _ (s2 _ _ e)), sqt_same sq p.1⟩) ?_ ?_⟩⟩
          · rintro i vv H3 H4 hi ⟨s3, e3⟩ ⟨tt, x, y, rfl, ntt, rfl, hx, hy⟩
            refine ⟨tt, _, rfl, SqT.of upd_same, rfl, _, _, rfl, _, _, rfl, rfl, rfl, ?_⟩
            unfold tYes
            try dsimp only
            rw [if_pos rfl]
            have ix : i < ds.length := by
              have := (List.getElem?_eq_some_iff.mp hx).1
              rw [a.len] at this
              exact this
            have iy : i < ds.tail.length := by
              have := (List.getElem?_eq_some_iff.mp hy).1
              rw [List.length_tail, a.len] at this
              rw [List.length_tail]
              exact this
            obtain ⟨x1, rfl, dx⟩ := strs_at a aw ix hx
            obtain ⟨y1, rfl, dy⟩ := strs_at a.tail (all_tail aw) iy (by exact hy)
            have tk : (ds.zip ds.tail).take (i + 1) = (ds.zip ds.tail).take i ++ [(PyData.str x1, PyData.str y1)] := by
              rw [List.take_add_one, List.getElem?_zip_eq_some (z := (PyData.str x1, PyData.str y1)) |>.mpr ⟨dx, dy⟩]
              rfl
            refine ⟨_, rfl, _, rfl, _, _, rfl, rfl, _, same_new ntt _ _ e3, small1000 ?_, fun b o z => ?_, ?_⟩
            · rw [List.length_map, List.length_map, List.length_take]
              have : (ds.zip ds.tail).length ≤ 3 := by rw [List.length_zip]; omega
              omega
            · rw [upd_ne (ne_of_none z nD2)]
              exact same_new ntt _ _ (s3 _ _ z)
            · rw [upd_same, tk, List.map_append, List.map_append]
              rfl
          · rintro H3 ⟨s3, e3⟩
            have n0 : min xs.length xs.tail.length = (ds.zip ds.tail).length := by rw [List.length_zip, List.length_tail, List.length_tail, a.len]
            rw [n0, List.take_length] at e3
            refine ⟨_, _, rfl, SqL.of e3, ?_⟩
            have z := k H3 (same_trans s2 s3)
            have y : areMarks (.tuple ds) = ((ds.zip ds.tail).map fun p => ltD p.1 p.2).all id := by
              show (decide (ds.length ≤ 3) && (ds.all isWord && (ds.zip ds.tail).all fun p => ltD p.1 p.2)) = _
              rw [decide_eq_true h3, aw, List.all_map]
              rfl
            rw [y] at z
            exact z

      · have e3 : decide ((xs.length : Int) ≤ 3) = false := decide_eq_false (by rw [a.len]; omega)
        rw [e3]
        have z := k H same_refl
        have y : areMarks (.tuple ds) = false := by
          show (decide (ds.length ≤ 3) && _) = _
          rw [decide_eq_false h3, Bool.false_and]
        rw [y] at z
        exact iteT z
    | _ => exact iteT (k H same_refl)
end
end K01
set_option Elab.async false
set_option linter.all false
set_option maxRecDepth 100000
set_option maxHeartbeats 4000000
namespace K01
open PySem L2 L2H DQ RZ
def fewB : PyData → Bool | .tuple bs => decide (bs.length ≤ 3) | _ => false
def nodeB : Option PyData → Option PyData → Bool | some a, some b => areMarks a && fewB b | _, _ => false
def isNode (l : Int) (d : PyData) : Bool := (isPair d || (decide (0 < l) && isCall d)) && (match d with | .tuple ds => nodeB ds[0]? ds[1]? | _ => false)
def spNode : Sp := fun vs H Q _ => ∃ (v : V) (d : PyData) (l : Int), vs = [v, .int l] ∧ Dq H v d ∧ ∀ H', Same H H' → Q (.bl (isNode l d)) H'
theorem pair_or_call {l : Int} {d : PyData} (h : (isPair d || (decide (0 < l) && isCall d)) = true) : ∃ a b r, d = .tuple (a :: b :: r) := by
  cases d with
  | tuple ds =>
    have n : 2 ≤ ds.length := by
      rcases Bool.or_eq_true_iff.mp h with z | z
      · have y : ds.length = 2 := of_decide_eq_true z
        omega
      · have z2 := (Bool.and_eq_true_iff.mp z).2
        have y : ds.length = 3 := of_decide_eq_true (Bool.and_eq_true_iff.mp z2).1
        omega
    match ds, n with
    | a :: b :: r, _ => exact ⟨a, b, r, rfl⟩
  | _ => simp [isPair, isCall] at h
theorem le3 {H : Hp} {vs : List V} {bs : List PyData} (a : DqAll H vs bs) : bs.length ≤ 3 ↔ (vs.length : Int) ≤ 3 := by
  rw [← a.len]
  omega
section
variable {P : Program} {w : World} {K : PySem.W.Frag} {mg : Str → Option Value} {base : Heap}
/-- the program's small defs, as they stand -/
structure PF (K : PySem.W.Frag) (mg : Str → Option Value) (fW fP fC fM : Addr) (dW dP dC dM : FuncData) : Prop where
  W : Fun K "is_word" "is_word" sWord fW dW
  bW : Binds K dW ["thing"] []
  gW : mg "is_word" = some (.ref fW)
  P : Fun K "_is_pair" "_is_pair" sPair fP dP
  bP : Binds K dP ["thing"] []
  gP : mg "_is_pair" = some (.ref fP)
  C : Fun K "_is_call" "_is_call" sCall fC dC
  bC : Binds K dC ["thing"] []
  gC : mg "_is_call" = some (.ref fC)
  M : Fun K "are_words" "are_words" sMarks fM dM
  bM : Binds K dM ["thing", "least", "most"] []
  gM : mg "are_words" = some (.ref fM)
theorem scNd : FnScope ["thing", "level", "marks", "branches"] ["thing", "level"] (defScope sNode) := ⟨rfl, rfl, rfl, by decide +kernel, rfl, by decide +kernel, by decide +kernel⟩
theorem ok_node {f fW fP fC fM : Addr} {fd dW dP dC dM : FuncData} (F : Fun K "_is_node" "_is_node" sNode f fd) (PFs : PF K mg fW fP fC fM dW dP dC dM) (T : TP mg) : FnOk P w K mg base CX0 4 f fd ["thing", "level"] spNode := by
  have GP : FnOk P w K mg base CX0 1 fP dP ["thing"] (spB isPair) := ok_pair PFs.P T
  have GC : FnOk P w K mg base CX0 1 fC dC ["thing"] (spB isCall) := ok_call PFs.C T
  have GM : FnOk P w K mg base CX0 3 fM dM ["thing", "least", "most"] (spM areMarks) := ok_marks PFs.M PFs.W PFs.bW PFs.gW T
  refine F.ok scNd (fun vs H Q E h => ?_) (fun cdv A outer s H vs Q E hr h => ?_)
  · obtain ⟨v, d, l, rfl, _⟩ := h
    rfl
  · obtain ⟨v, d, l, rfl, hd, k⟩ := h
    obtain ⟨t3, g3⟩ := T.b3
    obtain ⟨tm, gm⟩ := T.m3
    refine ⟨_, pss_cons (ps_if (PW.pt (pw_and (pt_not (pt_val (pe_call GP (hr.mono (by decide)) (by rfl) PFs.gP PFs.P.kp PFs.bP .nil pass0 (pa_cons (pv 0) pa_nil))))
        (pw_and1 (pt_not (PW.pt (pw_and (pt_cmpR op_gt (pv 1) pe_int (nomark _)) (pw_and1 (pt_val (pe_call GC (hr.mono (by decide)) (by rfl) PFs.gC PFs.C.kp PFs.bC .nil pass0 (pa_cons (pv 0) pa_nil)))))))))) (pss_one (ps_ret pe_bl)) pss_nil)
      (pss_cons (ps_par rfl scNd.nd (i := 2) (j := 3) rfl rfl (by decide) rfl rfl (pa_cons (pe_ix ix_tup (pv 0) pe_int (fun _ _ => rfl)) (pa_cons (pe_ix ix_tup (pv 0) pe_int (fun _ _ => rfl)) pa_nil)) rfl)
      (pss_one (ps_ret (pe_and (pe_call GM hr (by rfl) PFs.gM PFs.M.kp PFs.bM .nil pass0 (pa_cons (pv 2) (pa_cons pe_int (pa_cons (pe_glob (v := .int 3) (by rfl) gm ⟨_, rfl⟩) pa_nil)))) (pe_and (pe_callB call_isi (by rfl) T.isi bisi (pa_cons (pv 3) (pa_cons (pe_bltn (v := .ty "tuple") (by rfl) T.tuple btup rfl) pa_nil))) (pe_one (pe_cmpR op_le (pe_callB call_len_seq (by rfl) T.len PySem.boot_len (pa_cons (pv 3) pa_nil)) (pe_glob (v := .int 3) (by rfl) g3 ⟨_, rfl⟩) (nomark _)))))))), ?_⟩
    have rest : ∀ H1, Same H H1 → (isPair d || (decide (0 < l) && isCall d)) = true → ∃ a b r va vb vr, d = .tuple (a :: b :: r) ∧ v = .ref vr ∧ (∃ vs, H1 vr = some (.tup (va :: vb :: vs))) ∧ Dq H1 va a ∧ Dq H1 vb b := by
      intro H1 s1 hh
      obtain ⟨a, b, r, rfl⟩ := pair_or_call hh
      have hd1 := hd.same s1
      cases hd1 with
      | tup e q =>
        cases q with
        | cons qa q =>
          cases q with
          | cons qb q => exact ⟨a, b, r, _, _, _, rfl, rfl, ⟨_, e⟩, qa, qb⟩
    refine ⟨_, rfl, v, d, rfl, hd, fun H1 s1 => ⟨_, rfl, ?_⟩⟩
    have no : (isPair d || (decide (0 < l) && isCall d)) = false → isNode l d = false := fun e => by unfold isNode; rw [e, Bool.false_and]
    cases hp : isPair d with
    | true =>
      have hc : (isPair d || (decide (0 < l) && isCall d)) = true := by rw [hp, Bool.true_or]
      refine iteF (iteF ?_)
      obtain ⟨a, b, r, va, vb, vr, rfl, rfl, ⟨vs, e⟩, qa, qb⟩ := rest H1 s1 hc
      refine ⟨_, rfl, vr, _, 0, va, rfl, rfl, SqT.of e, atI_nat (j := 0) rfl, _, rfl, vr, _, 1, vb, rfl, rfl, SqT.of e, atI_nat (j := 1) rfl, _, _, rfl, ?_⟩
      refine ⟨_, rfl, va, a, rfl, qa, fun K2 t2 => ⟨_, rfl, ?_⟩⟩
      have qb2 := qb.same t2
      have yes : isNode l (.tuple (a :: b :: r)) = (areMarks a && fewB b) := by
        unfold isNode
        rw [hc, Bool.true_and]
        rfl
      cases ma : areMarks a with
      | false =>
        have z := k K2 (same_trans s1 t2)
        rw [yes, ma, Bool.false_and] at z
        exact iteF z
      | true =>
        refine iteT ⟨_, rfl, _, .ty "tuple", _, _, _, rfl, .ty _, qb2.ty, kit_ty (kt _), _, rfl, ?_⟩
        have z := k K2 (same_trans s1 t2)
        rw [yes, ma, Bool.true_and] at z
        cases qb2 with
        | tup eb ab =>
          refine iteT ⟨_, rfl, _, _, rfl, .inr (SqT.of eb), _, _, rfl, rfl, ?_⟩
          have y : fewB (.tuple _) = decide ((_ : Int) ≤ 3) := decide_eq_decide.mpr (le3 ab)
          rw [y] at z
          exact z
        | _ => exact iteF z
    | false =>
      refine iteT ⟨_, rfl, _, _, rfl, rfl, _, rfl, ?_⟩
      by_cases h0 : 0 < l
      · rw [decide_eq_true h0]
        refine iteT ⟨_, rfl, v, d, rfl, hd.same s1, fun H2 s2 => ⟨_, rfl, ?_⟩⟩
        cases hcl : isCall d with
        | true =>
          have hc : (isPair d || (decide (0 < l) && isCall d)) = true := by rw [hcl, decide_eq_true h0, Bool.and_true, Bool.or_true]
          refine iteF ?_
          obtain ⟨a, b, r, va, vb, vr, rfl, rfl, ⟨vs, e⟩, qa, qb⟩ := rest H2 (same_trans s1 s2) hc
          refine ⟨_, rfl, vr, _, 0, va, rfl, rfl, SqT.of e, atI_nat (j := 0) rfl, _, rfl, vr, _, 1, vb, rfl, rfl, SqT.of e, atI_nat (j := 1) rfl, _, _, rfl, ?_⟩
          refine ⟨_, rfl, va, a, rfl, qa, fun K2 t2 => ⟨_, rfl, ?_⟩⟩
          have qb2 := qb.same t2
          have yes : isNode l (.tuple (a :: b :: r)) = (areMarks a && fewB b) := by
            unfold isNode
            rw [hc, Bool.true_and]
            rfl
          cases ma : areMarks a with
          | false =>
            have z := k K2 (same_trans (same_trans s1 s2) t2)
            rw [yes, ma, Bool.false_and] at z
            exact iteF z
          | true =>
            refine iteT ⟨_, rfl, _, .ty "tuple", _, _, _, rfl, .ty _, qb2.ty, kit_ty (kt _), _, rfl, ?_⟩
            have z := k K2 (same_trans (same_trans s1 s2) t2)
            rw [yes, ma, Bool.true_and] at z
            cases qb2 with
            | tup eb ab =>
              refine iteT ⟨_, rfl, _, _, rfl, .inr (SqT.of eb), _, _, rfl, rfl, ?_⟩
              have y : fewB (.tuple _) = decide ((_ : Int) ≤ 3) := decide_eq_decide.mpr (le3 ab)
              rw [y] at z
              exact z
            | _ => exact iteF z
        | false =>
          have z := k H2 (same_trans s1 s2)
          rw [no (by rw [hp, hcl, Bool.and_false, Bool.or_false])] at z
          exact iteT z
      · rw [decide_eq_false h0]
        have z := k H1 s1
        rw [no (by rw [hp, decide_eq_false h0, Bool.false_and, Bool.or_false])] at z
        exact iteF (iteT z)
end
end K01
set_option Elab.async false
set_option linter.all false
set_option maxRecDepth 100000
set_option maxHeartbeats 4000000
namespace K01
open PySem L2 L2H DQ RZ
def stepB (c : PyData → Option (Int × Int)) (acc : Option (Int × Int)) (b : PyData) : Option (Int × Int) :=
  match acc with
  | none => none
  | some xy => match b with
    | .tuple [.str u, t] => if wordS u = true then (match c t with | some pq => some (xy.1 + pq.1, xy.2 + pq.2) | none => none) else none
    | _ => none
def cntOf (c : PyData → Option (Int × Int)) : PyData → Option (Int × Int)
  | .tuple (_ :: .tuple bs :: r) => bs.foldl (stepB c) (some (1, (r.length : Int)))
  | _ => none
def cnt : Nat → PyData → Option (Int × Int)
  | 0, _ => none
  | n + 1, d => if isNode (3 - (n : Int)) d = true then cntOf (cnt n) d else none
theorem fold_none (c : PyData → Option (Int × Int)) : ∀ bs : List PyData, bs.foldl (stepB c) none = none
  | [] => rfl
  | b :: bs => fold_none c bs
theorem fold_stop {c : PyData → Option (Int × Int)} {bs : List PyData} {i : Nat} {b : PyData} {acc xy : Option (Int × Int)} (hb : bs[i]? = some b) (h : (bs.take i).foldl (stepB c) acc = xy) (hs : stepB c xy b = none) : bs.foldl (stepB c) acc = none := by
  have e : bs = bs.take i ++ b :: bs.drop (i + 1) := by
    have hi : i < bs.length := (List.getElem?_eq_some_iff.mp hb).1
    have eb : bs[i] = b := (List.getElem?_eq_some_iff.mp hb).2
    rw [← eb, ← List.drop_eq_getElem_cons hi, List.take_append_drop]
  rw [e, List.foldl_append, h, List.foldl_cons, hs]
  exact fold_none c _
/-- what _counts hands back -/
def CntV (H : Hp) (r : V) : Option (Int × Int) → Prop
  | none => r = .non
  | some xy => ∃ p, r = .ref p ∧ H p = some (.tup [.int xy.1, .int xy.2])
def spCnt (m : Nat) : Sp := fun vs H Q _ => ∃ (v : V) (d : PyData) (l : Int), vs = [v, .int l] ∧ l + (m : Int) = 4 ∧ Dq H v d ∧ ∀ r H', Same H H' → CntV H' r (cnt m d) → Q r H'
section
variable {P : Program} {w : World} {K : PySem.W.Frag} {mg : Str → Option Value} {base : Heap}
theorem scCt : FnScope ["thing", "level", "nodes", "calls", "branch", "below"] ["thing", "level"] (defScope sCount) := ⟨rfl, rfl, rfl, by decide +kernel, rfl, by decide +kernel, by decide +kernel⟩
theorem ok_counts {f fN fW fP fC fM : Addr} {fd dN dW dP dC dM : FuncData} (F : Fun K "_counts" "_counts" sCount f fd) (bF : Binds K fd ["thing", "level"] []) (gF : mg "_counts" = some (.ref f))
    (FN : Fun K "_is_node" "_is_node" sNode fN dN) (bN : Binds K dN ["thing", "level"] []) (gN : mg "_is_node" = some (.ref fN)) (PFs : PF K mg fW fP fC fM dW dP dC dM) (T : TP mg) :
    ∀ m, m ≤ 4 → FnOk P w K mg base CX0 (5 + m) f fd ["thing", "level"] (spCnt m) := by
  have GN : FnOk P w K mg base CX0 4 fN dN ["thing", "level"] spNode := ok_node FN PFs T
  have GP : FnOk P w K mg base CX0 1 fP dP ["thing"] (spB isPair) := ok_pair PFs.P T
  have GW : FnOk P w K mg base CX0 1 fW dW ["thing"] (spB isWord) := ok_word PFs.W T
  obtain ⟨tl, gl⟩ := T.l3
  intro m
  induction m with
  | zero =>
    intro _
    refine F.ok scCt (fun vs H Q E h => ?_) (fun cdv A outer s H vs Q E hr h => ?_)
    · obtain ⟨v, d, l, rfl, _⟩ := h
      rfl
    · obtain ⟨v, d, l, rfl, hl, hd, k⟩ := h
      refine ⟨_, pss_cons (ps_if (PW.pt (pw_or (pt_cmpR op_gt (pv 1) (pe_glob (v := .int 3) (by rfl) gl ⟨_, rfl⟩) (nomark _)) (pw_or1 (pt_not (pt_val (pe_call GN (hr.mono (by omega)) (by rfl) gN FN.kp bN .nil pass0 (pa_cons (pv 0) (pa_cons (pv 1) pa_nil)))))))) (pss_one (ps_ret pe_non)) pss_nil)
        (pss_cons ps_never (pss_cons ps_never (pss_one ps_never))), ?_⟩
      refine ⟨_, rfl, _, _, rfl, rfl, _, rfl, ?_⟩
      rw [decide_eq_true (show (3 : Int) < l by omega)]
      exact iteT (k .non H same_refl rfl)
  | succ n ih =>
    intro hm
    have GS : FnOk P w K mg base CX0 (5 + n) f fd ["thing", "level"] (spCnt n) := ih (by omega)
    refine F.ok (k := 5 + n) scCt (fun vs H Q E h => ?_) (fun cdv A outer s H vs Q E hr h => ?_)
    · obtain ⟨v, d, l, rfl, _⟩ := h
      rfl
    · obtain ⟨v, d, l, rfl, hl, hd, k⟩ := h
      refine ⟨_, pss_cons (ps_if (PW.pt (pw_or (pt_cmpR op_gt (pv 1) (pe_glob (v := .int 3) (by rfl) gl ⟨_, rfl⟩) (nomark _)) (pw_or1 (pt_not (pt_val (pe_call GN (hr.mono (by omega)) (by rfl) gN FN.kp bN .nil pass0 (pa_cons (pv 0) (pa_cons (pv 1) pa_nil)))))))) (pss_one (ps_ret pe_non)) pss_nil)
        (pss_cons (ps_par rfl scCt.nd (i := 2) (j := 3) rfl rfl (by decide) rfl rfl (pa_cons pe_int (pa_cons (pe_op op_sub (pe_callB call_len_seq (by rfl) T.len PySem.boot_len (pa_cons (pv 0) pa_nil)) pe_int) pa_nil)) rfl)
        (pss_cons (ps_for PassesOwn.never rfl (pi_tup (pe_ix ix_tup (pv 0) pe_int (fun _ _ => rfl))) (pg_name (i := 4) scCt.nd rfl (Or.inl rfl))
          (pss_cons (ps_if (PW.pt (pw_or (pt_not (pt_val (pe_call GP (hr.mono (by omega)) (by rfl) PFs.gP PFs.P.kp PFs.bP .nil pass0 (pa_cons (pv 4) pa_nil)))) (pw_or1 (pt_not (pt_val (pe_call GW (hr.mono (by omega)) (by rfl) PFs.gW PFs.W.kp PFs.bW .nil pass0 (pa_cons (pe_ix ix_tup (pv 4) pe_int (fun _ _ => rfl)) pa_nil))))))) (pss_one (ps_ret pe_non)) pss_nil)
          (pss_cons (ps_set (i := 5) scCt.nd rfl (Or.inl rfl) (pe_call GS hr (by rfl) gF F.kp bF .nil pass0 (pa_cons (pe_ix ix_tup (pv 4) pe_int (fun _ _ => rfl)) (pa_cons (pe_op op_add (pv 1) pe_int) pa_nil))))
          (pss_cons (ps_if (pt_cmpR op_isN (pv 5) pe_non (nomark _)) (pss_one (ps_ret pe_non)) pss_nil)
          (pss_cons (ps_aug (i := 2) scCt.nd rfl (.inl rfl) (pe_ix ix_tup (pv 5) pe_int (fun _ _ => rfl)) ip_add)
          (pss_one (ps_aug (i := 3) scCt.nd rfl (.inl rfl) (pe_ix ix_tup (pv 5) pe_int (fun _ _ => rfl)) ip_add)))))))
        (pss_one (ps_ret (pe_tup (pa_cons (pv 2) (pa_cons (pv 3) pa_nil))))))), ?_⟩
      have l3 : ¬ (3 : Int) < l := by omega
      have ll : l = 3 - (n : Int) := by omega
      refine ⟨_, rfl, _, _, rfl, rfl, _, rfl, ?_⟩
      rw [decide_eq_false l3]
      refine iteF ⟨_, rfl, _, rfl, v, d, l, rfl, hd, fun H1 s1 => ⟨_, rfl, ?_⟩⟩
      cases nd : isNode l d with
      | false =>
        have z : cnt (n + 1) d = none := by
          show (if isNode (3 - (n : Int)) d = true then _ else none) = none
          rw [← ll, nd]
          rfl
        exact iteT (k .non H1 s1 (by rw [z]; rfl))
      | true =>
        have hc : (isPair d || (decide (0 < l) && isCall d)) = true := (Bool.and_eq_true_iff.mp nd).1
        have hn := (Bool.and_eq_true_iff.mp nd).2
        obtain ⟨a, b, r, rfl⟩ := pair_or_call hc
        have hf : (areMarks a && fewB b) = true := hn
        have zc : cnt (n + 1) (.tuple (a :: b :: r)) = cntOf (cnt n) (.tuple (a :: b :: r)) := by
          show (if isNode (3 - (n : Int)) _ = true then _ else none) = _
          rw [← ll, nd]
          rfl
        rw [zc] at k
        have hd1 := hd.same s1
        cases hd1 with
        | @tup vr xs _ e q =>
        cases q with
        | @cons va _ _ _ qa q =>
        cases q with
        | @cons vb vs _ _ qb q =>
        have fb := (Bool.and_eq_true_iff.mp hf).2
        cases qb with
        | @tup pb ys bs eb ab =>
        have b3 : bs.length ≤ 3 := of_decide_eq_true fb
        refine iteF ⟨_, rfl, vr, _, rfl, .inr (SqT.of e), _, _, rfl, rfl, _, _, rfl, ?_⟩
        refine ⟨_, rfl, vr, _, 1, .ref pb, rfl, rfl, SqT.of e, atI_nat (j := 1) rfl, pb, rfl, ⟨_, SqT.of eb⟩, ?_⟩
        have rl : (((va :: V.ref pb :: vs).length : Nat) : Int) - 2 = (r.length : Int) := by
          rw [List.length_cons, List.length_cons, q.len]
          omega
        refine for_tup (K := K) (a := pb) (xs := ys) (fun i σ' H' => ∃ (x y : Int) (w4 w5 : Option V), σ' = [some (V.ref vr), some (V.int l), some (V.int x), some (V.int y), w4, w5] ∧ Same H1 H' ∧ (bs.take i).foldl (stepB (cnt n)) (some (1, (r.length : Int))) = some (x, y))
          ⟨1, (r.length : Int), none, none, ?_, same_refl, rfl⟩ (fun i σ' H' _ ⟨_, _, _, _, _, t, _⟩ => SqT.of (t _ _ eb)) ?_ ?_
        · rw [← rl]
          rfl
        · rintro i y0 σ' H' hi ⟨x, y, w4, w5, rfl, t, hx⟩
          have ib : i < bs.length := by
            have := (List.getElem?_eq_some_iff.mp hi).1
            rw [ab.len] at this
            exact this
          obtain ⟨bi, hbi⟩ : ∃ bi, bs[i]? = some bi := ⟨bs[i], List.getElem?_eq_getElem ib⟩
          obtain ⟨v0, hv0, qv⟩ := ab.at hbi
          obtain rfl : v0 = y0 := Option.some.inj (hv0.symm.trans hi)
          have stop : ∀ H'', Same H1 H'' → stepB (cnt n) (some (x, y)) bi = none → Q .non H'' := fun H'' s2 hs => k .non H'' (same_trans s1 s2) (by
            have z : cntOf (cnt n) (.tuple (a :: .tuple bs :: r)) = none := fold_stop hbi hx hs
            rw [z]
            rfl)
          refine ⟨_, rfl, v0, bi, rfl, qv.same t, fun H2 s2 => ⟨_, rfl, ?_⟩⟩
          cases hp : isPair bi with
          | false =>
            refine iteT (stop H2 (same_trans t s2) ?_)
            unfold stepB
            split
            · rfl
            · split
              · simp [isPair] at hp
              · rfl
          | true =>
            have qv2 := (qv.same t).same s2
            cases qv2 with
            | @tup p2 zs es e2 a2 =>
              have n2 : es.length = 2 := of_decide_eq_true hp
              match es, n2, a2 with
              | [u, tt], _, a2 =>
              cases a2 with
              | @cons vu _ _ _ qu a2 =>
              cases a2 with
              | @cons vt _ _ _ qt a2 =>
              cases a2
              refine iteF ⟨_, rfl, p2, _, 0, vu, rfl, rfl, SqT.of e2, atI_nat (j := 0) rfl, vu, u, rfl, qu, fun H3 s3 => ⟨_, rfl, ?_⟩⟩
              have t3 : Same H1 H3 := same_trans t (same_trans s2 s3)
              cases hw : isWord u with
              | false =>
                refine iteT (stop H3 t3 ?_)
                cases u with
                | str x0 =>
                  have hw' : wordS x0 = false := hw
                  simp [stepB, hw']
                | _ => rfl
              | true =>
                cases u with
                | str x0 =>
                  have hw' : wordS x0 = true := hw
                  refine iteF ⟨_, rfl, p2, _, 1, vt, rfl, rfl, SqT.of (s3 _ _ e2), atI_nat (j := 1) rfl, _, rfl, _, _, rfl, rfl, vt, tt, l + 1, rfl, by omega, qt.same s3, fun r5 H4 s4 cv => ?_⟩
                  have t4 : Same H1 H4 := same_trans t3 s4
                  have st : stepB (cnt n) (some (x, y)) (.tuple [.str x0, tt]) = (match cnt n tt with | some pq => some (x + pq.1, y + pq.2) | none => none) := by
                    simp [stepB, hw']
                  cases hcn : cnt n tt with
                  | none =>
                    rw [hcn] at cv st
                    obtain rfl : r5 = V.non := cv
                    exact ⟨_, rfl, rfl, _, rfl, iteT (stop H4 t4 st)⟩
                  | some pq =>
                    rw [hcn] at cv st
                    obtain ⟨p5, rfl, e5⟩ := cv
                    refine ⟨_, rfl, rfl, _, rfl, iteF ?_⟩
                    refine ⟨_, rfl, _, rfl, p5, _, 0, .int pq.1, rfl, rfl, SqT.of e5, atI_nat (j := 0) rfl, _, _, rfl, rfl, ?_⟩
                    refine ⟨_, rfl, _, rfl, p5, _, 1, .int pq.2, rfl, rfl, SqT.of e5, atI_nat (j := 1) rfl, _, _, rfl, rfl, ?_⟩
                    refine ⟨x + pq.1, y + pq.2, _, _, rfl, t4, ?_⟩
                    rw [List.take_add_one, hbi]
                    show ((bs.take i) ++ [PyData.tuple [.str x0, tt]]).foldl _ _ = _
                    rw [List.foldl_append, hx]
                    exact st
                | _ => cases hw
            | _ => cases hp
        · rintro σ' H' ⟨x, y, w4, w5, rfl, t, hx⟩
          have tk : bs.take ys.length = bs := List.take_of_length_le (by rw [ab.len]; exact Nat.le_refl _)
          rw [tk] at hx
          refine ⟨_, rfl, _, rfl, by show 2 ≤ sizeLine; decide, fun p np => ?_⟩
          have z : cntOf (cnt n) (.tuple (a :: .tuple bs :: r)) = some (x, y) := hx
          exact k (.ref p) _ (same_trans s1 (same_trans t (same_new np))) (by rw [z]; exact ⟨p, rfl, upd_same⟩)
        | _ => cases fb
end
end K01
set_option Elab.async false
set_option linter.all false
set_option maxRecDepth 100000
set_option maxHeartbeats 4000000
namespace K01
open PySem L2 L2H DQ RZ
def shape (c : Int) (d : PyData) : Bool := match cnt 4 d with | some xy => decide (xy.1 ≤ 6) && decide (V.int xy.2 = V.int c) | none => false
def spShape : Sp := fun vs H Q _ => ∃ (v : V) (d : PyData) (c : Int), vs = [v, .int c] ∧ Dq H v d ∧ ∀ H', Same H H' → Q (.bl (shape c d)) H'
section
variable {P : Program} {w : World} {K : PySem.W.Frag} {mg : Str → Option Value} {base : Heap}
theorem scSh : FnScope ["thing", "calls", "counts"] ["thing", "calls"] (defScope sShape) := ⟨rfl, rfl, rfl, by decide +kernel, rfl, by decide +kernel, by decide +kernel⟩
theorem ok_shape {f fc : Addr} {fd dc : FuncData} (F : Fun K "_is_shape" "_is_shape" sShape f fd) (FC : Fun K "_counts" "_counts" sCount fc dc) (bC : Binds K dc ["thing", "level"] []) (gC : mg "_counts" = some (.ref fc))
    (GC : FnOk P w K mg base CX0 9 fc dc ["thing", "level"] (spCnt 4)) (T : TP mg) : FnOk P w K mg base CX0 10 f fd ["thing", "calls"] spShape := by
  refine F.ok scSh (fun vs H Q E h => ?_) (fun cdv A outer s H vs Q E hr h => ?_)
  · obtain ⟨v, d, c, rfl, _⟩ := h
    rfl
  · obtain ⟨v, d, c, rfl, hd, k⟩ := h
    obtain ⟨t6, g6⟩ := T.n6
    refine ⟨_, pss_cons (ps_set (i := 2) scSh.nd rfl (Or.inl rfl) (pe_call GC hr (by rfl) gC FC.kp bC .nil pass0 (pa_cons (pv 0) (pa_cons pe_int pa_nil))))
      (pss_one (ps_ret (pe_and (pe_cmpR op_notN (pv 2) pe_non (nomark _)) (pe_and (pe_cmpR op_le (pe_ix ix_tup (pv 2) pe_int (fun _ _ => rfl)) (pe_glob (v := .int 6) (by rfl) g6 ⟨_, rfl⟩) (nomark _))
        (pe_one (pe_cmpR op_eq (pe_ix ix_tup (pv 2) pe_int (fun _ _ => rfl)) (pv 1) (nomark _))))))), ?_⟩
    refine ⟨_, rfl, v, d, 0, rfl, rfl, hd, fun r H1 s1 cv => ?_⟩
    have z := k H1 s1
    cases hc : cnt 4 d with
    | none =>
      rw [hc] at cv
      obtain rfl : r = V.non := cv
      have y : shape c d = false := by unfold shape; rw [hc]
      rw [y] at z
      exact ⟨_, rfl, rfl, _, rfl, iteF z⟩
    | some xy =>
      rw [hc] at cv
      obtain ⟨p, rfl, e⟩ := cv
      have y : shape c d = (decide (xy.1 ≤ 6) && decide (V.int xy.2 = V.int c)) := by unfold shape; rw [hc]
      rw [y] at z
      refine ⟨_, rfl, rfl, _, rfl, iteT ⟨_, rfl, p, _, 0, .int xy.1, rfl, rfl, SqT.of e, atI_nat (j := 0) rfl, _, _, rfl, rfl, _, rfl, ?_⟩⟩
      by_cases h6 : xy.1 ≤ 6
      · rw [decide_eq_true h6] at z ⊢
        exact iteT ⟨_, rfl, p, _, 1, .int xy.2, rfl, rfl, SqT.of e, atI_nat (j := 1) rfl, _, rfl, rfl, z⟩
      · rw [decide_eq_false h6] at z ⊢
        exact iteF z
theorem scTr : FnScope ["thing"] ["thing"] (defScope sTr) := ⟨rfl, rfl, rfl, by decide +kernel, rfl, by decide +kernel, by decide +kernel⟩
theorem ok_tr {f fs : Addr} {fd ds : FuncData} (F : Fun K "is_tree" "is_tree" sTr f fd) (FS : Fun K "_is_shape" "_is_shape" sShape fs ds) (bS : Binds K ds ["thing", "calls"] []) (gS : mg "_is_shape" = some (.ref fs))
    (GS : FnOk P w K mg base CX0 10 fs ds ["thing", "calls"] spShape) : FnOk P w K mg base CX0 11 f fd ["thing"] (spB (shape 0)) := by
  refine F.ok scTr (fun vs H Q E h => ?_) (fun cdv A outer s H vs Q E hr h => ?_)
  · obtain ⟨v, d, rfl, _⟩ := h
    rfl
  · obtain ⟨v, d, rfl, hd, k⟩ := h
    refine ⟨_, pss_one (ps_ret (pe_call GS hr (by rfl) gS FS.kp bS .nil pass0 (pa_cons (pv 0) (pa_cons pe_int pa_nil)))), ?_⟩
    exact ⟨_, rfl, v, d, 0, rfl, hd, k⟩
theorem scBo : FnScope ["thing"] ["thing"] (defScope sBo) := ⟨rfl, rfl, rfl, by decide +kernel, rfl, by decide +kernel, by decide +kernel⟩
theorem ok_bo {f fs : Addr} {fd ds : FuncData} (F : Fun K "is_body" "is_body" sBo f fd) (FS : Fun K "_is_shape" "_is_shape" sShape fs ds) (bS : Binds K ds ["thing", "calls"] []) (gS : mg "_is_shape" = some (.ref fs))
    (GS : FnOk P w K mg base CX0 10 fs ds ["thing", "calls"] spShape) : FnOk P w K mg base CX0 11 f fd ["thing"] (spB (shape 1)) := by
  refine F.ok scBo (fun vs H Q E h => ?_) (fun cdv A outer s H vs Q E hr h => ?_)
  · obtain ⟨v, d, rfl, _⟩ := h
    rfl
  · obtain ⟨v, d, rfl, hd, k⟩ := h
    refine ⟨_, pss_one (ps_ret (pe_call GS hr (by rfl) gS FS.kp bS .nil pass0 (pa_cons (pv 0) (pa_cons pe_int pa_nil)))), ?_⟩
    exact ⟨_, rfl, v, d, 1, rfl, hd, k⟩
end
end K01
set_option Elab.async false
set_option linter.all false
set_option maxRecDepth 100000
set_option maxHeartbeats 4000000
namespace K01
open PySem L2 L2H DQ RZ
def sgn (c : Nat) : Str := ⟨#[c]⟩
def abc : Str := "abcdefghijklmnopqrstuvwxyz"
theorem abc_mem (c : Nat) : decide (c ∈ abc.cps.toList) = low c := by
  have e : abc.cps.toList = List.range' 97 26 := by decide +kernel
  rw [e]
  unfold low
  rw [← Bool.decide_and]
  exact decide_eq_decide.mpr (by rw [List.mem_range'_1]; omega)
theorem shaped_strs {ns : List Str} (ok : ∀ n ∈ ns, PyData.strOk n = true) : SeqAt.shaped (.list (ns.map PyData.str)) = true := by
  have h : ∀ l : List Str, (∀ n ∈ l, PyData.strOk n = true) → PyData.canLayAll0 (l.map PyData.str) = true ∧ PyData.depthAll (l.map PyData.str) ≤ 1 := by
    intro l
    induction l with
    | nil => exact fun _ => ⟨rfl, Nat.zero_le _⟩
    | cons a l ih =>
      intro h
      have i := ih fun n hn => h n (List.mem_cons_of_mem _ hn)
      have o := h a (List.mem_cons_self ..)
      refine ⟨by simp [PyData.canLayAll0, PyData.canLay0, i.1, o], ?_⟩
      simp only [List.map_cons, PyData.depthAll, PyData.depth]
      have := i.2
      omega
  have z := h ns ok
  refine Bool.and_eq_true_iff.mpr ⟨by simp only [PyData.canLay0]; exact z.1, decide_eq_true ?_⟩
  simp only [PyData.depth]
  exact Nat.le_trans (Nat.succ_le_succ z.2) (by decide)
theorem ok_sgn {x : Str} (h : PyData.strOk x = true) : ∀ n ∈ (x.cps.toList.filter fun c => !low c).map sgn, PyData.strOk n = true := by
  intro n hn
  obtain ⟨c, hc, rfl⟩ := List.mem_map.mp hn
  have m := (List.mem_filter.mp hc).1
  have z : x.cps.all (fun c => decide (c < 0x110000)) = true := h
  rw [← Array.all_toList] at z
  have y := List.all_eq_true.mp z c m
  show (#[c] : Array Nat).all (fun c => decide (c < 0x110000)) = true
  simpa using y
theorem dp_strs {K : PySem.W.Frag} {H : Hp} : ∀ ns : List Str, DpAll K H (ns.map V.str) (ns.map PyData.str)
  | [] => .nil
  | n :: ns => .cons (.str n) (dp_strs ns)
theorem eqv_strs0 (ns : List Str) : PyData.eqv (.list (ns.map PyData.str)) (.list []) = ns.isEmpty := by
  cases ns <;> simp [PyData.eqv, PyData.eqvAll]
section
variable {P : Program} {w : World} {K : PySem.W.Frag} {mg : Str → Option Value} {base : Heap}
theorem scNm : FnScope ["thing", "sign"] ["thing"] (defScope sName) := ⟨rfl, rfl, rfl, by decide +kernel, rfl, by decide +kernel, by decide +kernel⟩
theorem ok_name {f : Addr} {fd : FuncData} (F : Fun K "_law_is_name" "_law_is_name" sName f fd) (T : TP mg) : FnOk P w K mg base CX0 1 f fd ["thing"] (spB isWord) := by
  refine F.ok scNm (fun vs H Q E h => ?_) (fun cdv A outer s H vs Q E hr h => ?_)
  · obtain ⟨v, d, rfl, _⟩ := h
    rfl
  · obtain ⟨v, d, rfl, hd, k⟩ := h
    have hu2 : (A.deeper (PyProof.Rows.envOfC "_law_is_name" (defScope sName) s.heap.objs.size f cdv)).units + 64 < cLine := by have := hr.un; omega
    refine ⟨_, pss_cons (ps_if (PW.pt (pw_or (pt_not (pt_val (pe_callB call_isi (by rfl) T.isi bisi (pa_cons (pv 0) (pa_cons (pe_bltn (v := .ty "str") (by rfl) T.str bstr rfl) pa_nil)))))
        (pw_or1 (pt_not (pt_chain op_le op_le pe_int (pe_callB call_len_str (by rfl) T.len PySem.boot_len (pa_cons (pv 0) pa_nil)) pe_int))))) (pss_one (ps_ret pe_bl)) pss_nil)
      (pss_one (ps_ret (pe_cmpR (op_eqD hu2) (pe_lc (own := [("sign", 1)]) (g := gName 1) rfl scNm.nd (pi_str (pv 0)) (blkOk_by (own := [("sign", 1)]) (N := ["thing", "sign"]) (sc := defScope sName) (by decide +kernel))
        (fun _ _ _ _ _ => pg_name (i := 1) scNm.nd rfl (Or.inl rfl)) (fun _ _ _ _ _ => pts_one (pt_cmpR op_notInS (pv 1) pe_str (by rfl))) (fun _ _ _ _ _ => pv 1)) (pe_lst pa_nil) (nomark _)))), ?_⟩
    refine ⟨_, rfl, _, .ty "str", _, _, _, rfl, .ty _, hd.ty, kit_ty (ks d), _, rfl, ?_⟩
    cases hd with
    | str x hx =>
      refine iteF ⟨_, rfl, x, rfl, hx.1, _, _, rfl, rfl, _, rfl, ?_⟩
      by_cases h1 : 1 ≤ x.length
      · have e1 : decide ((1 : Int) ≤ (x.length : Int)) = true := decide_eq_true (by omega)
        rw [e1]
        refine iteT ⟨_, _, rfl, rfl, _, rfl, ?_⟩
        by_cases h8 : x.length ≤ 8
        · have e8 : decide ((x.length : Int) ≤ 8) = true := decide_eq_true (by omega)
          rw [e8]
          refine iteF ⟨_, rfl, x, rfl, fun D nD => ?_⟩
          refine lc_it walk_str (fun i H' => Same H H' ∧ H' D = some (.lst (((x.cps.toList.take i).filter fun c => !low c).map fun c => V.str (sgn c)))) ⟨same_new nD, upd_same⟩ (fun _ _ _ _ => trivial) ?_ ?_
          · rintro i y H1 H2 hi ⟨s1, e⟩ ⟨rfl, c, hc, rfl⟩
            have tk : x.cps.toList.take (i + 1) = x.cps.toList.take i ++ [c] := by
              have hc' : x.cps.toList[i]? = some c := by rw [Array.getElem?_toList]; exact hc
              rw [List.take_add_one, hc']
              rfl
            refine ⟨rfl, _, rfl, c, abc, rfl, rfl, _, rfl, ?_⟩
            rw [abc_mem]
            cases hl : low c with
            | true =>
              refine iteF ⟨s1, ?_⟩
              rw [tk, List.filter_append]
              simpa [hl] using e
            | false =>
              refine iteT ⟨_, rfl, _, e, small1000 ?_, fun b o z => ?_, ?_⟩
              · rw [List.length_map]
                have a := List.length_filter_le (fun c => !low c) (x.cps.toList.take i)
                have b : (x.cps.toList.take i).length ≤ x.cps.toList.length := by rw [List.length_take]; omega
                have c8 : x.cps.toList.length ≤ 8 := h8
                omega
              · rw [upd_ne (ne_of_none z nD)]
                exact s1 b o z
              · rw [upd_same, tk, List.filter_append, List.map_append]
                simp [hl, sgn]
          · rintro H1 ⟨s1, e⟩
            have tk : x.cps.toList.take x.cps.size = x.cps.toList := List.take_of_length_le (by simp)
            rw [tk] at e
            have em : ((x.cps.toList.filter fun c => !low c).map fun c => V.str (sgn c)) = ((x.cps.toList.filter fun c => !low c).map sgn).map V.str := by
              rw [List.map_map]
              rfl
            rw [em] at e
            refine ⟨by decide, fun L nL => ?_⟩
            refine ⟨_, _, .lst (SqL.of (same_new nL _ _ e)) (dp_strs _), dp_nil upd_same, shaped_strs (ok_sgn hx.2), rfl, ?_⟩
            have z := k _ (same_trans s1 (same_new (o := HO.lst []) nL))
            have y : isWord (.str x) = PyData.eqv (.list (((x.cps.toList.filter fun c => !low c).map sgn).map PyData.str)) (.list []) := by
              rw [eqv_strs0]
              show (decide (1 ≤ x.length) && (decide (x.length ≤ 8) && x.cps.toList.all low)) = _
              rw [decide_eq_true h1, decide_eq_true h8, Bool.true_and, Bool.true_and]
              generalize x.cps.toList = l
              induction l with
              | nil => rfl
              | cons a l ih =>
                cases ha : low a with
                | true =>
                  rw [List.all_cons, ha, Bool.true_and, ih]
                  simp [ha]
                | false =>
                  rw [List.all_cons, ha, Bool.false_and]
                  simp [ha]
            rw [y] at z
            exact z
        · have e8 : decide ((x.length : Int) ≤ 8) = false := decide_eq_false (by omega)
          rw [e8]
          have z := k H same_refl
          have y : isWord (.str x) = false := by
            show (decide (1 ≤ x.length) && (decide (x.length ≤ 8) && _)) = _
            rw [decide_eq_false h8, Bool.false_and, Bool.and_false]
          rw [y] at z
          exact iteT z
      · have e1 : decide ((1 : Int) ≤ (x.length : Int)) = false := decide_eq_false (by omega)
        rw [e1]
        have z := k H same_refl
        have y : isWord (.str x) = false := by
          show (decide (1 ≤ x.length) && _) = _
          rw [decide_eq_false h1, Bool.false_and]
        rw [y] at z
        exact iteF ⟨_, rfl, iteT z⟩
    | _ => exact iteT (k H same_refl)
end
end K01
set_option Elab.async false
set_option linter.all false
set_option maxRecDepth 100000
set_option maxHeartbeats 4000000
namespace K01
open PySem PySem.Spec L2 L2H DQ RZ PyProof.Rows
def ltS (a b : Str) : Prop := a.cps.toList < b.cps.toList
theorem ltS_trans {a b c : Str} (h : ltS a b) (g : ltS b c) : ltS a c := List.lt_trans h g
theorem ltS_irrefl (a : Str) : ¬ ltS a a := List.lt_irrefl _
theorem str_ext {a b : Str} (h : a.cps.toList = b.cps.toList) : a = b := by
  obtain ⟨x⟩ := a
  obtain ⟨y⟩ := b
  have e : x = y := Array.toList_inj.mp h
  rw [e]
theorem rising_le : ∀ (p : Str) (l : List Str), risingS p l = true → (p :: l).Pairwise fun a b => ¬ ltS b a
  | p, [], _ => List.pairwise_cons.mpr ⟨fun _ h => by simp at h, .nil⟩
  | p, x :: r, h => by
    obtain ⟨h1, h2⟩ := Bool.and_eq_true_iff.mp (show (!ltCps x.cps.toList p.cps.toList && risingS x r) = true from h)
    have n1 : ¬ ltS x p := by
      intro z
      rw [ltCps_eq] at h1
      unfold ltS at z
      rw [decide_eq_true z] at h1
      cases h1
    have ih := rising_le x r h2
    refine List.pairwise_cons.mpr ⟨fun y hy => ?_, ih⟩
    rcases List.mem_cons.mp hy with rfl | hy
    · exact n1
    · have n2 := (List.pairwise_cons.mp ih).1 y hy
      intro z
      rcases Classical.em (ltS x y) with c | c
      · exact n1 (ltS_trans c z)
      · have e : x.cps.toList = y.cps.toList := List.le_antisymm (List.not_lt.mp n2) (List.not_lt.mp c)
        rw [str_ext e] at n1
        exact n1 z
theorem sorted_le {l : List Str} (h : sortedS l = true) : l.Pairwise fun a b => ¬ ltS b a := by
  cases l with
  | nil => exact .nil
  | cons p l => exact rising_le p l h
/-- sorted and without twins: strictly ascending -/
theorem strict_of : ∀ {l : List Str}, (l.Pairwise fun a b => ¬ ltS b a) → l.Nodup → l.Pairwise ltS
  | [], _, _ => .nil
  | x :: l, h, d => by
    obtain ⟨h1, h2⟩ := List.pairwise_cons.mp h
    obtain ⟨d1, d2⟩ := List.nodup_cons.mp d
    refine List.pairwise_cons.mpr ⟨fun y hy => ?_, strict_of h2 d2⟩
    rcases Classical.em (ltS x y) with c | c
    · exact c
    · have e : x.cps.toList = y.cps.toList := List.le_antisymm (List.not_lt.mp (h1 y hy)) (List.not_lt.mp c)
      exact absurd (str_ext e ▸ hy) d1
theorem strict_nodup : ∀ {l : List Str}, l.Pairwise ltS → l.Nodup
  | [], _ => .nil
  | x :: l, h => by
    obtain ⟨h1, h2⟩ := List.pairwise_cons.mp h
    exact List.nodup_cons.mpr ⟨fun z => ltS_irrefl _ (h1 x z), strict_nodup h2⟩
/-- two strictly ascending lists of the same texts are one -/
theorem strict_one : ∀ {l m : List Str}, l.Pairwise ltS → m.Pairwise ltS → (∀ x, x ∈ l ↔ x ∈ m) → l = m
  | [], [], _, _, _ => rfl
  | [], y :: m, _, _, h => by have := (h y).mpr (List.mem_cons_self ..); simp at this
  | x :: l, [], _, _, h => by have := (h x).mp (List.mem_cons_self ..); simp at this
  | x :: l, y :: m, hl, hm, h => by
    obtain ⟨l1, l2⟩ := List.pairwise_cons.mp hl
    obtain ⟨m1, m2⟩ := List.pairwise_cons.mp hm
    have e : x = y := by
      rcases List.mem_cons.mp ((h x).mp (List.mem_cons_self ..)) with z | z
      · exact z
      · rcases List.mem_cons.mp ((h y).mpr (List.mem_cons_self ..)) with u | u
        · exact u.symm
        · exact absurd (ltS_trans (m1 x z) (l1 y u)) (ltS_irrefl _)
    subst e
    congr 1
    refine strict_one l2 m2 fun z => ?_
    constructor
    · intro hz
      rcases List.mem_cons.mp ((h z).mp (List.mem_cons_of_mem _ hz)) with u | u
      · exact absurd (u ▸ l1 z hz) (ltS_irrefl _)
      · exact u
    · intro hz
      rcases List.mem_cons.mp ((h z).mpr (List.mem_cons_of_mem _ hz)) with u | u
      · exact absurd (u ▸ m1 z hz) (ltS_irrefl _)
      · exact u
theorem sorted_pack {ws ns : List Str} (hs : sortedS ns = true) (hp : ns.Perm (SX.pack ws)) : ws = ns ↔ ws.Pairwise ltS := by
  have nd : ns.Nodup := hp.nodup_iff.mpr (SX.pack_nodup ws)
  have st : ns.Pairwise ltS := strict_of (sorted_le hs) nd
  constructor
  · intro e
    rw [e]
    exact st
  · intro h
    refine strict_one h st fun x => ?_
    rw [hp.mem_iff, SX.pack_mem]
theorem chain_strict : ∀ ws : List Str, (((ws.map PyData.str).zip (ws.map PyData.str).tail).all fun p => ltD p.1 p.2) = true ↔ ws.Pairwise ltS
  | [] => by simp
  | [x] => by simp
  | x :: y :: l => by
    have ih := chain_strict (y :: l)
    show (decide (x.cps.toList < y.cps.toList) && (((y :: l).map PyData.str).zip ((y :: l).map PyData.str).tail).all fun p => ltD p.1 p.2) = true ↔ _
    rw [Bool.and_eq_true_iff, decide_eq_true_eq, ih]
    constructor
    · rintro ⟨h1, h2⟩
      refine List.pairwise_cons.mpr ⟨fun z hz => ?_, h2⟩
      rcases List.mem_cons.mp hz with rfl | hz
      · exact h1
      · exact ltS_trans h1 ((List.pairwise_cons.mp h2).1 z hz)
    · intro h
      obtain ⟨h1, h2⟩ := List.pairwise_cons.mp h
      exact ⟨h1 y (List.mem_cons_self ..), h2⟩
theorem eqv_strs : ∀ ws ns : List Str, PyData.eqv (.list (ws.map PyData.str)) (.list (ns.map PyData.str)) = decide (ws = ns)
  | [], [] => by simp [PyData.eqv, PyData.eqvAll]
  | [], n :: ns => by simp [PyData.eqv, PyData.eqvAll]
  | w :: ws, [] => by simp [PyData.eqv, PyData.eqvAll]
  | w :: ws, n :: ns => by
    have ih := eqv_strs ws ns
    simp only [PyData.eqv, List.map_cons, PyData.eqvAll] at ih ⊢
    rw [ih]
    by_cases a : w = n
    · by_cases b : ws = ns
      · simp [a, b]
      · simp [a, b]
    · simp [a]
/-- words are texts -/
theorem words_of : ∀ {ds : List PyData}, ds.all isWord = true → ∃ ws : List Str, ds = ws.map PyData.str ∧ ∀ x ∈ ws, wordS x = true
  | [], _ => ⟨[], rfl, fun _ h => by simp at h⟩
  | d :: ds, h => by
    obtain ⟨h1, h2⟩ := Bool.and_eq_true_iff.mp (show (isWord d && ds.all isWord) = true from h)
    obtain ⟨ws, rfl, hw⟩ := words_of h2
    cases d with
    | str x => exact ⟨x :: ws, rfl, fun y hy => by
        rcases List.mem_cons.mp hy with rfl | hy
        · exact h1
        · exact hw y hy⟩
    | _ => cases h1
theorem word_ok {x : Str} (h : wordS x = true) : PyData.strOk x = true := by
  have z := (Bool.and_eq_true_iff.mp (Bool.and_eq_true_iff.mp h).2).2
  show x.cps.all (fun c => decide (c < 0x110000)) = true
  rw [← Array.all_toList]
  refine List.all_eq_true.mpr fun c hc => ?_
  have y := List.all_eq_true.mp z c hc
  unfold low at y
  have y2 := of_decide_eq_true (Bool.and_eq_true_iff.mp y).2
  exact decide_eq_true (by omega)
/-- the law's look at the marks -/
theorem marks_eq {ws ns : List Str} (h3 : ws.length ≤ 3) (hw : ∀ x ∈ ws, wordS x = true) (hs : sortedS ns = true) (hp : ns.Perm (SX.pack ws)) :
    areMarks (.tuple (ws.map PyData.str)) = PyData.eqv (.list (ws.map PyData.str)) (.list (ns.map PyData.str)) := by
  rw [eqv_strs]
  have al : (ws.map PyData.str).all isWord = true := by
    rw [List.all_map]
    exact List.all_eq_true.mpr hw
  show (decide ((ws.map PyData.str).length ≤ 3) && ((ws.map PyData.str).all isWord && _)) = _
  rw [List.length_map, decide_eq_true h3, al, Bool.true_and, Bool.true_and]
  rw [Bool.eq_iff_iff, decide_eq_true_eq, sorted_pack hs hp]
  exact chain_strict ws
end K01
set_option Elab.async false
set_option linter.all false
set_option maxRecDepth 100000
set_option maxHeartbeats 4000000
namespace K01
open PySem L2 L2H DQ RZ
/-! the law's count of nodes, calls, calls at the root -/
abbrev T3 := Int × Int × Int
def comb : Option T3 → Option T3 → Option T3
  | some a, some b => some (a.1 + b.1, a.2.1 + b.2.1, a.2.2 + b.2.2)
  | _, _ => none
theorem comb_none (a : Option T3) : comb a none = none := by cases a <;> rfl
theorem comb_comm (a b : Option T3) : comb a b = comb b a := by
  cases a with
  | none => cases b <;> rfl
  | some a =>
    cases b with
    | none => rfl
    | some b => simp [comb, Int.add_comm]
theorem comb_assoc (a b c : Option T3) : comb (comb a b) c = comb a (comb b c) := by
  cases a with
  | none => rfl
  | some a =>
    cases b with
    | none => rfl
    | some b =>
      cases c with
      | none => rfl
      | some c => simp [comb, Int.add_assoc]
theorem comb_zero (a : Option T3) : comb a (some (0, 0, 0)) = a := by
  cases a with
  | none => rfl
  | some a => simp [comb]
def nodeP : PyData → Bool
  | .tuple ds => nodeB ds[0]? ds[1]?
  | _ => false
def nodeL (d : PyData) : Bool := (isPair d || isCall d) && nodeP d
theorem isNode_eq (l : Int) (d : PyData) : isNode l d = ((isPair d || (decide (0 < l) && isCall d)) && nodeP d) := by cases d <;> rfl
def stepL (c : PyData → Option T3) (acc : Option T3) (b : PyData) : Option T3 :=
  match b with
  | .tuple [.str u, t] => if wordS u = true then comb acc (c t) else none
  | _ => none
def start (l : Int) (n : Nat) : T3 := (1, (n : Int), if l ≤ 0 then (n : Int) else 0)
def lvOf (c : PyData → Option T3) (l : Int) : PyData → Option T3
  | .tuple (_ :: .tuple bs :: r) => bs.foldl (stepL c) (some (start l r.length))
  | _ => none
def lv : Nat → Int → PyData → Option T3
  | 0, _, _ => none
  | m + 1, l, d => if nodeL d = true then lvOf (lv m (l + 1)) l d else none
/-- an entry of the law's stack -/
def lvl (e : PyData × Int) : Option T3 := lv (4 - e.2).toNat e.2 e.1
def tot : List (PyData × Int) → Option T3
  | [] => some (0, 0, 0)
  | e :: es => comb (lvl e) (tot es)
theorem tot_app : ∀ es fs : List (PyData × Int), tot (es ++ fs) = comb (tot es) (tot fs)
  | [], fs => by
    rw [List.nil_append, comb_comm]
    exact (comb_zero _).symm
  | e :: es, fs => by
    rw [List.cons_append]
    show comb (lvl e) (tot (es ++ fs)) = comb (comb (lvl e) (tot es)) (tot fs)
    rw [tot_app es fs, comb_assoc]
theorem stepL_none (c : PyData → Option T3) (b : PyData) : stepL c none b = none := by
  unfold stepL
  split
  · split
    · rfl
    · rfl
  · rfl
theorem foldL_none (c : PyData → Option T3) : ∀ bs : List PyData, bs.foldl (stepL c) none = none
  | [] => rfl
  | b :: bs => by
    rw [List.foldl_cons, stepL_none]
    exact foldL_none c bs
theorem foldL_stop {c : PyData → Option T3} {bs : List PyData} {i : Nat} {b : PyData} {acc : Option T3} (hb : bs[i]? = some b) (hs : ∀ a, stepL c a b = none) : bs.foldl (stepL c) acc = none := by
  have e : bs = bs.take i ++ b :: bs.drop (i + 1) := by
    have hi : i < bs.length := (List.getElem?_eq_some_iff.mp hb).1
    have eb : bs[i] = b := (List.getElem?_eq_some_iff.mp hb).2
    rw [← eb, ← List.drop_eq_getElem_cons hi, List.take_append_drop]
  rw [e, List.foldl_append, List.foldl_cons, hs]
  exact foldL_none c _
/-- what a well-formed branch puts on the stack -/
def tgt : PyData → PyData
  | .tuple [_, t] => t
  | _ => .none
def goodB : PyData → Bool
  | .tuple [.str u, _] => wordS u
  | _ => false
theorem fold_tot {l : Int} : ∀ (bs : List PyData) (acc : Option T3), (∀ b ∈ bs, goodB b = true) → bs.foldl (stepL fun t => lvl (t, l)) acc = comb acc (tot (bs.map fun b => (tgt b, l)))
  | [], acc, _ => (comb_zero _).symm
  | b :: bs, acc, h => by
    have hb := h b (List.mem_cons_self ..)
    rw [List.foldl_cons, fold_tot bs _ fun x hx => h x (List.mem_cons_of_mem _ hx)]
    show _ = comb acc (comb (lvl (tgt b, l)) (tot _))
    rw [← comb_assoc]
    congr 1
    match b, hb with
    | .tuple [.str u, t], hb =>
      have hw : wordS u = true := hb
      show (if wordS u = true then comb acc (lvl (t, l)) else none) = _
      rw [if_pos hw]
      rfl
theorem lvl_eq {d : PyData} {l : Int} (h : l ≤ 3) (h0 : 0 ≤ l) : lvl (d, l) = if nodeL d = true then lvOf (fun t => lvl (t, l + 1)) l d else none := by
  have e : (4 - l).toNat = (4 - (l + 1)).toNat + 1 := by omega
  show lv (4 - l).toNat l d = _
  rw [e]
  rfl
theorem lvl_deep {d : PyData} {l : Int} (h : 3 < l) : lvl (d, l) = none := by
  have e : (4 - l).toNat = 0 := by omega
  show lv (4 - l).toNat l d = _
  rw [e]
  rfl
/-! at least one node -/
def ge1 (k : Int) : Option T3 → Prop
  | some t => k ≤ t.1 ∧ 0 ≤ t.2.1 ∧ 0 ≤ t.2.2
  | none => True
theorem ge_comb {a b : Option T3} {i j : Int} (h : ge1 i a) (g : ge1 j b) : ge1 (i + j) (comb a b) := by
  cases a with
  | none => trivial
  | some a =>
    cases b with
    | none => trivial
    | some b =>
      obtain ⟨h1, h2, h3⟩ := h
      obtain ⟨g1, g2, g3⟩ := g
      refine ⟨?_, ?_, ?_⟩
      · show i + j ≤ a.1 + b.1; omega
      · show 0 ≤ a.2.1 + b.2.1; omega
      · show 0 ≤ a.2.2 + b.2.2; omega
theorem ge_weak {i j : Int} {a : Option T3} (h : ge1 i a) (ij : j ≤ i) : ge1 j a := by
  cases a with
  | none => trivial
  | some a => exact ⟨Int.le_trans ij h.1, h.2⟩
theorem ge_fold {c : PyData → Option T3} {k : Int} (hc : ∀ t, ge1 0 (c t)) : ∀ (bs : List PyData) (acc : Option T3), ge1 k acc → ge1 k (bs.foldl (stepL c) acc)
  | [], acc, h => h
  | b :: bs, acc, h => by
    rw [List.foldl_cons]
    refine ge_fold hc bs _ ?_
    unfold stepL
    split
    · split
      · have z := ge_comb h (hc ‹_›)
        rw [Int.add_zero] at z
        exact z
      · trivial
    · trivial
theorem ge_lv : ∀ (m : Nat) (l : Int) (d : PyData), ge1 1 (lv m l d)
  | 0, _, _ => trivial
  | m + 1, l, d => by
    show ge1 1 (if nodeL d = true then lvOf (lv m (l + 1)) l d else none)
    split
    · unfold lvOf
      split
      · refine ge_fold (fun t => ge_weak (ge_lv m (l + 1) t) (by decide)) _ _ ⟨Int.le_refl _, ?_, ?_⟩
        · show (0 : Int) ≤ (_ : Nat)
          omega
        · show (0 : Int) ≤ if l ≤ 0 then ((_ : Nat) : Int) else 0
          split <;> omega
      · trivial
    · trivial
theorem ge_tot : ∀ es : List (PyData × Int), ge1 0 (tot es)
  | [] => ⟨Int.le_refl _, Int.le_refl _, Int.le_refl _⟩
  | e :: es => by
    have z := ge_comb (ge_lv (4 - e.2).toNat e.2 e.1) (ge_tot es)
    exact ge_weak z (by decide)
/-! the program's own count beside it -/
def three (z : Int) (x : Int × Int) : T3 := (x.1, x.2, z)
theorem br_cases (b : PyData) : (∃ u t, b = .tuple [.str u, t]) ∨ ((∀ c a, stepL c a b = none) ∧ ∀ c a, stepB c a b = none) := by
  by_cases h : ∃ u t, b = .tuple [.str u, t]
  · exact .inl h
  · refine .inr ⟨fun c a => ?_, fun c a => ?_⟩
    · unfold stepL
      split
      · exact absurd ⟨_, _, rfl⟩ h
      · rfl
    · unfold stepB
      split
      · rfl
      · split
        · exact absurd ⟨_, _, rfl⟩ h
        · rfl
theorem of_cases (d : PyData) : (∃ a bs r, d = .tuple (a :: .tuple bs :: r)) ∨ ((∀ c l, lvOf c l d = none) ∧ ∀ c, cntOf c d = none) := by
  by_cases h : ∃ a bs r, d = .tuple (a :: .tuple bs :: r)
  · exact .inl h
  · refine .inr ⟨fun c l => ?_, fun c => ?_⟩
    · unfold lvOf
      split
      · exact absurd ⟨_, _, _, rfl⟩ h
      · rfl
    · unfold cntOf
      split
      · exact absurd ⟨_, _, _, rfl⟩ h
      · rfl
theorem fold_three {c : PyData → Option (Int × Int)} {c' : PyData → Option T3} (h : ∀ t, c' t = (c t).map (three 0)) (z : Int) : ∀ (bs : List PyData) (acc : Option (Int × Int)), bs.foldl (stepL c') (acc.map (three z)) = (bs.foldl (stepB c) acc).map (three z)
  | [], acc => rfl
  | b :: bs, acc => by
    rw [List.foldl_cons, List.foldl_cons, ← fold_three h z bs]
    congr 1
    cases acc with
    | none => exact stepL_none c' b
    | some xy =>
      rcases br_cases b with ⟨u, t, rfl⟩ | ⟨h1, h2⟩
      · show (if wordS u = true then comb (some (three z xy)) (c' t) else none) = Option.map (three z) (if wordS u = true then (match c t with | some pq => some (xy.1 + pq.1, xy.2 + pq.2) | none => none) else none)
        cases wordS u with
        | false => rfl
        | true =>
          rw [if_pos rfl, if_pos rfl, h]
          cases c t with
          | none => rfl
          | some pq => simp [comb, three]
      · rw [h1, h2]
        rfl
theorem isNode_pos {l : Int} (h : 0 < l) (d : PyData) : isNode l d = nodeL d := by
  rw [isNode_eq, decide_eq_true h, Bool.true_and]
  rfl
theorem lv_cnt : ∀ (m : Nat) (l : Int) (d : PyData), l + m = 4 → 0 < l → lv m l d = (cnt m d).map (three 0)
  | 0, _, _, _, _ => rfl
  | m + 1, l, d, e, h => by
    have el : 3 - (m : Int) = l := by omega
    show (if nodeL d = true then lvOf (lv m (l + 1)) l d else none) = Option.map (three 0) (if isNode (3 - (m : Int)) d = true then cntOf (cnt m) d else none)
    rw [el, isNode_pos h]
    split
    · rcases of_cases d with ⟨a, bs, r, rfl⟩ | ⟨h1, h2⟩
      · show bs.foldl (stepL (lv m (l + 1))) (some (start l r.length)) = (bs.foldl (stepB (cnt m)) (some (1, (r.length : Int)))).map (three 0)
        rw [← fold_three (fun t => lv_cnt m (l + 1) t (by omega) (by omega)) 0]
        congr 1
        show some (start l _) = some _
        unfold start three
        rw [if_neg (by omega)]
      · rw [h1, h2]
        rfl
    · rfl
/-- the law's verdict at the root -/
def root (d : PyData) : Option T3 := lvl (d, 0)
theorem start_z {c : PyData → Option T3} (hc : ∀ t, ge1 0 (c t)) : ∀ (bs : List PyData) (acc t : T3), 1 ≤ acc.2.2 → bs.foldl (stepL c) (some acc) = some t → 1 ≤ t.2.2
  | [], acc, t, h, e => by
    cases e
    exact h
  | b :: bs, acc, t, h, e => by
    rw [List.foldl_cons] at e
    cases s : stepL c (some acc) b with
    | none =>
      rw [s, foldL_none] at e
      cases e
    | some u =>
      rw [s] at e
      refine start_z hc bs u t ?_ e
      unfold stepL at s
      split at s
      · split at s
        · rename_i t' _
          have g := hc t'
          cases q : c t' with
          | none => rw [q] at s; cases s
          | some v =>
            rw [q] at s g
            cases s
            have := g.2.2
            show 1 ≤ acc.2.2 + v.2.2
            omega
        · cases s
      · cases s
theorem shape_root (c : Int) (d : PyData) : shape c d = true ↔ ∃ n, root d = some (n, c, 0) ∧ n ≤ 6 := by
  unfold shape
  have e : root d = if nodeL d = true then lvOf (fun t => lvl (t, 0 + 1)) 0 d else none := lvl_eq (by decide) (by decide)
  have ec : cnt 4 d = if isNode (3 - ((3 : Nat) : Int)) d = true then cntOf (cnt 3) d else none := rfl
  have i0 : isNode (3 - ((3 : Nat) : Int)) d = (isPair d && nodeP d) := by
    rw [isNode_eq]
    simp
  have hb : ∀ t, (fun t => lvl (t, (0 : Int) + 1)) t = (cnt 3 t).map (three 0) := fun t => lv_cnt 3 1 t rfl (by decide)
  cases hp : isPair d with
  | true =>
    have nl : nodeL d = nodeP d := by
      unfold nodeL
      rw [hp, Bool.true_or, Bool.true_and]
    rw [hp, Bool.true_and, ← nl] at i0
    rw [i0] at ec
    have er : root d = (cnt 4 d).map (three 0) := by
      rw [e, ec]
      split
      · rcases of_cases d with ⟨a, bs, r, rfl⟩ | ⟨h1, h2⟩
        · have r0 : r = [] := by
            have y : (a :: PyData.tuple bs :: r).length = 2 := of_decide_eq_true hp
            cases r with
            | nil => rfl
            | cons x r => simp at y
          subst r0
          show bs.foldl (stepL fun t => lvl (t, 0 + 1)) (some (start 0 0)) = (bs.foldl (stepB (cnt 3)) (some (1, 0))).map (three 0)
          rw [← fold_three hb 0]
          rfl
        · rw [h1, h2]
          rfl
      · rfl
    rw [er]
    cases cnt 4 d with
    | none => simp
    | some xy =>
      obtain ⟨x, y⟩ := xy
      simp only [Option.map_some, three]
      constructor
      · intro h
        obtain ⟨h1, h2⟩ := Bool.and_eq_true_iff.mp h
        have h2' := V.int.inj (of_decide_eq_true h2)
        have h2'' : y = c := h2'
        exact ⟨x, by rw [h2''], of_decide_eq_true h1⟩
      · rintro ⟨n, h1, h2⟩
        cases h1
        rw [decide_eq_true h2, decide_eq_true rfl]
        rfl
  | false =>
    have nn : cnt 4 d = none := by
      rw [ec, i0, hp, Bool.false_and]
      rfl
    rw [nn]
    constructor
    · intro h
      cases h
    · rintro ⟨n, h1, h2⟩
      exfalso
      rw [e] at h1
      split at h1
      · rename_i hn
        unfold nodeL at hn
        rw [hp, Bool.false_or] at hn
        have hcl := (Bool.and_eq_true_iff.mp hn).1
        rcases of_cases d with ⟨a, bs, r, rfl⟩ | ⟨g1, g2⟩
        · have y : (a :: PyData.tuple bs :: r).length = 3 := of_decide_eq_true (Bool.and_eq_true_iff.mp hcl).1
          have r1 : r.length = 1 := by simpa using y
          have z := start_z (fun t => ge_weak (ge_lv _ _ t) (by decide)) bs _ _ (by
            show 1 ≤ if (0 : Int) ≤ 0 then ((r.length : Nat) : Int) else 0
            rw [r1]
            decide) h1
          exact absurd z (by show ¬ (1 : Int) ≤ 0; decide)
        · rw [g1] at h1
          cases h1
      · cases h1
end K01
set_option Elab.async false
set_option linter.all false
set_option maxRecDepth 100000
set_option maxHeartbeats 4000000
namespace K01
open PySem L2 L2H DQ RZ
open PySem.Builtin PySem.Builtin.Str
def qcall : Str := "'call'"
theorem qcall_cps : qcall.cps.toList = [39, 99, 97, 108, 108, 39] := by decide +kernel
theorem call_cps : ("call" : Str).cps.toList = [99, 97, 108, 108] := by decide +kernel
theorem not_last {x y : Str} {c : Nat} (h : y.cps.toList.getLast? = some c) (hc : c ≠ 39) : x ++ y ≠ qcall := by
  intro e
  have z : (x ++ y).cps.toList = qcall.cps.toList := by rw [e]
  have z2 : (x ++ y).cps.toList = x.cps.toList ++ y.cps.toList := Array.toList_append
  rw [z2, qcall_cps] at z
  have g := congrArg List.getLast? z
  rw [List.getLast?_append, h] at g
  exact hc (Option.some.inj g)
theorem char_or (q c : Nat) : reprChar q c = [c] ∨ ∃ r, reprChar q c = 92 :: r := by
  unfold reprChar
  dsimp only
  repeat' split
  all_goals first | exact .inl rfl | exact .inr ⟨_, rfl⟩
theorem flat_self {q : Nat} : ∀ (l out : List Nat), 92 ∉ out → l.flatMap (reprChar q) = out → l = out
  | [], out, _, e => e
  | c :: l, out, h, e => by
    rw [List.flatMap_cons] at e
    rcases char_or q c with z | ⟨r, z⟩
    · rw [z] at e
      cases out with
      | nil => cases e
      | cons o out =>
        rw [List.singleton_append] at e
        obtain ⟨e1, e2⟩ := List.cons.inj e
        rw [e1, flat_self l out (fun hm => h (List.mem_cons_of_mem _ hm)) e2]
    · rw [z] at e
      exact absurd (by rw [← e]; exact List.mem_cons_self ..) h
theorem fold_flat (q : Nat) : ∀ (l : List Nat) (acc : Array Nat), (l.foldl (fun out c => out ++ (reprChar q c).toArray) acc).toList = acc.toList ++ l.flatMap (reprChar q)
  | [], acc => by simp
  | c :: l, acc => by
    rw [List.foldl_cons, fold_flat q l, List.flatMap_cons]
    simp
theorem str_ext' {a b : Str} (h : a.cps.toList = b.cps.toList) : a = b := by
  obtain ⟨x⟩ := a
  obtain ⟨y⟩ := b
  have e : x = y := Array.toList_inj.mp h
  rw [e]
theorem repr_call (x : Str) : reprText x = qcall ↔ x = "call" := by
  constructor
  · intro e
    have z : (reprText x).cps.toList = qcall.cps.toList := by rw [e]
    have z2 : (reprText x).cps.toList = (reprQuote x :: x.cps.toList.flatMap (reprChar (reprQuote x))) ++ [reprQuote x] := by
      unfold reprText
      rw [Array.toList_push, ← Array.foldl_toList, fold_flat]
      rfl
    rw [z2, qcall_cps, List.cons_append] at z
    obtain ⟨_, z3⟩ := List.cons.inj z
    have z4 : x.cps.toList.flatMap (reprChar (reprQuote x)) = [99, 97, 108, 108] := by
      have g := congrArg List.dropLast z3
      rw [List.dropLast_concat] at g
      exact g
    refine str_ext' ?_
    rw [call_cps]
    exact flat_self _ _ (by decide) z4
  · rintro rfl
    decide +kernel
theorem shown_call (d : PyData) : d.shown = qcall ↔ d = .str "call" := by
  constructor
  · intro e
    cases d with
    | none => exact absurd e (by decide +kernel)
    | bool b => cases b <;> exact absurd e (by decide +kernel)
    | int i =>
      exfalso
      have e' : ((toString i : String) : Str) = qcall := e
      have z := PyProof.Rows.int_text_free' 39 ⟨by decide, by decide⟩ i
      rw [e', qcall_cps] at z
      exact z (List.mem_cons_self ..)
    | str x => rw [(repr_call x).mp e]
    | list xs => exact absurd e (not_last (c := 93) (by decide +kernel) (by decide))
    | tuple xs =>
      refine absurd e (not_last (c := 41) ?_ (by decide))
      split
      · decide +kernel
      · decide +kernel
    | dict xs => exact absurd e (not_last (c := 125) (by decide +kernel) (by decide))
  · rintro rfl
    exact (repr_call _).mpr rfl
theorem callS_shown (x : PyData) : isCallS (some x) = decide (V.str x.shown = V.str qcall) := by
  rw [Bool.eq_iff_iff, decide_eq_true_eq]
  constructor
  · intro h
    cases x with
    | str y =>
      have z := V.str.inj (of_decide_eq_true h)
      rw [z]
      exact congrArg V.str ((shown_call _).mpr rfl)
    | _ => cases h
  · intro h
    have z := (shown_call x).mp (V.str.inj h)
    rw [z]
    show decide (V.str ("call" : Str) = V.str "call") = true
    exact decide_eq_true rfl
end K01
set_option Elab.async false
set_option linter.all false
set_option maxRecDepth 100000
set_option maxHeartbeats 4000000
namespace K01
open PySem L2 L2H DQ RZ
theorem bset : bootBuiltins ("set" : Str) = some (.type "set") := by decide +kernel
theorem blist : bootBuiltins ("list" : Str) = some (.type "list") := by decide +kernel
theorem bsorted : bootBuiltins ("sorted" : Str) = some (.builtin "sorted") := by decide +kernel
theorem brepr : bootBuiltins ("repr" : Str) = some (.builtin "repr") := by decide +kernel
def OkD (d : PyData) : Prop := d.showable = true ∧ d.depth ≤ 60 ∧ d.shown.length ≤ sizeLine
inductive Within : PyData → PyData → Prop
  | self (d : PyData) : Within d d
  | tup {x y : PyData} {ds : List PyData} : y ∈ ds → Within x y → Within x (.tuple ds)
  | lst {x y : PyData} {ds : List PyData} : y ∈ ds → Within x y → Within x (.list ds)
def OkT (d : PyData) : Prop := ∀ x, Within x d → OkD x
theorem OkT.self {d : PyData} (h : OkT d) : OkD d := h d (.self d)
theorem OkT.tup {x : PyData} {ds : List PyData} (h : OkT (.tuple ds)) (hx : x ∈ ds) : OkT x := fun y w => h y (.tup hx w)
section
variable {P : Program} {w : World} {K : PySem.W.Frag} {mg : Str → Option Value} {base : Heap}
theorem cr_setP {X : Cx} (hP : X.prog = P) (hw : X.w = w) (hK : X.K = K) (hc : X.calm = true) : CallR X (.type "set") (SX.rSetTx P w K) := by
  subst hP hw hK
  exact SX.cr_setTx hc
theorem cr_sortP {X : Cx} (hP : X.prog = P) (hw : X.w = w) (hc : X.calm = true) : CallR X (.builtin "sorted") (SX.rSortTx P w) := by
  subst hP hw
  exact SX.cr_sortTx hc
end
end K01
set_option Elab.async false
set_option linter.all false
set_option maxRecDepth 100000
set_option maxHeartbeats 4000000
/-! slices and sums of tuples that are tracked -/
namespace K01
open PySem L2 L2H DQ RZ
def rSlF : V → Option Int → Option Int → Hp → VK → Prop := fun x lo hi H Q => ∃ a xs, x = .ref a ∧ H a = some (.tup xs) ∧ ∀ p H', Same H H' → H' p = some (.tup (cutV xs lo hi)) → Q (.ref p) H'
theorem sl_tupF {X : Cx} : SlR X rSlF := by
  intro pins s σ H x v vl vu lo hi sl Q I rx hs pl pu h
  obtain ⟨a, xs, rfl, sq, g⟩ := h
  refine sl_tupA pins s σ H _ v vl vu lo hi sl Q I rx hs pl pu ⟨a, xs, rfl, SqT.of sq, fun wh => g a H same_refl ?_, fun _ p np => g p _ (same_new np) upd_same⟩
  have z : cutV xs lo hi = xs := by
    unfold cutV
    rw [wh.1, wh.2, List.drop_zero, Nat.sub_zero, List.take_length]
  rw [z]
  exact sq
def rCatF : R2 := fun x y H Q => ∃ a b xs ys, x = .ref a ∧ y = .ref b ∧ H a = some (.tup xs) ∧ H b = some (.tup ys) ∧ xs.length + ys.length ≤ sizeLine ∧ ∀ p H', Same H H' → H' p = some (.tup (xs ++ ys)) → Q (.ref p) H'
theorem op_catF {X : Cx} : OpR X (binaryOp .Add) rCatF := by
  intro pins s σ H x y v u Q I rx ry h
  obtain ⟨a, b, xs, ys, rfl, rfl, ha, hb, hz, g⟩ := h
  refine op_catA pins s σ H _ _ v u Q I rx ry ⟨a, b, xs, ys, rfl, rfl, SqT.of ha, SqT.of hb, hz, fun hx => g b H same_refl ?_, fun _ hy => g a H same_refl ?_, fun _ _ p np => g p _ (same_new np) upd_same⟩
  · rw [hx]
    exact hb
  · rw [hy, List.append_nil]
    exact ha
theorem cut_to (xs : List V) {j : Nat} : cutV xs none (some (j : Int)) = xs.take j := by
  unfold cutV
  rw [HT.sIx_nat, HT.sIx_none, List.drop_zero, Nat.sub_zero]
  by_cases h : j ≤ xs.length
  · rw [Nat.min_eq_left h]
  · rw [Nat.min_eq_right (by omega), List.take_length, List.take_of_length_le (by omega)]
theorem cut_from (xs : List V) {j : Nat} : cutV xs (some (j : Int)) none = xs.drop j := by
  unfold cutV
  rw [HT.sIx_nat, HT.sIx_none]
  by_cases h : j ≤ xs.length
  · rw [Nat.min_eq_left h]
    exact List.take_of_length_le (by rw [List.length_drop]; exact Nat.le_refl _)
  · rw [Nat.min_eq_right (by omega), List.drop_of_length_le (Nat.le_refl _), List.drop_of_length_le (by omega)]
    exact List.take_nil
theorem cut_at (xs : List V) {j : Nat} (h : j < xs.length) : cutV xs (some (j : Int)) (some ((j : Int) + 1)) = (xs.drop j).take 1 := by
  unfold cutV
  have e : ((j : Int) + 1) = ((j + 1 : Nat) : Int) := by omega
  rw [e, HT.sIx_nat, HT.sIx_nat, Nat.min_eq_left (by omega), Nat.min_eq_left (by omega)]
  congr 1
  omega
end K01
set_option Elab.async false
set_option linter.all false
set_option maxRecDepth 100000
set_option maxHeartbeats 4000000
namespace K01
open PySem L2 L2H DQ RZ
/-! a bound of how long repr of such data is -/
mutual
def sz : PyData → Nat
  | .none => 5
  | .bool _ => 5
  | .int _ => 1921
  | .str x => 10 * x.length + 2
  | .list xs => szAll xs + 4
  | .tuple xs => szAll xs + 4
  | .dict _ => 2
def szAll : List PyData → Nat
  | [] => 0
  | x :: xs => sz x + 2 + szAll xs
end
mutual
/-- ints of at most N, texts of signs, dicts that are empty -/
def gd (N : Nat) : PyData → Bool
  | .none => true
  | .bool _ => true
  | .int i => decide (i.natAbs ≤ N)
  | .str x => PyData.strOk x
  | .list xs => gdAll N xs
  | .tuple xs => gdAll N xs
  | .dict kvs => kvs.isEmpty
def gdAll (N : Nat) : List PyData → Bool
  | [] => true
  | x :: xs => gd N x && gdAll N xs
end
theorem gdAll_iff {N : Nat} : ∀ {xs : List PyData}, gdAll N xs = true ↔ ∀ x ∈ xs, gd N x = true
  | [] => by simp [gdAll]
  | x :: xs => by
    simp only [gdAll, Bool.and_eq_true, List.mem_cons, gdAll_iff (xs := xs)]
    constructor
    · rintro ⟨h1, h2⟩ y (rfl | hy)
      · exact h1
      · exact h2 y hy
    · intro h
      exact ⟨h x (.inl rfl), fun y hy => h y (.inr hy)⟩
theorem sz_mem : ∀ {xs : List PyData} {x : PyData}, x ∈ xs → sz x + 2 ≤ szAll xs
  | y :: xs, x, h => by
    rcases List.mem_cons.mp h with rfl | h
    · simp only [szAll]
      omega
    · have := sz_mem h
      simp only [szAll]
      omega
theorem dp_mem : ∀ {xs : List PyData} {x : PyData}, x ∈ xs → x.depth ≤ PyData.depthAll xs
  | y :: xs, x, h => by
    simp only [PyData.depthAll]
    rcases List.mem_cons.mp h with rfl | h
    · omega
    · have := dp_mem h
      omega
theorem within_le {N : Nat} {x d : PyData} (w : Within x d) : gd N d = true → gd N x = true ∧ sz x ≤ sz d ∧ x.depth ≤ d.depth := by
  induction w with
  | self => exact fun h => ⟨h, Nat.le_refl _, Nat.le_refl _⟩
  | tup hy _ ih =>
    intro h
    simp only [gd] at h
    obtain ⟨a, b, c⟩ := ih (gdAll_iff.mp h _ hy)
    have z1 := sz_mem hy
    have z2 := dp_mem hy
    simp only [sz, PyData.depth]
    exact ⟨a, by omega, by omega⟩
  | lst hy _ ih =>
    intro h
    simp only [gd] at h
    obtain ⟨a, b, c⟩ := ih (gdAll_iff.mp h _ hy)
    have z1 := sz_mem hy
    have z2 := dp_mem hy
    simp only [sz, PyData.depth]
    exact ⟨a, by omega, by omega⟩
theorem from_le : ∀ (ts : List Str) (k : Nat) (acc : Str), (textFrom k acc ts).length ≤ acc.length + piled ts
  | [], k, acc => by
    show acc.length ≤ _
    omega
  | t :: ts, k, acc => by
    have ih := from_le ts (k + 1) (acc ++ (if k > 0 then ", " else "" : String) ++ t)
    rw [strLen_append, strLen_append] at ih
    have e : ((if k > 0 then ", " else "" : String) : Str).length ≤ 2 := by
      split
      · exact (by decide +kernel : ((", " : String) : Str).length ≤ 2)
      · exact (by decide +kernel : (("" : String) : Str).length ≤ 2)
    rw [piled_cons]
    show (textFrom (k + 1) (acc ++ (if k > 0 then ", " else "" : String) ++ t) ts).length ≤ _
    omega
theorem join_le (ts : List Str) : (Str.join ", " ts).length ≤ piled ts := by
  by_cases h : ts = []
  · subst h
    exact (by decide +kernel : (Str.join ", " ([] : List Str)).length ≤ 0)
  · have := join_length_add ts h
    omega
theorem log_le {i : Int} {N : Nat} (h : i.natAbs ≤ N) (hN : N ≤ 10 ^ 40) : i.natAbs.log2 < 1920 := by
  by_cases z : i.natAbs = 0
  · rw [z]
    decide
  · refine (Nat.log2_lt z).mpr (Nat.lt_of_le_of_lt (Nat.le_trans h hN) ?_)
    exact Nat.lt_of_lt_of_le (by decide +kernel : 10 ^ 40 < 2 ^ 200) (Nat.pow_le_pow_right (by decide) (by decide))
mutual
theorem shown_le {N : Nat} (hN : N ≤ 10 ^ 40) : ∀ (d : PyData), gd N d = true → d.showable = true ∧ d.shown.length ≤ sz d
  | .none, _ => ⟨rfl, by decide +kernel⟩
  | .bool b, _ => ⟨rfl, by cases b <;> decide +kernel⟩
  | .int i, h => by
    have z := log_le (of_decide_eq_true (by simpa [gd] using h)) hN
    refine ⟨decide_eq_true z, ?_⟩
    have y := PyProof.Rows.int_text_len_1921 z
    simpa [PyData.shown, sz] using y
  | .str x, h => by
    refine ⟨rfl, ?_⟩
    simp only [PyData.shown, sz]
    have h1 : PyData.strOk x = true := by simpa [gd] using h
    refine StrLaws.reprText_len x fun c hc => ?_
    have z : x.cps.all (fun c => decide (c < 0x110000)) = true := h1
    rw [← Array.all_toList] at z
    have y := of_decide_eq_true (List.all_eq_true.mp z c hc)
    exact Nat.lt_of_lt_of_le y (by decide)
  | .list xs, h => by
    have h' : gdAll N xs = true := by simpa [gd] using h
    obtain ⟨a, b⟩ := shownAll_le hN xs h'
    refine ⟨a, ?_⟩
    simp only [PyData.shown, sz]
    unfold listText
    rw [strLen_append]
    have z := from_le (PyData.shownAll xs) 0 "["
    have e1 : (("[" : String) : Str).length = 1 := by decide +kernel
    have e2 : (("]" : String) : Str).length = 1 := by decide +kernel
    omega
  | .tuple xs, h => by
    have h' : gdAll N xs = true := by simpa [gd] using h
    obtain ⟨a, b⟩ := shownAll_le hN xs h'
    refine ⟨a, ?_⟩
    simp only [PyData.shown, sz]
    unfold tupleText
    rw [strLen_append, strLen_append]
    have z := join_le (PyData.shownAll xs)
    have e1 : (("(" : String) : Str).length = 1 := by decide +kernel
    have e2 : ((if (PyData.shownAll xs).length == 1 then ",)" else ")" : String) : Str).length ≤ 2 := by
      split
      · exact (by decide +kernel : ((",)" : String) : Str).length ≤ 2)
      · exact (by decide +kernel : ((")" : String) : Str).length ≤ 2)
    omega
  | .dict kvs, h => by
    have h' : kvs.isEmpty = true := by simpa [gd] using h
    cases kvs with
    | nil => exact ⟨rfl, by decide +kernel⟩
    | cons a b => cases h'
theorem shownAll_le {N : Nat} (hN : N ≤ 10 ^ 40) : ∀ (xs : List PyData), gdAll N xs = true → PyData.showableAll xs = true ∧ piled (PyData.shownAll xs) ≤ szAll xs
  | [], _ => ⟨rfl, Nat.le_refl _⟩
  | x :: xs, h => by
    have h' := Bool.and_eq_true_iff.mp (by simpa [gdAll] using h)
    obtain ⟨a1, b1⟩ := shown_le hN x h'.1
    obtain ⟨a2, b2⟩ := shownAll_le hN xs h'.2
    refine ⟨?_, ?_⟩
    · simp only [PyData.showableAll, a1, a2, Bool.and_self]
    · simp only [PyData.shownAll, szAll]
      rw [piled_cons]
      omega
end
theorem okT_of {N : Nat} {d : PyData} (hN : N ≤ 10 ^ 40) (h : gd N d = true) (hs : sz d ≤ 1000000) (hd : d.depth ≤ 60) : OkT d := fun x w => by
  obtain ⟨a, b, c⟩ := within_le w h
  obtain ⟨e, f⟩ := shown_le hN x a
  refine ⟨e, Nat.le_trans c hd, Nat.le_trans f (Nat.le_trans b (Nat.le_trans hs (by decide)))⟩
theorem szAll_app : ∀ xs ys : List PyData, szAll (xs ++ ys) = szAll xs + szAll ys
  | [], ys => by simp [szAll]
  | x :: xs, ys => by
    simp only [List.cons_append, szAll, szAll_app xs ys]
    omega
theorem gdAll_app {N : Nat} : ∀ xs ys : List PyData, gdAll N (xs ++ ys) = (gdAll N xs && gdAll N ys)
  | [], ys => by simp [gdAll]
  | x :: xs, ys => by simp only [List.cons_append, gdAll, gdAll_app xs ys, Bool.and_assoc]
theorem depthAll_app : ∀ xs ys : List PyData, PyData.depthAll (xs ++ ys) = max (PyData.depthAll xs) (PyData.depthAll ys)
  | [], ys => by simp [PyData.depthAll]
  | x :: xs, ys => by
    simp only [List.cons_append, PyData.depthAll, depthAll_app xs ys]
    omega
end K01
set_option Elab.async false
set_option linter.all false
set_option maxRecDepth 100000
set_option maxHeartbeats 4000000
namespace K01
open PySem L2 L2H DQ RZ
/-- all but the state of the draws -/
def fr (H : Hp) (m l : Addr) : Hp := fun b => if b = m ∨ b = l then none else H b
theorem fr_same {H : Hp} {m l : Addr} : Same (fr H m l) H := fun b o e => by
  unfold fr at e
  split at e
  · cases e
  · exact e
theorem fr_some {H : Hp} {m l b : Addr} {o : HO} (h : H b = some o) (hm : b ≠ m) (hl : b ≠ l) : fr H m l b = some o := by
  unfold fr
  rw [if_neg fun z => z.elim hm hl]
  exact h
theorem fr_of {H : Hp} {m l b : Addr} {o : HO} (h : fr H m l b = some o) : b ≠ m ∧ b ≠ l ∧ H b = some o := by
  unfold fr at h
  split at h
  · cases h
  · rename_i z
    exact ⟨fun e => z (.inl e), fun e => z (.inr e), h⟩
/-- all but the state of the draws stands, and what was there is there -/
def Fs (H : Hp) (m l : Addr) (H' : Hp) (l' : Addr) : Prop := Same (fr H m l) (fr H' m l') ∧ ∀ b, H' b = none → H b = none
theorem Fs.refl {H : Hp} {m l : Addr} : Fs H m l H l := ⟨same_refl, fun _ h => h⟩
theorem Fs.trans {H H' H'' : Hp} {m l l' l'' : Addr} (x : Fs H m l H' l') (y : Fs H' m l' H'' l'') : Fs H m l H'' l'' := ⟨same_trans x.1 y.1, fun b h => x.2 b (y.2 b h)⟩
theorem Fs.new {H : Hp} {m l : Addr} {H' : Hp} (x : Same H H') (y : Same (fr H m l) (fr H' m l)) : Fs H m l H' l := ⟨y, fun b h => same_out x h⟩
theorem But.fr {H H' : Hp} {m l l' : Addr} (x : But H H' m l) (h : l' = l ∨ H l' = none) : Fs H m l H' l' := by
  refine ⟨fun b o e => ?_, x.out⟩
  obtain ⟨h1, h2, h3⟩ := fr_of e
  refine fr_some (x.kp b o h3 h1 h2) h1 fun z => ?_
  rcases h with y | y
  · exact h2 (z.trans y)
  · rw [← z, h3] at y
    cases y
theorem MAt.fresh {H : Hp} {m c l p : Addr} {cs ls : List Int} {n : Int} {o : HO} (M : MAt H m c l cs ls n) (hp : H p = none) : MAt (upd H p o) m c l cs ls n ∧ Same (fr H m l) (fr (upd H p o) m l) ∧ fr (upd H p o) m l p = some o := by
  refine ⟨M.same (same_new hp), fun b u e => ?_, fr_some upd_same (ne_of_none M.hm hp).symm (ne_of_none M.hl hp).symm⟩
  obtain ⟨h1, h2, h3⟩ := fr_of e
  exact fr_some (same_new hp _ _ h3) h1 h2
/-- a number below many; the state again -/
def spNx : Sp := fun vs H Q _ => ∃ (m c l : Addr) (many : Int) (cs ls : List Int) (n : Int), vs = [.ref m, .int many] ∧ MAt H m c l cs ls n ∧ 0 < many ∧ many < 1000000 ∧ n + 1 ≤ 1000000000 ∧
  ∀ r H' l' ls' n', 0 ≤ r → r < many → MAt H' m c l' cs ls' n' → n' ≤ n + 1 → Fs H m l H' l' → Q (.int r) H'
theorem nx_of {vs : List V} {H : Hp} {Q : VK} {E : XK} (h : spNx vs H Q E) : spNext vs H Q E := by
  obtain ⟨m, c, l, many, cs, ls, n, rfl, M, h1, h2, h3, k⟩ := h
  exact ⟨m, c, l, many, cs, ls, n, rfl, M, h1, h2, h3, fun r H' l' ls' n' r0 r1 M' nn bt hl => k r H' l' ls' n' r0 r1 M' nn (bt.fr hl)⟩
/-- a def that draws data: of k draws at most; what is told of the data -/
def spDr (k : Int) (Φ : PyData → Prop) : Sp := fun vs H Q _ => ∃ (m c l : Addr) (cs ls : List Int) (n : Int), vs = [.ref m] ∧ MAt H m c l cs ls n ∧ n + k ≤ 1000000000 ∧
  ∀ r d H' l' ls' n', MAt H' m c l' cs ls' n' → n' ≤ n + k → Fs H m l H' l' → Dq (fr H' m l') r d → Φ d → Q r H'
def OddD (d : PyData) : Prop := gd (10 ^ 30) d = true ∧ sz d ≤ 5000 ∧ d.depth ≤ 3
instance (d : PyData) : Decidable (OddD d) := by
  unfold OddD
  infer_instance
/-- things of a list that is drawn from -/
inductive DqL (H : Hp) (Φ : PyData → Prop) : List V → Prop
  | nil : DqL H Φ []
  | cons {v : V} {vs : List V} {d : PyData} : Dq H v d → Φ d → DqL H Φ vs → DqL H Φ (v :: vs)
theorem DqL.at {H : Hp} {Φ : PyData → Prop} : ∀ {vs : List V} {i : Nat}, DqL H Φ vs → i < vs.length → ∃ v d, vs[i]? = some v ∧ Dq H v d ∧ Φ d
  | _ :: _, 0, .cons h p _, _ => ⟨_, _, rfl, h, p⟩
  | _ :: _, i + 1, .cons _ _ t, hi => t.at (i := i) (Nat.lt_of_succ_lt_succ hi)
theorem DqL.same {H H' : Hp} {Φ : PyData → Prop} (s : Same H H') : ∀ {vs : List V}, DqL H Φ vs → DqL H' Φ vs
  | _, .nil => .nil
  | _, .cons h p t => .cons (h.same s) p (t.same s)
theorem DqL.app {H : Hp} {Φ : PyData → Prop} : ∀ {vs ws : List V}, DqL H Φ vs → DqL H Φ ws → DqL H Φ (vs ++ ws)
  | _, _, .nil, b => b
  | _, _, .cons h p t, b => .cons h p (t.app b)
/-- the same state of the draws, all else stands -/
structure Gw (m c l : Addr) (cs ls : List Int) (n : Int) (H H' : Hp) : Prop where
  mat : MAt H' m c l cs ls n
  sm : Fs H m l H' l
theorem Gw.new {m c l p : Addr} {cs ls : List Int} {n : Int} {H H' : Hp} {o : HO} (G : Gw m c l cs ls n H H') (hp : H' p = none) : Gw m c l cs ls n H (upd H' p o) ∧ Same (fr H' m l) (fr (upd H' p o) m l) ∧ fr (upd H' p o) m l p = some o := by
  obtain ⟨a, b, d⟩ := G.mat.fresh (o := o) hp
  exact ⟨⟨a, G.sm.trans (.new (same_new hp) b)⟩, b, d⟩
theorem odd_str {x : Str} (h1 : PyData.strOk x = true) (h2 : x.length ≤ 10) : OddD (.str x) := by
  refine ⟨?_, ?_, Nat.zero_le _⟩
  · simp only [gd, h1]
  · simp only [sz]
    omega
theorem dq_str {H : Hp} {x : Str} (h1 : PyData.strOk x = true) (h2 : x.length ≤ 10) : Dq H (.str x) (.str x) := .str x ⟨Nat.le_trans h2 (by decide), h1⟩
section
variable {P : Program} {w : World} {K : PySem.W.Frag} {mg : Str → Option Value} {base : Heap}
end
end K01
set_option Elab.async false
set_option linter.all false
set_option maxRecDepth 100000
set_option maxHeartbeats 4000000
namespace K01
open PySem L2 L2H DQ RZ
/-- the marks that the law draws from -/
def abc3 : List Str := ["a", "b", "c"]
def efS (u : Str) : Prop := u = "e" ∨ u = "f"
def restC (c : Nat) (r : List PyData) : Prop := (r = [] ∧ c = 0) ∨ (r = [.str "call"] ∧ c = 1)
mutual
/-- a tree of texts and tuples: at most k levels below its root, n nodes, c calls -/
inductive Tc : Nat → Nat → Nat → PyData → Prop
  | mk {k n c n0 c0 c1 : Nat} {ms : List Str} {bs r : List PyData} : ms.Sublist abc3 → bs.length ≤ 3 → restC c0 r → TcB k n0 c1 bs → n = n0 + 1 → c = c1 + c0 → Tc k n c (.tuple (.tuple (ms.map PyData.str) :: .tuple bs :: r))
/-- branches, the nodes below them at most k - 1 levels high -/
inductive TcB : Nat → Nat → Nat → List PyData → Prop
  | nil {k : Nat} : TcB k 0 0 []
  | cons {k n c n' c' N C : Nat} {u : Str} {t : PyData} {bs : List PyData} : efS u → Tc k n c t → TcB (k + 1) n' c' bs → N = n + n' → C = c + c' → TcB (k + 1) N C (.tuple [.str u, t] :: bs)
end
theorem TcB.app : ∀ {k n c n' c' : Nat} {bs es : List PyData}, TcB k n c bs → TcB k n' c' es → TcB k (n + n') (c + c') (bs ++ es)
  | k, _, _, n', c', _, es, .nil, h => by
    rw [Nat.zero_add, Nat.zero_add]
    exact h
  | _, _, _, _, _, _, _, .cons hu ht hb e1 e2, h => .cons hu ht (hb.app h) (by omega) (by omega)
mutual
theorem Tc.mono : ∀ {k n c : Nat} {d : PyData}, Tc k n c d → Tc (k + 1) n c d
  | _, _, _, _, .mk h1 h2 h3 h4 e1 e2 => .mk h1 h2 h3 h4.mono e1 e2
theorem TcB.mono : ∀ {k n c : Nat} {bs : List PyData}, TcB k n c bs → TcB (k + 1) n c bs
  | _, _, _, _, .nil => .nil
  | _, _, _, _, .cons hu ht hb e1 e2 => .cons hu ht.mono hb.mono e1 e2
end
theorem TcB.take : ∀ {k n c : Nat} {bs : List PyData} (j : Nat), TcB k n c bs → ∃ n1 c1 n2 c2, TcB k n1 c1 (bs.take j) ∧ TcB k n2 c2 (bs.drop j) ∧ n = n1 + n2 ∧ c = c1 + c2
  | _, n, c, _, 0, h => ⟨0, 0, n, c, .nil, h, by omega, by omega⟩
  | _, _, _, _, j + 1, .nil => ⟨0, 0, 0, 0, .nil, .nil, rfl, rfl⟩
  | _, _, _, _, j + 1, .cons hu ht hb e1 e2 => by
    obtain ⟨n1, c1, n2, c2, a, b, d1, d2⟩ := hb.take j
    exact ⟨_, _, n2, c2, .cons hu ht a rfl rfl, b, by omega, by omega⟩
theorem TcB.at : ∀ {k n c : Nat} {bs : List PyData} {j : Nat} {b : PyData}, TcB k n c bs → bs[j]? = some b → ∃ k' u t n1 c1, k = k' + 1 ∧ b = .tuple [.str u, t] ∧ efS u ∧ Tc k' n1 c1 t
  | _, _, _, _, _, _, .nil, h => by simp at h
  | _, _, _, _, 0, _, .cons hu ht _ _ _, h => by
    cases h
    exact ⟨_, _, _, _, _, rfl, rfl, hu, ht⟩
  | _, _, _, _, j + 1, _, .cons _ _ hb _ _, h => hb.at (j := j) h
theorem Tc.pos : ∀ {k n c : Nat} {d : PyData}, Tc k n c d → 1 ≤ n
  | _, _, _, _, .mk _ _ _ _ e1 _ => by omega
def smS (x : Str) : Prop := PyData.strOk x = true ∧ x.length = 1
instance (x : Str) : Decidable (smS x) := by
  unfold smS
  infer_instance
theorem abc_sm {x : Str} (h : x ∈ abc3) : smS x := by
  simp only [abc3, List.mem_cons, List.not_mem_nil, or_false] at h
  rcases h with rfl | rfl | rfl <;> decide +kernel
theorem ef_sm {u : Str} (h : efS u) : smS u := by
  rcases h with rfl | rfl <;> decide +kernel
theorem sub_sm {ms : List Str} (h : ms.Sublist abc3) : ∀ x ∈ ms, smS x := fun x hx => abc_sm (h.subset hx)
theorem sub_len {ms : List Str} (h : ms.Sublist abc3) : ms.length ≤ 3 := h.length_le
/-- how many draws at most -/
def dn : Nat → Int
  | 0 => 10
  | k + 1 => 10 + 3 * (4 + dn k)
def spTr (k : Nat) : Sp := fun vs H Q _ => ∃ (m c l : Addr) (cs ls : List Int) (n size : Int), vs = [.ref m, .int size, .int (k : Int)] ∧ MAt H m c l cs ls n ∧ n + dn k ≤ 1000000000 ∧ 1 ≤ size ∧ size ≤ 1000 ∧
  ∀ r d q H' l' ls' n', MAt H' m c l' cs ls' n' → n' ≤ n + dn k → Fs H m l H' l' → Dq (fr H' m l') r d → Tc k q 0 d → (q : Int) ≤ size → Q r H'
theorem MAt.at {H : Hp} {m c l D : Addr} {cs ls : List Int} {n : Int} {o : HO} (M : MAt H m c l cs ls n) (hm : D ≠ m) (hc : D ≠ c) (hl : D ≠ l) : MAt (upd H D o) m c l cs ls n :=
  ⟨by rw [upd_ne hm.symm]; exact M.hm, by rw [upd_ne hc.symm]; exact M.hc, by rw [upd_ne hl.symm]; exact M.hl, M.ne, M.n0, M.nb, M.cb, M.lb⟩
/-- a list that is written while numbers are drawn -/
structure Dl (H : Hp) (m c l : Addr) (cs : List Int) (n : Int) (k : Int) (D : Addr) (xs : List V) (H' : Hp) (l' : Addr) (ls' : List Int) (n' : Int) : Prop where
  mat : MAt H' m c l' cs ls' n'
  le : n' ≤ n + k
  sm : Fs H m l H' l'
  dd : fr H' m l' D = some (.lst xs)
theorem Dl.next {H H' H6 : Hp} {m c l l' l6 D : Addr} {cs ls' ls6 : List Int} {n k n' n6 j k' : Int} {xs : List V} (d : Dl H m c l cs n k D xs H' l' ls' n') (M : MAt H6 m c l6 cs ls6 n6) (h : n6 ≤ n' + j) (s : Fs H' m l' H6 l6) (hk : k + j ≤ k') : Dl H m c l cs n k' D xs H6 l6 ls6 n6 :=
  ⟨M, by have := d.le; omega, d.sm.trans s, s.1 _ _ d.dd⟩
theorem Dl.put {H H' : Hp} {m c l l' D : Addr} {cs ls' : List Int} {n k n' : Int} {xs ys : List V} (d : Dl H m c l cs n k D xs H' l' ls' n') (hD : H D = none) (hm : D ≠ m) (hc : D ≠ c) : Dl H m c l cs n k D ys (upd H' D (.lst ys)) l' ls' n' := by
  obtain ⟨h1, h2, h3⟩ := fr_of d.dd
  refine ⟨d.mat.at h1 hc h2, d.le, ⟨fun b o e => ?_, fun b hb => ?_⟩, fr_some upd_same h1 h2⟩
  rotate_left
  · refine d.sm.2 b ?_
    by_cases z : b = D
    · rw [z, upd_same] at hb
      cases hb
    · rw [upd_ne z] at hb
      exact hb
  have nb : b ≠ D := fun z => by
    have y := (fr_of e).2.2
    rw [z, hD] at y
    cases y
  obtain ⟨g1, g2, g3⟩ := fr_of (d.sm.1 _ _ e)
  exact fr_some (by rw [upd_ne nb]; exact g3) g1 g2
theorem dn_pos : ∀ j, 0 ≤ dn j
  | 0 => by decide
  | j + 1 => by
    have := dn_pos j
    show 0 ≤ 10 + 3 * (4 + dn j)
    omega
def leftOf (σ : L2.St) : Nat := match σ[5]? with | some (some (V.int n)) => n.toNat | _ => 0
mutual
def tupO : PyData → Bool
  | .str _ => true
  | .tuple ds => tupA ds
  | _ => false
def tupA : List PyData → Bool
  | [] => true
  | d :: ds => tupO d && tupA ds
end
mutual
theorem _root_.DQ.Dq.tups {H H' : Hp} (s : ∀ b xs, H b = some (.tup xs) → H' b = some (.tup xs)) : ∀ {v : V} {d : PyData}, Dq H v d → tupO d = true → Dq H' v d
  | _, _, .non, h => by cases h
  | _, _, .bl b, h => by cases h
  | _, _, .int i, h => by cases h
  | _, _, .str x hx, _ => .str x hx
  | _, _, .lst _ _, h => by cases h
  | _, _, .tup e a, h => .tup (s _ _ e) (a.tups s (by simpa [tupO] using h))
  | _, _, .dic _, h => by cases h
theorem _root_.DQ.DqAll.tups {H H' : Hp} (s : ∀ b xs, H b = some (.tup xs) → H' b = some (.tup xs)) : ∀ {vs : List V} {ds : List PyData}, DqAll H vs ds → tupA ds = true → DqAll H' vs ds
  | _, _, .nil, _ => .nil
  | _, _, .cons a b, h => by
    have h' := Bool.and_eq_true_iff.mp (by simpa [tupA] using h)
    exact .cons (a.tups s h'.1) (b.tups s h'.2)
end
theorem tupA_iff : ∀ {ds : List PyData}, tupA ds = true ↔ ∀ d ∈ ds, tupO d = true
  | [] => by simp [tupA]
  | d :: ds => by
    simp only [tupA, Bool.and_eq_true, List.mem_cons, tupA_iff (ds := ds)]
    constructor
    · rintro ⟨h1, h2⟩ y (rfl | hy)
      · exact h1
      · exact h2 y hy
    · intro h
      exact ⟨h d (.inl rfl), fun y hy => h y (.inr hy)⟩
theorem tup_strs (ms : List Str) : tupA (ms.map PyData.str) = true := tupA_iff.mpr fun d hd => by
  obtain ⟨x, _, rfl⟩ := List.mem_map.mp hd
  rfl
mutual
theorem Tc.tup : ∀ {k n c : Nat} {d : PyData}, Tc k n c d → tupO d = true
  | _, _, _, _, .mk _ _ hr hb _ _ => by
    have z := hb.tup
    rcases hr with ⟨rfl, _⟩ | ⟨rfl, _⟩
    · simp only [tupO, tupA, tup_strs, z, Bool.and_self]
    · simp only [tupO, tupA, tup_strs, z, Bool.and_self]
theorem TcB.tup : ∀ {k n c : Nat} {bs : List PyData}, TcB k n c bs → tupA bs = true
  | _, _, _, _, .nil => rfl
  | _, _, _, _, .cons _ ht hb _ _ => by simp only [tupO, tupA, ht.tup, hb.tup, Bool.and_self]
end
theorem abc_at (y : V) (i : Nat) (h : [V.str "a", V.str "b", V.str "c"][i]? = some y) : ∃ x, y = V.str x ∧ abc3[i]? = some x := by
  have z : (abc3.map V.str)[i]? = some y := h
  rw [List.getElem?_map] at z
  obtain ⟨x, hx, e⟩ := Option.map_eq_some_iff.mp z
  exact ⟨x, e.symm, hx⟩
theorem dq_marks {H : Hp} {ms : List Str} (h : ms.Sublist abc3) : DqAll H (ms.map V.str) (ms.map PyData.str) :=
  DqAll.strs ms fun x hx => ⟨by rw [(sub_sm h x hx).2]; decide, (sub_sm h x hx).1⟩
section
variable {P : Program} {w : World} {K : PySem.W.Frag} {mg : Str → Option Value} {base : Heap}
theorem scTe : FnScope ["m", "size", "deep", "marks", "one", "left", "branches", "part", "below"] ["m", "size", "deep"] (defScope sTree) := ⟨rfl, rfl, rfl, by decide +kernel, rfl, by decide +kernel, by decide +kernel⟩
theorem ok_tree {f fN : Addr} {fd dN : FuncData} (F : Fun K "_law_tree" "_law_tree" sTree f fd) (bF : Binds K fd ["m", "size", "deep"] []) (gF : mg "_law_tree" = some (.ref f)) (FN : Fun K "_law_next" "_law_next" sNext fN dN) (bN : Binds K dN ["m", "many"] []) (gN : mg "_law_next" = some (.ref fN)) (T : TxtB mg) (tT : mg "tuple" = none) :
    ∀ k, k ≤ 4 → FnOk P w K mg base CX0 (3 + k) f fd ["m", "size", "deep"] (spTr k) := by
  have GN : FnOk P w K mg base CX0 1 fN dN ["m", "many"] spNx := (ok_next FN T).imp fun _ _ _ _ => nx_of
  have bi : bootBuiltins ("int" : Str) = some (.type "int") := by decide +kernel
  intro k
  induction k with
  | zero =>
    intro _
    refine F.ok (k := 2) scTe (fun vs H Q E h => ?_) (fun cdv A outer s H vs Q E hr h => ?_)
    · obtain ⟨m, c, l, cs, ls, n, size, rfl, _⟩ := h
      rfl
    · obtain ⟨m, c, l, cs, ls, n, size, rfl, M, hn, sz1, sz9, kk⟩ := h
      refine ⟨_, pss_cons (ps_set (i := 3) scTe.nd rfl (Or.inl rfl) (pe_callTy call_tuple_of (by rfl) tT btup (pa_cons (pe_lc (own := [("one", 4)]) (g := gName 4) rfl scTe.nd (pi_tup (pe_tup (pa_cons pe_str (pa_cons pe_str (pa_cons pe_str pa_nil))))) (blkOk_by (own := [("one", 4)]) (N := ["m", "size", "deep", "marks", "one", "left", "branches", "part", "below"]) (sc := defScope sTree) (by decide +kernel))
          (fun _ _ _ _ _ => pg_name (i := 4) scTe.nd rfl (Or.inl rfl)) (fun _ _ _ _ _ => pts_one (pt_cmpR op_eq (pe_call GN (hr.mono (by omega)) (by rfl) gN FN.kp bN .nil pass0 (pa_cons (pv 0) (pa_cons pe_int pa_nil))) pe_int (by rfl))) (fun _ _ _ _ _ => pv 4)) pa_nil)))
        (pss_cons (ps_par rfl scTe.nd (i := 5) (j := 6) rfl rfl (by decide) rfl rfl (pa_cons (pe_op op_sub (pv 1) pe_int) (pa_cons (pe_lst pa_nil) pa_nil)) rfl)
        (pss_cons (ps_while PassesOwn.never (PW.pt (pw_and (pt_cmpR op_gt (pv 5) pe_int (by rfl)) (pw_and (pt_cmpR op_gt (pv 2) pe_int (by rfl)) (pw_and (pt_cmpR op_lt (pe_callB call_len_seq (by rfl) T.len PySem.boot_len (pa_cons (pv 6) pa_nil)) pe_int (by rfl))
            (pw_and1 (pt_cmpR op_gt (pe_call GN (hr.mono (by omega)) (by rfl) gN FN.kp bN .nil pass0 (pa_cons (pv 0) (pa_cons pe_int pa_nil))) pe_int (by rfl)))))))
          (pss_cons ps_never (pss_cons ps_never (pss_cons ps_never (pss_one ps_never)))))
        (pss_one (ps_ret (pe_tup (pa_cons (pv 3) (pa_cons (pe_callTy call_tuple_of (by rfl) tT btup (pa_cons (pv 6) pa_nil)) pa_nil))))))), ?_⟩
      refine ⟨by show 3 ≤ sizeLine; decide, fun p0 np0 => ⟨p0, rfl, ⟨_, SqT.of upd_same⟩, fun D nD => ?_⟩⟩
      have G0 : Gw m c l cs ls n H H := ⟨M, .refl⟩
      obtain ⟨G1, t1, e1⟩ := G0.new (o := .tup [.str "a", .str "b", .str "c"]) np0
      obtain ⟨G2, t2, e2⟩ := G1.new (o := .lst []) nD
      have hD0 : H D = none := same_out (same_new (o := .tup [.str "a", .str "b", .str "c"]) np0) nD
      have Dm : D ≠ m := (ne_of_none M.hm hD0).symm
      have Dc : D ≠ c := (ne_of_none M.hc hD0).symm
      have sm1 : ∀ y (i : Nat), [V.str "a", V.str "b", V.str "c"][i]? = some y → ∃ x, y = V.str x ∧ abc3[i]? = some x := abc_at
      refine lc_it (walk_tup (xs := [.str "a", .str "b", .str "c"])) (fun i H' => ∃ (l' : Addr) (ls' : List Int) (n' : Int) (ys : List Str), Dl H m c l cs n i D (ys.map V.str) H' l' ls' n' ∧ fr H' m l' p0 = some (.tup [.str "a", .str "b", .str "c"]) ∧ ys.Sublist (abc3.take i))
        ⟨l, ls, n, [], ⟨G2.mat, by omega, G2.sm, e2⟩, t2 _ _ e1, List.nil_sublist _⟩ (fun i H' _ ⟨_, _, _, _, _, e, _⟩ => SqT.of (fr_of e).2.2) ?_ ?_
      · rintro i y H5 H6 hi ⟨l', ls', n', ys, d, e, hy⟩ ⟨rfl, hx⟩
        have i3 : i < 3 := hi
        have dk : (10 : Int) ≤ dn 0 := Int.le_refl _
        refine ⟨rfl, _, rfl, m, c, l', 5, cs, ls', n', rfl, d.mat, by decide, by decide, by have := d.le; omega, fun r H7 l7 ls7 n7 r0 r1 M7 nn s7 => ⟨rfl, _, rfl, ?_⟩⟩
        have d7 : Dl H m c l cs n ((i + 1 : Nat) : Int) D (ys.map V.str) H7 l7 ls7 n7 := d.next M7 nn s7 (by omega)
        obtain ⟨x, rfl, hsx⟩ := sm1 y i hx
        have tk : abc3.take (i + 1) = abc3.take i ++ [x] := by rw [List.take_add_one, hsx]; rfl
        have ly : ys.length ≤ 3 := (hy.trans (List.take_sublist _ _)).length_le
        refine ite2 (fun _ => ?_) (fun _ => ?_)
        · have ld : ((ys.map V.str)).length < sizeLine := small1000 (by rw [List.length_map]; omega)
          refine ⟨_, rfl, _, (fr_of d7.dd).2.2, ld, l7, ls7, n7, ys ++ [x], ?_, ?_, ?_⟩
          · have z := d7.put (ys := (ys ++ [x]).map V.str) hD0 Dm Dc
            rw [List.map_append] at z ⊢
            exact z
          · obtain ⟨g1, g2, g3⟩ := fr_of (s7.1 _ _ e)
            have pD : p0 ≠ D := ne_of_none (upd_same (H := H) (a := p0) (o := .tup [.str "a", .str "b", .str "c"])) nD
            exact fr_some (by rw [upd_ne pD]; exact g3) g1 g2
          · rw [tk]
            exact hy.append (List.Sublist.refl _)
        · exact ⟨l7, ls7, n7, ys, d7, s7.1 _ _ e, by rw [tk]; exact hy.trans (List.sublist_append_left _ _)⟩
      rintro H5 ⟨l5, ls5, n5, ms, d5, e5, hms0⟩
      have hms : ms.Sublist abc3 := hms0
      refine ⟨D, _, rfl, .inl ⟨SqL.of (fr_of d5.dd).2.2, fun p1 np1 => ?_⟩⟩
      refine ⟨_, rfl, _, _, rfl, rfl, Nat.zero_le _, fun br nbr => ⟨_, _, rfl, ?_⟩⟩
      have G5 : Gw m c l5 cs ls5 n5 H5 H5 := ⟨d5.mat, .refl⟩
      obtain ⟨G6, t6, e6⟩ := G5.new (o := .tup (ms.map V.str)) np1
      obtain ⟨G7, t7, e7⟩ := G6.new (o := .lst []) nbr
      have hb0 : H br = none := d5.sm.2 _ (G6.sm.2 _ nbr)
      refine while_by (fun σ' H' => σ' = [some (V.ref m), some (V.int size), some (V.int ((0 : Nat) : Int)), some (V.ref p1), none, some (V.int (size - 1)), some (V.ref br), none, none] ∧ H' = upd (upd H5 p1 (.tup (ms.map V.str))) br (.lst [])) (fun _ _ => 0) ⟨rfl, rfl⟩ ?_ ?_
      · rintro σ' H' ⟨rfl, rfl⟩
        have fin : ∀ p2 p3, upd (upd H5 p1 (.tup (ms.map V.str))) br (.lst []) p2 = none → upd (upd (upd H5 p1 (.tup (ms.map V.str))) br (.lst [])) p2 (.tup []) p3 = none → Q (.ref p3) (upd (upd (upd (upd H5 p1 (.tup (ms.map V.str))) br (.lst [])) p2 (.tup [])) p3 (.tup [.ref p1, .ref p2])) := fun p2 p3 np2 np3 => by
          obtain ⟨GA, tA, eA⟩ := G7.new (o := .tup []) np2
          obtain ⟨GB, tB, eB⟩ := GA.new (o := .tup [.ref p1, .ref p2]) np3
          have h5 : n5 ≤ n + 3 := d5.le
          refine kk (.ref p3) _ _ _ _ _ _ GB.mat (by show n5 ≤ n + 10; omega) (d5.sm.trans GB.sm) (.tup eB (.cons (.tup (tB _ _ (tA _ _ (t7 _ _ e6))) (dq_marks hms)) (.cons (.tup (tB _ _ eA) .nil) .nil))) (.mk hms (Nat.zero_le _) (.inl ⟨rfl, rfl⟩) .nil rfl rfl) (by omega)
        refine ⟨_, rfl, _, _, rfl, rfl, _, rfl, ?_⟩
        refine ite2 (fun _ => ?_) (fun _ => ?_)
        · refine ⟨_, rfl, _, _, rfl, rfl, _, rfl, ?_⟩
          refine iteF (iteF ?_)
          exact ⟨_, rfl, _, rfl, br, _, rfl, .inl ⟨SqL.of (fr_of e7).2.2, fun p2 np2 => ⟨by show 2 ≤ sizeLine; decide, fun p3 np3 => fin p2 p3 np2 np3⟩⟩⟩
        · exact iteF ⟨_, rfl, _, rfl, br, _, rfl, .inl ⟨SqL.of (fr_of e7).2.2, fun p2 np2 => ⟨by show 2 ≤ sizeLine; decide, fun p3 np3 => fin p2 p3 np2 np3⟩⟩⟩
      · intro σ' H' Q1 Q2 hq h
        obtain ⟨v, e1, i, j, e2, e3, b, e4, h⟩ := h
        refine ⟨v, e1, i, j, e2, e3, b, e4, ?_⟩
        cases b with
        | false => exact hq _ _ h
        | true =>
        obtain ⟨v, e1, i, j, e2, e3, b, e4, h⟩ := h
        refine ⟨v, e1, i, j, e2, e3, b, e4, ?_⟩
        cases b with
        | false => exact hq _ _ h
        | true =>
        obtain ⟨v, e1, p, ys, e2, sq, i, j, e3, e4, b, e5, h⟩ := h
        refine ⟨v, e1, p, ys, e2, sq, i, j, e3, e4, b, e5, ?_⟩
        cases b with
        | false => exact hq _ _ h
        | true =>
        obtain ⟨v, e1, m, c, l, many, cs, ls, n, e2, M, h1, h2, h3, kk⟩ := h
        refine ⟨v, e1, m, c, l, many, cs, ls, n, e2, M, h1, h2, h3, fun r H' l' ls' n' r0 r1 M' nn s => ?_⟩
        obtain ⟨i, j, f1, f2, b, f3, q⟩ := kk r H' l' ls' n' r0 r1 M' nn s
        exact ⟨i, j, f1, f2, b, f3, hq _ _ q⟩
  | succ k ih =>
    intro hk
    have GS : FnOk P w K mg base CX0 (3 + k) f fd ["m", "size", "deep"] (spTr k) := ih (by omega)
    refine F.ok (k := 3 + k) scTe (fun vs H Q E h => ?_) (fun cdv A outer s H vs Q E hr h => ?_)
    · obtain ⟨m, c, l, cs, ls, n, size, rfl, _⟩ := h
      rfl
    · obtain ⟨m, c, l, cs, ls, n, size, rfl, M, hn, sz1, sz9, kk⟩ := h
      refine ⟨_, pss_cons (ps_set (i := 3) scTe.nd rfl (Or.inl rfl) (pe_callTy call_tuple_of (by rfl) tT btup (pa_cons (pe_lc (own := [("one", 4)]) (g := gName 4) rfl scTe.nd (pi_tup (pe_tup (pa_cons pe_str (pa_cons pe_str (pa_cons pe_str pa_nil))))) (blkOk_by (own := [("one", 4)]) (N := ["m", "size", "deep", "marks", "one", "left", "branches", "part", "below"]) (sc := defScope sTree) (by decide +kernel))
          (fun _ _ _ _ _ => pg_name (i := 4) scTe.nd rfl (Or.inl rfl)) (fun _ _ _ _ _ => pts_one (pt_cmpR op_eq (pe_call GN (hr.mono (by omega)) (by rfl) gN FN.kp bN .nil pass0 (pa_cons (pv 0) (pa_cons pe_int pa_nil))) pe_int (by rfl))) (fun _ _ _ _ _ => pv 4)) pa_nil)))
        (pss_cons (ps_par rfl scTe.nd (i := 5) (j := 6) rfl rfl (by decide) rfl rfl (pa_cons (pe_op op_sub (pv 1) pe_int) (pa_cons (pe_lst pa_nil) pa_nil)) rfl)
        (pss_cons (ps_while PassesOwn.never (PW.pt (pw_and (pt_cmpR op_gt (pv 5) pe_int (by rfl)) (pw_and (pt_cmpR op_gt (pv 2) pe_int (by rfl)) (pw_and (pt_cmpR op_lt (pe_callB call_len_seq (by rfl) T.len PySem.boot_len (pa_cons (pv 6) pa_nil)) pe_int (by rfl))
            (pw_and1 (pt_cmpR op_gt (pe_call GN (hr.mono (by omega)) (by rfl) gN FN.kp bN .nil pass0 (pa_cons (pv 0) (pa_cons pe_int pa_nil))) pe_int (by rfl)))))))
          (pss_cons (ps_set (i := 7) scTe.nd rfl (Or.inl rfl) (pe_op op_add pe_int (pe_call GN (hr.mono (by omega)) (by rfl) gN FN.kp bN .nil pass0 (pa_cons (pv 0) (pa_cons (pv 5) pa_nil)))))
          (pss_cons (ps_set (i := 8) scTe.nd rfl (Or.inl rfl) (pe_call GS hr (by rfl) gF F.kp bF .nil pass0 (pa_cons (pv 0) (pa_cons (pv 7) (pa_cons (pe_op op_sub (pv 2) pe_int) pa_nil)))))
          (pss_cons (ps_expr (pe_bm PySem.F.plainAttrs_list PySem.F.slot_list_append PySem.F.type_list_append mt_append (pv 6) (pa_cons (pe_tup (pa_cons (pe_ix ix_list (pe_lst (pa_cons pe_str (pa_cons pe_str pa_nil))) (pe_callTy call_int1 (by rfl) T.int bi (pa_cons (pe_cmpR op_eq (pe_call GN (hr.mono (by omega)) (by rfl) gN FN.kp bN .nil pass0 (pa_cons (pv 0) (pa_cons pe_int pa_nil))) pe_int (by rfl)) pa_nil)) (fun _ _ => rfl))
              (pa_cons (pv 8) pa_nil))) pa_nil)))
          (pss_one (ps_set (i := 5) scTe.nd rfl (Or.inl rfl) (pe_op op_sub (pv 5) (pv 7))))))))
        (pss_one (ps_ret (pe_tup (pa_cons (pv 3) (pa_cons (pe_callTy call_tuple_of (by rfl) tT btup (pa_cons (pv 6) pa_nil)) pa_nil))))))), ?_⟩
      refine ⟨by show 3 ≤ sizeLine; decide, fun p0 np0 => ⟨p0, rfl, ⟨_, SqT.of upd_same⟩, fun D nD => ?_⟩⟩
      have G0 : Gw m c l cs ls n H H := ⟨M, .refl⟩
      obtain ⟨G1, t1, e1⟩ := G0.new (o := .tup [.str "a", .str "b", .str "c"]) np0
      obtain ⟨G2, t2, e2⟩ := G1.new (o := .lst []) nD
      have hD0 : H D = none := same_out (same_new (o := .tup [.str "a", .str "b", .str "c"]) np0) nD
      have Dm : D ≠ m := (ne_of_none M.hm hD0).symm
      have Dc : D ≠ c := (ne_of_none M.hc hD0).symm
      have sm1 : ∀ y (i : Nat), [V.str "a", V.str "b", V.str "c"][i]? = some y → ∃ x, y = V.str x ∧ abc3[i]? = some x := abc_at
      refine lc_it (walk_tup (xs := [.str "a", .str "b", .str "c"])) (fun i H' => ∃ (l' : Addr) (ls' : List Int) (n' : Int) (ys : List Str), Dl H m c l cs n i D (ys.map V.str) H' l' ls' n' ∧ fr H' m l' p0 = some (.tup [.str "a", .str "b", .str "c"]) ∧ ys.Sublist (abc3.take i))
        ⟨l, ls, n, [], ⟨G2.mat, by omega, G2.sm, e2⟩, t2 _ _ e1, List.nil_sublist _⟩ (fun i H' _ ⟨_, _, _, _, _, e, _⟩ => SqT.of (fr_of e).2.2) ?_ ?_
      · rintro i y H5 H6 hi ⟨l', ls', n', ys, d, e, hy⟩ ⟨rfl, hx⟩
        have i3 : i < 3 := hi
        have dk : (10 : Int) ≤ dn (k + 1) := by
          have : ∀ j, 0 ≤ dn j := fun j => by induction j with | zero => decide | succ j ih => show 0 ≤ 10 + 3 * (4 + dn j); omega
          have := this k
          show 10 ≤ 10 + 3 * (4 + dn k)
          omega
        refine ⟨rfl, _, rfl, m, c, l', 5, cs, ls', n', rfl, d.mat, by decide, by decide, by have := d.le; omega, fun r H7 l7 ls7 n7 r0 r1 M7 nn s7 => ⟨rfl, _, rfl, ?_⟩⟩
        have d7 : Dl H m c l cs n ((i + 1 : Nat) : Int) D (ys.map V.str) H7 l7 ls7 n7 := d.next M7 nn s7 (by omega)
        obtain ⟨x, rfl, hsx⟩ := sm1 y i hx
        have tk : abc3.take (i + 1) = abc3.take i ++ [x] := by rw [List.take_add_one, hsx]; rfl
        have ly : ys.length ≤ 3 := (hy.trans (List.take_sublist _ _)).length_le
        refine ite2 (fun _ => ?_) (fun _ => ?_)
        · have ld : ((ys.map V.str)).length < sizeLine := small1000 (by rw [List.length_map]; omega)
          refine ⟨_, rfl, _, (fr_of d7.dd).2.2, ld, l7, ls7, n7, ys ++ [x], ?_, ?_, ?_⟩
          · have z := d7.put (ys := (ys ++ [x]).map V.str) hD0 Dm Dc
            rw [List.map_append] at z ⊢
            exact z
          · obtain ⟨g1, g2, g3⟩ := fr_of (s7.1 _ _ e)
            have pD : p0 ≠ D := ne_of_none (upd_same (H := H) (a := p0) (o := .tup [.str "a", .str "b", .str "c"])) nD
            exact fr_some (by rw [upd_ne pD]; exact g3) g1 g2
          · rw [tk]
            exact hy.append (List.Sublist.refl _)
        · exact ⟨l7, ls7, n7, ys, d7, s7.1 _ _ e, by rw [tk]; exact hy.trans (List.sublist_append_left _ _)⟩
      rintro H5 ⟨l5, ls5, n5, ms, d5, e5, hms0⟩
      have hms : ms.Sublist abc3 := hms0
      refine ⟨D, _, rfl, .inl ⟨SqL.of (fr_of d5.dd).2.2, fun p1 np1 => ?_⟩⟩
      refine ⟨_, rfl, _, _, rfl, rfl, Nat.zero_le _, fun br nbr => ⟨_, _, rfl, ?_⟩⟩
      have G5 : Gw m c l5 cs ls5 n5 H5 H5 := ⟨d5.mat, .refl⟩
      obtain ⟨G6, t6, e6⟩ := G5.new (o := .tup (ms.map V.str)) np1
      obtain ⟨G7, t7, e7⟩ := G6.new (o := .lst []) nbr
      have hb0 : H br = none := d5.sm.2 _ (G6.sm.2 _ nbr)
      have brm : br ≠ m := (ne_of_none M.hm hb0).symm
      have brc : br ≠ c := (ne_of_none M.hc hb0).symm
      have dp := dn_pos k
      refine while_by (fun σ' H' => ∃ (left : Int) (l' : Addr) (ls' : List Int) (n' : Int) (vs : List V) (bs : List PyData) (nb : Nat) (w4 w7 w8 : Option V), σ' = [some (V.ref m), some (V.int size), some (V.int ((k + 1 : Nat) : Int)), some (V.ref p1), w4, some (V.int left), some (V.ref br), w7, w8] ∧
        Dl H m c l cs n (3 + (bs.length : Int) * (4 + dn k)) br vs H' l' ls' n' ∧ fr H' m l' p1 = some (.tup (ms.map V.str)) ∧ DqAll (fr H' m l') vs bs ∧ bs.length ≤ 3 ∧ TcB (k + 1) nb 0 bs ∧ left ≤ 1000 ∧ 0 ≤ left ∧ (nb : Int) + 1 + left ≤ size) (fun σ' _ => leftOf σ')
        ⟨_, l5, ls5, n5, [], [], 0, _, _, _, rfl, ⟨G7.mat, by have h5 : n5 ≤ n + 3 := d5.le; rw [List.length_nil]; omega, d5.sm.trans G7.sm, e7⟩, t7 _ _ e6, .nil, by decide, .nil, by omega, by omega, by omega⟩ ?_ ?_
      · rintro σ' H' ⟨left, l', ls', n', vs, bs, nb, w4, w7, w8, rfl, d, eM, qd, b3, hbs, l1000, l0, lsz⟩
        have jn : (0 : Int) ≤ (bs.length : Int) * (4 + dn k) := Int.mul_nonneg (by omega) (by omega)
        have j3 : (bs.length : Int) * (4 + dn k) ≤ 3 * (4 + dn k) := Int.mul_le_mul_of_nonneg_right (by omega) (by omega)
        have hn' : n + (10 + 3 * (4 + dn k)) ≤ 1000000000 := hn
        have nle := d.le
        have vb : vs.length = bs.length := qd.len
        refine ⟨_, rfl, _, _, rfl, rfl, _, rfl, ?_⟩
        by_cases hl : ¬ 0 < left
        · rw [decide_eq_false hl]
          refine iteF ?_
          have dE : Dl H m c l cs n (4 + (bs.length : Int) * (4 + dn k)) br vs H' l' ls' n' := ⟨d.mat, by omega, d.sm, d.dd⟩
          have qE := qd
          refine ⟨_, rfl, _, rfl, br, _, rfl, .inl ⟨SqL.of (fr_of dE.dd).2.2, fun p2 np2 => ⟨by show 2 ≤ sizeLine; decide, fun p3 np3 => ?_⟩⟩⟩
          have GE : Gw m c _ cs _ _ _ _ := ⟨dE.mat, .refl⟩
          obtain ⟨GA, tA, eA⟩ := GE.new (o := .tup vs) np2
          obtain ⟨GB, tB, eB⟩ := GA.new (o := .tup [.ref p1, .ref p2]) np3
          refine kk (.ref p3) _ _ _ _ _ _ GB.mat ?_ (dE.sm.trans GB.sm) (.tup eB (.cons (.tup (tB _ _ (tA _ _ eM)) (dq_marks hms)) (.cons (.tup (tB _ _ eA) ((qE.same tA).same tB)) .nil))) (.mk hms b3 (.inl ⟨rfl, rfl⟩) hbs rfl rfl) (by omega)
          have := dE.le
          have := dn_pos k
          show _ ≤ n + (10 + 3 * (4 + dn k))
          have j3 : (bs.length : Int) * (4 + dn k) ≤ 3 * (4 + dn k) := Int.mul_le_mul_of_nonneg_right (by omega) (by omega)
          omega
        have hl' := Classical.not_not.mp hl
        rw [decide_eq_true hl']
        refine iteT ⟨_, rfl, _, _, rfl, rfl, _, rfl, ?_⟩
        rw [decide_eq_true (show (0 : Int) < ((k + 1 : Nat) : Int) by omega)]
        refine iteT ⟨_, rfl, br, _, rfl, .inl (SqL.of (fr_of d.dd).2.2), _, _, rfl, rfl, _, rfl, ?_⟩
        by_cases hb3 : ¬ (vs.length : Int) < 3
        · rw [decide_eq_false hb3]
          refine iteF ?_
          have dE : Dl H m c l cs n (4 + (bs.length : Int) * (4 + dn k)) br vs H' l' ls' n' := ⟨d.mat, by omega, d.sm, d.dd⟩
          have qE := qd
          refine ⟨_, rfl, _, rfl, br, _, rfl, .inl ⟨SqL.of (fr_of dE.dd).2.2, fun p2 np2 => ⟨by show 2 ≤ sizeLine; decide, fun p3 np3 => ?_⟩⟩⟩
          have GE : Gw m c _ cs _ _ _ _ := ⟨dE.mat, .refl⟩
          obtain ⟨GA, tA, eA⟩ := GE.new (o := .tup vs) np2
          obtain ⟨GB, tB, eB⟩ := GA.new (o := .tup [.ref p1, .ref p2]) np3
          refine kk (.ref p3) _ _ _ _ _ _ GB.mat ?_ (dE.sm.trans GB.sm) (.tup eB (.cons (.tup (tB _ _ (tA _ _ eM)) (dq_marks hms)) (.cons (.tup (tB _ _ eA) ((qE.same tA).same tB)) .nil))) (.mk hms b3 (.inl ⟨rfl, rfl⟩) hbs rfl rfl) (by omega)
          have := dE.le
          have := dn_pos k
          show _ ≤ n + (10 + 3 * (4 + dn k))
          have j3 : (bs.length : Int) * (4 + dn k) ≤ 3 * (4 + dn k) := Int.mul_le_mul_of_nonneg_right (by omega) (by omega)
          omega
        have hb3' := Classical.not_not.mp hb3
        rw [decide_eq_true hb3']
        refine iteT ⟨_, rfl, m, c, l', 3, cs, ls', n', rfl, d.mat, by decide, by decide, by omega, fun r H6 l6 ls6 n6 r0 r1 M6 nn s6 => ⟨_, _, rfl, rfl, _, rfl, ?_⟩⟩
        have d6 : Dl H m c l cs n (4 + (bs.length : Int) * (4 + dn k)) br vs H6 l6 ls6 n6 := d.next M6 nn s6 (by omega)
        have eM6 := s6.1 _ _ eM
        have qd6 := qd.same s6.1
        by_cases hr0 : ¬ 0 < r
        · rw [decide_eq_false hr0]
          refine iteF ?_
          have dE := d6
          have qE := qd6
          have eM := eM6
          refine ⟨_, rfl, _, rfl, br, _, rfl, .inl ⟨SqL.of (fr_of dE.dd).2.2, fun p2 np2 => ⟨by show 2 ≤ sizeLine; decide, fun p3 np3 => ?_⟩⟩⟩
          have GE : Gw m c _ cs _ _ _ _ := ⟨dE.mat, .refl⟩
          obtain ⟨GA, tA, eA⟩ := GE.new (o := .tup vs) np2
          obtain ⟨GB, tB, eB⟩ := GA.new (o := .tup [.ref p1, .ref p2]) np3
          refine kk (.ref p3) _ _ _ _ _ _ GB.mat ?_ (dE.sm.trans GB.sm) (.tup eB (.cons (.tup (tB _ _ (tA _ _ eM)) (dq_marks hms)) (.cons (.tup (tB _ _ eA) ((qE.same tA).same tB)) .nil))) (.mk hms b3 (.inl ⟨rfl, rfl⟩) hbs rfl rfl) (by omega)
          have := dE.le
          have := dn_pos k
          show _ ≤ n + (10 + 3 * (4 + dn k))
          have j3 : (bs.length : Int) * (4 + dn k) ≤ 3 * (4 + dn k) := Int.mul_le_mul_of_nonneg_right (by omega) (by omega)
          omega
        rw [decide_eq_true (Classical.not_not.mp hr0)]
        have eK : ((bs.length : Int) + 1) * (4 + dn k) = (bs.length : Int) * (4 + dn k) + (4 + dn k) := by rw [Int.add_mul, Int.one_mul]
        have nle6 := d6.le
        have j2 : (bs.length : Int) * (4 + dn k) ≤ 2 * (4 + dn k) := Int.mul_le_mul_of_nonneg_right (by omega) (by omega)
        refine iteT ⟨_, rfl, _, rfl, m, c, l6, left, cs, ls6, n6, rfl, M6, hl', by omega, by omega, fun r7 H7 l7 ls7 n7 r70 r71 M7 nn7 s7 => ⟨_, _, rfl, rfl, ?_⟩⟩
        have d7 : Dl H m c l cs n (5 + (bs.length : Int) * (4 + dn k)) br vs H7 l7 ls7 n7 := d6.next M7 nn7 s7 (by omega)
        have nle7 := d7.le
        refine ⟨_, rfl, _, rfl, _, rfl, _, _, rfl, rfl, m, c, l7, cs, ls7, n7, 1 + r7, ?_, M7, by omega, by omega, by omega, fun r8 d8 qn8 H8 l8 ls8 n8 M8 nn8 s8 q8 t8 hq8 => ?_⟩
        · show [V.ref m, V.int (1 + r7), V.int (((k + 1 : Nat) : Int) - 1)] = _
          rw [show ((k + 1 : Nat) : Int) - 1 = (k : Int) by omega]
        have e8 : Dl H m c l cs n (5 + dn k + (bs.length : Int) * (4 + dn k)) br vs H8 l8 ls8 n8 := d7.next M8 nn8 s8 (by omega)
        have nle8 := e8.le
        have eM8 := s8.1 _ _ (s7.1 _ _ eM6)
        have qd8 := (qd6.same s7.1).same s8.1
        refine ⟨_, rfl, .inl ⟨rfl, _, SqL.of (fr_of e8.dd).2.2⟩, by show 2 ≤ sizeLine; decide, fun pl npl => ?_⟩
        have G8 : Gw m c l8 cs ls8 n8 H8 H8 := ⟨M8, .refl⟩
        obtain ⟨G9, t9, e9⟩ := G8.new (o := .lst [.str "e", .str "f"]) npl
        refine ⟨_, rfl, m, c, l8, 4, cs, ls8, n8, rfl, G9.mat, by decide, by decide, by omega, fun r9 H9 l9 ls9 n9 r90 r91 M9 nn9 s9 => ⟨rfl, .inr ⟨_, rfl, ?_⟩⟩⟩
        have d9 : Dl H m c l cs n (6 + dn k + (bs.length : Int) * (4 + dn k)) br vs H9 l9 ls9 n9 := e8.next M9 nn9 (G9.sm.trans s9) (by omega)
        have hx : ∃ u : Str, atI [V.str "e", V.str "f"] (if decide (V.int r9 = V.int 0) = true then 1 else 0) = some (V.str u) ∧ efS u := by
          cases decide (V.int r9 = V.int 0) with
          | true => exact ⟨"f", atI_nat (j := 1) rfl, .inr rfl⟩
          | false => exact ⟨"e", atI_nat (j := 0) rfl, .inl rfl⟩
        obtain ⟨u, hu, hfu⟩ := hx
        have hsu := ef_sm hfu
        have sA : Same (fr H8 m l8) (fr H9 m l9) := same_trans t9 s9.1
        refine ⟨pl, _, _, .str u, rfl, rfl, SqL.of (fr_of (s9.1 _ _ e9)).2.2, hu, _, rfl, by show 2 ≤ sizeLine; decide, fun pt npt => ?_⟩
        have GA : Gw m c l9 cs ls9 n9 H9 H9 := ⟨M9, .refl⟩
        obtain ⟨GB, tB, eB⟩ := GA.new (o := .tup [.str u, r8]) npt
        have dA : Dl H m c l cs n (6 + dn k + (bs.length : Int) * (4 + dn k)) br vs (upd H9 pt (.tup [.str u, r8])) l9 ls9 n9 := d9.next GB.mat (j := 0) (by omega) GB.sm (by omega)
        refine ⟨br, _, .ref pt, rfl, rfl, (fr_of dA.dd).2.2, small1000 (by omega), ?_⟩
        have dB := dA.put (ys := vs ++ [.ref pt]) hb0 brm brc
        have tA9 : TcB (k + 1) (nb + qn8) 0 (bs ++ [.tuple [.str u, d8]]) := hbs.app (.cons hfu t8 .nil rfl rfl)
        have kt : ∀ b xs, fr (upd H9 pt (.tup [.str u, r8])) m l9 b = some (.tup xs) → fr (upd (upd H9 pt (.tup [.str u, r8])) br (.lst (vs ++ [.ref pt]))) m l9 b = some (.tup xs) := fun b xs z => by
          obtain ⟨h1, h2, h3⟩ := fr_of z
          refine fr_some ?_ h1 h2
          rw [upd_ne fun y => by rw [y, dA.dd] at z; cases z]
          exact h3
        refine ⟨_, rfl, _, rfl, _, _, rfl, rfl, ⟨_, l9, ls9, n9, vs ++ [.ref pt], bs ++ [.tuple [.str u, d8]], nb + qn8, _, _, _, rfl, ⟨dB.mat, ?_, dB.sm, dB.dd⟩, kt _ _ (tB _ _ (sA _ _ eM8)), ?_, ?_, tA9, ?_, ?_, ?_⟩, ?_⟩
        · have := dB.le
          rw [List.length_append, List.length_singleton]
          have ec : (((bs.length + 1 : Nat) : Int)) * (4 + dn k) = ((bs.length : Int) + 1) * (4 + dn k) := by rw [Int.natCast_add]; rfl
          rw [ec, eK]
          omega
        · have qAll : DqAll (fr (upd H9 pt (.tup [.str u, r8])) m l9) (vs ++ [.ref pt]) (bs ++ [.tuple [.str u, d8]]) :=
            ((qd8.same sA).same tB).app (.cons (.tup eB (.cons (.str u ⟨by rw [hsu.2]; decide, hsu.1⟩) (.cons ((q8.same sA).same tB) .nil))) .nil)
          exact qAll.tups kt tA9.tup
        · rw [List.length_append, List.length_singleton]
          omega
        · omega
        · omega
        · omega
        · show (left - (1 + r7)).toNat < left.toNat
          omega
      · intro σ' H' Q1 Q2 hq h
        obtain ⟨v, e1, i, j, e2, e3, b, e4, h⟩ := h
        refine ⟨v, e1, i, j, e2, e3, b, e4, ?_⟩
        cases b with
        | false => exact hq _ _ h
        | true =>
        obtain ⟨v, e1, i, j, e2, e3, b, e4, h⟩ := h
        refine ⟨v, e1, i, j, e2, e3, b, e4, ?_⟩
        cases b with
        | false => exact hq _ _ h
        | true =>
        obtain ⟨v, e1, p, ys, e2, sq, i, j, e3, e4, b, e5, h⟩ := h
        refine ⟨v, e1, p, ys, e2, sq, i, j, e3, e4, b, e5, ?_⟩
        cases b with
        | false => exact hq _ _ h
        | true =>
        obtain ⟨v, e1, m, c, l, many, cs, ls, n, e2, M, h1, h2, h3, kk⟩ := h
        refine ⟨v, e1, m, c, l, many, cs, ls, n, e2, M, h1, h2, h3, fun r H' l' ls' n' r0 r1 M' nn s => ?_⟩
        obtain ⟨i, j, f1, f2, b, f3, q⟩ := kk r H' l' ls' n' r0 r1 M' nn s
        exact ⟨i, j, f1, f2, b, f3, hq _ _ q⟩
end
end K01
set_option Elab.async false
set_option linter.all false
set_option maxRecDepth 100000
set_option maxHeartbeats 4000000
/-! t[::-1] of a tuple -/
namespace RT
open PySem PySem.Spec PyProof.Rows L2 HT
section
variable {prog : Program} {w : World} {A : Around} {E : Value → Shared → Prop} {s : Shared}
theorem applied_rev {sl : Addr} {u : Tok} {n : Nat} {Q : Int × Int × Nat → Shared → Prop} (hs : s.heap.IsSliceOf sl .none .none (.int (-1) u)) (h : Q ((n : Int) - 1, -1, n) s) :
    wpAny (model prog w) A (Builtin.Slice.sliceApplied (.ref sl) (pure (n : Int))) Q E s := by
  obtain ⟨os, hos, hcs, hds⟩ := id hs
  unfold Builtin.Slice.sliceApplied Builtin.Slice.sliceFields
  refine wpAny_bind (wpAny_bind (wpAny_field hos hds (x := .none) rfl (wpAny_bind (wpAny_field hos hds (x := .none) rfl (wpAny_bind (wpAny_field hos hds (x := .int (-1) u) rfl (wpAny_pure ?_)))))))
  refine wpAny_bind (slicePart_int ?_)
  show wpAny _ _ (if ((-1 : Int) == 0) = true then _ else _) _ _ s
  rw [if_neg (by decide)]
  refine wpAny_bind (slicePart_none (wpAny_bind (slicePart_none (wpAny_bind (wpAny_pure ?_)))))
  have e : Builtin.Slice.sliceAdjust none none (-1) (n : Int) = ((n : Int) - 1, -1) := by
    unfold Builtin.Slice.sliceAdjust
    simp
  show wpAny _ _ (match Builtin.Slice.sliceAdjust none none (-1) (n : Int) with | (lo, hi) => pure (lo, (-1 : Int), Builtin.Slice.slicePlaces lo hi (-1))) _ _ s
  rw [e]
  show wpAny _ _ (pure ((n : Int) - 1, (-1 : Int), Builtin.Slice.slicePlaces ((n : Int) - 1) (-1) (-1))) _ _ s
  have p : Builtin.Slice.slicePlaces ((n : Int) - 1) (-1) (-1) = n := by
    unfold Builtin.Slice.slicePlaces
    simp
    omega
  rw [p]
  exact wpAny_pure h
theorem fm_congr {α β : Type} {f g : α → Option β} : ∀ {l : List α}, (∀ x ∈ l, f x = g x) → l.filterMap f = l.filterMap g
  | [], _ => rfl
  | x :: l, h => by
    rw [List.filterMap_cons, List.filterMap_cons, h x (List.mem_cons_self ..), fm_congr fun y hy => h y (List.mem_cons_of_mem _ hy)]
theorem pick_rev (xs : Array Value) : ((List.range xs.size).filterMap fun (m : Nat) => xs[((xs.size : Int) - 1 + (m : Int) * -1).toNat]?).toArray = xs.toList.reverse.toArray := by
  congr 1
  have z := pick_run xs.toList.reverse.toArray 0 xs.size
  rw [List.filterMap_map] at z
  rw [List.drop_zero, List.take_of_length_le (by simp)] at z
  refine Eq.trans (fm_congr fun m hm => ?_) z
  have hm' : m < xs.size := List.mem_range.mp hm
  have e : ((xs.size : Int) - 1 + (m : Int) * -1).toNat = xs.size - 1 - m := by omega
  rw [e]
  show _ = (xs.toList.reverse.toArray)[0 + m]?
  have e2 : (xs.toList.reverse.toArray)[m]? = xs.toList.reverse[m]? := by
    rw [← Array.getElem?_toList]
  rw [Nat.zero_add, e2, List.getElem?_reverse (by simpa using hm'), Array.length_toList, Array.getElem?_toList]
theorem getItem_rev {t sl : Addr} {items : Array Value} {u : Tok} {Q : Value → Shared → Prop} (ht : IsTup s.heap t items) (hs : s.heap.IsSliceOf sl .none .none (.int (-1) u)) (hsz : items.size ≤ sizeLine)
    (h : Q (.ref s.heap.objs.size) { s with heap := s.heap.push { cls := .type "tuple", data := .seq items.toList.reverse.toArray } }) : wpAny (model prog w) A (getItem (.ref t) (.ref sl)) Q E s := by
  obtain ⟨os, hos, hcs, hds⟩ := id hs
  have ts : s.TypeIs (.ref sl) "slice" := ⟨os, hos, hcs⟩
  unfold getItem
  try with_reducible refine wpAny_holding ?_
  first | refine wpAny_bind (wpAny_pure ?_) | skip
  refine wpAny_bind (wpAny_sequenceKey ht.typeIs (by decide) ?_)
  refine wpAny_bind (wpAny_callSpecial?_slot (name := Str.ofString "__getitem__") ht.typeIs PyProof.Rows.slot_tuple_getitem (wpAny_call_entry PyProof.Rows.slot_tuple_getitem ht.typeIs entry_tuple_getitem ?_ (args_tuple_getitem _ _)))
  show wpAny _ _ (Builtin.Tuple.tupleItemsOf (.ref t) >>= _) _ _ s
  refine wpAny_bind (tupleItemsOf_ ht (wpAny_bind (wpAny_typeOf ts ?_)))
  rw [if_pos (by decide)]
  refine wpAny_bind (applied_rev hs ?_)
  have no : ¬ ((((items.size : Int) - 1) == 0 && (-1 : Int) == 1 && items.size == items.size) = true) := by simp
  show wpAny _ _ (if (((items.size : Int) - 1) == 0 && (-1 : Int) == 1 && items.size == items.size) = true then _ else _) _ _ s
  rw [if_neg no, pick_rev]
  have ok : sizeOk (.seq items.toList.reverse.toArray) := by
    show items.toList.reverse.toArray.size ≤ sizeLine
    simpa using hsz
  first
    | exact wpAny_bind (m := Builtin.Tuple.tupleExact _) (wpAny_newObj_type (wpAny_pure ⟨_, rfl, wpAny_pure h⟩) ok)
    | exact wpAny_bind (m := Builtin.Tuple.tupleExact _) (wpAny_newObj_type (wpAny_bind (wpAny_pure (wpAny_pure ⟨_, rfl, wpAny_pure h⟩))) ok)
    | exact wpAny_bind (wpAny_bind (m := Builtin.Tuple.tupleExact _) (wpAny_newObj_type (wpAny_pure (wpAny_pure ⟨_, rfl, wpAny_pure h⟩)) ok))
    | exact wpAny_bind (wpAny_bind (m := Builtin.Tuple.tupleExact _) (wpAny_newObj_type (wpAny_pure ⟨_, rfl, wpAny_pure h⟩) ok))
end
section
variable {X : Cx}
def tRevT (te : TE) : TE := fun σ H Q => te σ H fun x H1 => ∃ a xs, x = .ref a ∧ H1 a = some (.tup xs) ∧ ∀ p, H1 p = none → Q (.ref p) (upd H1 p (.tup xs.reverse))
theorem pe_revT {e : Expr} {te : TE} {k : Nat} {p1 p2 p3 pos : Pos} (he : PE X e te) : PE X (.Subscript e (.Slice none none (some (.UnaryOp .USub (.Constant (.int 1) k p1) p2)) p3) pos) (tRevT te) := by
  refine ⟨fun pins s σ H Q I h => Subscript_ (thn (he.run pins s σ H _ I h) fun v s1 ⟨x, H1, I1, r1, a, xs, ex, hx, q⟩ => ?_)⟩
  subst ex
  cases r1
  have st : PO X (some (.UnaryOp .USub (.Constant (.int 1) k p1) p2)) (tPart (tUn (rU fun i => .int (-i)) (tC (.int 1)))) := po_some (pe_un un_neg pe_int)
  refine wpAny_Slice (thn (po_none.run pins s1 σ H1 (fun o H2 => o = none ∧ H2 = H1) I1 ⟨rfl, rfl⟩) fun vl s2 ⟨l, H2, I2, pl, el, e2⟩ => ?_)
  subst el e2
  refine thn (po_none.run pins s2 σ H2 (fun o H3 => o = none ∧ H3 = H2) I2 ⟨rfl, rfl⟩) fun vu s3 ⟨u, H3, I3, pu, eu, e3⟩ => ?_
  subst eu e3
  refine thn (st.run pins s3 σ H3 (fun o H4 => o = some (-1) ∧ H4 = H3) I3 ⟨1, rfl, -1, rfl, rfl, rfl⟩) fun vs s4 ⟨o, H4, I4, ps, eo, e4⟩ => ?_
  subst eo e4
  have I5 : Inv X pins σ H4 { s4 with heap := s4.heap.push { cls := .type "slice", data := .fields #[vl, vu, vs] } } := I4.kept (t' := s4.toks) fun b ob q => Heap.get?_push_of_some _ q
  obtain ⟨its, r, ht, hz⟩ := I5.tuple (SqT.of (K := X.K) hx)
  show wpAny (model X.prog X.w) X.A (subscriptTail e (.Slice none none (some (.UnaryOp .USub (.Constant (.int 1) k p1) p2)) p3) (.ref a) (.ref s4.heap.objs.size)) (EP X pins σ Q) X.xe { s4 with heap := s4.heap.push { cls := .type "slice", data := .fields #[vl, vu, vs] } }
  cases pl
  cases pu
  cases ps
  refine tail_any (ops := [.ref a, .ref s4.heap.objs.size]) ht.typeIs (PyProof.Rows.slot_tuple_getitem.lookup) ?_ (by with_unfolding_all rfl)
  refine getItem_rev ht (Heap.IsSliceOf.new _ _ _ _) (by rw [List.size_toArray, ← r.length]; exact hz) ?_
  refine ⟨.ref _, _, I5.laid (t' := s4.toks) (o := .tup xs.reverse) (fun b ob q => Heap.get?_push_of_some _ q) (Nat.le_refl _) ?_, rfl, q _ (I5.hok.fresh (Nat.le_refl _))⟩
  exact ⟨by rw [List.length_reverse]; exact hz, its.reverse, r.reverse, ⟨_, Heap.get?_push_size _ rfl, rfl, _, rfl⟩⟩
end
end RT
set_option Elab.async false
set_option linter.all false
set_option maxRecDepth 100000
set_option maxHeartbeats 4000000
namespace K01
open PySem L2 L2H DQ RZ
theorem Gw.grow {m c l : Addr} {cs ls : List Int} {n : Int} {H H' H'' : Hp} (G : Gw m c l cs ls n H H') (s : Same H' H'') : Gw m c l cs ls n H H'' ∧ Same (fr H' m l) (fr H'' m l) := by
  have y : Same (fr H' m l) (fr H'' m l) := fun b o e => by
    obtain ⟨h1, h2, h3⟩ := fr_of e
    exact fr_some (s _ _ h3) h1 h2
  exact ⟨⟨G.mat.same s, G.sm.trans (.new s y)⟩, y⟩
theorem Gw.tupAt {m c l p : Addr} {cs ls : List Int} {n : Int} {H H' : Hp} {xs : List V} (G : Gw m c l cs ls n H H') (e : H' p = some (.tup xs)) : fr H' m l p = some (.tup xs) :=
  fr_some e (ne_of e G.mat.hm (by intro z; cases z)) (ne_of e G.mat.hl (by intro z; cases z))
/-- what bending does to data: bounds -/
def Bnt (N n : Nat) (d d' : PyData) : Prop := gd (N + 10) d' = true ∧ sz d' ≤ 2 * sz d + 6000 ∧ d'.depth ≤ n + 3
mutual
theorem gd_mono {N M : Nat} (h : N ≤ M) : ∀ d : PyData, gd N d = true → gd M d = true
  | .none, _ => rfl
  | .bool _, _ => rfl
  | .int i, z => by
    have y : i.natAbs ≤ N := of_decide_eq_true (by simpa [gd] using z)
    simp only [gd]
    exact decide_eq_true (Nat.le_trans y h)
  | .str _, z => by simpa [gd] using z
  | .list xs, z => by
    simp only [gd] at z ⊢
    exact gdAll_mono h xs z
  | .tuple xs, z => by
    simp only [gd] at z ⊢
    exact gdAll_mono h xs z
  | .dict _, z => by simpa [gd] using z
theorem gdAll_mono {N M : Nat} (h : N ≤ M) : ∀ ds : List PyData, gdAll N ds = true → gdAll M ds = true
  | [], _ => rfl
  | d :: ds, z => by
    have z' := Bool.and_eq_true_iff.mp (by simpa [gdAll] using z)
    simp only [gdAll, gd_mono h d z'.1, gdAll_mono h ds z'.2, Bool.and_self]
end
theorem bnt_odd {N n : Nat} (hN : 10 ^ 30 ≤ N) {d d' : PyData} (h : OddD d') : Bnt N n d d' := by
  obtain ⟨h1, h2, h3⟩ := h
  exact ⟨gd_mono (by omega) _ h1, by omega, by omega⟩
theorem szAll_len : ∀ ds : List PyData, 2 * ds.length ≤ szAll ds
  | [] => Nat.le_refl _
  | d :: ds => by
    have := szAll_len ds
    simp only [szAll, List.length_cons]
    omega
theorem szAll_split (ds : List PyData) (j : Nat) : szAll (ds.take j) + szAll (ds.drop j) = szAll ds := by
  rw [← szAll_app, List.take_append_drop]
theorem szAll_rev : ∀ ds : List PyData, szAll ds.reverse = szAll ds
  | [] => rfl
  | d :: ds => by
    rw [List.reverse_cons, szAll_app, szAll_rev ds]
    simp only [szAll]
    omega
theorem dp_all {ds : List PyData} {k : Nat} : PyData.depthAll ds ≤ k ↔ ∀ d ∈ ds, d.depth ≤ k := by
  induction ds with
  | nil => simp [PyData.depthAll]
  | cons d ds ih =>
    simp only [PyData.depthAll, List.mem_cons, forall_eq_or_imp, ← ih]
    omega
theorem drop_at {ds : List PyData} {j : Nat} {e : PyData} (h : ds[j]? = some e) : ds.drop j = e :: ds.drop (j + 1) := by
  obtain ⟨h1, h2⟩ := List.getElem?_eq_some_iff.mp h
  rw [← h2, ← List.drop_eq_getElem_cons h1]
section
variable {N n : Nat} {ds : List PyData} (hg : gdAll N ds = true) (hd : PyData.depthAll ds + 1 + 1 ≤ n)
include hg hd
theorem bnt_cut (j : Nat) : Bnt N n (.tuple ds) (.tuple (ds.take j ++ ds.drop (j + 1))) := by
  have h := gdAll_iff.mp hg
  have hk := dp_all.mp (Nat.le_refl (PyData.depthAll ds))
  have mem : ∀ x ∈ ds.take j ++ ds.drop (j + 1), x ∈ ds := fun x hx => (List.mem_append.mp hx).elim List.mem_of_mem_take List.mem_of_mem_drop
  refine ⟨?_, ?_, ?_⟩
  · simp only [gd]
    exact gdAll_iff.mpr fun x hx => gd_mono (by omega) _ (h x (mem x hx))
  · have z := szAll_split ds j
    have z2 := szAll_split (ds.drop j) 1
    rw [List.drop_drop] at z2
    simp only [sz, szAll_app]
    omega
  · have : PyData.depthAll (ds.take j ++ ds.drop (j + 1)) ≤ PyData.depthAll ds := dp_all.mpr fun x hx => hk x (mem x hx)
    simp only [PyData.depth]
    omega
theorem bnt_twice (j : Nat) : Bnt N n (.tuple ds) (.tuple (ds ++ (ds.drop j).take 1)) := by
  have h := gdAll_iff.mp hg
  have hk := dp_all.mp (Nat.le_refl (PyData.depthAll ds))
  have mem : ∀ x ∈ ds ++ (ds.drop j).take 1, x ∈ ds := fun x hx => (List.mem_append.mp hx).elim id fun y => List.mem_of_mem_drop (List.mem_of_mem_take y)
  refine ⟨?_, ?_, ?_⟩
  · simp only [gd]
    exact gdAll_iff.mpr fun x hx => gd_mono (by omega) _ (h x (mem x hx))
  · have z := szAll_split ds j
    have z2 := szAll_split (ds.drop j) 1
    simp only [sz, szAll_app]
    omega
  · have : PyData.depthAll (ds ++ (ds.drop j).take 1) ≤ PyData.depthAll ds := dp_all.mpr fun x hx => hk x (mem x hx)
    simp only [PyData.depth]
    omega
theorem bnt_list : Bnt N n (.tuple ds) (.list ds) := by
  refine ⟨?_, ?_, ?_⟩
  · simp only [gd]
    exact gdAll_mono (by omega) _ hg
  · simp only [sz]
    omega
  · simp only [PyData.depth]
    omega
theorem bnt_rev : Bnt N n (.tuple ds) (.tuple ds.reverse) := by
  have h := gdAll_iff.mp hg
  have hk := dp_all.mp (Nat.le_refl (PyData.depthAll ds))
  refine ⟨?_, ?_, ?_⟩
  · simp only [gd]
    exact gdAll_iff.mpr fun x hx => gd_mono (by omega) _ (h x (List.mem_reverse.mp hx))
  · simp only [sz, szAll_rev]
    omega
  · have : PyData.depthAll ds.reverse ≤ PyData.depthAll ds := dp_all.mpr fun x hx => hk x (List.mem_reverse.mp hx)
    simp only [PyData.depth]
    omega
theorem bnt_put (j : Nat) {o : PyData} (hN : 10 ^ 30 ≤ N) (ho : OddD o) : Bnt N n (.tuple ds) (.tuple (ds.take j ++ [o] ++ ds.drop j)) := by
  have h := gdAll_iff.mp hg
  have hk := dp_all.mp (Nat.le_refl (PyData.depthAll ds))
  obtain ⟨h1, h2, h3⟩ := ho
  have mem : ∀ x ∈ ds.take j ++ [o] ++ ds.drop j, x ∈ ds ∨ x = o := fun x hx => by
    rcases List.mem_append.mp hx with hx | hx
    · rcases List.mem_append.mp hx with hx | hx
      · exact .inl (List.mem_of_mem_take hx)
      · exact .inr (List.mem_singleton.mp hx)
    · exact .inl (List.mem_of_mem_drop hx)
  refine ⟨?_, ?_, ?_⟩
  · simp only [gd]
    refine gdAll_iff.mpr fun x hx => ?_
    rcases mem x hx with z | rfl
    · exact gd_mono (by omega) _ (h x z)
    · exact gd_mono (by omega) _ h1
  · have z := szAll_split ds j
    simp only [sz, szAll_app, szAll]
    omega
  · have : PyData.depthAll (ds.take j ++ [o] ++ ds.drop j) ≤ max (PyData.depthAll ds) 3 := dp_all.mpr fun x hx => by
      rcases mem x hx with z | rfl
      · have := hk x z
        omega
      · omega
    simp only [PyData.depth]
    omega
theorem bnt_in {j : Nat} {e o : PyData} (he : ds[j]? = some e) (ho : Bnt N (n - 1) e o) : Bnt N n (.tuple ds) (.tuple (ds.take j ++ [o] ++ ds.drop (j + 1))) := by
  have h := gdAll_iff.mp hg
  have hk := dp_all.mp (Nat.le_refl (PyData.depthAll ds))
  obtain ⟨h1, h2, h3⟩ := ho
  have mem : ∀ x ∈ ds.take j ++ [o] ++ ds.drop (j + 1), x ∈ ds ∨ x = o := fun x hx => by
    rcases List.mem_append.mp hx with hx | hx
    · rcases List.mem_append.mp hx with hx | hx
      · exact .inl (List.mem_of_mem_take hx)
      · exact .inr (List.mem_singleton.mp hx)
    · exact .inl (List.mem_of_mem_drop hx)
  refine ⟨?_, ?_, ?_⟩
  · simp only [gd]
    refine gdAll_iff.mpr fun x hx => ?_
    rcases mem x hx with z | rfl
    · exact gd_mono (by omega) _ (h x z)
    · exact h1
  · have z := szAll_split ds j
    rw [drop_at he] at z
    simp only [szAll] at z
    simp only [sz, szAll_app, szAll]
    omega
  · have : PyData.depthAll (ds.take j ++ [o] ++ ds.drop (j + 1)) ≤ n + 2 := dp_all.mpr fun x hx => by
      rcases mem x hx with z | rfl
      · have := hk x z
        omega
      · omega
    simp only [PyData.depth]
    omega
end
theorem ok_app {x y : Str} (hx : PyData.strOk x = true) (hy : PyData.strOk y = true) : PyData.strOk (x ++ y) = true := by
  have e : ((x ++ y : Str).cps) = x.cps ++ y.cps := rfl
  unfold PyData.strOk at *
  rw [e]
  simp only [Array.all_append, Bool.and_eq_true]
  exact ⟨hx, hy⟩
theorem ok_sub {x y : Str} (hx : PyData.strOk x = true) (h : ∀ c ∈ y.cps.toList, c ∈ x.cps.toList) : PyData.strOk y = true := by
  unfold PyData.strOk at *
  rw [← Array.all_toList] at hx ⊢
  exact List.all_eq_true.mpr fun c hc => List.all_eq_true.mp hx c (h c hc)
theorem ok_cut {x : Str} {lo hi : Option Int} (hx : PyData.strOk x = true) : PyData.strOk (cutS x lo hi) = true := by
  refine ok_sub hx fun c hc => ?_
  have hc' : c ∈ (x.cps.toList.drop (HT.sIx x.length 0 lo)).take (HT.sIx x.length x.length hi - HT.sIx x.length 0 lo) := hc
  exact List.mem_of_mem_drop (List.mem_of_mem_take hc')
theorem bnt_str {N n : Nat} {x y : Str} (ok : PyData.strOk y = true) (hl : y.length ≤ 2 * x.length + 10) : Bnt N n (.str x) (.str y) := by
  refine ⟨?_, ?_, Nat.zero_le _⟩
  · simpa [gd] using ok
  · simp only [sz]
    omega
theorem bnt_int {N n : Nat} {i j : Int} (h : gd N (.int i) = true) (hj : j.natAbs ≤ 10) : Bnt N n (.int i) (.int (i + j)) := by
  have y : i.natAbs ≤ N := of_decide_eq_true (by simpa [gd] using h)
  refine ⟨?_, ?_, Nat.zero_le _⟩
  · simp only [gd]
    exact decide_eq_true (by omega)
  · simp only [sz]
    omega
end K01
set_option Elab.async false
set_option linter.all false
set_option maxRecDepth 100000
set_option maxHeartbeats 4000000
/-! readings hand on what is wanted: monotone -/
namespace MO
open PySem L2
def MonoE (te : TE) : Prop := ∀ (σ : L2.St) (H : Hp) (Q Q' : VK), (∀ v H1, Q v H1 → Q' v H1) → te σ H Q → te σ H Q'
def MonoA (ta : TA) : Prop := ∀ (σ : L2.St) (H : Hp) (Q Q' : List V → Hp → Prop), (∀ v H1, Q v H1 → Q' v H1) → ta σ H Q → ta σ H Q'
def MonoT (tt : TT) : Prop := ∀ (σ : L2.St) (H : Hp) (Q Q' : Bool → Hp → Prop), (∀ b H1, Q b H1 → Q' b H1) → tt σ H Q → tt σ H Q'
def MonoR (r : R2) : Prop := ∀ (x y : V) (H : Hp) (Q Q' : VK), (∀ v H1, Q v H1 → Q' v H1) → r x y H Q → r x y H Q'
def MonoC (r : List V → Hp → VK → Prop) : Prop := ∀ (vs : List V) (H : Hp) (Q Q' : VK), (∀ v H1, Q v H1 → Q' v H1) → r vs H Q → r vs H Q'
theorem mo_var {i : Nat} : MonoE (tVar i) := fun σ H Q Q' h ⟨v, e, q⟩ => ⟨v, e, h _ _ q⟩
theorem mo_c {v : V} : MonoE (tC v) := fun σ H Q Q' h q => h _ _ q
theorem mo_nil : MonoA tNil := fun σ H Q Q' h q => h _ _ q
theorem mo_cons {te : TE} {ta : TA} (a : MonoE te) (b : MonoA ta) : MonoA (tCons te ta) := fun σ H Q Q' h q => a σ H _ _ (fun v H1 q1 => b σ H1 _ _ (fun vs H2 q2 => h _ _ q2) q1) q
theorem mo_tup {ta : TA} (a : MonoA ta) : MonoE (tTup ta) := fun σ H Q Q' h q => a σ H _ _ (fun vs H1 q1 => ⟨q1.1, fun p np => h _ _ (q1.2 p np)⟩) q
theorem mo_lst {ta : TA} (a : MonoA ta) : MonoE (tLst ta) := fun σ H Q Q' h q => a σ H _ _ (fun vs H1 q1 => ⟨q1.1, fun p np => h _ _ (q1.2 p np)⟩) q
theorem mo_op {r : R2} {ta tb : TE} (hr : MonoR r) (a : MonoE ta) (b : MonoE tb) : MonoE (tOp r ta tb) := fun σ H Q Q' h q => a σ H _ _ (fun v H1 q1 => b σ H1 _ _ (fun u H2 q2 => hr _ _ _ _ _ h q2) q1) q
theorem mo_test {te : TE} (a : MonoE te) : MonoT (tTest te) := fun σ H Q Q' h q => a σ H _ _ (fun v H1 ⟨k, e, q1⟩ => ⟨k, e, h _ _ q1⟩) q
theorem mo_and {t u : TT} (a : MonoT t) (b : MonoT u) : MonoT (tAnd t u) := fun σ H Q Q' h q => a σ H _ _ (fun c H1 q1 => by
  cases c with
  | true =>
    rw [if_pos rfl] at q1 ⊢
    exact b σ H1 _ _ h q1
  | false => exact h _ _ q1) q
theorem mo_or {t u : TT} (a : MonoT t) (b : MonoT u) : MonoT (tOr t u) := fun σ H Q Q' h q => a σ H _ _ (fun c H1 q1 => by
  cases c with
  | true => exact h _ _ q1
  | false => exact b σ H1 _ _ h q1) q
theorem mo_if {t : TT} {ta tb : TE} (a : MonoT t) (b : MonoE ta) (c : MonoE tb) : MonoE (tIf t ta tb) := fun σ H Q Q' h q => a σ H _ _ (fun k H1 q1 => by
  cases k with
  | true =>
    rw [if_pos rfl] at q1 ⊢
    exact b σ H1 _ _ h q1
  | false => exact c σ H1 _ _ h q1) q
theorem mr_ix {K : PySem.W.Frag} : MonoR (rIxT K) := fun x y H Q Q' h ⟨p, xs, i, v, e1, e2, e3, e4, q⟩ => ⟨p, xs, i, v, e1, e2, e3, e4, h _ _ q⟩
theorem mr_nilT {K : PySem.W.Frag} {f : Bool → Bool} : MonoR (NI.rNilT K f) := fun x y H Q Q' h ⟨a, b, xs, e1, e2, e3, e4, q⟩ => ⟨a, b, xs, e1, e2, e3, e4, h _ _ q⟩
theorem mr_i0 {g : Int → Int → V} : MonoR (rI0 g) := fun x y H Q Q' h ⟨i, j, e1, e2, q⟩ => ⟨i, j, e1, e2, h _ _ q⟩
theorem mc_nx (E : XK) : ∀ (vs : List V) (H : Hp) (Q Q' : VK), (∀ v H1, Q v H1 → Q' v H1) → K01.spNx vs H Q E → K01.spNx vs H Q' E := fun vs H Q Q' h ⟨m, c, l, many, cs, ls, n, e, M, h1, h2, h3, k⟩ =>
  ⟨m, c, l, many, cs, ls, n, e, M, h1, h2, h3, fun r H' l' ls' n' r0 r1 M' nn s => h _ _ (k r H' l' ls' n' r0 r1 M' nn s)⟩
end MO
namespace MO
open PySem L2
theorem mo_cb {r : List V → Hp → VK → Prop} {ta : TA} (hr : MonoC r) (a : MonoA ta) : MonoE (tCB r ta) := fun σ H Q Q' h q => a σ H _ _ (fun vs H1 q1 => hr _ _ _ _ h q1) q
theorem mo_call {sp : Sp} {dvs : List V} {E : XK} {ta : TA} (hr : ∀ vs H Q Q', (∀ v H1, Q v H1 → Q' v H1) → sp vs H Q E → sp vs H Q' E) (a : MonoA ta) : MonoE (tCall sp dvs E ta) := fun σ H Q Q' h q => a σ H _ _ (fun vs H1 q1 => hr _ _ _ _ h q1) q
theorem mc_len {K : PySem.W.Frag} : MonoC (fun xs H Q => ∃ p ys, xs = [.ref p] ∧ (SqL K H p ys ∨ SqT K H p ys) ∧ Q (.int ys.length) H) := fun vs H Q Q' h ⟨p, ys, e, s, q⟩ => ⟨p, ys, e, s, h _ _ q⟩
end MO
set_option Elab.async false
set_option linter.all false
set_option maxRecDepth 100000
set_option maxHeartbeats 4000000
namespace K01
open PySem L2 L2H DQ RZ
/-- a pair: a tree that is no call, n nodes, c calls -/
def Tp (k n c : Nat) (d : PyData) : Prop := ∃ (ms : List Str) (bs : List PyData) (n0 : Nat), d = .tuple [.tuple (ms.map PyData.str), .tuple bs] ∧ ms.Sublist abc3 ∧ bs.length ≤ 3 ∧ TcB k n0 c bs ∧ n = n0 + 1
theorem Tp.tc {k n c : Nat} {d : PyData} (h : Tp k n c d) : Tc k n c d := by
  obtain ⟨ms, bs, n0, rfl, h1, h2, h3, h4⟩ := h
  exact .mk h1 h2 (.inl ⟨rfl, rfl⟩) h3 h4 rfl
theorem Tc.tp {k n : Nat} {d : PyData} (h : Tc k n 0 d) : Tp k n 0 d := by
  cases h with
  | @mk _ _ _ n0 c0 c1 ms bs r h1 h2 h3 h4 e1 e2 =>
    rcases h3 with ⟨rfl, rfl⟩ | ⟨rfl, rfl⟩
    · obtain rfl : c1 = 0 := by omega
      exact ⟨ms, bs, n0, rfl, h1, h2, h4, e1⟩
    · omega
theorem tp_tup {ms : List Str} {bs : List PyData} (h : tupA bs = true) : tupO (.tuple [.tuple (ms.map PyData.str), .tuple bs]) = true := by
  simp only [tupO, tupA, tup_strs, h, Bool.and_self]
/-- the way down: what stands above, level by level; o nodes beside the way -/
inductive Spn (H : Hp) : List V → Nat → Nat → Prop
  | nil : Spn H [] 3 0
  | snoc {es : List V} {k o a b o' : Nat} {e : Addr} {v : V} {j : Nat} {ms : List Str} {bs : List PyData} {u : Str} {t : PyData} : Spn H es (k + 1) o → H e = some (.tup [v, .int (j : Int)]) → Dq H v (.tuple [.tuple (ms.map PyData.str), .tuple bs]) → tupA bs = true →
      ms.Sublist abc3 → bs.length ≤ 3 → bs[j]? = some (.tuple [.str u, t]) → efS u → TcB (k + 1) a 0 (bs.take j) → TcB (k + 1) b 0 (bs.drop (j + 1)) → o' = o + 1 + a + b → Spn H (es ++ [.ref e]) k o'
theorem Spn.keep {H H' : Hp} (s : ∀ b xs, H b = some (.tup xs) → H' b = some (.tup xs)) {es : List V} {k o : Nat} (h : Spn H es k o) : Spn H' es k o := by
  induction h with
  | nil => exact .nil
  | snoc h h1 h2 ht h3 h4 h5 h6 h7 h8 h9 ih => exact .snoc ih (s _ _ h1) (h2.tups s (tp_tup ht)) ht h3 h4 h5 h6 h7 h8 h9
theorem Spn.same {H H' : Hp} (s : Same H H') {es : List V} {k o : Nat} (h : Spn H es k o) : Spn H' es k o := h.keep fun b xs e => s _ _ e
theorem TcB.cut {k n c : Nat} {bs : List PyData} {j : Nat} (h : TcB k n c bs) (hj : j < bs.length) : ∃ k' u t n1 c1 a ca b cb, k = k' + 1 ∧ bs[j]? = some (.tuple [.str u, t]) ∧ efS u ∧ Tc k' n1 c1 t ∧ TcB k a ca (bs.take j) ∧ TcB k b cb (bs.drop (j + 1)) ∧ n = a + n1 + b ∧ c = ca + c1 + cb := by
  obtain ⟨n1, c1, n2, c2, hA, hB, e1, e2⟩ := h.take j
  have hd : bs.drop j = bs[j] :: bs.drop (j + 1) := List.drop_eq_getElem_cons hj
  rw [hd] at hB
  have hb : bs[j]? = some bs[j] := List.getElem?_eq_getElem hj
  generalize bs[j] = x at hB hb
  cases hB with
  | @cons k n c n' c' N C u t r hu ht hr f1 f2 => exact ⟨k, u, t, n, c, n1, c1, n', c', rfl, hb, hu, ht, hA, hr, by omega, by omega⟩
/-- trees of at most one level below the root -/
def spT1 : Sp := fun vs H Q _ => ∃ (m c l : Addr) (cs ls : List Int) (n e : Int), vs = [.ref m, .int 2, .int e] ∧ (e = 0 ∨ e = 1) ∧ MAt H m c l cs ls n ∧ n + 52 ≤ 1000000000 ∧
  ∀ r d q H' l' ls' n', MAt H' m c l' cs ls' n' → n' ≤ n + 52 → Fs H m l H' l' → Dq (fr H' m l') r d → Tc 1 q 0 d → (q : Int) ≤ 2 → Q r H'
theorem t1_or {vs : List V} {H : Hp} {Q : VK} {E : XK} (h : spT1 vs H Q E) : spTr 0 vs H Q E ∨ spTr 1 vs H Q E := by
  obtain ⟨m, c, l, cs, ls, n, e, rfl, he, M, hn, k⟩ := h
  have d0 : dn 0 = 10 := by decide
  have d1 : dn 1 = 52 := by decide
  rcases he with rfl | rfl
  · exact .inl ⟨m, c, l, cs, ls, n, 2, rfl, M, by omega, by decide, by decide, fun r d q H' l' ls' n' M' nn s q' t hq => k r d q H' l' ls' n' M' (by omega) s q' t.mono hq⟩
  · exact .inr ⟨m, c, l, cs, ls, n, 2, rfl, M, by omega, by decide, by decide, fun r d q H' l' ls' n' M' nn s q' t hq => k r d q H' l' ls' n' M' (by omega) s q' t hq⟩
theorem dq_tup {H : Hp} {v : V} {ds : List PyData} (h : Dq H v (.tuple ds)) : ∃ p xs, v = .ref p ∧ H p = some (.tup xs) ∧ DqAll H xs ds := by
  cases h with
  | tup e a => exact ⟨_, _, rfl, e, a⟩
theorem dq_pair {H : Hp} {v : V} {a b : PyData} (h : Dq H v (.tuple [a, b])) : ∃ p va vb, v = .ref p ∧ H p = some (.tup [va, vb]) ∧ Dq H va a ∧ Dq H vb b := by
  obtain ⟨p, xs, rfl, e, a⟩ := dq_tup h
  cases a with
  | cons qa q =>
  cases q with
  | cons qb q =>
  cases q
  exact ⟨p, _, _, rfl, e, qa, qb⟩
theorem dq_node {H : Hp} {v : V} {A B : List PyData} (h : Dq H v (.tuple [.tuple A, .tuple B])) : ∃ p va pb xs, v = .ref p ∧ H p = some (.tup [va, .ref pb]) ∧ Dq H va (.tuple A) ∧ H pb = some (.tup xs) ∧ DqAll H xs B := by
  obtain ⟨p, va, vb, rfl, e, qa, qb⟩ := dq_pair h
  obtain ⟨pb, xs, rfl, e2, a⟩ := dq_tup qb
  exact ⟨p, va, pb, xs, rfl, e, qa, e2, a⟩
def lenAt (H : Hp) (p : Addr) : Nat := match H p with | some (.lst xs) => xs.length | _ => 0
theorem gw_put {H : Hp} {m l D : Addr} {xs ys : List V} (h : fr H m l D = some (.lst xs)) : ∀ b zs, fr H m l b = some (.tup zs) → fr (upd H D (.lst ys)) m l b = some (.tup zs) := fun b zs z => by
  obtain ⟨h1, h2, h3⟩ := fr_of z
  refine fr_some ?_ h1 h2
  rw [upd_ne fun y => by rw [y, h] at z; cases z]
  exact h3
/-- a drawn body -/
def spBy : Sp := fun vs H Q _ => ∃ (m c l : Addr) (cs ls : List Int) (n size : Int), vs = [.ref m, .int size] ∧ MAt H m c l cs ls n ∧ n + 700 ≤ 1000000000 ∧ 2 ≤ size ∧ size ≤ 1000 ∧
  ∀ r d q H' l' ls' n', MAt H' m c l' cs ls' n' → n' ≤ n + 700 → Fs H m l H' l' → Dq (fr H' m l') r d → Tp 3 q 1 d → (q : Int) ≤ size + 1 → Q r H'
abbrev nBy : List Str := ["m", "size", "tree", "spine", "call", "at", "word", "above"]
theorem drop_atV {es : List V} {j : Nat} {e : V} (h : es[j]? = some e) : es.drop j = e :: es.drop (j + 1) := by
  obtain ⟨h1, h2⟩ := List.getElem?_eq_some_iff.mp h
  rw [← h2, ← List.drop_eq_getElem_cons h1]
section
variable {P : Program} {w : World} {K : PySem.W.Frag} {mg : Str → Option Value} {base : Heap}
theorem scBy : FnScope nBy ["m", "size"] (defScope sBody) := ⟨rfl, rfl, rfl, by decide +kernel, rfl, by decide +kernel, by decide +kernel⟩
theorem ok_body {f fN fT : Addr} {fd dN dT : FuncData} (F : Fun K "_law_body" "_law_body" sBody f fd) (FN : Fun K "_law_next" "_law_next" sNext fN dN) (bN : Binds K dN ["m", "many"] []) (gN : mg "_law_next" = some (.ref fN))
    (FT : Fun K "_law_tree" "_law_tree" sTree fT dT) (bT : Binds K dT ["m", "size", "deep"] []) (gT : mg "_law_tree" = some (.ref fT)) (T : TxtB mg) (tT : mg "tuple" = none) : FnOk P w K mg base CX0 7 f fd ["m", "size"] spBy := by
  have GN : FnOk P w K mg base CX0 1 fN dN ["m", "many"] spNx := (ok_next FN T).imp fun _ _ _ _ => nx_of
  have GT : FnOk P w K mg base CX0 6 fT dT ["m", "size", "deep"] (spTr 3) := ok_tree FT bT gT FN bN gN T tT 3 (by decide)
  have GA : FnOk P w K mg base CX0 3 fT dT ["m", "size", "deep"] (spTr 0) := ok_tree FT bT gT FN bN gN T tT 0 (by decide)
  have GB : FnOk P w K mg base CX0 4 fT dT ["m", "size", "deep"] (spTr 1) := ok_tree FT bT gT FN bN gN T tT 1 (by decide)
  have G1 : FnOk P w K mg base CX0 4 fT dT ["m", "size", "deep"] spT1 := ⟨fun vs H Q E h => (t1_or h).elim (GA.len vs H Q E) (GB.len vs H Q E), fun A outer s H args us vs Q E hr he hb hv h => (t1_or h).elim (GA.run A outer s H args us vs Q E (hr.mono (by decide)) he hb hv) (GB.run A outer s H args us vs Q E hr he hb hv)⟩
  have bi : bootBuiltins ("int" : Str) = some (.type "int") := by decide +kernel
  refine F.ok (k := 6) scBy (fun vs H Q E h => ?_) (fun cdv A outer s H vs Q E hr h => ?_)
  · obtain ⟨m, c, l, cs, ls, n, size, rfl, _⟩ := h
    rfl
  · obtain ⟨m, c, l, cs, ls, n, size, rfl, M, hn, sz2, sz9, kk⟩ := h
    have hu1 : (A.deeper (PyProof.Rows.envOfC "_law_body" (defScope sBody) s.heap.objs.size f cdv)).units < cLine := by have := hr.un; omega
    refine ⟨_, pss_cons (ps_set (i := 2) scBy.nd rfl (Or.inl rfl) (pe_call GT hr (by rfl) gT FT.kp bT .nil pass0 (pa_cons (pv 0) (pa_cons (pe_op op_sub (pv 1) pe_int) (pa_cons pe_int pa_nil)))))
      (pss_cons (ps_par rfl scBy.nd (i := 3) (j := 4) rfl rfl (by decide) rfl rfl (pa_cons (pe_lst pa_nil) (pa_cons (pe_op op_catF (pe_call G1 (hr.mono (by decide)) (by rfl) gT FT.kp bT .nil pass0 (pa_cons (pv 0) (pa_cons pe_int (pa_cons (pe_callTy call_int1 (by rfl) T.int bi (pa_cons (pe_cmpR op_eq (pe_call GN (hr.mono (by decide)) (by rfl) gN FN.kp bN .nil pass0 (pa_cons (pv 0) (pa_cons pe_int pa_nil))) pe_int (by rfl)) pa_nil)) pa_nil))))
          (pe_tup (pa_cons pe_str pa_nil))) pa_nil)) rfl)
      (pss_cons (ps_while PassesOwn.never (PW.pt (pw_and (pt_cmpR (NI.op_neNilT hu1) (pe_ix ix_tup (pv 2) pe_int (fun _ _ => rfl)) (pe_tup pa_nil) (by rfl)) (pw_and (pt_cmpR op_lt (pe_callB call_len_seq (by rfl) T.len PySem.boot_len (pa_cons (pv 3) pa_nil)) (pe_ifExp (pt_cmpR (NI.op_eqNilT hu1) (pe_ix ix_tup (pv 4) pe_int (fun _ _ => rfl)) (pe_tup pa_nil) (by rfl)) pe_int pe_int) (by rfl))
          (pw_and1 (pt_cmpR op_gt (pe_call GN (hr.mono (by decide)) (by rfl) gN FN.kp bN .nil pass0 (pa_cons (pv 0) (pa_cons pe_int pa_nil))) pe_int (by rfl))))))
        (pss_cons (ps_set (i := 5) scBy.nd rfl (Or.inl rfl) (pe_call GN (hr.mono (by decide)) (by rfl) gN FN.kp bN .nil pass0 (pa_cons (pv 0) (pa_cons (pe_callB call_len_seq (by rfl) T.len PySem.boot_len (pa_cons (pe_ix ix_tup (pv 2) pe_int (fun _ _ => rfl)) pa_nil)) pa_nil))))
        (pss_cons (ps_expr (pe_bm PySem.F.plainAttrs_list PySem.F.slot_list_append PySem.F.type_list_append mt_append (pv 3) (pa_cons (pe_tup (pa_cons (pv 2) (pa_cons (pv 5) pa_nil))) pa_nil)))
        (pss_one (ps_set (i := 2) scBy.nd rfl (Or.inl rfl) (pe_ix ix_tup (pe_ix ix_tup (pe_ix ix_tup (pv 2) pe_int (fun _ _ => rfl)) (pv 5) (fun _ _ => rfl)) pe_int (fun _ _ => rfl)))))))
      (pss_cons (ps_set (i := 6) scBy.nd rfl (Or.inl rfl) (pe_ix ix_list (pe_lst (pa_cons pe_str (pa_cons pe_str pa_nil))) (pe_callTy call_int1 (by rfl) T.int bi (pa_cons (pe_cmpR op_eq (pe_call GN (hr.mono (by decide)) (by rfl) gN FN.kp bN .nil pass0 (pa_cons (pv 0) (pa_cons pe_int pa_nil))) pe_int (by rfl)) pa_nil)) (fun _ _ => rfl)))
      (pss_cons (ps_set (i := 2) scBy.nd rfl (Or.inl rfl) (pe_tup (pa_cons (pe_ix ix_tup (pv 2) pe_int (fun _ _ => rfl)) (pa_cons (pe_op op_catF (pe_slice sl_tupF (pe_ix ix_tup (pv 2) pe_int (fun _ _ => rfl)) po_none (po_some pe_int)) (pe_tup (pa_cons (pe_tup (pa_cons (pv 6) (pa_cons (pv 4) pa_nil))) pa_nil))) pa_nil))))
      (pss_cons (ps_for PassesOwn.never rfl (pi_list (pe_revL (pv 3))) (pg_tup (n := 2) rfl (pgs_cons (pg_name (i := 7) scBy.nd rfl (Or.inl rfl)) (pgs_cons (pg_name (i := 5) scBy.nd rfl (Or.inl rfl)) pgs_nil)))
        (pss_one (ps_set (i := 2) scBy.nd rfl (Or.inl rfl) (pe_tup (pa_cons (pe_ix ix_tup (pv 7) pe_int (fun _ _ => rfl)) (pa_cons (pe_op op_catF (pe_op op_catF (pe_slice sl_tupF (pe_ix ix_tup (pv 7) pe_int (fun _ _ => rfl)) po_none (po_some (pv 5)))
            (pe_tup (pa_cons (pe_tup (pa_cons (pe_ix ix_tup (pe_ix ix_tup (pe_ix ix_tup (pv 7) pe_int (fun _ _ => rfl)) (pv 5) (fun _ _ => rfl)) pe_int (fun _ _ => rfl)) (pa_cons (pv 2) pa_nil))) pa_nil))) (pe_slice sl_tupF (pe_ix ix_tup (pv 7) pe_int (fun _ _ => rfl)) (po_some (pe_op op_add (pv 5) pe_int)) po_none)) pa_nil))))))
      (pss_one (ps_ret (pv 2)))))))), ?_⟩
    have d3 : dn 3 = 556 := by decide
    refine ⟨_, rfl, _, rfl, _, _, rfl, rfl, m, c, l, cs, ls, n, size - 1, rfl, M, by omega, by omega, by omega, fun vt dt nt H1 l1 ls1 n1 M1 nn1 s1 q1 t1 ht1 => ?_⟩
    refine ⟨Nat.zero_le _, fun sp nsp => ?_⟩
    have G1 : Gw m c l1 cs ls1 n1 H1 H1 := ⟨M1, .refl⟩
    obtain ⟨G2, u2, e2⟩ := G1.new (o := .lst []) nsp
    have q2 := q1.same u2
    have sp0 : H sp = none := s1.2 _ nsp
    have F2 := s1.trans G2.sm
    generalize upd H1 sp (HO.lst []) = H2 at G2 u2 e2 q2 F2
    have M2 := G2.mat
    clear G1 G2 u2 q1 s1 nsp
    refine ⟨_, rfl, _, rfl, m, c, l1, 4, cs, ls1, n1, rfl, M2, by decide, by decide, by omega, fun rb H3 l3 ls3 n3 rb0 rb1 M3 nn3 s3 => ⟨rfl, .inr ⟨_, rfl, ?_⟩⟩⟩
    refine ⟨m, c, l3, cs, ls3, n3, _, rfl, by split <;> simp, M3, by omega, fun vc0 dc0 nc H4 l4 ls4 n4 M4 nn4 s4 q4 t4 hc4 => ?_⟩
    refine ⟨by show 1 ≤ sizeLine; decide, fun pk npk => ?_⟩
    obtain ⟨msC, bsC, nbC, rfl, hmC, lbC, tbC, enC⟩ := t4.tp
    obtain ⟨pc, xc, rfl, ec, ac⟩ := dq_tup q4
    have G4 : Gw m c l4 cs ls4 n4 H4 H4 := ⟨M4, .refl⟩
    obtain ⟨G5, u5, e5⟩ := G4.new (o := .tup [.str "call"]) npk
    refine ⟨pc, pk, _, _, rfl, rfl, (fr_of (u5 _ _ ec)).2.2, upd_same, by rw [ac.len]; show 2 + 1 ≤ sizeLine; decide, fun vcA H6 s6 e6 => ⟨_, _, rfl, ?_⟩⟩
    obtain ⟨G6, u6⟩ := G5.grow s6
    have dcall : Dq (fr H6 m l4) (.ref vcA) (.tuple (.tuple (msC.map PyData.str) :: .tuple bsC :: [.str "call"])) :=
      .tup (G6.tupAt e6) (((ac.same u5).same u6).app (.cons (.str _ ⟨by decide +kernel, by decide +kernel⟩) .nil))
    have tcall : ∀ k, (bsC = [] ∨ 1 ≤ k) → Tc k nc 1 (.tuple (.tuple (msC.map PyData.str) :: .tuple bsC :: [.str "call"])) := fun k hk => by
      have zero : bsC = [] → Tc 0 nc 1 (.tuple (.tuple (msC.map PyData.str) :: .tuple bsC :: [.str "call"])) := fun z => by
        subst z
        cases tbC
        exact .mk hmC (Nat.zero_le _) (.inr ⟨rfl, rfl⟩) .nil enC rfl
      have one : Tc 1 nc 1 (.tuple (.tuple (msC.map PyData.str) :: .tuple bsC :: [.str "call"])) := .mk hmC lbC (.inr ⟨rfl, rfl⟩) tbC enC rfl
      have up : ∀ {a b d : _} (j : Nat), Tc a b 1 d → Tc (a + j) b 1 d := fun j h => by
        induction j with
        | zero => exact h
        | succ j ih => exact ih.mono
      rcases hk with z | z
      · have := up k (zero z)
        rwa [Nat.zero_add] at this
      · have := up (k - 1) one
        rwa [show 1 + (k - 1) = k by omega] at this
    have F6 : Fs H m l H6 l4 := F2.trans (s3.trans (s4.trans (G5.sm.trans (.new s6 u6))))
    have e6s : fr H6 m l4 sp = some (.lst []) := u6 _ _ (u5 _ _ (s4.1 _ _ (s3.1 _ _ e2)))
    have q6 : Dq (fr H6 m l4) vt dt := ((((q2.same s3.1).same s4.1).same u5).same u6)
    have spm : sp ≠ m := (ne_of_none M.hm sp0).symm
    have spc : sp ≠ c := (ne_of_none M.hc sp0).symm
    obtain ⟨dC, hdC⟩ : ∃ dC, dC = PyData.tuple (.tuple (msC.map PyData.str) :: .tuple bsC :: [.str "call"]) := ⟨_, rfl⟩
    rw [← hdC] at dcall
    have tcall' := tcall
    rw [← hdC] at tcall'
    have M6 := G6.mat
    have n4' : n4 ≤ n + 609 := by omega
    clear tcall G4 G5 G6 u5 u6 s6 e6 e5 ac ec M4 q4 t4 s4 s3 M3 e2 q2 F2 M2
    let lim : Nat := if bsC = [] then 2 else 1
    refine while_by (fun σ' H' => ∃ (vt : V) (dt : PyData) (k o nt : Nat) (es : List V) (l' : Addr) (ls' : List Int) (n' : Int) (w5 : Option V), σ' = [some (V.ref m), some (V.int size), some vt, some (V.ref sp), some (V.ref vcA), w5, none, none] ∧
        Dl H m c l cs n (609 + 2 * (es.length : Int)) sp es H' l' ls' n' ∧ Dq (fr H' m l') vt dt ∧ Tp k nt 0 dt ∧ Spn (fr H' m l') es k o ∧ es.length + k = 3 ∧ (o : Int) + nt ≤ size - 1 ∧ Dq (fr H' m l') (.ref vcA) dC ∧ es.length ≤ lim)
      (fun _ H' => 3 - lenAt H' sp) ⟨vt, dt, 3, 0, nt, [], l4, ls4, n4, _, rfl, ⟨M6, by rw [List.length_nil]; omega, F6, e6s⟩, q6, t1.tp, .nil, rfl, by omega, dcall, Nat.zero_le _⟩ ?_ ?_
    · rintro σ' H' ⟨vt, dt, k, o, nt, es, l', ls', n', w5, rfl, d, qt, tp, spn, ek, osz, qc, elim⟩
      have lim2 : lim ≤ 2 := by show (if bsC = [] then 2 else 1) ≤ 2; split <;> decide
      have dle := d.le
      obtain ⟨ms, bs, nb, rfl, hms, lb, tb, en⟩ := tp
      obtain ⟨pt, va, pb, xb, rfl, ept, qa, epb, ab⟩ := dq_node qt
      refine ⟨_, rfl, pt, _, 1, .ref pb, rfl, rfl, SqT.of (fr_of ept).2.2, atI_nat (j := 1) rfl, Nat.zero_le _, fun p np => ⟨pb, p, xb, rfl, rfl, SqT.of (same_new np _ _ (fr_of epb).2.2), SqT.of upd_same, _, rfl, ?_⟩⟩
      have Gx : Gw m c l' cs ls' n' H' H' := ⟨d.mat, .refl⟩
      obtain ⟨Gy, ty, _⟩ := Gx.new (o := .tup []) np
      have d1 : Dl H m c l cs n (609 + 2 * (es.length : Int)) sp es (upd H' p (.tup [])) l' ls' n' := d.next Gy.mat (j := 0) (by omega) Gy.sm (by omega)
      have ept1 := ty _ _ ept
      have epb1 := ty _ _ epb
      have ab1 := ab.same ty
      have qa1 := qa.same ty
      have spn1 := spn.same ty
      have qc1 := qc.same ty
      generalize upd H' p (HO.tup []) = H1 at d1 ept1 epb1 ab1 qa1 spn1 qc1
      clear Gx Gy ty np
      by_cases hx : xb = []
      · rw [show (not xb.isEmpty) = false by rw [hx]; rfl]
        refine iteF ?_
        have dE : Dl H m c l cs n (610 + 2 * (es.length : Int)) sp es H1 l' ls' n' := d1.next d1.mat (j := 0) (by omega) .refl (by omega)
        have eptE := ept1
        have epbE := epb1
        have abE := ab1
        have qaE := qa1
        have spnE := spn1
        have qcE := qc1
        have dleE := dE.le
        refine ⟨by show 2 ≤ sizeLine; decide, fun pl npl => ?_⟩
        have GE : Gw m c _ cs _ _ _ _ := ⟨dE.mat, .refl⟩
        obtain ⟨GF, tF, eF⟩ := GE.new (o := .lst [.str "e", .str "f"]) npl
        refine ⟨_, rfl, m, c, _, 4, cs, _, _, rfl, GF.mat, by decide, by decide, by omega, fun r9 H9 l9 ls9 n9 r90 r91 M9 nn9 s9 => ⟨rfl, .inr ⟨_, rfl, ?_⟩⟩⟩
        have hx : ∃ u : Str, atI [V.str "e", V.str "f"] (if decide (V.int r9 = V.int 0) = true then 1 else 0) = some (V.str u) ∧ efS u := by
          cases decide (V.int r9 = V.int 0) with
          | true => exact ⟨"f", atI_nat (j := 1) rfl, .inr rfl⟩
          | false => exact ⟨"e", atI_nat (j := 0) rfl, .inl rfl⟩
        obtain ⟨u, hu, hfu⟩ := hx
        have hsu := ef_sm hfu
        have sA := same_trans tF s9.1
        have F9 : Fs H m l H9 l9 := dE.sm.trans (GF.sm.trans s9)
        have ept9 := sA _ _ eptE
        have epb9 := sA _ _ epbE
        refine ⟨pl, _, _, .str u, rfl, rfl, SqL.of (fr_of (s9.1 _ _ eF)).2.2, hu, ?_⟩
        refine ⟨_, rfl, pt, _, 0, va, rfl, rfl, SqT.of (fr_of ept9).2.2, atI_nat (j := 0) rfl, _, rfl, pt, _, 1, .ref pb, rfl, rfl, SqT.of (fr_of ept9).2.2, atI_nat (j := 1) rfl, 2, rfl, pb, xb, rfl, (fr_of epb9).2.2, fun p1 Ha sa ea => ?_⟩
        rw [show (2 : Int) = ((2 : Nat) : Int) from rfl, cut_to] at ea
        have G9 : Gw m c l9 cs ls9 n9 H9 H9 := ⟨M9, .refl⟩
        obtain ⟨Ga, ta⟩ := G9.grow sa
        have ea' := Ga.tupAt ea
        refine ⟨_, rfl, _, rfl, by show 2 ≤ sizeLine; decide, fun p2 np2 => ⟨by show 1 ≤ sizeLine; decide, fun p3 np3 => ?_⟩⟩
        obtain ⟨Gb, tb2, eb2⟩ := Ga.new (o := .tup [.str u, .ref vcA]) np2
        obtain ⟨Gc, tc3, ec3⟩ := Gb.new (o := .tup [.ref p2]) np3
        refine ⟨p1, p3, _, _, rfl, rfl, (fr_of (tc3 _ _ (tb2 _ _ ea'))).2.2, upd_same, by rw [List.length_take]; exact Nat.le_trans (Nat.add_le_add_right (Nat.min_le_left _ _) _) (show 2 + 1 ≤ sizeLine by decide), fun p4 Hb sb eb => ⟨by show 2 ≤ sizeLine; decide, fun p5 np5 => ?_⟩⟩
        obtain ⟨Gd, td⟩ := Gc.grow sb
        obtain ⟨Gf, tf, ef⟩ := Gd.new (o := .tup [va, .ref p4]) np5
        have c9 : Same (fr H9 m l9) (fr (upd Hb p5 (.tup [va, .ref p4])) m l9) := same_trans ta (same_trans tb2 (same_trans tc3 (same_trans td tf)))
        have cE := same_trans sA c9
        have e4f := tf _ _ (Gd.tupAt eb)
        have e2f := tf _ _ (td _ _ (tc3 _ _ eb2))
        obtain ⟨n1, c1, n2, c2, tB1, tB2, eN, eC⟩ := tb.take 2
        obtain ⟨k', rfl⟩ : ∃ k', k = k' + 1 := ⟨k - 1, by omega⟩
        have tcl : Tc k' nc 1 dC := tcall' k' (by
          by_cases z : bsC = []
          · exact .inl z
          · have e1 : lim = 1 := if_neg z
            exact .inr (by omega))
        have dNew : Dq (fr (upd Hb p5 (.tup [va, .ref p4])) m l9) (.ref p5) (.tuple [.tuple (ms.map PyData.str), .tuple (bs.take 2 ++ [.tuple [.str u, dC]])]) :=
          .tup ef (.cons (qaE.same cE) (.cons (.tup e4f (((abE.take 2).same cE).app (.cons (.tup e2f (.cons (.str u ⟨by rw [hsu.2]; decide, hsu.1⟩) (.cons (qcE.same cE) .nil))) .nil))) .nil))
        have tNew : Tp (k' + 1) (n1 + nc + 1) 1 (.tuple [.tuple (ms.map PyData.str), .tuple (bs.take 2 ++ [.tuple [.str u, dC]])]) :=
          ⟨ms, _, n1 + nc, rfl, hms, by rw [List.length_append, List.length_take]; show _ + 1 ≤ 3; omega, by
            have z := tB1.app (.cons hfu tcl .nil rfl rfl)
            rw [show c1 + (1 + 0) = 1 by omega] at z
            exact z, rfl⟩
        have spn9 := spnE.same cE
        have sp9 := cE _ _ dE.dd
        have FL : Fs H m l (upd Hb p5 (.tup [va, .ref p4])) l9 := F9.trans (Ga.sm.trans ⟨same_trans tb2 (same_trans tc3 (same_trans td tf)), fun b z => same_out (same_trans (same_new np2) (same_trans (same_new np3) (same_trans sb (same_new np5)))) z⟩)
        have ML := Gf.mat
        have szN : (o : Int) + ((n1 + nc + 1 : Nat) : Int) ≤ size + 1 := by omega
        generalize PyData.tuple [.tuple (ms.map PyData.str), .tuple (bs.take 2 ++ [.tuple [.str u, dC]])] = dtN at dNew tNew
        generalize upd Hb p5 (HO.tup [va, .ref p4]) = HL0 at dNew spn9 sp9 FL ML
        refine ⟨_, rfl, sp, es, rfl, SqL.of (fr_of sp9).2.2, fun pr npr => ?_⟩
        have GL0 : Gw m c l9 cs ls9 n9 HL0 HL0 := ⟨ML, .refl⟩
        obtain ⟨GL, tL, eL⟩ := GL0.new (o := .lst es.reverse) npr
        have FL2 := FL.trans GL.sm
        have MLL := GL.mat
        generalize upd HL0 pr (HO.lst es.reverse) = HL at GL tL eL FL2 MLL
        refine ⟨pr, rfl, ⟨_, SqL.of (fr_of eL).2.2⟩, for_list (xs := es.reverse) (fun i σ' H' => ∃ (es' : List V) (k o nt : Nat) (vt : V) (dt : PyData) (w5 w7 : Option V), es.reverse.drop i = es'.reverse ∧ σ' = [some (V.ref m), some (V.int size), some vt, some (V.ref sp), some (V.ref vcA), w5, some (V.str u), w7] ∧
            Gw m c l9 cs ls9 n9 HL H' ∧ Dq (fr H' m l9) vt dt ∧ Tp k nt 1 dt ∧ Spn (fr H' m l9) es' k o ∧ es'.length + k = 3 ∧ (o : Int) + nt ≤ size + 1)
          ⟨es, k' + 1, o, n1 + nc + 1, .ref p5, dtN, _, _, rfl, rfl, ⟨MLL, .refl⟩, dNew.same tL, tNew, spn9.same tL, ek, szN⟩ (fun i σ H _ ⟨_, _, _, _, _, _, _, _, _, _, G, _⟩ => SqL.of (fr_of (G.sm.1 _ _ eL)).2.2) ?_ ?_⟩
        · rintro i x σ' H' hix ⟨es', k, o, nt, vt, dt, w5, w7, hdr, rfl, G, qt, tp, spn, ek, osz⟩
          cases spn with
          | nil =>
            rw [List.reverse_nil] at hdr
            have := List.drop_eq_nil_iff.mp hdr
            have := (List.getElem?_eq_some_iff.mp hix).1
            omega
          | @snoc es0 _ o0 a b _ e v j ms bs uu tt sp0 h1 h2 h2t h3 h4 h5 h6 h7 h8 h9 =>
          have hx : x = V.ref e ∧ es.reverse.drop (i + 1) = es0.reverse := by
            rw [List.reverse_append, List.reverse_singleton, List.singleton_append, drop_atV hix] at hdr
            exact List.cons.inj hdr
          obtain ⟨rfl, hdr'⟩ := hx
          obtain ⟨pt, va, pb, xb, rfl, ept, qa, epb, ab⟩ := dq_node h2
          obtain ⟨vj, hvj, qj⟩ := ab.at h5
          obtain ⟨pj, vu, vtt, rfl, epj, qu, qtt⟩ := dq_pair qj
          have lx : xb.length ≤ 3 := by rw [ab.len]; exact h4
          refine ⟨e, _, rfl, SqT.of (fr_of h1).2.2, rfl, _, _, rfl, _, _, rfl, rfl, ?_⟩
          have ixA : ∀ {H5 : Hp}, Same H' H5 → SqT K H5 pt [va, .ref pb] := fun s => SqT.of (s _ _ (fr_of ept).2.2)
          refine ⟨_, rfl, pt, _, 0, va, rfl, rfl, SqT.of (fr_of ept).2.2, atI_nat (j := 0) rfl, _, rfl, pt, _, 1, .ref pb, rfl, rfl, SqT.of (fr_of ept).2.2, atI_nat (j := 1) rfl, _, rfl, j, rfl, pb, xb, rfl, (fr_of epb).2.2, fun p1 H5 s5 e5 => ?_⟩
          rw [cut_to] at e5
          obtain ⟨G5, t5⟩ := G.grow s5
          refine ⟨_, rfl, pt, _, 1, .ref pb, rfl, rfl, SqT.of (fr_of (t5 _ _ ept)).2.2, atI_nat (j := 1) rfl, _, rfl, pb, xb, (j : Int), .ref pj, rfl, rfl, SqT.of (fr_of (t5 _ _ epb)).2.2, atI_nat hvj, pj, _, 0, vu, rfl, rfl, SqT.of (fr_of (t5 _ _ epj)).2.2, atI_nat (j := 0) rfl, _, rfl, by show 2 ≤ sizeLine; decide, fun p2 np2 => ⟨by show 1 ≤ sizeLine; decide, fun p3 np3 => ?_⟩⟩
          obtain ⟨G6, t6, e6⟩ := G5.new (o := .tup [vu, vt]) np2
          obtain ⟨G7, t7, e7⟩ := G6.new (o := .tup [.ref p2]) np3
          refine ⟨p1, p3, _, _, rfl, rfl, (fr_of (t7 _ _ (t6 _ _ (G5.tupAt e5)))).2.2, upd_same, by rw [List.length_take]; exact Nat.le_trans (show min j xb.length + 1 ≤ 4 by omega) (by decide), fun p4 H8 s8 e8 => ?_⟩
          obtain ⟨G8, t8⟩ := G7.grow s8
          have t48 := same_trans t5 (same_trans t6 (same_trans t7 t8))
          refine ⟨_, rfl, pt, _, 1, .ref pb, rfl, rfl, SqT.of (fr_of (t48 _ _ ept)).2.2, atI_nat (j := 1) rfl, _, rfl, _, _, rfl, rfl, _, rfl, pb, xb, rfl, (fr_of (t48 _ _ epb)).2.2, fun p5 H9 s9 e9 => ?_⟩
          rw [show ((j : Int) + 1) = ((j + 1 : Nat) : Int) by omega, cut_from] at e9
          obtain ⟨G9, t9⟩ := G8.grow s9
          refine ⟨p4, p5, _, _, rfl, rfl, s9 _ _ e8, e9, by rw [List.length_append, List.length_take, List.length_drop]; exact Nat.le_trans (show min j xb.length + 1 + (xb.length - (j + 1)) ≤ 7 by omega) (by decide), fun p6 Ha sa ea => ⟨by show 2 ≤ sizeLine; decide, fun p7 np7 => ?_⟩⟩
          obtain ⟨Ga, ta⟩ := G9.grow sa
          obtain ⟨Gb, tb, eb⟩ := Ga.new (o := .tup [va, .ref p6]) np7
          have tab := same_trans t9 (same_trans ta tb)
          have tall := same_trans t48 tab
          have e2f := (same_trans t7 (same_trans t8 tab)) _ _ e6
          have dN : Dq (fr (upd Ha p7 (.tup [va, .ref p6])) m l9) (.ref p7) (.tuple [.tuple (ms.map PyData.str), .tuple (bs.take j ++ [.tuple [.str uu, dt]] ++ bs.drop (j + 1))]) :=
            .tup eb (.cons (qa.same tall) (.cons (.tup (tb _ _ (Ga.tupAt ea)) (((((ab.take j).same tall).app (.cons (.tup e2f (.cons (qu.same tall) (.cons (qt.same tall) .nil))) .nil)).app ((ab.drop (j + 1)).same tall)))) .nil))
          refine ⟨es0, k + 1, o0, _, .ref p7, _, _, _, hdr', rfl, Gb, dN, ⟨ms, _, a + nt + b, rfl, h3, ?_, ?_, rfl⟩, sp0.same tall, ?_, ?_⟩
          · have hj := (List.getElem?_eq_some_iff.mp h5).1
            rw [List.length_append, List.length_append, List.length_take, List.length_drop]
            show _ + 1 + _ ≤ 3
            omega
          · have z := (h7.app (.cons h6 tp.tc .nil rfl rfl)).app h8
            rw [show 0 + (1 + 0) + 0 = 1 by omega, show a + (nt + 0) + b = a + nt + b by omega] at z
            exact z
          · rw [List.length_append, List.length_singleton] at ek
            omega
          · omega
        · rintro σ' H' ⟨es', k, o, nt, vt, dt, w5, w7, hdr, rfl, G, qt, tp, spn, ek, osz⟩
          rw [List.drop_length] at hdr
          obtain rfl : es' = [] := List.reverse_eq_nil_iff.mp hdr.symm
          obtain rfl : k = 3 := by simpa using ek
          exact ⟨_, rfl, kk vt dt nt H' l9 ls9 n9 G.mat (by omega) (FL2.trans G.sm) qt tp (by omega)⟩
      have xpos : 0 < xb.length := List.length_pos_iff.mpr hx
      rw [show (not xb.isEmpty) = true by cases xb with | nil => exact absurd rfl hx | cons _ _ => rfl]
      rw [hdC] at qc1
      obtain ⟨vcA', xc, evc, ec, ac⟩ := dq_tup qc1
      obtain rfl : vcA = vcA' := V.ref.inj evc
      have hc1 : ∃ cb xcb, xc[1]? = some (.ref cb) ∧ fr H1 m l' cb = some (.tup xcb) ∧ (xcb = [] ↔ bsC = []) := by
        obtain ⟨u, hu, qu⟩ := ac.at (i := 1) rfl
        obtain ⟨cb, xcb, rfl, e, a⟩ := dq_tup qu
        refine ⟨cb, xcb, hu, e, ?_⟩
        constructor
        · intro z
          have := a.len
          rw [z] at this
          exact List.length_eq_zero_iff.mp this.symm
        · intro z
          have := a.len
          rw [z] at this
          exact List.length_eq_zero_iff.mp this
      obtain ⟨cb, xcb, hcb, ecb, iffC⟩ := hc1
      rw [← hdC] at qc1
      refine iteT ⟨_, rfl, sp, es, rfl, .inl (SqL.of (fr_of d1.dd).2.2), _, rfl, vcA, xc, 1, .ref cb, rfl, rfl, SqT.of (fr_of ec).2.2, atI_nat (j := 1) hcb, Nat.zero_le _, fun p np => ⟨cb, p, xcb, rfl, rfl, SqT.of (same_new np _ _ (fr_of ecb).2.2), SqT.of upd_same, _, rfl, ?_⟩⟩
      have Gx : Gw m c l' cs ls' n' H1 H1 := ⟨d1.mat, .refl⟩
      obtain ⟨Gy, ty, _⟩ := Gx.new (o := .tup []) np
      have d2 : Dl H m c l cs n (609 + 2 * (es.length : Int)) sp es (upd H1 p (.tup [])) l' ls' n' := d1.next Gy.mat (j := 0) (by omega) Gy.sm (by omega)
      have ept2 := ty _ _ ept1
      have epb2 := ty _ _ epb1
      have ab2 := ab1.same ty
      have qa2 := qa1.same ty
      have spn2 := spn1.same ty
      have qc2 := qc1.same ty
      generalize upd H1 p (HO.tup []) = H2 at d2 ept2 epb2 ab2 qa2 spn2 qc2
      clear Gx Gy ty np d1 ept1 epb1 ab1 qa1 spn1 qc1 ec ac ecb hcb evc
      have hl : (if xcb = [] then (2 : Int) else 1) = (lim : Int) := by
        show _ = (((if bsC = [] then 2 else 1 : Nat)) : Int)
        by_cases z : xcb = []
        · rw [if_pos z, if_pos (iffC.mp z)]
          rfl
        · rw [if_neg z, if_neg fun y => z (iffC.mpr y)]
          rfl
      have test2 : ∀ {A B : Prop}, (decide ((es.length : Int) < (lim : Int)) = true → A) → (decide ((es.length : Int) < (lim : Int)) = false → B) → if decide ((es.length : Int) < (lim : Int)) = true then A else B := fun a b => by
        cases hd : decide ((es.length : Int) < (lim : Int)) with
        | true => exact iteT (a hd)
        | false => exact iteF (b hd)
      have pick : ∀ {σ : L2.St} {H : Hp} {Q : VK}, Q (V.int (lim : Int)) H → (if id xcb.isEmpty = true then tC (V.int 2) σ H Q else tC (V.int 1) σ H Q) := fun {σ H Q} h => by
        rw [← hl] at h
        cases xcb with
        | nil => exact iteT h
        | cons a b => exact iteF h
      refine pick ⟨_, _, rfl, rfl, _, rfl, ?_⟩
      refine test2 (fun hd => ?_) (fun hd => ?_)
      rotate_left
      · have dE : Dl H m c l cs n (610 + 2 * (es.length : Int)) sp es H2 l' ls' n' := d2.next d2.mat (j := 0) (by omega) .refl (by omega)
        have eptE := ept2
        have epbE := epb2
        have abE := ab2
        have qaE := qa2
        have spnE := spn2
        have qcE := qc2
        have dleE := dE.le
        refine ⟨by show 2 ≤ sizeLine; decide, fun pl npl => ?_⟩
        have GE : Gw m c _ cs _ _ _ _ := ⟨dE.mat, .refl⟩
        obtain ⟨GF, tF, eF⟩ := GE.new (o := .lst [.str "e", .str "f"]) npl
        refine ⟨_, rfl, m, c, _, 4, cs, _, _, rfl, GF.mat, by decide, by decide, by omega, fun r9 H9 l9 ls9 n9 r90 r91 M9 nn9 s9 => ⟨rfl, .inr ⟨_, rfl, ?_⟩⟩⟩
        have hx : ∃ u : Str, atI [V.str "e", V.str "f"] (if decide (V.int r9 = V.int 0) = true then 1 else 0) = some (V.str u) ∧ efS u := by
          cases decide (V.int r9 = V.int 0) with
          | true => exact ⟨"f", atI_nat (j := 1) rfl, .inr rfl⟩
          | false => exact ⟨"e", atI_nat (j := 0) rfl, .inl rfl⟩
        obtain ⟨u, hu, hfu⟩ := hx
        have hsu := ef_sm hfu
        have sA := same_trans tF s9.1
        have F9 : Fs H m l H9 l9 := dE.sm.trans (GF.sm.trans s9)
        have ept9 := sA _ _ eptE
        have epb9 := sA _ _ epbE
        refine ⟨pl, _, _, .str u, rfl, rfl, SqL.of (fr_of (s9.1 _ _ eF)).2.2, hu, ?_⟩
        refine ⟨_, rfl, pt, _, 0, va, rfl, rfl, SqT.of (fr_of ept9).2.2, atI_nat (j := 0) rfl, _, rfl, pt, _, 1, .ref pb, rfl, rfl, SqT.of (fr_of ept9).2.2, atI_nat (j := 1) rfl, 2, rfl, pb, xb, rfl, (fr_of epb9).2.2, fun p1 Ha sa ea => ?_⟩
        rw [show (2 : Int) = ((2 : Nat) : Int) from rfl, cut_to] at ea
        have G9 : Gw m c l9 cs ls9 n9 H9 H9 := ⟨M9, .refl⟩
        obtain ⟨Ga, ta⟩ := G9.grow sa
        have ea' := Ga.tupAt ea
        refine ⟨_, rfl, _, rfl, by show 2 ≤ sizeLine; decide, fun p2 np2 => ⟨by show 1 ≤ sizeLine; decide, fun p3 np3 => ?_⟩⟩
        obtain ⟨Gb, tb2, eb2⟩ := Ga.new (o := .tup [.str u, .ref vcA]) np2
        obtain ⟨Gc, tc3, ec3⟩ := Gb.new (o := .tup [.ref p2]) np3
        refine ⟨p1, p3, _, _, rfl, rfl, (fr_of (tc3 _ _ (tb2 _ _ ea'))).2.2, upd_same, by rw [List.length_take]; exact Nat.le_trans (Nat.add_le_add_right (Nat.min_le_left _ _) _) (show 2 + 1 ≤ sizeLine by decide), fun p4 Hb sb eb => ⟨by show 2 ≤ sizeLine; decide, fun p5 np5 => ?_⟩⟩
        obtain ⟨Gd, td⟩ := Gc.grow sb
        obtain ⟨Gf, tf, ef⟩ := Gd.new (o := .tup [va, .ref p4]) np5
        have c9 : Same (fr H9 m l9) (fr (upd Hb p5 (.tup [va, .ref p4])) m l9) := same_trans ta (same_trans tb2 (same_trans tc3 (same_trans td tf)))
        have cE := same_trans sA c9
        have e4f := tf _ _ (Gd.tupAt eb)
        have e2f := tf _ _ (td _ _ (tc3 _ _ eb2))
        obtain ⟨n1, c1, n2, c2, tB1, tB2, eN, eC⟩ := tb.take 2
        obtain ⟨k', rfl⟩ : ∃ k', k = k' + 1 := ⟨k - 1, by omega⟩
        have tcl : Tc k' nc 1 dC := tcall' k' (by
          by_cases z : bsC = []
          · exact .inl z
          · have e1 : lim = 1 := if_neg z
            exact .inr (by omega))
        have dNew : Dq (fr (upd Hb p5 (.tup [va, .ref p4])) m l9) (.ref p5) (.tuple [.tuple (ms.map PyData.str), .tuple (bs.take 2 ++ [.tuple [.str u, dC]])]) :=
          .tup ef (.cons (qaE.same cE) (.cons (.tup e4f (((abE.take 2).same cE).app (.cons (.tup e2f (.cons (.str u ⟨by rw [hsu.2]; decide, hsu.1⟩) (.cons (qcE.same cE) .nil))) .nil))) .nil))
        have tNew : Tp (k' + 1) (n1 + nc + 1) 1 (.tuple [.tuple (ms.map PyData.str), .tuple (bs.take 2 ++ [.tuple [.str u, dC]])]) :=
          ⟨ms, _, n1 + nc, rfl, hms, by rw [List.length_append, List.length_take]; show _ + 1 ≤ 3; omega, by
            have z := tB1.app (.cons hfu tcl .nil rfl rfl)
            rw [show c1 + (1 + 0) = 1 by omega] at z
            exact z, rfl⟩
        have spn9 := spnE.same cE
        have sp9 := cE _ _ dE.dd
        have FL : Fs H m l (upd Hb p5 (.tup [va, .ref p4])) l9 := F9.trans (Ga.sm.trans ⟨same_trans tb2 (same_trans tc3 (same_trans td tf)), fun b z => same_out (same_trans (same_new np2) (same_trans (same_new np3) (same_trans sb (same_new np5)))) z⟩)
        have ML := Gf.mat
        have szN : (o : Int) + ((n1 + nc + 1 : Nat) : Int) ≤ size + 1 := by omega
        generalize PyData.tuple [.tuple (ms.map PyData.str), .tuple (bs.take 2 ++ [.tuple [.str u, dC]])] = dtN at dNew tNew
        generalize upd Hb p5 (HO.tup [va, .ref p4]) = HL0 at dNew spn9 sp9 FL ML
        refine ⟨_, rfl, sp, es, rfl, SqL.of (fr_of sp9).2.2, fun pr npr => ?_⟩
        have GL0 : Gw m c l9 cs ls9 n9 HL0 HL0 := ⟨ML, .refl⟩
        obtain ⟨GL, tL, eL⟩ := GL0.new (o := .lst es.reverse) npr
        have FL2 := FL.trans GL.sm
        have MLL := GL.mat
        generalize upd HL0 pr (HO.lst es.reverse) = HL at GL tL eL FL2 MLL
        refine ⟨pr, rfl, ⟨_, SqL.of (fr_of eL).2.2⟩, for_list (xs := es.reverse) (fun i σ' H' => ∃ (es' : List V) (k o nt : Nat) (vt : V) (dt : PyData) (w5 w7 : Option V), es.reverse.drop i = es'.reverse ∧ σ' = [some (V.ref m), some (V.int size), some vt, some (V.ref sp), some (V.ref vcA), w5, some (V.str u), w7] ∧
            Gw m c l9 cs ls9 n9 HL H' ∧ Dq (fr H' m l9) vt dt ∧ Tp k nt 1 dt ∧ Spn (fr H' m l9) es' k o ∧ es'.length + k = 3 ∧ (o : Int) + nt ≤ size + 1)
          ⟨es, k' + 1, o, n1 + nc + 1, .ref p5, dtN, _, _, rfl, rfl, ⟨MLL, .refl⟩, dNew.same tL, tNew, spn9.same tL, ek, szN⟩ (fun i σ H _ ⟨_, _, _, _, _, _, _, _, _, _, G, _⟩ => SqL.of (fr_of (G.sm.1 _ _ eL)).2.2) ?_ ?_⟩
        · rintro i x σ' H' hix ⟨es', k, o, nt, vt, dt, w5, w7, hdr, rfl, G, qt, tp, spn, ek, osz⟩
          cases spn with
          | nil =>
            rw [List.reverse_nil] at hdr
            have := List.drop_eq_nil_iff.mp hdr
            have := (List.getElem?_eq_some_iff.mp hix).1
            omega
          | @snoc es0 _ o0 a b _ e v j ms bs uu tt sp0 h1 h2 h2t h3 h4 h5 h6 h7 h8 h9 =>
          have hx : x = V.ref e ∧ es.reverse.drop (i + 1) = es0.reverse := by
            rw [List.reverse_append, List.reverse_singleton, List.singleton_append, drop_atV hix] at hdr
            exact List.cons.inj hdr
          obtain ⟨rfl, hdr'⟩ := hx
          obtain ⟨pt, va, pb, xb, rfl, ept, qa, epb, ab⟩ := dq_node h2
          obtain ⟨vj, hvj, qj⟩ := ab.at h5
          obtain ⟨pj, vu, vtt, rfl, epj, qu, qtt⟩ := dq_pair qj
          have lx : xb.length ≤ 3 := by rw [ab.len]; exact h4
          refine ⟨e, _, rfl, SqT.of (fr_of h1).2.2, rfl, _, _, rfl, _, _, rfl, rfl, ?_⟩
          have ixA : ∀ {H5 : Hp}, Same H' H5 → SqT K H5 pt [va, .ref pb] := fun s => SqT.of (s _ _ (fr_of ept).2.2)
          refine ⟨_, rfl, pt, _, 0, va, rfl, rfl, SqT.of (fr_of ept).2.2, atI_nat (j := 0) rfl, _, rfl, pt, _, 1, .ref pb, rfl, rfl, SqT.of (fr_of ept).2.2, atI_nat (j := 1) rfl, _, rfl, j, rfl, pb, xb, rfl, (fr_of epb).2.2, fun p1 H5 s5 e5 => ?_⟩
          rw [cut_to] at e5
          obtain ⟨G5, t5⟩ := G.grow s5
          refine ⟨_, rfl, pt, _, 1, .ref pb, rfl, rfl, SqT.of (fr_of (t5 _ _ ept)).2.2, atI_nat (j := 1) rfl, _, rfl, pb, xb, (j : Int), .ref pj, rfl, rfl, SqT.of (fr_of (t5 _ _ epb)).2.2, atI_nat hvj, pj, _, 0, vu, rfl, rfl, SqT.of (fr_of (t5 _ _ epj)).2.2, atI_nat (j := 0) rfl, _, rfl, by show 2 ≤ sizeLine; decide, fun p2 np2 => ⟨by show 1 ≤ sizeLine; decide, fun p3 np3 => ?_⟩⟩
          obtain ⟨G6, t6, e6⟩ := G5.new (o := .tup [vu, vt]) np2
          obtain ⟨G7, t7, e7⟩ := G6.new (o := .tup [.ref p2]) np3
          refine ⟨p1, p3, _, _, rfl, rfl, (fr_of (t7 _ _ (t6 _ _ (G5.tupAt e5)))).2.2, upd_same, by rw [List.length_take]; exact Nat.le_trans (show min j xb.length + 1 ≤ 4 by omega) (by decide), fun p4 H8 s8 e8 => ?_⟩
          obtain ⟨G8, t8⟩ := G7.grow s8
          have t48 := same_trans t5 (same_trans t6 (same_trans t7 t8))
          refine ⟨_, rfl, pt, _, 1, .ref pb, rfl, rfl, SqT.of (fr_of (t48 _ _ ept)).2.2, atI_nat (j := 1) rfl, _, rfl, _, _, rfl, rfl, _, rfl, pb, xb, rfl, (fr_of (t48 _ _ epb)).2.2, fun p5 H9 s9 e9 => ?_⟩
          rw [show ((j : Int) + 1) = ((j + 1 : Nat) : Int) by omega, cut_from] at e9
          obtain ⟨G9, t9⟩ := G8.grow s9
          refine ⟨p4, p5, _, _, rfl, rfl, s9 _ _ e8, e9, by rw [List.length_append, List.length_take, List.length_drop]; exact Nat.le_trans (show min j xb.length + 1 + (xb.length - (j + 1)) ≤ 7 by omega) (by decide), fun p6 Ha sa ea => ⟨by show 2 ≤ sizeLine; decide, fun p7 np7 => ?_⟩⟩
          obtain ⟨Ga, ta⟩ := G9.grow sa
          obtain ⟨Gb, tb, eb⟩ := Ga.new (o := .tup [va, .ref p6]) np7
          have tab := same_trans t9 (same_trans ta tb)
          have tall := same_trans t48 tab
          have e2f := (same_trans t7 (same_trans t8 tab)) _ _ e6
          have dN : Dq (fr (upd Ha p7 (.tup [va, .ref p6])) m l9) (.ref p7) (.tuple [.tuple (ms.map PyData.str), .tuple (bs.take j ++ [.tuple [.str uu, dt]] ++ bs.drop (j + 1))]) :=
            .tup eb (.cons (qa.same tall) (.cons (.tup (tb _ _ (Ga.tupAt ea)) (((((ab.take j).same tall).app (.cons (.tup e2f (.cons (qu.same tall) (.cons (qt.same tall) .nil))) .nil)).app ((ab.drop (j + 1)).same tall)))) .nil))
          refine ⟨es0, k + 1, o0, _, .ref p7, _, _, _, hdr', rfl, Gb, dN, ⟨ms, _, a + nt + b, rfl, h3, ?_, ?_, rfl⟩, sp0.same tall, ?_, ?_⟩
          · have hj := (List.getElem?_eq_some_iff.mp h5).1
            rw [List.length_append, List.length_append, List.length_take, List.length_drop]
            show _ + 1 + _ ≤ 3
            omega
          · have z := (h7.app (.cons h6 tp.tc .nil rfl rfl)).app h8
            rw [show 0 + (1 + 0) + 0 = 1 by omega, show a + (nt + 0) + b = a + nt + b by omega] at z
            exact z
          · rw [List.length_append, List.length_singleton] at ek
            omega
          · omega
        · rintro σ' H' ⟨es', k, o, nt, vt, dt, w5, w7, hdr, rfl, G, qt, tp, spn, ek, osz⟩
          rw [List.drop_length] at hdr
          obtain rfl : es' = [] := List.reverse_eq_nil_iff.mp hdr.symm
          obtain rfl : k = 3 := by simpa using ek
          exact ⟨_, rfl, kk vt dt nt H' l9 ls9 n9 G.mat (by omega) (FL2.trans G.sm) qt tp (by omega)⟩
      have hlt : es.length < lim := by
        have := of_decide_eq_true hd
        omega
      refine ⟨_, rfl, m, c, l', 3, cs, ls', n', rfl, d2.mat, by decide, by decide, by omega, fun r3 H3 l3 ls3 n3 r30 r31 M3 nn3 s3 => ⟨_, _, rfl, rfl, _, rfl, ?_⟩⟩
      have d3' : Dl H m c l cs n (610 + 2 * (es.length : Int)) sp es H3 l3 ls3 n3 := d2.next M3 nn3 s3 (by omega)
      have ept3 := s3.1 _ _ ept2
      have epb3 := s3.1 _ _ epb2
      have ab3 := ab2.same s3.1
      have qa3 := qa2.same s3.1
      have spn3 := spn2.same s3.1
      have qc3 := qc2.same s3.1
      refine ite2 (fun _ => ?_) (fun _ => ?_)
      rotate_left
      · have dE := d3'
        have eptE := ept3
        have epbE := epb3
        have abE := ab3
        have qaE := qa3
        have spnE := spn3
        have qcE := qc3
        have dleE := dE.le
        refine ⟨by show 2 ≤ sizeLine; decide, fun pl npl => ?_⟩
        have GE : Gw m c _ cs _ _ _ _ := ⟨dE.mat, .refl⟩
        obtain ⟨GF, tF, eF⟩ := GE.new (o := .lst [.str "e", .str "f"]) npl
        refine ⟨_, rfl, m, c, _, 4, cs, _, _, rfl, GF.mat, by decide, by decide, by omega, fun r9 H9 l9 ls9 n9 r90 r91 M9 nn9 s9 => ⟨rfl, .inr ⟨_, rfl, ?_⟩⟩⟩
        have hx : ∃ u : Str, atI [V.str "e", V.str "f"] (if decide (V.int r9 = V.int 0) = true then 1 else 0) = some (V.str u) ∧ efS u := by
          cases decide (V.int r9 = V.int 0) with
          | true => exact ⟨"f", atI_nat (j := 1) rfl, .inr rfl⟩
          | false => exact ⟨"e", atI_nat (j := 0) rfl, .inl rfl⟩
        obtain ⟨u, hu, hfu⟩ := hx
        have hsu := ef_sm hfu
        have sA := same_trans tF s9.1
        have F9 : Fs H m l H9 l9 := dE.sm.trans (GF.sm.trans s9)
        have ept9 := sA _ _ eptE
        have epb9 := sA _ _ epbE
        refine ⟨pl, _, _, .str u, rfl, rfl, SqL.of (fr_of (s9.1 _ _ eF)).2.2, hu, ?_⟩
        refine ⟨_, rfl, pt, _, 0, va, rfl, rfl, SqT.of (fr_of ept9).2.2, atI_nat (j := 0) rfl, _, rfl, pt, _, 1, .ref pb, rfl, rfl, SqT.of (fr_of ept9).2.2, atI_nat (j := 1) rfl, 2, rfl, pb, xb, rfl, (fr_of epb9).2.2, fun p1 Ha sa ea => ?_⟩
        rw [show (2 : Int) = ((2 : Nat) : Int) from rfl, cut_to] at ea
        have G9 : Gw m c l9 cs ls9 n9 H9 H9 := ⟨M9, .refl⟩
        obtain ⟨Ga, ta⟩ := G9.grow sa
        have ea' := Ga.tupAt ea
        refine ⟨_, rfl, _, rfl, by show 2 ≤ sizeLine; decide, fun p2 np2 => ⟨by show 1 ≤ sizeLine; decide, fun p3 np3 => ?_⟩⟩
        obtain ⟨Gb, tb2, eb2⟩ := Ga.new (o := .tup [.str u, .ref vcA]) np2
        obtain ⟨Gc, tc3, ec3⟩ := Gb.new (o := .tup [.ref p2]) np3
        refine ⟨p1, p3, _, _, rfl, rfl, (fr_of (tc3 _ _ (tb2 _ _ ea'))).2.2, upd_same, by rw [List.length_take]; exact Nat.le_trans (Nat.add_le_add_right (Nat.min_le_left _ _) _) (show 2 + 1 ≤ sizeLine by decide), fun p4 Hb sb eb => ⟨by show 2 ≤ sizeLine; decide, fun p5 np5 => ?_⟩⟩
        obtain ⟨Gd, td⟩ := Gc.grow sb
        obtain ⟨Gf, tf, ef⟩ := Gd.new (o := .tup [va, .ref p4]) np5
        have c9 : Same (fr H9 m l9) (fr (upd Hb p5 (.tup [va, .ref p4])) m l9) := same_trans ta (same_trans tb2 (same_trans tc3 (same_trans td tf)))
        have cE := same_trans sA c9
        have e4f := tf _ _ (Gd.tupAt eb)
        have e2f := tf _ _ (td _ _ (tc3 _ _ eb2))
        obtain ⟨n1, c1, n2, c2, tB1, tB2, eN, eC⟩ := tb.take 2
        obtain ⟨k', rfl⟩ : ∃ k', k = k' + 1 := ⟨k - 1, by omega⟩
        have tcl : Tc k' nc 1 dC := tcall' k' (by
          by_cases z : bsC = []
          · exact .inl z
          · have e1 : lim = 1 := if_neg z
            exact .inr (by omega))
        have dNew : Dq (fr (upd Hb p5 (.tup [va, .ref p4])) m l9) (.ref p5) (.tuple [.tuple (ms.map PyData.str), .tuple (bs.take 2 ++ [.tuple [.str u, dC]])]) :=
          .tup ef (.cons (qaE.same cE) (.cons (.tup e4f (((abE.take 2).same cE).app (.cons (.tup e2f (.cons (.str u ⟨by rw [hsu.2]; decide, hsu.1⟩) (.cons (qcE.same cE) .nil))) .nil))) .nil))
        have tNew : Tp (k' + 1) (n1 + nc + 1) 1 (.tuple [.tuple (ms.map PyData.str), .tuple (bs.take 2 ++ [.tuple [.str u, dC]])]) :=
          ⟨ms, _, n1 + nc, rfl, hms, by rw [List.length_append, List.length_take]; show _ + 1 ≤ 3; omega, by
            have z := tB1.app (.cons hfu tcl .nil rfl rfl)
            rw [show c1 + (1 + 0) = 1 by omega] at z
            exact z, rfl⟩
        have spn9 := spnE.same cE
        have sp9 := cE _ _ dE.dd
        have FL : Fs H m l (upd Hb p5 (.tup [va, .ref p4])) l9 := F9.trans (Ga.sm.trans ⟨same_trans tb2 (same_trans tc3 (same_trans td tf)), fun b z => same_out (same_trans (same_new np2) (same_trans (same_new np3) (same_trans sb (same_new np5)))) z⟩)
        have ML := Gf.mat
        have szN : (o : Int) + ((n1 + nc + 1 : Nat) : Int) ≤ size + 1 := by omega
        generalize PyData.tuple [.tuple (ms.map PyData.str), .tuple (bs.take 2 ++ [.tuple [.str u, dC]])] = dtN at dNew tNew
        generalize upd Hb p5 (HO.tup [va, .ref p4]) = HL0 at dNew spn9 sp9 FL ML
        refine ⟨_, rfl, sp, es, rfl, SqL.of (fr_of sp9).2.2, fun pr npr => ?_⟩
        have GL0 : Gw m c l9 cs ls9 n9 HL0 HL0 := ⟨ML, .refl⟩
        obtain ⟨GL, tL, eL⟩ := GL0.new (o := .lst es.reverse) npr
        have FL2 := FL.trans GL.sm
        have MLL := GL.mat
        generalize upd HL0 pr (HO.lst es.reverse) = HL at GL tL eL FL2 MLL
        refine ⟨pr, rfl, ⟨_, SqL.of (fr_of eL).2.2⟩, for_list (xs := es.reverse) (fun i σ' H' => ∃ (es' : List V) (k o nt : Nat) (vt : V) (dt : PyData) (w5 w7 : Option V), es.reverse.drop i = es'.reverse ∧ σ' = [some (V.ref m), some (V.int size), some vt, some (V.ref sp), some (V.ref vcA), w5, some (V.str u), w7] ∧
            Gw m c l9 cs ls9 n9 HL H' ∧ Dq (fr H' m l9) vt dt ∧ Tp k nt 1 dt ∧ Spn (fr H' m l9) es' k o ∧ es'.length + k = 3 ∧ (o : Int) + nt ≤ size + 1)
          ⟨es, k' + 1, o, n1 + nc + 1, .ref p5, dtN, _, _, rfl, rfl, ⟨MLL, .refl⟩, dNew.same tL, tNew, spn9.same tL, ek, szN⟩ (fun i σ H _ ⟨_, _, _, _, _, _, _, _, _, _, G, _⟩ => SqL.of (fr_of (G.sm.1 _ _ eL)).2.2) ?_ ?_⟩
        · rintro i x σ' H' hix ⟨es', k, o, nt, vt, dt, w5, w7, hdr, rfl, G, qt, tp, spn, ek, osz⟩
          cases spn with
          | nil =>
            rw [List.reverse_nil] at hdr
            have := List.drop_eq_nil_iff.mp hdr
            have := (List.getElem?_eq_some_iff.mp hix).1
            omega
          | @snoc es0 _ o0 a b _ e v j ms bs uu tt sp0 h1 h2 h2t h3 h4 h5 h6 h7 h8 h9 =>
          have hx : x = V.ref e ∧ es.reverse.drop (i + 1) = es0.reverse := by
            rw [List.reverse_append, List.reverse_singleton, List.singleton_append, drop_atV hix] at hdr
            exact List.cons.inj hdr
          obtain ⟨rfl, hdr'⟩ := hx
          obtain ⟨pt, va, pb, xb, rfl, ept, qa, epb, ab⟩ := dq_node h2
          obtain ⟨vj, hvj, qj⟩ := ab.at h5
          obtain ⟨pj, vu, vtt, rfl, epj, qu, qtt⟩ := dq_pair qj
          have lx : xb.length ≤ 3 := by rw [ab.len]; exact h4
          refine ⟨e, _, rfl, SqT.of (fr_of h1).2.2, rfl, _, _, rfl, _, _, rfl, rfl, ?_⟩
          have ixA : ∀ {H5 : Hp}, Same H' H5 → SqT K H5 pt [va, .ref pb] := fun s => SqT.of (s _ _ (fr_of ept).2.2)
          refine ⟨_, rfl, pt, _, 0, va, rfl, rfl, SqT.of (fr_of ept).2.2, atI_nat (j := 0) rfl, _, rfl, pt, _, 1, .ref pb, rfl, rfl, SqT.of (fr_of ept).2.2, atI_nat (j := 1) rfl, _, rfl, j, rfl, pb, xb, rfl, (fr_of epb).2.2, fun p1 H5 s5 e5 => ?_⟩
          rw [cut_to] at e5
          obtain ⟨G5, t5⟩ := G.grow s5
          refine ⟨_, rfl, pt, _, 1, .ref pb, rfl, rfl, SqT.of (fr_of (t5 _ _ ept)).2.2, atI_nat (j := 1) rfl, _, rfl, pb, xb, (j : Int), .ref pj, rfl, rfl, SqT.of (fr_of (t5 _ _ epb)).2.2, atI_nat hvj, pj, _, 0, vu, rfl, rfl, SqT.of (fr_of (t5 _ _ epj)).2.2, atI_nat (j := 0) rfl, _, rfl, by show 2 ≤ sizeLine; decide, fun p2 np2 => ⟨by show 1 ≤ sizeLine; decide, fun p3 np3 => ?_⟩⟩
          obtain ⟨G6, t6, e6⟩ := G5.new (o := .tup [vu, vt]) np2
          obtain ⟨G7, t7, e7⟩ := G6.new (o := .tup [.ref p2]) np3
          refine ⟨p1, p3, _, _, rfl, rfl, (fr_of (t7 _ _ (t6 _ _ (G5.tupAt e5)))).2.2, upd_same, by rw [List.length_take]; exact Nat.le_trans (show min j xb.length + 1 ≤ 4 by omega) (by decide), fun p4 H8 s8 e8 => ?_⟩
          obtain ⟨G8, t8⟩ := G7.grow s8
          have t48 := same_trans t5 (same_trans t6 (same_trans t7 t8))
          refine ⟨_, rfl, pt, _, 1, .ref pb, rfl, rfl, SqT.of (fr_of (t48 _ _ ept)).2.2, atI_nat (j := 1) rfl, _, rfl, _, _, rfl, rfl, _, rfl, pb, xb, rfl, (fr_of (t48 _ _ epb)).2.2, fun p5 H9 s9 e9 => ?_⟩
          rw [show ((j : Int) + 1) = ((j + 1 : Nat) : Int) by omega, cut_from] at e9
          obtain ⟨G9, t9⟩ := G8.grow s9
          refine ⟨p4, p5, _, _, rfl, rfl, s9 _ _ e8, e9, by rw [List.length_append, List.length_take, List.length_drop]; exact Nat.le_trans (show min j xb.length + 1 + (xb.length - (j + 1)) ≤ 7 by omega) (by decide), fun p6 Ha sa ea => ⟨by show 2 ≤ sizeLine; decide, fun p7 np7 => ?_⟩⟩
          obtain ⟨Ga, ta⟩ := G9.grow sa
          obtain ⟨Gb, tb, eb⟩ := Ga.new (o := .tup [va, .ref p6]) np7
          have tab := same_trans t9 (same_trans ta tb)
          have tall := same_trans t48 tab
          have e2f := (same_trans t7 (same_trans t8 tab)) _ _ e6
          have dN : Dq (fr (upd Ha p7 (.tup [va, .ref p6])) m l9) (.ref p7) (.tuple [.tuple (ms.map PyData.str), .tuple (bs.take j ++ [.tuple [.str uu, dt]] ++ bs.drop (j + 1))]) :=
            .tup eb (.cons (qa.same tall) (.cons (.tup (tb _ _ (Ga.tupAt ea)) (((((ab.take j).same tall).app (.cons (.tup e2f (.cons (qu.same tall) (.cons (qt.same tall) .nil))) .nil)).app ((ab.drop (j + 1)).same tall)))) .nil))
          refine ⟨es0, k + 1, o0, _, .ref p7, _, _, _, hdr', rfl, Gb, dN, ⟨ms, _, a + nt + b, rfl, h3, ?_, ?_, rfl⟩, sp0.same tall, ?_, ?_⟩
          · have hj := (List.getElem?_eq_some_iff.mp h5).1
            rw [List.length_append, List.length_append, List.length_take, List.length_drop]
            show _ + 1 + _ ≤ 3
            omega
          · have z := (h7.app (.cons h6 tp.tc .nil rfl rfl)).app h8
            rw [show 0 + (1 + 0) + 0 = 1 by omega, show a + (nt + 0) + b = a + nt + b by omega] at z
            exact z
          · rw [List.length_append, List.length_singleton] at ek
            omega
          · omega
        · rintro σ' H' ⟨es', k, o, nt, vt, dt, w5, w7, hdr, rfl, G, qt, tp, spn, ek, osz⟩
          rw [List.drop_length] at hdr
          obtain rfl : es' = [] := List.reverse_eq_nil_iff.mp hdr.symm
          obtain rfl : k = 3 := by simpa using ek
          exact ⟨_, rfl, kk vt dt nt H' l9 ls9 n9 G.mat (by omega) (FL2.trans G.sm) qt tp (by omega)⟩
      have d3le := d3'.le
      have lx : xb.length ≤ 3 := by rw [ab.len]; exact lb
      refine ⟨_, rfl, _, rfl, pt, _, 1, .ref pb, rfl, rfl, SqT.of (fr_of ept3).2.2, atI_nat (j := 1) rfl, pb, xb, rfl, .inr (SqT.of (fr_of epb3).2.2), m, c, l3, _, cs, ls3, n3, rfl, M3, by omega, by omega, by omega, fun ia H4 l4 ls4 n4 ia0 ia1 M4 nn4 s4 => ?_⟩
      obtain ⟨j, rfl⟩ : ∃ j : Nat, ia = (j : Int) := ⟨ia.toNat, by omega⟩
      have hj : j < bs.length := by rw [← ab.len]; omega
      obtain ⟨k', u, t, nt', ct', ja, ca, jb, cb', rfl, hbj, hfu, ttj, tbA, tbB, eN, eC⟩ := tb.cut hj
      obtain rfl : ct' = 0 := by omega
      obtain rfl : ca = 0 := by omega
      obtain rfl : cb' = 0 := by omega
      have d4 : Dl H m c l cs n (611 + 2 * (es.length : Int)) sp es H4 l4 ls4 n4 := d3'.next M4 nn4 s4 (by omega)
      have ept4 := s4.1 _ _ ept3
      have epb4 := s4.1 _ _ epb3
      have ab4 := ab3.same s4.1
      have qa4 := qa3.same s4.1
      have spn4 := spn3.same s4.1
      have qc4 := qc3.same s4.1
      have G4 : Gw m c l4 cs ls4 n4 H4 H4 := ⟨M4, .refl⟩
      refine ⟨_, rfl, .inl ⟨rfl, _, SqL.of (fr_of d4.dd).2.2⟩, _, rfl, _, rfl, by show 2 ≤ sizeLine; decide, fun pe npe => ?_⟩
      obtain ⟨G5, t5, e5⟩ := G4.new (o := .tup [.ref pt, .int (j : Int)]) npe
      have d5 : Dl H m c l cs n (611 + 2 * (es.length : Int)) sp es (upd H4 pe (.tup [.ref pt, .int (j : Int)])) l4 ls4 n4 := d4.next G5.mat (j := 0) (by omega) G5.sm (by omega)
      refine ⟨sp, _, .ref pe, rfl, rfl, (fr_of d5.dd).2.2, small1000 (by omega), ?_⟩
      have d6 := d5.put (ys := es ++ [.ref pe]) sp0 spm spc
      have kt := gw_put (m := m) (l := l4) (ys := es ++ [.ref pe]) d5.dd
      have ept6 := kt _ _ (t5 _ _ ept4)
      have epb6 := kt _ _ (t5 _ _ epb4)
      have e6 := kt _ _ e5
      have tupB := tb.tup
      have qt6 : Dq (fr (upd (upd H4 pe (.tup [.ref pt, .int (j : Int)])) sp (.lst (es ++ [.ref pe]))) m l4) (.ref pt) (.tuple [.tuple (ms.map PyData.str), .tuple bs]) :=
        (Dq.tup (t5 _ _ ept4) (.cons (qa4.same t5) (.cons (.tup (t5 _ _ epb4) (ab4.same t5)) .nil))).tups kt (tp_tup tupB)
      have spn6 := (spn4.same t5).keep kt
      have qc6 : Dq (fr (upd (upd H4 pe (.tup [.ref pt, .int (j : Int)])) sp (.lst (es ++ [.ref pe]))) m l4) (.ref vcA) dC := (qc4.same t5).tups kt (tcall' 1 (.inr (Nat.le_refl _))).tup
      generalize upd (upd H4 pe (HO.tup [V.ref pt, V.int (j : Int)])) sp (HO.lst (es ++ [.ref pe])) = H6 at d6 ept6 epb6 e6 qt6 spn6 qc6
      obtain ⟨p6, va6, pb6, xb6, ep6, ept7, qa7, epb7, ab7⟩ := dq_node qt6
      obtain rfl : pt = p6 := V.ref.inj ep6
      rw [ept6] at ept7
      cases ept7
      rw [epb6] at epb7
      cases epb7
      obtain ⟨vj, hvj, qj⟩ := ab7.at hbj
      obtain ⟨pj, vu, vtt, rfl, epj, qu, qtt⟩ := dq_pair qj
      refine ⟨_, rfl, pt, _, 1, .ref pb, rfl, rfl, SqT.of (fr_of ept6).2.2, atI_nat (j := 1) rfl, _, rfl, pb, xb, (j : Int), .ref pj, rfl, rfl, SqT.of (fr_of epb6).2.2, atI_nat hvj, pj, _, 1, vtt, rfl, rfl, SqT.of (fr_of epj).2.2, atI_nat (j := 1) rfl, ?_⟩
      refine ⟨⟨vtt, t, k', _, nt', es ++ [.ref pe], l4, ls4, n4, _, rfl, ⟨d6.mat, ?_, d6.sm, d6.dd⟩, qtt, ttj.tp, .snoc spn6 e6 qt6 tupB hms lb hbj hfu tbA tbB rfl, ?_, ?_, qc6, ?_⟩, ?_⟩
      · have := d6.le
        rw [List.length_append, List.length_singleton]
        omega
      · rw [List.length_append, List.length_singleton]
        omega
      · omega
      · rw [List.length_append, List.length_singleton]
        omega
      · show 3 - lenAt H6 sp < 3 - lenAt H' sp
        have e1 : lenAt H6 sp = (es ++ [V.ref pe]).length := by unfold lenAt; rw [(fr_of d6.dd).2.2]
        have e2 : lenAt H' sp = es.length := by unfold lenAt; rw [(fr_of d.dd).2.2]
        rw [e1, e2, List.length_append, List.length_singleton]
        omega
    · exact MO.mo_and (MO.mo_test (MO.mo_op MO.mr_nilT (MO.mo_op MO.mr_ix MO.mo_var MO.mo_c) (MO.mo_tup MO.mo_nil)))
        (MO.mo_and (MO.mo_test (MO.mo_op MO.mr_i0 (MO.mo_cb MO.mc_len (MO.mo_cons MO.mo_var MO.mo_nil)) (MO.mo_if (MO.mo_test (MO.mo_op MO.mr_nilT (MO.mo_op MO.mr_ix MO.mo_var MO.mo_c) (MO.mo_tup MO.mo_nil))) MO.mo_c MO.mo_c)))
          (MO.mo_test (MO.mo_op MO.mr_i0 (MO.mo_call (MO.mc_nx _) (MO.mo_cons MO.mo_var (MO.mo_cons MO.mo_c MO.mo_nil))) MO.mo_c)))
end
end K01
set_option Elab.async false
set_option linter.all false
set_option maxRecDepth 100000
set_option maxHeartbeats 4000000
/-! A def of one argument, called where it is known that no repr is under way. -/
namespace L2H
open PySem PySem.Spec PyProof.Rows L2
def FnG (P : Program) (w : World) (K : PySem.W.Frag) (mg : Str → Option Value) (base : Heap) (k : Nat) (f : Addr) (fd : FuncData) (x : Str) (sp : Sp) : Prop :=
  ∀ (A : Around) (outer : List Env) (s : Shared) (H : Hp) (u : Value) (v : V) (Q : VK) (E : XK), Room k A → A.guards = some [] → Env0 P w K mg base A outer s H → BindsTo s fd ⟨[u], []⟩ [(x, u)] → RelV v u → sp [v] H Q E →
    codeAny (model P w) A (.call (.ref f) ⟨[u], []⟩) (CR CX0 outer P w H s Q E) s
section
variable {P : Program} {w : World} {K : PySem.W.Frag} {mg : Str → Option Value} {base : Heap} {x name : Str} {st : Stmt} {f : Addr} {fd : FuncData} {N : List Str} {k : Nat} {sp : Sp}
theorem fnG_of (F : Fun K name name st f fd) (S : FnScope N [x] (defScope st))
    (body : ∀ (cdv : Value) (A : Around) (outer : List Env) (s : Shared) (H : Hp) (v : V) (Q : VK) (E : XK), Room k (A.deeper (envOfC name (defScope st) s.heap.objs.size f cdv)) → A.guards = some [] → sp [v] H Q E →
      ∃ t, PSs (cxOf CX0 P w K mg base N name (defScope st) f cdv A outer s H E).nox (defBody st) t ∧ t { nx := fun _ H' => Q .non H', rt := Q } (start N [v]) H) :
    FnG P w K mg base (k + 1) f fd x sp := by
  obtain ⟨oc, od, kV, doc, pm, an, cdv, ct, osl, rfl, lk, hcd⟩ := F.ex
  intro A outer s H u v Q E hr hg e0 hb ru hsp
  have KX : K.In s.heap := e0.mod.kin.keeps fun b o z => (e0.bs b o z).1
  have lim : s.heap.NoLimit := e0.mod.nolimit.keeps fun b o z => (e0.bs b o z).1
  have kinds : ∀ y ∈ [(x, u)], (defScope st).names.lookup y.1 = some .local ∨ ((defScope st).names.lookup y.1 = some .cell ∧ ((cellsFrom (s.heap.objs.size + 1) (defScope st).names []).lookup y.1).isSome = true) := fun y hy => by
    rcases List.mem_cons.mp hy with rfl | z
    · rcases S.par x (List.mem_cons_self ..) with q | q
      · exact .inl q
      · exact .inr ⟨q, PySem.W.cellsFrom_some _ _ _ (.inl q)⟩
    · cases z
  refine codeAny_call_function hr.depth (KX _ _ lk) rfl S.co S.gen rfl (PySem.W.codeRec_of KX hcd) (hb _ _ _ _ ?_)
  refine wpAny_newFunctionEnv_cells S.kind kinds fun env he s1 y => ?_
  subst he
  refine ⟨lim.keeps y.toInCall.keep, codeAny_func ?_⟩
  obtain ⟨t, ht, hq⟩ := body cdv A outer s H v Q E (hr.deeper _) hg hsp
  have I : Inv (cxOf CX0 P w K mg base N name (defScope st) f cdv A outer s H E) [] (start N [v]) H s1 := inv_start (ps := [x]) (us := [u]) S hr.hd e0 rfl (.cons ru .nil) y
  refine wpAny_mono (ht.nox.run [] s1 (start N [v]) H _ I hq) (fun fl s' hs => ?_) fun _ _ z => z
  cases fl with
  | ret u' =>
    obtain ⟨v', σ', H', J, rv, q⟩ := hs
    exact ⟨v', H', J.os, J.bare, J.base, J.hok, rv, q⟩
  | next =>
    obtain ⟨σ', H', J, q⟩ := hs
    exact ⟨V.non, H', J.os, J.bare, J.base, J.hok, rfl, q⟩
  | brk =>
    obtain ⟨_, _, _, q⟩ := hs
    exact q.elim
  | cont =>
    obtain ⟨_, _, _, q⟩ := hs
    exact q.elim
end
section
variable {X : Cx} {k : Nat} {f : Addr} {fd : FuncData} {sp : Sp} {x y : Str} {p pos : Pos} {e : Expr} {t : TA}
theorem pe_callG (F : FnG X.prog X.w X.K X.mg X.base k f fd y sp) (hr : Room k X.A) (gd : X.A.guards = some []) (hg : Gl X x) (hm : X.mg x = some (.ref f)) (hk : PySem.W.keepIn X.K (.ref f) = true) (hb : Binds X.K fd [y] [])
    (hx : Passes CX0 X fun _ _ _ => False) (ha : PA X [e] t) (hdb : (x == ("__debug__" : Str)) = false := by decide) (he : starEach [e] X.env = (false, eval e X.env) :: starEach [] X.env := by rfl) (hpl : (backTo pos (starEach [] X.env)).any (·.1) = false := by rfl) :
    PE X (.Call (.Name x p) [e] [] pos) (fun σ H Q => t σ H fun vs H1 => ∃ v, vs = [v] ∧ sp [v] H1 Q fun _ _ _ => False) := by
  refine ⟨fun pins s σ H Q I h => ?_⟩
  refine wpAny_Call_Name_kw (ld_glob I hg hm ?_ hdb)
  refine PySem.W.callWith_K (h₀ := X.base) I.ok.mod.kin hk (thn (ha.run pos pins s σ H _ I h) fun us s1 ⟨vs, H1, I1, r, v, ev, q⟩ => ⟨I1.kIn, ?_⟩) he hpl
  subst ev
  obtain ⟨u, rfl, ru⟩ := vals1 r
  have bt := hb s1 [u] I1.kIn rfl
  refine wpAny_call (codeAny_mono (F X.A X.stack s1 H1 u v Q (fun _ _ _ => False) hr gd I1.env0 bt ru q) fun r s' hq => ?_)
  cases r with
  | error e => exact hx pins σ H1 s1 e s' I1 hq
  | ok fl =>
    cases fl with
    | ret u => exact I1.after hq
    | next => exact False.elim hq
    | brk => exact False.elim hq
    | cont => exact False.elim hq
end
end L2H
set_option Elab.async false
set_option linter.all false
set_option maxRecDepth 100000
set_option maxHeartbeats 4000000
/-! several clauses, each of them with the exception's name -/
namespace TrA
open PySem PySem.Spec PyProof.Rows L2
abbrev Suite := Addr → Value → Option Addr → TS
def endsAs (i : Nat) (D : Ends) : Ends := { nx := fun σ' H' => D.nx (σ'.set i none) H', rt := D.rt, bk := fun σ' H' => D.bk (σ'.set i none) H', ct := fun σ' H' => D.ct (σ'.set i none) H' }
/-- what the clauses wish of an exception, one behind the other -/
def wManyAs (K : PySem.W.Frag) (i : Nat) (Wout : WX) (D : Ends) : List (Value × Suite) → WX
  | [] => Wout
  | (c, ts) :: r => fun cls d σ H => ∃ b, PySem.W.exmOne K cls c = some b ∧ (b = true → ∀ a, H a = none → ts a cls d (endsAs i D) (σ.set i (some (.ref a))) H) ∧ (b = false → wManyAs K i Wout D r cls d σ H)
inductive HdAs (X : Cx) (n : Str) : List ExceptHandler → List (Value × Suite) → Prop
  | nil : HdAs X n [] []
  | cons {x : Str} {c : Value} {ts : Suite} {b₀ : Stmt} {suite : List Stmt} {np pos' : Pos} {hds : List ExceptHandler} {l : List (Value × Suite)} (hc : Names X x c)
      (hsu : ∀ (a : Addr) (oe : Obj) (cls : Value) (d : Option Addr) (pn : List (Addr × Obj)), Zc cls d oe → (∃ vs, oe.data = .fields vs) → PSs (X.suite a ((a, oe) :: pn)) (b₀ :: suite) (ts a cls d)) (r : HdAs X n hds l) :
      HdAs X n (.ExceptHandler (some (.Name x np)) (some n) (b₀ :: suite) pos' :: hds) ((c, ts) :: l)
section
variable {X : Cx} {n : Str} {i : Nat} {body : List Stmt} {h₀ : ExceptHandler} {hds : List ExceptHandler} {l : List (Value × Suite)} {pos : Pos} {tb : WX → TS} {Wout : WX}
theorem ps_tries (hs : X.stack = X.env :: X.outer) (hf : X.env.frame = some X.env.locals) (hN : X.N.Nodup) (hi : X.N[i]? = some n) (hln : X.env.kindOf n = some .local) (tk : Takes X Wout)
    (hb : ∀ (W : WX) (pn : List (Addr × Obj)) (xe : Value → Shared → Prop), Takes (X.tr pn xe) W → PassesOwn (model X.prog X.w) X.A X.env xe → PSs (X.tr pn xe) body (tb W))
    (hh : HdAs X n (h₀ :: hds) l) : PS X (.Try body (h₀ :: hds) [] [] pos) (fun D σ H => tb (wManyAs X.K i Wout D l) D σ H) := by
  refine ⟨fun pins s σ H D I h => ?_⟩
  have ok := I.ok
  have hloc : Loc X.env.scope n := .inl hln
  have hfr : X.A.frames = some (X.env :: X.outer) := by rw [ok.frames, hs]
  refine wpAny_Try_except ?_
  refine wpAny_mono ((hb (wManyAs X.K i Wout D l) (X.pn ++ pins) (fun e s₁ => wpAny (model X.prog X.w) X.A (noteFrame e X.env) (fun _ s₂ => wpAny (model X.prog X.w) X.A (setFlight e none) (fun _ s₃ =>
    wpAny (model X.prog X.w) X.A (handleBy e X.env (h₀ :: hds)) (SP X pins D) X.xe s₃) X.xe s₂) X.xe s₁) (fun u s' xx => ?_) PassesOwn.looking).run [] s σ H D (I.toTry _) h) (fun f s1 hsp => ?_) (fun e s1 he => he)
  · -- the catch
    obtain ⟨a, B, sI, pins', σ', H', cls, d, rfl, J', nb, up, sky, na, os, ag, w⟩ := xx
    have J : Inv X pins σ' H' sI := J'.ofTry ok
    have sky' : Sky B (X.env :: X.outer) a (Zc cls d) X.env.locals s'.heap := by rw [← hs]; exact sky
    show wpAny (model X.prog X.w) X.A (noteFrame (.ref a) X.env) _ _ _
    refine Sky.land Zc.steady hfr hf sky' fun h3 fl3 up3 => ?_
    have J3 : Inv X pins σ' H' { s' with heap := h3 } := J.landed nb fl3.1 (up.trans up3) os ag
    obtain ⟨oe3, vs3, he3, hz3, hd3⟩ := fl3.there
    have notFr : ∀ {h : Heap} {o : Obj} {vs : Array Value}, h.FunFrames B (X.env :: X.outer) → h.get? a = some o → o.data = .fields vs → a ∉ frs (X.env :: X.outer) := fun {h o vs} ff e dd hm => by
      obtain ⟨_, o', e', hnf⟩ := ff.mem hm
      rw [e] at e'; cases e'
      exact hnf _ dd
    have nfr := notFr fl3.2.2.1 he3 hd3
    have nL : a ≠ X.env.locals := fun z => nfr (List.mem_filterMap.mpr ⟨X.env, List.mem_cons_self, by rw [hf, z]⟩)
    have nF : a ∉ X.fs := fun hm => by
      obtain ⟨e, he, q⟩ := List.mem_filterMap.mp hm
      exact nfr (List.mem_filterMap.mpr ⟨e, List.mem_cons_of_mem _ he, q⟩)
    have S3 := J3.suite he3 hd3 na nL nF
    have go : ∀ {hds' : List ExceptHandler} {l' : List (Value × (Addr → Value → Option Addr → TS))}, HdAs X n hds' l' → wManyAs X.K i Wout D l' cls d σ' H' →
        wpAny (model X.prog X.w) X.A (handleBy (.ref a) X.env hds') (SP X pins D) X.xe { s' with heap := h3 } := by
      intro hds' l' hk
      induction hk with
      | nil =>
        intro w
        refine wpAny_handleBy_nil ?_
        obtain ⟨k1, k2, k3, oe, vs, T, oT, ts', he, hz, hd, h1, hr⟩ := id fl3
        unfold PySem.passOn
        refine wpAny_bind (wpAny_field he hd h1 ?_)
        rw [if_neg (show ¬ ((Value.ref T == Value.none) = true) from by simp)]
        have fin : wpAny (model X.prog X.w) X.A (setFlight (.ref a) X.env.frame) (fun _ s4 => wpAny (model X.prog X.w) X.A (throw (.ref a) : Sem Flow) (SP X pins D) X.xe s4) X.xe { s' with heap := h3 } := by
          rw [hf]
          refine HandSPX.setFlight_upZ fl3 fun h4 hh4 up4 => wpAny_throw (tk _ _ ?_)
          exact ⟨a, B, sI, pins, σ', H', cls, d, rfl, J, nb, (up.trans up3).trans up4, .inr (.inr (by rw [hs]; exact hh4)), na, os, ag, w⟩
        first
          | exact wpAny_bind (wpAny_pure (wpAny_bind fin))
          | exact wpAny_bind fin
      | @cons x c ts b₀ suite np pos' hds2 l2 hc hsu r ih =>
        intro w
        obtain ⟨b, hb1, hyes, hno⟩ := w
        refine wpAny_handleBy_cons (codeAny_handlers_test ?_) (by intro q; cases q)
        have LT : PySem.W.Looks (model X.prog X.w) h3 (typeOf (.ref a)) cls := fun A Q E s k q => wpAny_typeOf_ref (k _ _ he3) (by rw [hz3.1]; exact q)
        have LM := PySem.W.exm_one (M := model X.prog X.w) (J3.kIn) LT hb1
        have test : ∀ {Q : Value → Shared → Prop} {E : Value → Shared → Prop}, Q c { s' with heap := h3 } → wpAny (model X.prog X.w) (X.A.mark (some (.ref a))) (eval (.Name x np) X.env) Q E { s' with heap := h3 } := fun {Q E} q => by
          obtain ⟨hg, hdbg, hm | ⟨hm, hv, hnn⟩⟩ := hc
          · exact ld_glob (X := X.suite a ((a, oe3) :: (X.pn ++ pins))) S3 hg hm q hdbg
          · exact ld_blt (X := X.suite a ((a, oe3) :: (X.pn ++ pins))) S3 hg hm hv q hnn hdbg
        refine test (LM.here ?_)
        cases b with
        | true =>
          refine codeAny_handlers_suite_as ?_
          refine HandSPX.lands_againZ fl3 fun h4 fl4 up4 => ?_
          have J4 : Inv X pins σ' H' { s' with heap := h4 } := J.landed nb fl4.1 ((up.trans up3).trans up4) os ag
          obtain ⟨oe4, vs4, he4, hz4, hd4⟩ := fl4.there
          have S4 := J4.suite he4 hd4 na nL nF
          refine store_ok (X := X.suite a ((a, oe4) :: (X.pn ++ pins))) (v := .ref a) S4 hN hi hloc rfl (fun s5 S5 => ?_) (.inr hln)
          refine wpAny_mono ((hsu a oe4 cls d (X.pn ++ pins) hz4 ⟨_, hd4⟩).run [] s5 _ H' _ S5 (hyes rfl a na)) (fun f s6 hsp => ?_) (fun _ _ z => False.elim z)
          have end_ : ∀ {σ6 : L2.St} {H6 : Hp} {Q : Shared → Prop}, Inv (X.suite a ((a, oe4) :: (X.pn ++ pins))) [] σ6 H6 s6 → (∀ s7, Inv X pins (σ6.set i none) H6 s7 → Q s7) →
              wpAny (model X.prog X.w) X.A (do bindName X.env n .none; unbindBehindTheSuite X.env n pos') (fun _ s7 => Q s7) X.xe s6 := fun {σ6 H6 Q} S6 hq => gone_ok (S6.unsuite ok) hN hi hln hq
          cases f with
          | next =>
            obtain ⟨σ6, H6, S6, q6⟩ := hsp
            exact end_ S6 fun s7 J7 => ⟨_, _, J7, q6⟩
          | brk =>
            obtain ⟨σ6, H6, S6, q6⟩ := hsp
            exact end_ S6 fun s7 J7 => ⟨_, _, J7, q6⟩
          | cont =>
            obtain ⟨σ6, H6, S6, q6⟩ := hsp
            exact end_ S6 fun s7 J7 => ⟨_, _, J7, q6⟩
          | ret u =>
            obtain ⟨v6, σ6, H6, S6, r6, q6⟩ := hsp
            exact end_ S6 fun s7 J7 => ⟨_, _, _, J7, r6, q6⟩
        | false =>
          show wpAny _ X.A (handleBy (.ref a) X.env hds2) _ _ _
          exact ih (hno rfl)
    exact go hh w
  · cases f with
    | next =>
      obtain ⟨σ', H', J', q⟩ := hsp
      exact wpAny_execs_nil ⟨σ', H', J'.ofTry ok, q⟩
    | brk =>
      obtain ⟨σ', H', J', q⟩ := hsp
      exact ⟨σ', H', J'.ofTry ok, q⟩
    | cont =>
      obtain ⟨σ', H', J', q⟩ := hsp
      exact ⟨σ', H', J'.ofTry ok, q⟩
    | ret u =>
      obtain ⟨v, σ', H', J', r, q⟩ := hsp
      exact ⟨v, σ', H', J'.ofTry ok, r, q⟩
end
end TrA
set_option Elab.async false
set_option linter.all false
set_option maxRecDepth 100000
set_option maxHeartbeats 4000000
/-! an own error that keeps a field: raised; its field read where it is caught -/
namespace XH
open PySem PySem.W PySem.Calls PyProof.Rows L2
theorem relO_one {v : V} {v' : Value} (r : RelV v v') (f g : Str) : RelO (List.lookup g [(f, v)]) (if g = f then some v' else none) := by
  by_cases hw : g = f
  · subst hw
    rw [if_pos rfl]
    have q : List.lookup g [(g, v)] = some v := by simp [List.lookup]
    rw [q]
    exact r
  · rw [if_neg hw]
    have qw : (g == f) = false := by simpa using hw
    have q2 : List.lookup g [(f, v)] = none := by simp [List.lookup, qw]
    rw [q2]
    trivial
/-- C(e), to be raised: its own dict d is new and holds the field -/
def tXp (C : Addr) (f : Str) (te : TE) : L2.St → Hp → XK → Prop := fun σ H Q => te σ H fun v H1 => ∀ d, H1 d = none → Q (.ref C) (some d) (upd H1 d (.xd [(f, v)]))
/-- what a class says, so that its errors are raised and read -/
structure ExR (K : Frag) (C : Addr) (f : Str) : Prop where
  ga : findIn K (.ref C) "__getattribute__" = some (some (.builtin "BaseException.__getattribute__"))
  gg : findIn K (.ref C) "__getattr__" = some none
  nf : findIn K (.ref C) f = some none
  exC : subIn K (.ref C) (.type "BaseException") = some true
  tyC : typeIn K (.ref C) = some (.type "type")
  hdC : hasDictIn K C = true
section
variable {X : Cx} {C fI : Addr} {fd : FuncData} {f qn : Str} {B newId initId : String} {bmB : List Value}
theorem pmk_xp {x : Str} {e : Expr} {te : TE} {p pos : Pos} (T : ExT X.prog X.K X.mg C fI fd f qn B newId initId bmB) (R : ExR X.K C f) (dp : X.A.depth + 1 < recursionLimit) (gC : X.mg x = some (.ref C)) (kC : keepIn X.K (.ref C) = true) (hg : Gl X x) (he : PE X e te)
    (hs : starEach [e] X.env = (false, eval e X.env) :: starEach [] X.env := by rfl) (hdb : (x == ("__debug__" : Str)) = false := by decide) :
    PMk X (.Call (.Name x p) [e] [] pos) (tXp C f te) := by
  intro pins s σ H Q I h
  refine wpAny_Call_Name_kw (ld_glob I hg gC ?_ hdb)
  refine callWith_K (h₀ := X.base) I.ok.mod.kin kC ?_ hs (by rfl)
  rw [hs]
  show wpAny _ _ (spliced ((false, eval e X.env) :: backTo pos (starEach [] X.env))) _ _ s
  refine spliced_cons (thn (he.run pins s σ H _ I h) fun u s1 ⟨v, H1, I1, r1, q1⟩ => ?_)
  refine spliced_nil ⟨I1.kIn, ?_⟩
  show wpAny _ _ (call (.ref C) [u]) _ _ _
  have g1 := (inv_glob I1).1
  have g2 := (inv_glob I1).2
  have g3 := I1.nolimit
  obtain ⟨hp, g, dr, tk, os⟩ := s1
  refine made_pos T I1.kIn g1 g2 g3 dp fun h' tk' e dx m => ?_
  show MkP X pins σ Q (.ref e) ⟨h', g, dr, tk', os⟩
  obtain ⟨kp, eb, db, ne, ⟨t1, ob⟩, ns⟩ := m
  obtain ⟨G, g1, g2⟩ := restrict h' fun b => decide (b ≠ e)
  have gk : ∀ b, b ≠ e → G.get? b = h'.get? b := fun b hb => g1 b (decide_eq_true hb)
  have ge : G.get? e = none := g2 e (decide_eq_false fun z => z rfl)
  have gs : ∀ b o, G.get? b = some o → h'.get? b = some o := fun b o z => by
    by_cases hb : b = e
    · rw [hb, ge] at z
      cases z
    · rw [← gk b hb]
      exact z
  have old : ∀ b o, hp.get? b = some o → G.get? b = some o := fun b o z => by
    rw [gk b (Nat.ne_of_lt (Nat.lt_of_lt_of_le (Heap.lt_size z) eb))]
    exact kp b o z
  have od : ObjOk X.prog X.w (upd H1 dx (.xd [(f, v)])) G dx (.xd [(f, v)]) :=
    ⟨_, ns.at (fun o z => (gk dx ne).trans z), fun g => relO_one r1 f g⟩
  have J : Inv X pins σ (upd H1 dx (.xd [(f, v)])) ⟨G, g, dr, tk', os⟩ := I1.laid (t' := tk') old db od
  have hn : (upd H1 dx (HO.xd [(f, v)])) e = none := by
    rw [upd_ne (Ne.symm ne)]
    exact I1.hok.fresh eb
  exact ⟨e, _, _, ⟨G, g, dr, tk', os⟩, _, .ref C, some dx, rfl, J, gs, ge, ob, ⟨rfl, rfl⟩, rfl, rfl, hn, rfl, I1.bare, raises_own R.exC R.tyC, q1 dx (I1.hok.fresh db)⟩
/-- n.f, n the exception that the suite holds -/
def tByX (C : Addr) (f : Str) (a : Addr) (cls : Value) (d : Option Addr) (te : TE) : TE := fun σ H Q => te σ H fun x H1 => x = .ref a ∧ cls = .ref C ∧ ∃ (dd : Addr) (v : V), d = some dd ∧ H1 dd = some (.xd [(f, v)]) ∧ Q v H1
theorem pe_byX {a : Addr} {oe : Obj} {cls : Value} {d : Option Addr} {pn : List (Addr × Obj)} {e : Expr} {te : TE} {pos : Pos} (R : ExR X.K C f) (hz : Zc cls d oe) (hf : ∃ vs, oe.data = .fields vs) (he : PE (X.suite a ((a, oe) :: pn)) e te)
    (hb : attributeBase e f X.env (eval e X.env) = eval e X.env := by rfl) :
    PE (X.suite a ((a, oe) :: pn)) (.Attribute e f pos) (tByX C f a cls d te) := by
  refine ⟨fun pins s σ H Q I h => ?_⟩
  refine attr_of hb (thn (he.run pins s σ H _ I h) fun u s1 hh => ?_)
  obtain ⟨x, H1, I1, rx, ex, ec, dd, v, ed, ea, q⟩ := hh
  subst ex
  obtain rfl : u = Value.ref a := rx
  subst ec
  subst ed
  obtain ⟨ha, _⟩ := I1.pin (a, oe) (List.mem_append_left _ List.mem_cons_self)
  obtain ⟨vs, hd⟩ := hf
  have hx : ObjOk X.prog X.w H1 s1.heap dd (.xd [(f, v)]) := I1.hok dd _ ea
  obtain ⟨mA, hns, hr⟩ := hx
  obtain ⟨od, ho, hl⟩ := lookIn_ns hns
  have l : List.lookup f [(f, v)] = some v := by simp [List.lookup]
  obtain ⟨u, hu, ru⟩ := RelO.some_of (v := v) (o := mA f) (by rw [← l]; exact hr f)
  have J : PySem.W.InstAt s1.heap a oe C (some od) := ⟨ha, hz.1, by unfold PySem.W.notCls; rw [hd] <;> rfl, by rw [hz.2]; exact ho⟩
  exact HandSPX.exc_get I1.kIn J R.ga R.gg R.exC (PySem.W.findObj_own R.hdC R.nf rfl (by rw [hl, hu])) (handed_of ru) ⟨v, H1, I1.tok _, ru, q⟩
end
end XH
set_option Elab.async false
set_option linter.all false
set_option maxRecDepth 100000
set_option maxHeartbeats 4000000
/-! a lambda with one parameter, that has a default (a whole number), handed to a def -/
namespace LamD
open PySem PySem.Spec PyProof.Rows L2 LamX
abbrev lq (X : Cx) : Str := X.env.qual ++ "<lambda>"
abbrev dObj (X : Cx) (params : Arguments) (body : Expr) (scope : Scope) (T0 : Addr) (doc pm : Value) (c' : Addr) (ctv : Value) : Obj :=
  PySem.W.kdv_obj "<lambda>" (lq X) params (.expr body) scope (cloFrom X.env.cells scope.names []) (.ref T0) doc pm c' ctv
section
variable {X : Cx} {pins : List (Addr × Obj)} {σ : L2.St} {H : Hp} {s : Shared}
theorem nofrs (I : Inv X pins σ H s) {f : Addr} (hf : s.heap.objs.size ≤ f) : f ∉ frs X.stack := fun z => by
  rcases List.mem_cons.mp (I.stkSub _ z) with e | e
  · exact absurd (Nat.lt_of_lt_of_le I.lt (e ▸ hf)) (Nat.lt_irrefl _)
  · exact I.nofs hf e
/-- the function object is made; what was known of the tables' code objects stays -/
theorem tail_made {T : List (Addr × Str)} {c P T0 : Addr} {params : Arguments} {body : Expr} {scope : Scope} {pos : Pos} {E Q : Value → Shared → Prop} {oT : Obj} (I : Inv X pins σ H s) (TB : TabB X.base X.mg c P) (hcode : X.env.code = .ref c)
    (hm : (P, lq X) ∈ T) (hu : ∀ p ∈ T, p.1 = P → p.2 = lq X) (hT : Tabs T H) (hfree : ∀ y ∈ scope.names, y.2 = .free → ∃ c, X.env.cells.lookup y.1 = some c)
    (ht0 : s.heap.get? T0 = some oT) (htn : H T0 = none)
    (h : ∀ (f c' : Addr) (doc pm ctv : Value) (H1 : Hp) (s' : Shared), Inv X pins σ H1 s' → ExtN H H1 → Tabs T H1 → s'.heap.get? f = some (dObj X params body scope T0 doc pm c' ctv) → H1 f = none → f ∉ frs X.stack →
      s'.heap.get? T0 = some oT → H1 T0 = none → H1 c' = some (CodeO c' (lq X)) → Q (.ref f) s') :
    wpAny (model X.prog X.w) X.A (makeTail "<lambda>" (lq X) params (.expr body) scope X.env (.ref T0) .none none pos pos.line) Q E s := by
  obtain ⟨ps, hP, hts, known⟩ := hT _ hm
  have onP : s.heap.get? P = some { cls := .none, data := .fields ps } := I.hok P _ hP
  have nTP : T0 ≠ P := fun z => by rw [z, hP] at htn; cases htn
  cases hc : codeAmong pos ps.toList with
  | some cv =>
    obtain ⟨c', e, hco⟩ := known pos cv hc
    subst e
    refine PySem.W.kdv_makeTailHit (mg := X.mg) (c := c) (P := P) (ps := ps) (closure_ok hfree) I.ok.glob (I.mod.glob.keeps I.bk) hcode (TB.code.keeps I.bk) onP hts hc (TB.bm.keeps I.bk) fun ctv doc h' tk hx hsz => ?_
    refine h h'.objs.size c' doc ((X.mg "__name__").getD .none) ctv H _ (I.kept fun b o e => Heap.get?_push_of_some _ (hx b o e)) (ExtN.refl H) hT (Heap.get?_push_size _ rfl) (I.hok.fresh hsz) (nofrs I hsz) (Heap.get?_push_of_some _ (hx _ _ ht0)) htn hco
  | none =>
    refine PySem.W.kdv_makeTail (mg := X.mg) (c := c) (P := P) (ps := ps) (closure_ok hfree) I.ok.glob (I.mod.glob.keeps I.bk) hcode (TB.code.keeps I.bk) onP hts hc TB.gP (TB.bm.keeps I.bk) fun c' ctv doc h' tk hx hge hlt hrec htb => ?_
    obtain ⟨c2, oc, vs, t, e2, hoc, hd, hv⟩ := hrec
    cases e2
    have hsz : s.heap.objs.size ≤ h'.objs.size := Nat.le_trans hge (Nat.le_of_lt hlt)
    have nC : H c' = none := I.hok.fresh hge
    have nTc : T0 ≠ c' := Nat.ne_of_lt (Nat.lt_of_lt_of_le (Heap.lt_size ht0) hge)
    have nfc : h'.objs.size ≠ c' := Nat.ne_of_gt hlt
    have nfP : h'.objs.size ≠ P := Nat.ne_of_gt (Nat.lt_of_lt_of_le (Heap.lt_size onP) hsz)
    have eN : ExtN H (upd (upd H P (.tbl (ps ++ #[rawInt pos.line, rawInt pos.col, .ref c']))) c' (CodeO c' (lq X))) := fun b o e n => by
      rw [upd_ne (ne_of_none e nC), upd_ne (fun z => n ps (Option.some.inj (e.symm.trans (by rw [z]; exact hP))))]
      exact e
    have eL : (ps ++ #[rawInt pos.line, rawInt pos.col, .ref c']).toList = ps.toList ++ [rawInt pos.line, rawInt pos.col, .ref c'] := by simp
    have J := inv_table (t' := tk) (more := #[rawInt pos.line, rawInt pos.col, .ref c']) (q := lq X) (h' := h'.push (dObj X params body scope T0 doc ((X.mg "__name__").getD .none) c' ctv)) I hP
      (fun b o hb e => Heap.get?_push_of_some _ (hx b o hb e)) (Heap.get?_push_of_some _ htb) hge ⟨oc, vs, t, Heap.get?_push_of_some _ hoc, hd, hv⟩
    refine h h'.objs.size c' doc ((X.mg "__name__").getD .none) ctv _ _ J eN (fun p hp => ?_) (Heap.get?_push_size _ rfl) (by rw [upd_ne nfc, upd_ne nfP]; exact I.hok.fresh hsz) (nofrs I hsz) (Heap.get?_push_of_some _ (hx _ _ nTP ht0)) (by rw [upd_ne nTc, upd_ne nTP]; exact htn) upd_same
    by_cases hb : p.1 = P
    · rw [hu p hp hb, hb]
      refine ⟨_, by rw [upd_ne (ne_of_none hP nC), upd_same], by rw [eL]; exact PySem.TriplesOk_snoc _ _ _ _ hts, fun p' cv hcv => ?_⟩
      rw [eL] at hcv
      rcases among_app _ hts hcv with z | z
      · obtain ⟨c0, e1, e2⟩ := known p' cv z
        exact ⟨c0, e1, eN _ _ e2 codeO_ne⟩
      · exact ⟨c', z, upd_same⟩
    · obtain ⟨ps', a1, a2, a3⟩ := hT p hp
      refine ⟨ps', by rw [upd_ne (ne_of_none a1 nC), upd_ne hb]; exact a1, a2, fun p' cv hcv => ?_⟩
      obtain ⟨c0, e1, e2⟩ := a3 p' cv hcv
      exact ⟨c0, e1, eN _ _ e2 codeO_ne⟩
/-- lambda x=d: body -/
theorem lamd_made {T : List (Addr × Str)} {c P : Addr} {params : Arguments} {body : Expr} {scope : Scope} {pos : Pos} {E Q : Value → Shared → Prop} {di : Int} {dj : Nat} {dp : Pos} (I : Inv X pins σ H s) (TB : TabB X.base X.mg c P) (hcode : X.env.code = .ref c)
    (hm : (P, lq X) ∈ T) (hu : ∀ p ∈ T, p.1 = P → p.2 = lq X) (hT : Tabs T H) (hfree : ∀ y ∈ scope.names, y.2 = .free → ∃ c, X.env.cells.lookup y.1 = some c)
    (hd : params.defaults = [.Constant (.int di) dj dp]) (hk0 : params.kw_defaults = [])
    (h : ∀ (f c' T0 : Addr) (t : Tok) (doc pm ctv : Value) (H1 : Hp) (s' : Shared), Inv X pins σ H1 s' → ExtN H H1 → Tabs T H1 → s'.heap.get? f = some (dObj X params body scope T0 doc pm c' ctv) → H1 f = none → f ∉ frs X.stack →
      s'.heap.get? T0 = some (PySem.W.kdv_tup [.int di t]) → H1 T0 = none → T0 ∉ frs X.stack → H1 c' = some (CodeO c' (lq X)) → Q (.ref f) s') :
    wpAny (model X.prog X.w) X.A (eval (.Lambda params body scope pos) X.env) Q E s := by
  refine PySem.W.kdv_lam (by rw [hd]; rfl) hk0 ?_
  rw [hd]
  refine PySem.W.kdv_all1 (wpAny_Constant_int (PySem.W.kdv_all0 ?_))
  have I0 := I.tok (s.toks + 1)
  rw [makeFunction_eq]
  simp only [List.zip_nil_right, List.filterMap_nil, List.isEmpty_nil, if_true, pure_bind, List.isEmpty_cons, Bool.false_eq_true, if_false]
  refine wpAny_bind (wpAny_newTextTuple ?_)
  have I1 := I0.kept (t' := s.toks + 1) (h' := s.heap.push { cls := .type "tuple", data := .seq [Value.int di s.toks].toArray }) (fun b o e => Heap.get?_push_of_some _ e)
  refine tail_made (oT := PySem.W.kdv_tup [.int di s.toks]) I1 TB hcode hm hu hT hfree (Heap.get?_push_size _ rfl) (I.hok.fresh (Nat.le_refl _)) fun f c' doc pm ctv H1 s' I2 eN T1 hf hfn hfr ht htn hco => ?_
  exact h f c' s.heap.objs.size s.toks doc pm ctv H1 s' I2 eN T1 hf hfn hfr ht htn (nofrs I (Nat.le_refl _)) hco
end
/-! ### its names -/
/-- one parameter, a, whose name the maker doesn't use; captured names and globals besides -/
structure LamP (N : List Str) (sc scope : Scope) (a : Str) : Prop where
  kind : scope.kind = .function
  co : scope.isCoroutine = false
  gen : scope.isGenerator = false
  nocell : ∀ y ∈ scope.names, y.2 ≠ .cell
  loc : ∀ y ∈ scope.names, y.2 = .local → y.1 ∉ N
  par : scope.names.lookup a = some .local
  free : ∀ y ∈ scope.names, y.2 = .free → sc.names.lookup y.1 = some .cell ∨ sc.names.lookup y.1 = some .free
def lamPB (N : List Str) (sc scope : Scope) (a : Str) : Bool :=
  decide (scope.kind = .function) && !scope.isCoroutine && !scope.isGenerator && decide (scope.names.lookup a = some .local) && scope.names.all fun y => !decide (y.2 = .cell) && (!decide (y.2 = .local) || !decide (y.1 ∈ N)) && (!decide (y.2 = .free) || decide (sc.names.lookup y.1 = some .cell) || decide (sc.names.lookup y.1 = some .free))
theorem lamP_by {N : List Str} {sc scope : Scope} {a : Str} (h : lamPB N sc scope a = true) : LamP N sc scope a := by
  unfold lamPB at h
  simp only [Bool.and_eq_true, Bool.or_eq_true, Bool.not_eq_true', decide_eq_true_eq, decide_eq_false_iff_not, List.all_eq_true] at h
  obtain ⟨⟨⟨⟨h1, h2⟩, h3⟩, h5⟩, h4⟩ := h
  exact ⟨h1, h2, h3, fun y hy => (h4 y hy).1.1, fun y hy e => (h4 y hy).1.2.elim (fun z => absurd e z) id, h5, fun y hy e => (h4 y hy).2.elim (fun z => z.elim (fun z => absurd e z) .inl) .inr⟩
theorem LamP.has {X : Cx} {scope : Scope} {a : Str} {N : List Str} (L : LamP N X.env.scope scope a) (ok : X.Ok) : ∀ y ∈ scope.names, y.2 = .free → ∃ c, X.env.cells.lookup y.1 = some c := fun y hy e => ok.has _ (L.free y hy e)
section
variable {X : Cx} {pins : List (Addr × Obj)} {σ : L2.St} {H HZ : Hp} {s s1 : Shared}
theorem clo_mem {scope : Scope} (ok : X.Ok) (hfree : ∀ y ∈ scope.names, y.2 = .free → ∃ c, X.env.cells.lookup y.1 = some c) {y : Str} {c : Addr} (e : (cloFrom X.env.cells scope.names []).lookup y = some c) : X.env.cells.lookup y = some c := by
  rcases cloFrom_mem (PySem.mem_of_lookup e) with hm | ⟨h1, h2⟩
  · cases hm
  · obtain ⟨c1, hc⟩ := hfree _ h1 rfl
    have hc : X.env.cells.lookup y = some c1 := hc
    rw [hc, h2, hc]
    rfl
/-- the body's context is entered -/
theorem lamd_start {A : Around} {outer : List Env} {E : XK} {scope : Scope} {f c' : Addr} {a : Str} {v : Value} {h₁ : Heap} {tk : Nat} (I : Inv X pins σ H s) (L : LamP X.N X.env.scope scope a) (e0 : Env0 X.prog X.w X.K X.mg X.base A outer s1 HZ) (hd : A.handled = none)
    (un : Un (frs X.stack) [] H HZ s.heap s1.heap) (hns : h₁.Ns s1.heap.objs.size fun y => ([(a, v)] : List (Str × Value)).reverse.lookup y) (kp : ∀ b o, s1.heap.get? b = some o → h₁.get? b = some o) :
    Inv (lamCx X A outer s1 HZ E scope f c') [] σ HZ { s1 with heap := h₁, toks := tk } := by
  have hfree := L.has I.ok
  have cm : ∀ {y c}, (cloFrom X.env.cells scope.names []).lookup y = some c → X.env.cells.lookup y = some c := fun e => clo_mem I.ok hfree e
  have cellK : ∀ {c : Addr} {w' : Option Value}, H c = none → s.heap.IsCell c w' → h₁.IsCell c w' := fun {c w'} n ⟨o, ho, hd⟩ => by
    obtain ⟨sl, q⟩ := un.any ho n (by simp)
    exact ⟨_, kp _ _ q, hd⟩
  have noA : ∀ b : Addr, b ∉ (lamCx X A outer s1 HZ E scope f c').ex := fun b z => nomatch (show b ∈ ([] : List Addr) from z)
  refine ⟨⟨e0.mod, L.kind, rfl, rfl, Nat.le_refl _, fun y z c e1 e2 => I.ok.inj y z c (cm e1) (cm e2), fun y hy => ?_, fun y c z _ => (nomatch (show false = true from z)), fun _ => hd, Around.frames_deeper e0.frames, .inr ⟨rfl, rfl⟩, fun b z => absurd z (noA b), e0.bs, e0.bsz, fun b _ _ => noA b,
      fun b z => absurd z (noA b), e0.funs, e0.frf⟩,
    rfl, e0.bare, Un.kept kp, ⟨_, hns, fun i y v e1 e2 e3 => ?_⟩, fun y c e => ?_, e0.hok.fresh (Nat.le_refl _), fun y c e => ?_, fun q hq => absurd (show q ∈ ([] : List (Addr × Obj)) ++ [] from hq) (by simp), e0.hok.kept kp, I.len⟩
  · have hy : scope.names.lookup y = some .cell ∨ scope.names.lookup y = some .free := hy
    rcases hy with hy | hy
    · exact absurd rfl (L.nocell _ (PySem.mem_of_lookup hy))
    · exact mem_lookup (cloFrom_has (cells := X.env.cells) (acc := []) (PySem.mem_of_lookup hy))
  · have yN : y ∈ X.N := List.mem_of_getElem? (show X.N[i]? = some y from e1)
    rcases (show Vis scope y from e3) with k | k | k
    · exact absurd yN (L.loc _ (PySem.mem_of_lookup k) rfl)
    · exact absurd rfl (L.nocell _ (PySem.mem_of_lookup k))
    · obtain ⟨m, hn, hl⟩ := I.loc
      have hfr := L.free _ (PySem.mem_of_lookup k) rfl
      obtain ⟨w', r, q⟩ := hl i y v e1 e2 (hfr.elim (fun k => .inr (.inl k)) fun k => .inr (.inr k))
      obtain ⟨c2, h2⟩ := mem_lookup (cloFrom_has (cells := X.env.cells) (acc := []) (PySem.mem_of_lookup k))
      refine ⟨w', r, .inr ⟨.inr k, c2, h2, ?_⟩⟩
      rcases q with ⟨k', _⟩ | ⟨_, c3, e', z⟩
      · have k' : X.env.scope.names.lookup y = some .local := k'
        rcases hfr with k2 | k2 <;> rw [show X.env.scope.names.lookup y = _ from k2] at k' <;> cases k'
      · cases e'.symm.trans (cm h2)
        exact cellK (I.freeC y _ (cm h2)) z
  · obtain ⟨w', z⟩ := I.cell y c (cm e)
    exact ⟨w', cellK (I.freeC y c (cm e)) z⟩
  · obtain ⟨v, o, ho, hd⟩ := I.cell y c (cm e)
    exact un.free c o ho (I.freeC y c (cm e)) (by simp)
/-- how the one parameter gets its default -/
def BindsD (params : Arguments) (body : Expr) (scope : Scope) (a : Str) (di : Int) : Prop :=
  ∀ (q : Str) (cl : List (Str × Addr)) (T0 : Addr) (doc pm cv ctv : Value), ∃ k : Option (Array Value) → Sem (List (Str × Value)),
    bindArgs (PySem.W.kdv_fn "<lambda>" q params (.expr body) scope cl (.ref T0) doc pm cv ctv) ⟨[], []⟩ = seqItems? (.ref T0) >>= k ∧ ∀ t, k (some #[.int di t]) = pure [(a, .int di t)]
/-- it is called, in the def that got it -/
theorem pe_actD {CXg : CXT} {Eg : XK} {Ng : List Str} {qg : Str} {sg : Scope} {g f c' T0 : Addr} {cdg pm ctv doc : Value} {params : Arguments} {body : Expr} {scope : Scope} {k i : Nat} {a x : Str} {di : Int} {tkd : Tok} {pn : List (Addr × Obj)} {xe : Value → Shared → Prop} {W : WX} {E : XK} {tb : TE} {p1 p2 : Pos}
    (I : Inv X pins σ H s) (L : LamP X.N X.env.scope scope x) (hf : s.heap.get? f = some (dObj X params body scope T0 doc pm c' ctv)) (hfn : H f = none) (hfr : f ∉ frs X.stack)
    (ht : s.heap.get? T0 = some (PySem.W.kdv_tup [.int di tkd])) (htn : H T0 = none) (htr : T0 ∉ frs X.stack) (hbind : BindsD params body scope x di)
    (tk : Takes ((cxOf CXg X.prog X.w X.K X.mg X.base Ng qg sg g cdg X.A X.stack s H Eg).tr pn xe) W) (hW : ∀ cls d σ' H', E cls d H' → W cls d σ' H') (hr : Room (k + 1) (X.A.deeper (envOfC qg sg s.heap.objs.size g cdg)))
    (hbody : ∀ (A : Around) (outer : List Env) (s : Shared) (H : Hp), Room k (A.deeper (lamEnv X scope s.heap.objs.size f c')) → PE (lamCx X A outer s H E scope f c') body tb)
    (hN : Ng[i]? = some a) (hv : Vis sg a) (hd : (a == ("__debug__" : Str)) = false := by decide) (hcd : (a == ("__classdict__" : Str)) = false := by decide) :
    PE ((cxOf CXg X.prog X.w X.K X.mg X.base Ng qg sg g cdg X.A X.stack s H Eg).tr pn xe) (.Call (.Name a p1) [] [] p2)
      (fun σZ HZ Q => σZ[i]? = some (some (.ref f)) ∧ HZ c' = some (CodeO c' (lq X)) ∧ tb σ HZ Q) := by
  refine ⟨fun pinsZ sZ σZ HZ Q IZ h => ?_⟩
  obtain ⟨hs, hc, htb⟩ := h
  refine wpAny_Call_Name_kw (thn ((pe_var (pos := p1) (i := i) hN hv hd hcd).run pinsZ sZ σZ HZ (fun v H1 => v = .ref f ∧ H1 = HZ) IZ ⟨.ref f, hs, rfl, rfl⟩) fun u s1 ⟨v, H1, I1, r1, ev, eH⟩ => ?_)
  subst ev
  rw [eH] at I1
  obtain rfl : u = Value.ref f := r1
  have un : Un (frs X.stack) [] H HZ s.heap s1.heap := I1.base
  have of1 := un.keep f _ hf hfn hfr (fun z => nomatch (show f ∈ ([] : List Addr) from z))
  have ot1 := un.keep T0 _ ht htn htr (fun z => nomatch (show T0 ∈ ([] : List Addr) from z))
  refine PySem.W.callWith_F0 ⟨_, _, _, _, of1⟩ ?_
  obtain ⟨⟨oc, vs, t, hoc, hdc, hvc⟩, _, _⟩ := I1.hok c' _ hc
  have rc : codeAny (model X.prog X.w) (X.A.deeper (envOfC qg sg s.heap.objs.size g cdg)) (.call (.ref f) ⟨[], []⟩) (CR (L2.CX X.prog X.w) (envOfC qg sg s.heap.objs.size g cdg :: X.stack) X.prog X.w HZ s1 Q E) s1 := by
    refine PySem.W.kla_callFunE hr.depth of1 rfl L.co L.gen rfl ⟨c', oc, vs, t, rfl, hoc, hdc, hvc⟩ ?_
    obtain ⟨kk, b1, b2⟩ := hbind (lq X) (cloFrom X.env.cells scope.names []) T0 doc pm (.ref c') ctv
    refine (BindsTo.of_defaults (binds := [(x, .int di tkd)]) (T := T0) (o := PySem.W.kdv_tup [.int di tkd]) (items := #[.int di tkd]) rfl ot1 rfl b1 (b2 tkd)) _ _ _ _ ?_
    refine wpAny_newFunctionEnv L.nocell (fun y hy => by cases List.mem_singleton.mp hy; exact L.par) (fun h₁ hns hsb => ⟨I1.nolimit.fresh _ hsb, ?_⟩) L.kind
    show codeAny _ _ (.expr body (lamEnv X scope s1.heap.objs.size f c')) _ _
    have kp : ∀ b o, s1.heap.get? b = some o → h₁.get? b = some o := fun b o e => hsb.extBut b o (Nat.ne_of_lt (Heap.lt_size e)) (Heap.get?_push_of_some _ e)
    have J : Inv (lamCx X (X.A.deeper (envOfC qg sg s.heap.objs.size g cdg)) (envOfC qg sg s.heap.objs.size g cdg :: X.stack) s1 HZ E scope f c') [] σ HZ { s1 with heap := h₁, toks := s1.toks + ([(x, Value.int di tkd)] : List (Str × Value)).length } :=
      lamd_start I L I1.env0 hr.hd un hns kp
    refine PySem.W.kla_codeExpr (wpAny_mono ((hbody _ _ s1 HZ (hr.deeper _)).run [] _ _ HZ Q J htb) (fun v s' hq => ?_) fun e s' hq => hq)
    obtain ⟨w', H', J', rv, q⟩ := hq
    exact ⟨w', H', J'.os, J'.bare, J'.base, J'.hok, rv, q⟩
  have hx : Passes (L2.CX X.prog X.w) ((cxOf CXg X.prog X.w X.K X.mg X.base Ng qg sg g cdg X.A X.stack s H Eg).tr pn xe) E := passes_call tk hW
  refine wpAny_call (codeAny_mono rc fun r s' hq => ?_)
  cases r with
  | error e => exact hx pinsZ σZ HZ s1 e s' I1 hq
  | ok fl =>
    cases fl with
    | ret u => exact I1.after hq
    | next => exact False.elim hq
    | brk => exact False.elim hq
    | cont => exact False.elim hq
end
section
variable {X : Cx}
/-- g(lambda x=d: body) -/
theorem pe_lamcallD {T : List (Addr × Str)} {TT : (XK → Hp → VK → Prop) → Hp → VK → Prop} {x a y : Str} {di : Int} {dj : Nat} {dp : Pos} {g c P : Addr} {k : Nat} {pg : Arguments} {bg : List Stmt} {sg : Scope} {dV kV doc pm cdv ct oc : Value} {an od : Option Addr} {osl : Array (Option Value)} {Ng : List Str}
    {params : Arguments} {body : Expr} {scope : Scope} {t : XK → TE} {p lpos pos : Pos} (hg : Gl X x) (hm : X.mg x = some (.ref g)) (hk : PySem.W.keepIn X.K (.ref g) = true)
    (lk : X.K.lookup g = some ⟨oc, od, .func (PySem.W.fnOf x x pg bg sg dV kV doc pm an cdv ct), osl⟩) (hcg : PySem.W.codeIn X.K cdv x = true) (hb : L2.Binds X.K (PySem.W.fnOf x x pg bg sg dV kV doc pm an cdv ct) [a] []) (Sg : FnScope Ng [a] sg) (hNg : Ng[0]? = some a) (hva : Vis sg a)
    (hG : GivesTo X Ng x sg g cdv bg a (lq X) TT)
    (TB : TabB X.base X.mg c P) (hcode : X.env.code = .ref c) (hmT : (P, lq X) ∈ T) (hu : ∀ p ∈ T, p.1 = P → p.2 = lq X) (hr : Room (k + 2) X.A) (L : LamP X.N X.env.scope scope y)
    (hdef : params.defaults = [.Constant (.int di) dj dp]) (hk0 : params.kw_defaults = []) (hbind : BindsD params body scope y di)
    (hbody : ∀ (A : Around) (outer : List Env) (s : Shared) (H : Hp) (E : XK) (f c' : Addr), Room k (A.deeper (lamEnv X scope s.heap.objs.size f c')) → PE (lamCx X A outer s H E scope f c') body (t E))
    (hdb : (x == ("__debug__" : Str)) = false := by decide) (hd : (a == ("__debug__" : Str)) = false := by decide) (hcd : (a == ("__classdict__" : Str)) = false := by decide) :
    PE X (.Call (.Name x p) [.Lambda params body scope lpos] [] pos) (tLam T TT t) := by
  refine ⟨fun pins s σ H Q I h => ?_⟩
  obtain ⟨hT, h⟩ := h
  refine wpAny_Call_Name_kw (ld_glob I hg hm ?_ hdb)
  refine PySem.W.callWith_K (h₀ := X.base) I.ok.mod.kin hk ?_ (by rfl) (by rfl)
  show wpAny _ _ (spliced ((false, eval (.Lambda params body scope lpos) X.env) :: backTo pos (starEach [] X.env))) _ _ s
  refine Calls.spliced_cons (lamd_made I TB hcode hmT hu hT (L.has I.ok) hdef hk0 fun f c' T0 tk0 doc' pm' ctv H1 s' I1 eN T1 hf hfn hfr ht htn htr hco => ?_)
  refine Calls.spliced_nil ⟨I1.kIn, ?_⟩
  have rc : codeAny (model X.prog X.w) X.A (.call (.ref g) ⟨[.ref f], []⟩) (CR C8.CX0 X.stack X.prog X.w H1 s' Q C8.E0) s' := by
    refine run_ofS (N := Ng) (ps := [a]) (us := [.ref f]) (vs := [.ref f]) lk hcg Sg hr I1.env0 (hb s' [.ref f] I1.kIn rfl) (.cons rfl .nil) rfl fun hr' => ?_
    obtain ⟨t', ht', hq'⟩ := hG f c' s' H1 Q (fun E H' Q' => t E σ H' Q') (fun W pn xe E p1 p2 tk hW => pe_actD (i := 0) I1 L hf hfn hfr ht htn htr hbind tk hW hr' (fun A outer s H hr2 => hbody A outer s H E f c' hr2) hNg hva hd hcd) hco (h H1 eN T1)
    exact ⟨t', ht'.nox, hq'⟩
  refine wpAny_call (codeAny_mono rc fun r s2 hq => ?_)
  cases r with
  | error e => exact (show False from hq).elim
  | ok fl =>
    cases fl with
    | ret u => exact I1.after hq
    | next => exact False.elim hq
    | brk => exact False.elim hq
    | cont => exact False.elim hq
end
end LamD
set_option Elab.async false
set_option linter.all false
set_option maxRecDepth 100000
set_option maxHeartbeats 4000000
/-! enumerate of a tuple; of a list or a tuple -/
namespace EnT
open PySem PySem.Spec PyProof.Rows L2
theorem meets_new1 {v : Value} {o : Obj} {H : Heap → Prop} (B : Begins v o H) :
    Meets (Builtin.«enumerate.__new__» ⟨[.type "enumerate", v], []⟩) (fun _ R s => H s.heap ∧
      R (.ok (.ret (.ref (s.heap.push o).objs.size))) { s with heap := (s.heap.push o).push { cls := .type "enumerate", data := .fields #[.none, .bool false, .ref s.heap.objs.size, rawInt 0, .none, .none] } }) :=
  .of_wp fun prog w A R s h => by
    obtain ⟨hp, g, d, tk, os⟩ := s; obtain ⟨h1, h⟩ := h
    have hsub := sub_enumerate
    have q1 : ∀ {A' : Around} {E : Value → Shared → Prop} {Q : Value → Shared → Prop}, Q (.ref hp.objs.size) ⟨hp.push o, g, d, tk, os⟩ → wpAny (model prog w) A' (pyIter v) Q E ⟨hp, g, d, tk, os⟩ :=
      fun q => B.iter prog w _ _ ⟨hp, g, d, tk, os⟩ _ h1 q
    wp_walk using q1
    refine wpAny_stack_any fun st => wpAny_pure ?_
    split
    · rename_i c _ _ _ _ _
      cases (c == Value.type "enumerate")
      · wp_walk using q1
        exact ⟨_, rfl, h⟩
      · wp_walk using q1
        exact ⟨_, rfl, h⟩
    · wp_walk using q1
      exact ⟨_, rfl, h⟩
section
variable {prog : Program} {w : World} {A : Around} {E : Value → Shared → Prop} {s : Shared}
theorem begins1 {v : Value} {o : Obj} {H : Heap → Prop} {Q : Value → Shared → Prop} (B : Begins v o H) (h1 : H s.heap)
    (h : ∀ h', IsEnum h' (s.heap.objs.size + 1) s.heap.objs.size 0 .none → h'.get? s.heap.objs.size = some o → h'.objs.size = s.heap.objs.size + 2 →
      (∀ b o, s.heap.get? b = some o → h'.get? b = some o) → Q (.ref (s.heap.objs.size + 1)) { s with heap := h' }) :
    wpAny (model prog w) A (call (.type "enumerate") [v]) Q E s := by
  refine callType_new F.called_enumerate (by decide) (F.typeCall_enumerate_1 _) (F.newCall_enumerate_1 _) (fun obj => F.args_object_init_2 obj _) F.entry_enumerate_new (meets_new1 B) ⟨h1, ?_⟩
  have hz : (s.heap.push o).objs.size = s.heap.objs.size + 1 := Heap.size_push ..
  show _ ∧ _
  rw [hz]
  have he : IsEnum ((s.heap.push o).push { cls := .type "enumerate", data := .fields #[.none, .bool false, .ref s.heap.objs.size, rawInt 0, .none, .none] }) (s.heap.objs.size + 1) s.heap.objs.size 0 .none := by
    have := Heap.get?_push_size (s.heap.push o) (o := { cls := .type "enumerate", data := .fields #[.none, .bool false, .ref s.heap.objs.size, rawInt 0, .none, .none] }) rfl
    rw [hz] at this; exact this
  refine ⟨⟨_, he, rfl⟩, h _ he (Heap.get?_push_of_some _ (Heap.get?_push_size _ B.free)) (by rw [Heap.size_push, hz]) fun b o x => Heap.get?_push_of_some _ (Heap.get?_push_of_some _ x)⟩
end
theorem enum_endT {prog : Program} {w : World} {A : Around} {E : Value → Shared → Prop} {s : Shared} {e it tt : Addr} {n i : Nat} {items : Array Value} {old : Value} {Q : Option Value → Shared → Prop} (hh : A.handled = none)
    (he : IsEnum s.heap e it (n : Int) old) (hit : s.heap.IsTupleIter it tt i) (ht : s.heap.IsTuple tt items) (hx : items[i]? = none)
    (hQ : ∀ h', Heap.ExtBut it s.heap h' → Q none { s with heap := h' }) : wpAny (model prog w) A (pyNext (.ref e)) Q E s := by
  have hT : s.TypeIs (.ref e) "enumerate" := ⟨_, he, rfl⟩
  unfold pyNext
  refine wpAny_bind (wpAny_attempt (wpAny_callSpecial?_slot (name := Str.ofString "__next__") hT F.slot_enumerate_next
    (wpAny_call_entry F.slot_enumerate_next hT F.entry_enumerate_next ?_ (F.args_enumerate_next_1 _))))
  show wpAny _ _ (field (.ref e) 2 >>= _) _ _ _
  refine wpAny_bind (wpAny_field he rfl (x := .ref it) rfl ?_)
  refine wpAny_bind (wpAny_nextOf_tuple_end (by rw [show A.in1.handled = A.handled from rfl]; exact hh) hit ht hx fun h' x he' hx' => ?_)
  obtain ⟨o, ho, hc⟩ := hx'
  refine wpAny_bind (wpAny_isInstance (T := "StopIteration") (b := true) ⟨o, ho, hc⟩ isSubtype_stop ?_)
  exact wpAny_pure (hQ _ he')
/-- the tuple at a, each item in a new pair -/
def IteT (K : PySem.W.Frag) (a : Addr) : It :=
  ⟨fun i H => ∃ (xs : List V) (x : V), SqT K H a xs ∧ xs[i]? = some x, fun i H v H' => ∃ T x, v = .ref T ∧ H T = none ∧ H' = upd H T (.tup [.int (i : Nat), x]) ∧ ∀ xs, SqT K H a xs → xs[i]? = some x, fun i H => ∃ xs : List V, SqT K H a xs ∧ xs.length ≤ i⟩
theorem turn_enumT {P : Program} {w : World} {K : PySem.W.Frag} {elts : List Expr} {kk : Nat} {tpos : Pos} (a e it : Addr) (hai : a ≠ it) (hae : a ≠ e) :
    Turn P w K (.Tuple elts kk tpos) (IteT K a) [e, it] e (fun i h => (∃ old, IsEnum h e it ((i : Nat) : Int) old) ∧ h.IsTupleIter it a i ∧ e ≠ it) where
  mem := by simp
  obj := fun i h st b hb => by
    obtain ⟨⟨old, he⟩, ⟨o, ho, hc, hd⟩, _⟩ := st
    have e' : b = e ∨ b = it := by simpa using hb
    rcases e' with z | z
    · rw [z]; exact ⟨_, he, fun v q => nomatch q⟩
    · rw [z]; exact ⟨o, ho, fun v q => by rw [hd] at q; cases q⟩
  keep := fun i h h' st k => let ⟨⟨old, he⟩, hi, hne⟩ := st; ⟨⟨old, k e (by simp) _ he⟩, hi.at fun o q => k it (by simp) o q, hne⟩
  item := by
    intro X hP hw hK hc i pins s σ H E I hf st hg
    subst hP hw hK
    obtain ⟨⟨old, he⟩, hit, hne⟩ := st
    obtain ⟨xs, x, hq, hx⟩ := hg
    obtain ⟨its, rv, p, hz⟩ := I.tuple hq
    have p : s.heap.IsTuple a its.toArray := p
    obtain ⟨u, hu, ru⟩ := rv.get hx
    have hel : e < s.heap.objs.size := Heap.lt_size he
    have hil : it < s.heap.objs.size := by obtain ⟨_, q, _⟩ := hit; exact Heap.lt_size q
    have hlt : i < its.toArray.size := by
      have := (List.getElem?_eq_some_iff.mp hu).1
      simpa using this
    refine wpAny_pyNext_enum_itemC (Draws.tuple (by rw [show X.A.in1.handled = X.A.handled from rfl]; exact I.ok.hd hc) it a hai its.toArray) he ⟨hit, p⟩ hlt hne (fun z => ?_) fun x' h' tk hP ho hst' hT hsz hk => ?_
    · rcases List.mem_cons.mp z with z | z
      · exact hne z
      · exact hae (List.mem_singleton.mp z).symm
    have hxu : x' = u := by
      have y : its[i]? = some x' := by simpa using hP
      rw [hu] at y
      exact (Option.some.inj y).symm
    subst hxu
    obtain ⟨hit', _⟩ := hst'
    refine ⟨_, rfl, wpAny_letOwnedTupleGo_enum (s := { s with heap := h', toks := tk + 1 }) ho fun h'' he' sb => ?_⟩
    have hT2 : h''.get? s.heap.objs.size = some { cls := .type "tuple", data := .seq #[.int i tk, x'] } := (sb.2 _ (Nat.ne_of_gt hel)).trans hT
    have new : ObjOk X.prog X.w (upd H s.heap.objs.size (.tup [.int (i : Nat), x])) h'' s.heap.objs.size (.tup [.int (i : Nat), x]) :=
      ⟨by show 2 ≤ sizeLine; decide, [.int i tk, x'], .cons ⟨_, rfl⟩ (.cons ru .nil), ⟨_, hT2, rfl, _, rfl⟩⟩
    have I1 : Inv X pins σ (upd H s.heap.objs.size (.tup [.int (i : Nat), x])) { s with heap := h'', toks := tk + 1 } :=
      I.turnedNew (ch := [e, it]) (fun b ob hb q => (sb.2 b (fun z => hb (by simp [z]))).trans (hk b ob (fun z => hb (by simp [z])) (fun z => hb (by simp [z])) q)) hf (Nat.le_refl _) new
    refine ⟨.ref s.heap.objs.size, _, I1, rfl, ⟨_, x, rfl, I.hok.fresh (Nat.le_refl _), rfl, fun ys hy => by rw [I.tuple_inj hy hq]; exact hx⟩, ⟨⟨x', ?_⟩, hit'.at fun o q => (sb.2 it (Ne.symm hne)).trans q, hne⟩, fun b hb => ?_⟩
    · have e1 : ((i + 1 : Nat) : Int) = (i : Int) + 1 := by omega
      rw [e1]; exact he'
    · have hb' : b < s.heap.objs.size := by
        have e' : b = e ∨ b = it := by simpa using hb
        rcases e' with z | z
        · rw [z]; exact hel
        · rw [z]; exact hil
      rw [upd_ne (Nat.ne_of_lt hb')]
      exact (hf b hb).1
  done := by
    intro X hP hw hK hc i pins s σ H E I hf st hg
    subst hP hw hK
    obtain ⟨⟨old, he⟩, hit, hne⟩ := st
    obtain ⟨xs, hq, hx⟩ := hg
    obtain ⟨its, rv, p, hz⟩ := I.tuple hq
    have p : s.heap.IsTuple a its.toArray := p
    obtain ⟨f0, f1, f2, f3, f4, f5⟩ := hf it (by simp)
    have hl := rv.length
    exact enum_endT (I.ok.hd hc) he hit p (by simp; omega) fun h' eb => ⟨rfl, I.turned (t' := s.toks) (fun b o hb q => eb b o hb q) f0 f1 f3 f4 f5⟩
  self := fun A i s Q E st h => let ⟨⟨_, he⟩, _⟩ := st; wpAny_pyIter_enum he h
/-- enumerate(v), v a list or a tuple -/
def iEnumA (K : PySem.W.Frag) (ta : TA) : TI := fun σ H R => ta σ H fun vs H1 => ∃ a xs, vs = [.ref a] ∧ ((SqL K H1 a xs ∧ R (Ite K a) H1) ∨ (SqT K H1 a xs ∧ R (IteT K a) H1))
theorem pi_enumA {X : Cx} {e : Expr} {ta : TA} {p pos tpos : Pos} {elts : List Expr} {kk : Nat} (hg : Gl X "enumerate") (hm : X.mg "enumerate" = none) (ha : PA X [e] ta) (hs : starEach [e] X.env = [(false, eval e X.env)] := by rfl) :
    PI X (.Tuple elts kk tpos) (.Call (.Name "enumerate" p) [e] [] pos) (iEnumA X.K ta) := by
  refine ⟨fun pins s σ H R I h => ?_⟩
  refine Call_ (ld_blt I hg hm boot_enumerate (PyProof.Rows.callWith_type1 (thn (ha.run pos pins s σ H _ I h) fun us s1 ⟨vs, H1, I1, r1, q1⟩ => ?_) hs rfl))
  obtain ⟨a, xs, ex, q⟩ := q1
  subst ex
  cases r1 with
  | cons r rr =>
    cases rr
    cases r
    have e' : ∀ b ∈ [s1.heap.objs.size + 1, s1.heap.objs.size], s1.heap.objs.size ≤ b := fun b hb => by
      have : b = s1.heap.objs.size + 1 ∨ b = s1.heap.objs.size := by simpa using hb
      rcases this with z | z
      · rw [z]; exact Nat.le_add_right _ _
      · rw [z]; exact Nat.le_refl _
    rcases q with ⟨hq, q⟩ | ⟨hq, q⟩
    · obtain ⟨its, rv, p', hz⟩ := I1.list hq
      refine call_enumerate_list p'.isList fun h' he hit hsz hk => wpAny_pyIter_enum he ?_
      have I2 : Inv X pins σ H1 { s1 with heap := h' } := I1.kept (t' := s1.toks) hk
      exact ⟨s1.heap.objs.size + 1, [s1.heap.objs.size + 1, s1.heap.objs.size], _, _, H1, rfl, I2, turn_enum a (s1.heap.objs.size + 1) s1.heap.objs.size, ⟨⟨.none, he⟩, hit, Nat.succ_ne_self _⟩, fun b hb => I1.fpOk (e' b hb) (I1.hok.fresh (e' b hb)), q⟩
    · obtain ⟨its, rv, p', hz⟩ := I1.tuple hq
      have p2 : s1.heap.IsTuple a its.toArray := p'
      have lt : a < s1.heap.objs.size := by obtain ⟨_, z, _⟩ := p2; exact Heap.lt_size z
      refine begins1 (begins_tuple a its.toArray) p2 fun h' he ho hsz hk => wpAny_pyIter_enum he ?_
      have I2 : Inv X pins σ H1 { s1 with heap := h' } := I1.kept (t' := s1.toks) hk
      exact ⟨s1.heap.objs.size + 1, [s1.heap.objs.size + 1, s1.heap.objs.size], _, _, H1, rfl, I2, turn_enumT a (s1.heap.objs.size + 1) s1.heap.objs.size (Nat.ne_of_lt lt) (Nat.ne_of_lt (Nat.lt_succ_of_lt lt)), ⟨⟨.none, he⟩, ⟨_, ho, rfl, rfl⟩, Nat.succ_ne_self _⟩, fun b hb => I1.fpOk (e' b hb) (I1.hok.fresh (e' b hb)), q⟩
/-- the pairs of a tuple's items -/
theorem walk_enumT {K : PySem.W.Frag} {a : Addr} {xs : List V} : Walk (IteT K a) xs.length (fun H => SqT K H a xs) (YPair (fun i => some (.int (i : Nat))) (fun i => xs[i]?)) where
  goes := fun i H hi q => ⟨xs, xs[i], q, by simp [hi]⟩
  stops := fun H q => ⟨xs, q, Nat.le_refl _⟩
  yields := fun i H x H' hi q y => by
    obtain ⟨T, u, rfl, n, rfl, h⟩ := y
    exact ⟨T, _, u, rfl, n, rfl, rfl, h xs q⟩
end EnT
set_option Elab.async false
set_option linter.all false
set_option maxRecDepth 100000
set_option maxHeartbeats 4000000
/-! == and != by an own __eq__ -/
namespace OwI
open PySem PySem.Spec PyProof.Rows PySem.SeqAt
section
variable {M : Model} {prog : Program} {w : World} {A : Around} {E : Value → Shared → Prop} {s : Shared} {K : PySem.W.Frag} {x C f : Addr} {ox : Obj} {od : Option Obj} {b tb : Value}
theorem ifBound_ne {args : List Value} {Q : Option Value → Shared → Prop} (X : K.In s.heap) (I : PySem.W.InstAt s.heap x ox C od) (hs : PySem.W.findIn K (.ref C) "__ne__" = some (some (.builtin "object.__ne__")))
    (h : wpAny M A (call (.builtin "object.__ne__") (.ref x :: args)) (fun v => Q (some v)) E s) : wpAny M A (callSpecialIfBound? (.ref x) "__ne__" args) Q E s := by
  simp only [callSpecialIfBound?, bindSpecialIfBound?]
  refine wpAny_holding (wpAny_bind (wpAny_bind (wpAny_bind (I.type.here ((PySem.W.looks_findIn X hs).here ?_)))))
  refine wpAny_bind (wpAny_askSetting (wpAny_ite ?_))
  have fin : wpAny M A (call (.builtin "object.__ne__") ([.ref x] ++ args) >>= fun v => pure (some v)) Q E s := wpAny_bind (wpAny_mono h (fun v s' h' => wpAny_pure h') fun _ _ h' => h')
  split
  · exact wpAny_bind (wpAny_of_eq (F.cmp_object.ne.bind _) (wpAny_pure (by exact fin)))
  · exact wpAny_tryCatch (wpAny_bind (wpAny_of_eq (F.cmp_object.ne.bind _) (wpAny_pure (by exact fin))))
theorem entry_ne {Q : Fin → Shared → Prop} (X : K.In s.heap) (I : PySem.W.InstAt s.heap x ox C od) (hu : A.units < cLine) (hs : PySem.W.findIn K (.ref C) "__eq__" = some (some (.ref f))) (hf : PySem.W.isFn K (.ref f) = true)
    (h : wpAny (model prog w) A (call (.ref f) [.ref x, b]) (fun v s' => ∃ r, v = .bool r ∧ Q (.done (.ret (.bool (!r)))) s') E s) :
    wpAny (model prog w) A (Builtin.«object.__ne__» ⟨[.ref x, b], []⟩) Q E s := by
  unfold Builtin.«object.__ne__»
  repeat (first
    | with_reducible refine wpAny_cRoomFor hu ?_
    | (refine wpAny_bind (m := callSpecialIfBound? (.ref x) (Str.ofString "__eq__") [b])
        (PySem.W.ifBound_K X I hs hf (wpAny_mono h (fun r s' hr => by
          obtain ⟨b, rfl, hq⟩ := hr
          repeat (first | exact hq | exact wpAny_pure hq | exact wpAny_truthy_bool hq | (refine wpAny_bind (m := truthy (.bool _)) (wpAny_truthy_bool ?_)) | wp_step)) fun _ _ e => e)))
    | wp_step)
theorem rc_ne {h₀ : Heap} {L : Addr} {m : Str → Option Value} {Q : Value → Shared → Prop} (hu : A.units + 1 < cLine) (F0 : Fr h₀ L s.heap m) (X₀ : K.In h₀) (I : PySem.W.InstAt s.heap x ox C od) (hb : PySem.W.Looks (model prog w) s.heap (typeOf b) tb) (hn : PySem.W.notFirst K C tb = true)
    (hm : PySem.W.mroIn K C (.type "object") = some true) (hs : PySem.W.findIn K (.ref C) "__eq__" = some (some (.ref f))) (hf : PySem.W.isFn K (.ref f) = true) (hne : PySem.W.findIn K (.ref C) "__ne__" = some (some (.builtin "object.__ne__")))
    (h : wpAny (model prog w) A.in1 (call (.ref f) [.ref x, b]) (fun v s' => ∃ r, v = .bool r ∧ Q (.bool (!r)) s') E s) : wpAny (model prog w) A (richCompare .NotEq (.ref x) b) Q E s := by
  have X := X₀.keeps F0.keep
  have one : wpAny (model prog w) A (tryCompare (.ref x) "__ne__" b) (fun r s' => ∃ v, r = some v ∧ Q v s') E s := by
    unfold tryCompare
    refine wpAny_bind (ifBound_ne X I hne (wpAny_call (codeAny_call_builtin F.cmp_object.ne.plain F.cmpEntry_ne (PySem.W.check_slot F.cmpKind_ne F.cmpSplit_ne (I.type.andThen (PySem.W.looks_mroIn X hm)) (F.cmpArgs_ne _ _) ?_))))
    refine entry_ne (A := A.in1) X I hu hs hf (wpAny_mono h (fun v s' hv => ?_) fun _ _ e => e)
    obtain ⟨r, rfl, hq⟩ := hv
    first | exact ⟨r, rfl, wpAny_pure ⟨_, rfl, hq⟩⟩ | exact ⟨r, rfl, wpAny_pure (wpAny_pure ⟨_, rfl, hq⟩)⟩ | exact ⟨r, rfl, _, rfl, hq⟩
  simp only [richCompare, cmpInfo_NotEq, oneThing_ref]
  refine wpAny_holding (wpAny_bind (wpAny_cRoomFor (Nat.lt_of_succ_lt hu) ?_))
  refine wpAny_bind (I.type.here (wpAny_bind (hb.here ?_)))
  split
  · rename_i q
    have e : PySem.W.subIn K tb (.ref C) = some false := by
      rcases Bool.or_eq_true_iff.mp hn with e | e
      · rw [beq_iff_eq.mp e] at q; simp at q
      · exact beq_iff_eq.mp e
    refine wpAny_bind ((PySem.W.looks_subIn X e).here ?_)
    simp only [Bool.false_eq_true, if_false]
    refine wpAny_bind (wpAny_mono one (fun r s' z => ?_) fun _ _ e => e)
    obtain ⟨v, rfl, hq⟩ := z
    exact wpAny_pure hq
  · refine wpAny_bind (wpAny_pure ?_)
    simp only [Bool.false_eq_true, if_false]
    refine wpAny_bind (wpAny_mono one (fun r s' z => ?_) fun _ _ e => e)
    obtain ⟨v, rfl, hq⟩ := z
    exact wpAny_pure hq
end
end OwI
namespace OwI
open PySem PySem.Spec PyProof.Rows L2
/-- the kind of what an own __eq__ is held against -/
def OthK (K : PySem.W.Frag) (C : Addr) (H : Hp) (y : V) : Prop := ∃ b, y = .ref b ∧ ((∃ C' dy gs, H b = some (.ins C' dy gs) ∧ PySem.W.notFirst K C (.ref C') = true) ∨ (∃ xs, SqT K H b xs ∧ PySem.W.notFirst K C (.type "tuple") = true))
def rEqI (K : PySem.W.Frag) (C : Addr) (sp : Sp) (E : XK) : R2 := fun x y H Q => ∃ a dx fs, x = .ref a ∧ H a = some (.ins C dx fs) ∧ OthK K C H y ∧ sp [x, y] H (fun v H' => ∃ r, v = .bl r ∧ Q (.bl r) H') E
def rNeI (K : PySem.W.Frag) (C : Addr) (sp : Sp) (E : XK) : R2 := fun x y H Q => ∃ a dx fs, x = .ref a ∧ H a = some (.ins C dx fs) ∧ OthK K C H y ∧ sp [x, y] H (fun v H' => ∃ r, v = .bl r ∧ Q (.bl (!r)) H') E
/-- the class at C has its own __eq__, at g -/
structure EqI (K : PySem.W.Frag) (C g : Addr) : Prop where
  eq : PySem.W.findIn K (.ref C) "__eq__" = some (some (.ref g))
  fn : PySem.W.isFn K (.ref g) = true
  ne : PySem.W.findIn K (.ref C) "__ne__" = some (some (.builtin "object.__ne__"))
  mo : PySem.W.mroIn K C (.type "object") = some true
section
variable {X : Cx} {CX : CXT} {C g : Addr} {n : Nat} {fd : FuncData} {ps : List Str} {sp : Sp} {E : XK}
theorem oth_looks {pins : List (Addr × Obj)} {σ : L2.St} {H : Hp} {s : Shared} {y : V} {u : Value} (I : Inv X pins σ H s) (ry : RelV y u) (o : OthK X.K C H y) : ∃ tb, PySem.W.Looks (model X.prog X.w) s.heap (typeOf u) tb ∧ PySem.W.notFirst X.K C tb = true := by
  obtain ⟨b, rfl, h⟩ := o
  obtain rfl : u = Value.ref b := ry
  rcases h with ⟨C', dy, gs, hb, nf⟩ | ⟨xs, hb, nf⟩
  · obtain ⟨mA, O, _⟩ := ins_get I.hok hb
    obtain ⟨od, J, _⟩ := O.look
    exact ⟨_, J.type, nf⟩
  · obtain ⟨its, rv, p, hz⟩ := I.tuple hb
    obtain ⟨o, ho, hc, _⟩ := p
    exact ⟨_, fun A Q E s k q => wpAny_typeOf_ref (k _ _ ho) (by rw [hc]; exact q), nf⟩
theorem op_eqI (e : EqI X.K C g) (F : FnOk X.prog X.w X.K X.mg X.base CX n g fd ps sp) (hb : Binds X.K fd ps []) (hl : ps.length = 2) (hr : Room n X.A) (hx : Passes CX X E) : OpR X (compareOp .Eq) (rEqI X.K C sp E) := by
  intro pins s σ H x y v u Q I rx ry h
  obtain ⟨a, dx, fs, rfl, ha, ho, q⟩ := h
  cases (show v = Value.ref a from rx)
  obtain ⟨mA, O, _⟩ := ins_get I.hok ha
  obtain ⟨od, J, _⟩ := O.look
  obtain ⟨tb, J', hn⟩ := oth_looks I ry ho
  obtain ⟨m, hF⟩ := I.fr
  show wpAny _ _ (richCompare .Eq (.ref a) u) _ _ _
  refine PySem.W.cmp_K (op := .Eq) (tb := tb) hr.units0 hF I.ok.mod.kin J J' hn e.eq e.fn ?_
  refine wpAny_mono (run_fn (us := [.ref a, u]) (vs := [.ref a, y]) (dvs := []) (ds := []) F hr hb .nil hx I (.cons rfl (.cons ry .nil)) q) (fun w s' z => ?_) fun _ _ x => x
  obtain ⟨z', H', I', rz, r, rfl, qz⟩ := z
  exact SlX.cmpback rz ⟨.bl r, H', I', rz, qz⟩
theorem op_neI (e : EqI X.K C g) (F : FnOk X.prog X.w X.K X.mg X.base CX n g fd ps sp) (hb : Binds X.K fd ps []) (hr : Room (n + 1) X.A) (hx : Passes CX X E) : OpR X (compareOp .NotEq) (rNeI X.K C sp E) := by
  intro pins s σ H x y v u Q I rx ry h
  obtain ⟨a, dx, fs, rfl, ha, ho, q⟩ := h
  cases (show v = Value.ref a from rx)
  obtain ⟨mA, O, _⟩ := ins_get I.hok ha
  obtain ⟨od, J, _⟩ := O.look
  obtain ⟨tb, J', hn⟩ := oth_looks I ry ho
  obtain ⟨m, hF⟩ := I.fr
  show wpAny _ _ (richCompare .NotEq (.ref a) u) _ _ _
  refine rc_ne (by have := hr.un; omega) hF I.ok.mod.kin J J' hn e.mo e.eq e.fn e.ne ?_
  have rc := F.run X.A.in1 X.stack s H ⟨[.ref a, u], []⟩ [.ref a, u] [.ref a, y] _ E (Room.in1 hr) I.env0.in1 (by
    have z := hb s [.ref a, u] I.kIn (by
      have := F.len _ _ _ _ q
      rw [← this]
      rfl)
    simpa using z) (.cons rfl (.cons ry .nil)) q
  refine wpAny_call (codeAny_mono rc fun r s' hq => ?_)
  cases r with
  | error e => exact hx pins σ H s e s' I hq
  | ok fl =>
    cases fl with
    | ret u =>
      obtain ⟨z', H', I', rz, r, rfl, qz⟩ := I.after hq
      cases (show u = Value.bool r from rz)
      exact ⟨r, rfl, .bl (!r), H', I', rfl, qz⟩
    | next => exact False.elim hq
    | brk => exact False.elim hq
    | cont => exact False.elim hq
end
end OwI
set_option Elab.async false
set_option linter.all false
set_option maxRecDepth 100000
set_option maxHeartbeats 4000000
namespace RU
open PySem L2 L2H DQ K01
abbrev sRI : Stmt := inClass sRules 0
abbrev sREq : Stmt := inClass sRules 1
abbrev sWE : Stmt := inClass sRules 2
abbrev sWS : Stmt := inClass sRules 3
abbrev sOE : Stmt := inClass sRules 4
abbrev sOS : Stmt := inClass sRules 5
def isSeq : PyData → Bool | .list _ => true | .tuple _ => true | _ => false
def itemsD : PyData → List PyData | .list xs => xs | .tuple xs => xs | _ => []
def isRow (d : PyData) (lo hi : Int) : Bool := isSeq d && (decide (lo ≤ ((itemsD d).length : Int)) && decide (((itemsD d).length : Int) ≤ hi))
theorem kl (d : PyData) : kitB (tyN d) "list" = some (match d with | .list _ => true | _ => false) := by
  cases d
  · exact (by decide +kernel : kitB "NoneType" "list" = some false)
  · exact (by decide +kernel : kitB "bool" "list" = some false)
  · exact (by decide +kernel : kitB "int" "list" = some false)
  · exact (by decide +kernel : kitB "str" "list" = some false)
  · exact (by decide +kernel : kitB "list" "list" = some true)
  · exact (by decide +kernel : kitB "tuple" "list" = some false)
  · exact (by decide +kernel : kitB "dict" "list" = some false)
theorem kit_seq {K : PySem.W.Frag} (d : PyData) : PySem.W.kitAny K (.type (tyN d)) [.type "list", .type "tuple"] = some (isSeq d) := by
  refine kitAny_cons (kit_ty (kl d)) (fun h => kitAny_cons (kit_ty (kt d)) (fun h2 => ?_) fun h2 => ?_) fun h => ?_
  · cases d <;> first | rfl | exact Bool.noConfusion h2 | exact Bool.noConfusion h
  · cases d <;> first | rfl | exact Bool.noConfusion h2
  · cases d <;> first | rfl | exact Bool.noConfusion h
/-- data, or the empty tuple of the text -/
def Rw (K : PySem.W.Frag) (H : Hp) (v : V) (d : PyData) : Prop := Dq H v d ∨ ∃ (p : Addr) (ds : List PyData) (xs : List V), d = .tuple ds ∧ v = .ref p ∧ SqT K H p xs ∧ DqAll H xs ds
theorem sqT_same {K : PySem.W.Frag} {H H' : Hp} {a : Addr} {xs : List V} (h : SqT K H a xs) (s : Same H H') : SqT K H' a xs := sqt_same h s
theorem sqT_ty {K : PySem.W.Frag} {H : Hp} {a : Addr} {xs : List V} (h : SqT K H a xs) : TyX K H (.ref a) (.type "tuple") := by
  rcases h with h | ⟨o, its, n, e, c, _⟩
  · rcases h with h | ⟨o, h⟩
    · exact .base (.tup h)
    · exact .fTuple h
  · exact .kTuple e c
theorem Rw.same {K : PySem.W.Frag} {H H' : Hp} {v : V} {d : PyData} (h : Rw K H v d) (s : Same H H') : Rw K H' v d := h.elim (fun h => .inl (h.same s)) fun ⟨p, ds, xs, e1, e2, h1, h2⟩ => .inr ⟨p, ds, xs, e1, e2, sqt_same h1 s, h2.same s⟩
theorem Rw.ty {K : PySem.W.Frag} {H : Hp} {v : V} {d : PyData} (h : Rw K H v d) : TyX K H v (.type (tyN d)) := by
  rcases h with h | ⟨p, ds, xs, rfl, rfl, h, _⟩
  · exact h.ty
  · exact sqT_ty h
/-- its items, where it is a list or a tuple -/
theorem Rw.seq {K : PySem.W.Frag} {H : Hp} {v : V} {d : PyData} (h : Rw K H v d) (hs : isSeq d = true) : ∃ p xs, v = .ref p ∧ (SqL K H p xs ∨ SqT K H p xs) ∧ DqAll H xs (itemsD d) := by
  rcases h with h | ⟨p, ds, xs, rfl, rfl, h, a⟩
  · cases h with
    | lst e a => exact ⟨_, _, rfl, .inl (SqL.of e), a⟩
    | tup e a => exact ⟨_, _, rfl, .inr (SqT.of e), a⟩
    | _ => cases hs
  · exact ⟨p, xs, rfl, .inr h, a⟩
def spRow (K : PySem.W.Frag) : Sp := fun vs H Q _ => ∃ (v : V) (d : PyData) (lo hi : Int), vs = [v, .int lo, .int hi] ∧ Rw K H v d ∧ ∀ H', Same H H' → Q (.bl (isRow d lo hi)) H'
def numB (d : PyData) (many : Int) : Bool := match d with | .int i => decide (0 ≤ i) && decide (i < many) | _ => false
def spNum : Sp := fun vs H Q _ => ∃ (v : V) (d : PyData) (many : Int), vs = [v, .int many] ∧ Dq H v d ∧ ∀ H', Same H H' → Q (.bl (numB d many)) H'
def spWo (K : PySem.W.Frag) : Sp := fun vs H Q _ => ∃ (p : Addr) (j : Nat) (xs : List V) (ds : List PyData), vs = [.ref p, .int (j : Int)] ∧ SqT K H p xs ∧ DqAll H xs ds ∧ ds.length ≤ 100 ∧ ∀ p' xs' H', Same H H' → SqT K H' p' xs' → DqAll H' xs' (ds.take j ++ ds.drop (j + 1)) → Q (.ref p') H'
structure TR (mg : Str → Option Value) : Prop where
  isi : mg "isinstance" = none
  len : mg "len" = none
  list : mg "list" = none
  tuple : mg "tuple" = none
  int : mg "int" = none
  bool : mg "bool" = none
  enum : mg "enumerate" = none
theorem bintT : bootBuiltins ("int" : Str) = some (.type "int") := by decide +kernel
theorem bboolT : bootBuiltins ("bool" : Str) = some (.type "bool") := by decide +kernel
section
variable {P : Program} {w : World} {K : PySem.W.Frag} {mg : Str → Option Value} {base : Heap}
theorem scRow : FnScope ["thing", "least", "most"] ["thing", "least", "most"] (defScope sRow) := ⟨rfl, rfl, rfl, by decide +kernel, rfl, by decide +kernel, by decide +kernel⟩
theorem ok_row {f : Addr} {fd : FuncData} (F : Fun K "_is_row" "_is_row" sRow f fd) (T : TR mg) : FnOk P w K mg base CX0 1 f fd ["thing", "least", "most"] (spRow K) := by
  refine F.ok scRow (fun vs H Q E h => ?_) (fun cdv A outer s H vs Q E hr h => ?_)
  · obtain ⟨v, d, lo, hi, rfl, _⟩ := h
    rfl
  · obtain ⟨v, d, lo, hi, rfl, hd, k⟩ := h
    refine ⟨_, pss_one (ps_ret (pe_and (pe_callB call_isiT (by rfl) T.isi bisi (pa_cons (pv 0) (pa_cons (pe_tup (pa_cons (pe_bltn (v := .ty "list") (by rfl) T.list blist rfl) (pa_cons (pe_bltn (v := .ty "tuple") (by rfl) T.tuple btup rfl) pa_nil))) pa_nil)))
      (pe_one (pe_chain op_le op_le (pv 1) (pe_callB call_len_seq (by rfl) T.len PySem.boot_len (pa_cons (pv 0) pa_nil)) (pv 2))))), ?_⟩
    refine ⟨_, rfl, by show 2 ≤ sizeLine; decide, fun p np => ?_⟩
    have s1 := same_new (o := .tup [.ty "list", .ty "tuple"]) np
    have hd1 := hd.same s1
    refine ⟨v, p, _, _, [.type "list", .type "tuple"], isSeq d, rfl, upd_same, .cons (.ty _) (.cons (.ty _) .nil), hd1.ty, kit_seq d, _, rfl, ?_⟩
    cases hs : isSeq d with
    | false =>
      refine iteF ?_
      have z := k _ s1
      unfold isRow at z
      rw [hs] at z
      exact z
    | true =>
      obtain ⟨q, xs, rfl, hq, a⟩ := hd1.seq hs
      have z := k _ s1
      unfold isRow at z
      rw [hs, Bool.true_and, ← a.len] at z
      refine iteT ⟨_, rfl, _, rfl, q, xs, rfl, hq, _, _, rfl, rfl, _, rfl, ?_⟩
      cases h1 : decide (lo ≤ (xs.length : Int)) with
      | false =>
        rw [h1] at z
        exact iteF z
      | true =>
        rw [h1] at z
        exact iteT ⟨_, rfl, _, _, rfl, rfl, z⟩
end
end RU
set_option Elab.async false
set_option linter.all false
set_option maxRecDepth 100000
set_option maxHeartbeats 4000000
namespace RU
open PySem L2 L2H DQ K01
/-- slices and sums of tuples, wherever they stand -/
def rSlG (K : PySem.W.Frag) : V → Option Int → Option Int → Hp → VK → Prop := fun x lo hi H Q => ∃ a xs, x = .ref a ∧ SqT K H a xs ∧ ∀ p H', Same H H' → SqT K H' p (cutV xs lo hi) → Q (.ref p) H'
theorem sl_tupG {X : Cx} : SlR X (rSlG X.K) := by
  intro pins s σ H x v vl vu lo hi sl Q I rx hs pl pu h
  obtain ⟨a, xs, rfl, sq, g⟩ := h
  refine sl_tupA pins s σ H _ v vl vu lo hi sl Q I rx hs pl pu ⟨a, xs, rfl, sq, fun wh => g a H same_refl ?_, fun _ p np => g p _ (same_new np) (SqT.of upd_same)⟩
  have z : cutV xs lo hi = xs := by
    unfold cutV
    rw [wh.1, wh.2, List.drop_zero, Nat.sub_zero, List.take_length]
  rw [z]
  exact sq
def rCatG (K : PySem.W.Frag) : R2 := fun x y H Q => ∃ a b xs ys, x = .ref a ∧ y = .ref b ∧ SqT K H a xs ∧ SqT K H b ys ∧ xs.length + ys.length ≤ sizeLine ∧ ∀ p H', Same H H' → SqT K H' p (xs ++ ys) → Q (.ref p) H'
theorem op_catG {X : Cx} : OpR X (binaryOp .Add) (rCatG X.K) := by
  intro pins s σ H x y v u Q I rx ry h
  obtain ⟨a, b, xs, ys, rfl, rfl, ha, hb, hz, g⟩ := h
  refine op_catA pins s σ H _ _ v u Q I rx ry ⟨a, b, xs, ys, rfl, rfl, ha, hb, hz, fun hx => g b H same_refl ?_, fun _ hy => g a H same_refl ?_, fun _ _ p np => g p _ (same_new np) (SqT.of upd_same)⟩
  · rw [hx]
    exact hb
  · rw [hy, List.append_nil]
    exact ha
section
variable {P : Program} {w : World} {K : PySem.W.Frag} {mg : Str → Option Value} {base : Heap}
end
end RU
set_option Elab.async false
set_option linter.all false
set_option maxRecDepth 100000
set_option maxHeartbeats 4000000
namespace RU
open PySem L2 L2H DQ K01 EnT
open XH hiding same_refl same_trans same_new
/-! data stays where only instances are written -/
def KpI (H H' : Hp) : Prop := ∀ b o, H b = some o → (∀ C dx fs, o ≠ .ins C dx fs) → H' b = some o
theorem KpI.of {H H' : Hp} (s : Same H H') : KpI H H' := fun b o e _ => s _ _ e
theorem KpI.trans {H H' H'' : Hp} (a : KpI H H') (b : KpI H' H'') : KpI H H'' := fun x o e n => b x o (a x o e n) n
theorem KpI.put {H : Hp} {a C dx : Addr} {fs : List (Str × V)} {o : HO} (h : H a = some (.ins C dx fs)) : KpI H (upd H a o) := fun b u e n => by
  rw [upd_ne fun z => by rw [z, h] at e; exact n _ _ _ (Option.some.inj e).symm]
  exact e
mutual
theorem _root_.DQ.Dq.ins {H H' : Hp} (s : KpI H H') : ∀ {v : V} {d : PyData}, Dq H v d → Dq H' v d
  | _, _, .non => .non
  | _, _, .bl b => .bl b
  | _, _, .int i => .int i
  | _, _, .str x hx => .str x hx
  | _, _, .lst e a => .lst (s _ _ e (fun _ _ _ z => by cases z)) (a.ins s)
  | _, _, .tup e a => .tup (s _ _ e (fun _ _ _ z => by cases z)) (a.ins s)
  | _, _, .dic e => .dic (s _ _ e (fun _ _ _ z => by cases z))
theorem _root_.DQ.DqAll.ins {H H' : Hp} (s : KpI H H') : ∀ {vs : List V} {ds : List PyData}, DqAll H vs ds → DqAll H' vs ds
  | _, _, .nil => .nil
  | _, _, .cons a b => .cons (a.ins s) (b.ins s)
end
theorem sqT_ins {K : PySem.W.Frag} {H H' : Hp} {a : Addr} {xs : List V} (h : SqT K H a xs) (s : KpI H H') : SqT K H' a xs := by
  rcases h with h | h
  · refine .inl ?_
    rcases h with h | ⟨o, h⟩
    · exact .inl (s _ _ h fun _ _ _ z => by cases z)
    · exact .inr ⟨o, s _ _ h fun _ _ _ z => by cases z⟩
  · exact .inr h
theorem sqL_ins {K : PySem.W.Frag} {H H' : Hp} {a : Addr} {xs : List V} (h : SqL K H a xs) (s : KpI H H') : SqL K H' a xs := by
  rcases h with h | h
  · refine .inl ?_
    rcases h with h | ⟨o, h⟩
    · exact .inl (s _ _ h fun _ _ _ z => by cases z)
    · exact .inr ⟨o, s _ _ h fun _ _ _ z => by cases z⟩
  · exact .inr h
theorem tuple_any {K : PySem.W.Frag} {H : Hp} {p0 : Addr} {ys : List V} {Q : VK} (hq : SqL K H p0 ys ∨ SqT K H p0 ys) (k : ∀ q H', Same H H' → SqT K H' q ys → Q (.ref q) H') :
    ∃ p ys', [V.ref p0] = [V.ref p] ∧ ((SqL K H p ys' ∧ ∀ l, H l = none → Q (.ref l) (upd H l (.tup ys'))) ∨ (SqT K H p ys' ∧ Q (.ref p) H)) := by
  refine ⟨p0, ys, rfl, ?_⟩
  rcases hq with hq | hq
  · exact .inl ⟨hq, fun l nl => k l _ (same_new nl) (SqT.of upd_same)⟩
  · exact .inr ⟨hq, k p0 H same_refl hq⟩
theorem tuple_te {K : PySem.W.Frag} {ta : TA} {σ : L2.St} {H : Hp} {p0 : Addr} {ys : List V} {Q : VK} (h : ∀ Q' : List V → Hp → Prop, Q' [V.ref p0] H → ta σ H Q') (hq : SqL K H p0 ys ∨ SqT K H p0 ys) (k : ∀ q H', Same H H' → SqT K H' q ys → Q (.ref q) H') :
    tCB (fun xs H Q => ∃ p ys, xs = [.ref p] ∧ ((SqL K H p ys ∧ ∀ l, H l = none → Q (.ref l) (upd H l (.tup ys))) ∨ (SqT K H p ys ∧ Q (.ref p) H))) ta σ H Q := h _ (tuple_any hq k)
/-- a Rules of the class at C: its ends, its steps -/
def RulesAt (K : PySem.W.Frag) (H : Hp) (a C : Addr) (es ss : List PyData) : Prop := ∃ dx pe ps xs ys, H a = some (.ins C dx [("ends", .ref pe), ("steps", .ref ps)]) ∧ SqT K H pe xs ∧ DqAll H xs es ∧ SqT K H ps ys ∧ DqAll H ys ss
theorem RulesAt.same {K : PySem.W.Frag} {H H' : Hp} {a C : Addr} {es ss : List PyData} (r : RulesAt K H a C es ss) (s : Same H H') : RulesAt K H' a C es ss := by
  obtain ⟨dx, pe, ps, xs, ys, h1, h2, h3, h4, h5⟩ := r
  exact ⟨dx, pe, ps, xs, ys, s _ _ h1, sqt_same h2 s, h3.same s, sqt_same h4 s, h5.same s⟩
def firstBad (c : Int) (ds : List PyData) : Option Nat := ds.findIdx? fun d => !shape c d
/-- what Rules(de, ds) makes: the place of what is wrong, or the ends and the steps -/
def dueR (de ds : PyData) : PyData ⊕ (List PyData × List PyData) :=
  if (isRow de 1 3 && isRow ds 0 3) = true then
    match firstBad 0 (itemsD de) with
    | some i => .inl (.tuple [.str "end", .int (i : Int)])
    | none => match firstBad 1 (itemsD ds) with
      | some j => .inl (.tuple [.str "step", .int (j : Int)])
      | none => .inr (itemsD de, itemsD ds)
  else .inl .none
theorem bad_at {c : Int} {ds : List PyData} {i : Nat} {d : PyData} (hn : ∀ (k : Nat) (e : PyData), k < i → ds[k]? = some e → shape c e = true) (hd : ds[i]? = some d) (hb : shape c d = false) : firstBad c ds = some i := by
  unfold firstBad
  induction ds generalizing i with
  | nil => cases hd
  | cons x ds ih =>
    rw [List.findIdx?_cons]
    cases i with
    | zero =>
      cases hd
      rw [hb]
      rfl
    | succ i =>
      rw [hn 0 x (by omega) rfl, ih (i := i) (fun k e hk he => hn (k + 1) e (by omega) he) hd]
      rfl
theorem bad_none {c : Int} {ds : List PyData} (hn : ∀ (k : Nat) (e : PyData), ds[k]? = some e → shape c e = true) : firstBad c ds = none := by
  unfold firstBad
  rw [List.findIdx?_eq_none_iff]
  intro x hx
  obtain ⟨k, hk, e⟩ := List.mem_iff_getElem.mp hx
  rw [hn k x (by rw [List.getElem?_eq_getElem hk, e])]
  rfl
theorem two_fields (a b : V) : putF "steps" b (putF "ends" a []) = [(("ends" : Str), a), (("steps" : Str), b)] := by
  have z : ¬ (("ends" : Str) = "steps") := by decide +kernel
  simp [putF, z]
/-- E is asked: a BadRules of such a place -/
def OutB (H : Hp) (E : XK) (CB : Addr) (f : Str) (pl : PyData) : Prop := ∀ (d : Addr) (v : V) (H' : Hp), Same H H' → H' d = some (.xd [(f, v)]) → Dq H' v pl → E (.ref CB) (some d) H'
def spRI (K : PySem.W.Frag) (C CB : Addr) : Sp := fun vs H Q E => ∃ (x dx : Addr) (ve vs' : V) (de ds : PyData), vs = [.ref x, ve, vs'] ∧ H x = some (.ins C dx []) ∧ Rw K H ve de ∧ Rw K H vs' ds ∧
  (∀ pl, dueR de ds = .inl pl → OutB H E CB "place" pl) ∧
  (∀ es ss, dueR de ds = .inr (es, ss) → ∀ H', KpI H H' → (∀ b o, b ≠ x → H b = some o → H' b = some o) → RulesAt K H' x C es ss → Q .non H')
/-- an own error class that keeps one field -/
structure ExF (P : Program) (K : PySem.W.Frag) (mg : Str → Option Value) (x f : Str) (C : Addr) : Prop where
  ex : ∃ fI fd qn B newId initId bmB, ExT P K mg C fI fd f qn B newId initId bmB
  r : ExR K C f
  g : mg x = some (.ref C)
  k : PySem.W.keepIn K (.ref C) = true
theorem i_enumA {K : PySem.W.Frag} {ta : TA} {σ : L2.St} {H : Hp} {R : It → Hp → Prop} {a : Addr} {xs : List V} (h : ∀ Q : List V → Hp → Prop, Q [V.ref a] H → ta σ H Q) (hq : SqL K H a xs ∨ SqT K H a xs)
    (k : ∀ (J : It) (G : Hp → Prop), Walk J xs.length G (YPair (fun i => some (.int (i : Nat))) (fun i => xs[i]?)) → (∀ H', Same H H' → G H') → R J H) : iEnumA K ta σ H R := by
  refine h _ ⟨a, xs, rfl, ?_⟩
  rcases hq with hq | hq
  · exact .inl ⟨hq, k _ _ walk_enum fun H' s => s.seq hq⟩
  · exact .inr ⟨hq, k _ _ walk_enumT fun H' s => sqt_same hq s⟩
theorem nx_go {D : Ends} {σ : L2.St} {H : Hp} (h : D.nx σ H) : tNext D σ H := h
theorem for_enum {K : PySem.W.Frag} {ta : TA} {g : TG} {tb : TS} {D : Ends} {σ : L2.St} {H : Hp} {a : Addr} {xs : List V} (h : ∀ Q : List V → Hp → Prop, Q [V.ref a] H → ta σ H Q) (hq : SqL K H a xs ∨ SqT K H a xs)
    (k : ∀ (J : It) (G : Hp → Prop), Walk J xs.length G (YPair (fun i => some (.int (i : Nat))) (fun i => xs[i]?)) → (∀ H', Same H H' → G H') →
      ∃ W : Nat → Nat → L2.St → Hp → Prop, (∃ m, W 0 m σ H) ∧ ∀ i m σ H, W i m σ H →
        (J.stop i H ∧ D.nx σ H) ∨ (J.go i H ∧ ∃ N : L2.St → Hp → Prop, (∀ σ' H', N σ' H' → ∃ m', m' < m ∧ W (i + 1) m' σ' H') ∧ ∀ x H', J.yld i H x H' → g x σ H' fun σ2 H2 => tb { D with nx := N, ct := N, bk := D.nx } σ2 H2)) :
    tFor (iEnumA K ta) g tb D σ H := by
  unfold tFor
  exact i_enumA h hq k
structure TI3 (mg : Str → Option Value) : Prop where
  tr : TR mg
  e3 : ∃ t, mg "MOST_ENDS" = some (.int 3 t)
  s3 : ∃ t, mg "MOST_STEPS" = some (.int 3 t)
abbrev nRI : List Str := ["self", "ends", "steps", "number", "end", "step"]
section
variable {P : Program} {w : World} {K : PySem.W.Frag} {mg : Str → Option Value} {base : Heap}
theorem scRI : FnScope nRI ["self", "ends", "steps"] (defScope sRI) := ⟨rfl, rfl, rfl, by decide +kernel, rfl, by decide +kernel, by decide +kernel⟩
theorem ok_ri {f fR fT fB C CB : Addr} {fd dR dT dB : FuncData} {dvs : List V} {kws : List (Str × V)} (F : FunD K "__init__" "Rules.__init__" (defArgs sRI) (defBody sRI) (defScope sRI) dvs kws f fd)
    (FR : Fun K "_is_row" "_is_row" sRow fR dR) (bR : Binds K dR ["thing", "least", "most"] []) (gR : mg "_is_row" = some (.ref fR))
    (FT : Fun K "is_tree" "is_tree" sTr fT dT) (bT : Binds K dT ["thing"] []) (gT : mg "is_tree" = some (.ref fT)) (GT : FnOk P w K mg base CX0 11 fT dT ["thing"] (spB (shape 0)))
    (FB : Fun K "is_body" "is_body" sBo fB dB) (bB : Binds K dB ["thing"] []) (gB : mg "is_body" = some (.ref fB)) (GB : FnOk P w K mg base CX0 11 fB dB ["thing"] (spB (shape 1)))
    (T : TI3 mg) (X : ExF P K mg "BadRules" "place" CB) (cl : Cls K C) (n1 : NoAttr K C "ends") (n2 : NoAttr K C "steps") :
    FnOk P w K mg base (L2.CX P w) 12 f fd ["self", "ends", "steps"] (spRI K C CB) := by
  have GR : FnOk P w K mg base CX0 1 fR dR ["thing", "least", "most"] (spRow K) := ok_row FR T.tr
  obtain ⟨t3, g3⟩ := T.e3
  obtain ⟨t4, g4⟩ := T.s3
  obtain ⟨fI, fdI, qn, B, newId, initId, bmB, XT⟩ := X.ex
  refine F.ok (k := 11) scRI (fun vs H Q E h => ?_) (fun cdv A outer s H vs Q E hr h => ?_)
  · obtain ⟨x, dx, ve, vs', de, ds, rfl, _⟩ := h
    rfl
  · obtain ⟨x, dx, ve, vs', de, ds, rfl, hx, he, hs, hbad, hok⟩ := h
    have dp : (A.deeper (PyProof.Rows.envOfC "Rules.__init__" (defScope sRI) s.heap.objs.size f cdv)).depth + 1 < recursionLimit := by have := hr.dp; omega
    refine ⟨_, pss_cons (ps_if (PW.pt (pw_or (pt_not (pt_val (pe_call GR (hr.mono (by decide)) (by rfl) gR FR.kp bR .nil pass0 (pa_cons (pv 1) (pa_cons pe_int (pa_cons (pe_glob (v := .int 3) (by rfl) g3 ⟨_, rfl⟩) pa_nil)))))) (pw_or1 (pt_not (pt_val (pe_call GR (hr.mono (by decide)) (by rfl) gR FR.kp bR .nil pass0 (pa_cons (pv 2) (pa_cons pe_int (pa_cons (pe_glob (v := .int 3) (by rfl) g4 ⟨_, rfl⟩) pa_nil)))))))))
        (pss_one (ps_raise rfl (takes_of rfl rfl rfl rfl) (pmk_xp XT X.r dp X.g X.k (by rfl) pe_non))) pss_nil)
      (pss_cons (ps_for (passes_of rfl) rfl (pi_enumA (by rfl) T.tr.enum (pa_cons (pv 1) pa_nil)) (pg_tup (n := 2) rfl (pgs_cons (pg_name (i := 3) scRI.nd rfl (Or.inl rfl)) (pgs_cons (pg_name (i := 4) scRI.nd rfl (Or.inl rfl)) pgs_nil)))
        (pss_one (ps_if (pt_not (pt_val (pe_call GT hr (by rfl) gT FT.kp bT .nil pass0 (pa_cons (pv 4) pa_nil)))) (pss_one (ps_raise rfl (takes_of rfl rfl rfl rfl) (pmk_xp XT X.r dp X.g X.k (by rfl) (pe_tup (pa_cons pe_str (pa_cons (pv 3) pa_nil)))))) pss_nil)))
      (pss_cons (ps_for (passes_of rfl) rfl (pi_enumA (by rfl) T.tr.enum (pa_cons (pv 2) pa_nil)) (pg_tup (n := 2) rfl (pgs_cons (pg_name (i := 3) scRI.nd rfl (Or.inl rfl)) (pgs_cons (pg_name (i := 5) scRI.nd rfl (Or.inl rfl)) pgs_nil)))
        (pss_one (ps_if (pt_not (pt_val (pe_call GB hr (by rfl) gB FB.kp bB .nil pass0 (pa_cons (pv 5) pa_nil)))) (pss_one (ps_raise rfl (takes_of rfl rfl rfl rfl) (pmk_xp XT X.r dp X.g X.k (by rfl) (pe_tup (pa_cons pe_str (pa_cons (pv 3) pa_nil)))))) pss_nil)))
      (pss_cons (ps_fld (pv 0) (pe_callTy call_tuple_of (by rfl) T.tr.tuple btup (pa_cons (pv 1) pa_nil)) rfl)
      (pss_one (ps_fld (pv 0) (pe_callTy call_tuple_of (by rfl) T.tr.tuple btup (pa_cons (pv 2) pa_nil)) rfl))))), ?_⟩
    have low : ∀ {H1 : Hp} {pl : PyData} {v : V}, Same H H1 → dueR de ds = .inl pl → Dq H1 v pl → ∀ d, H1 d = none → E (.ref CB) (some d) (upd H1 d (.xd [("place", v)])) := fun {H1 pl v} s1 hd q d nd =>
      hbad pl hd d v _ (same_trans s1 (same_new nd)) upd_same (q.same (same_new nd))
    refine ⟨_, rfl, ve, de, 1, 3, rfl, he, fun H1 s1 => ⟨_, rfl, ?_⟩⟩
    cases h1 : isRow de 1 3 with
    | false => exact iteT (iteT (low s1 (by unfold dueR; rw [h1]; rfl) .non))
    | true =>
    refine iteF ⟨_, rfl, vs', ds, 0, 3, rfl, hs.same s1, fun H2 s2 => ⟨_, rfl, ?_⟩⟩
    cases h2 : isRow ds 0 3 with
    | false => exact iteT (low (same_trans s1 s2) (by unfold dueR; rw [h1, h2]; rfl) .non)
    | true =>
    refine iteF ?_
    have du : dueR de ds = match firstBad 0 (itemsD de) with
        | some i => .inl (.tuple [.str "end", .int (i : Int)])
        | none => match firstBad 1 (itemsD ds) with
          | some j => .inl (.tuple [.str "step", .int (j : Int)])
          | none => .inr (itemsD de, itemsD ds) := by
      unfold dueR
      rw [h1, h2]
      rfl
    have s12 := same_trans s1 s2
    obtain ⟨pe, xs, rfl, hqe, ae⟩ := (he.same s12).seq (by unfold isRow at h1; exact (Bool.and_eq_true_iff.mp h1).1)
    obtain ⟨ps, ys, rfl, hqs, as⟩ := (hs.same s12).seq (by unfold isRow at h2; exact (Bool.and_eq_true_iff.mp h2).1)
    have hx2 := s12 _ _ hx
    refine nx_go ?_
    dsimp only
    unfold tSeq
    refine for_enum (fun Q q => ⟨_, rfl, q⟩) hqe fun J G w hG => ?_
    refine for_it w (fun i σ' H' => ∃ w3 w4, σ' = [some (.ref x), some (.ref pe), some (.ref ps), w3, w4, none] ∧ Same H2 H' ∧ ∀ (k : Nat) (d : PyData), k < i → (itemsD de)[k]? = some d → shape 0 d = true) ⟨_, _, rfl, same_refl, fun k d hk => absurd hk (Nat.not_lt_zero _)⟩ (fun i σ' H' _ ⟨_, _, _, s, _⟩ => hG H' s) ?_ ?_
    · rintro i y σ' H3 H4 hi ⟨w3, w4, rfl, s3, hall⟩ ⟨Tt, u, z, rfl, nT, rfl, hu, hz⟩
      obtain rfl : u = V.int (i : Nat) := (Option.some.inj hu).symm
      have lx := ae.len
      obtain ⟨d, hd⟩ : ∃ d, (itemsD de)[i]? = some d := ⟨_, List.getElem?_eq_getElem (by omega)⟩
      obtain ⟨z', hz', qz⟩ := ae.at hd
      replace hz : xs[i]? = some z := hz
      rw [hz] at hz'
      obtain rfl : z = z' := Option.some.inj hz'
      have s4 := same_trans s3 (same_new (o := .tup [.int (i : Nat), z]) nT)
      refine ⟨Tt, _, rfl, SqT.of upd_same, rfl, _, _, rfl, _, _, rfl, rfl, ?_⟩
      refine ⟨_, rfl, z, d, rfl, qz.same s4, fun H5 s5 => ⟨_, rfl, ?_⟩⟩
      cases hb : shape 0 d with
      | false =>
        refine iteT ⟨_, rfl, by show 2 ≤ sizeLine; decide, fun p np => ?_⟩
        refine low (same_trans s12 (same_trans s4 (same_trans s5 (same_new np)))) (pl := .tuple [.str "end", .int (i : Int)]) (by rw [du, bad_at hall hd hb]) ?_
        exact .tup upd_same (.cons (.str _ (by decide +kernel)) (.cons (.int _) .nil))
      | true =>
        refine iteF ⟨_, _, rfl, same_trans s4 s5, fun k e hk he' => ?_⟩
        by_cases hki : k = i
        · subst hki
          rw [hd] at he'
          cases he'
          exact hb
        · exact hall k e (by omega) he'
    rintro σ' H3 ⟨w3, w4, rfl, s3, hall⟩
    have g0 : firstBad 0 (itemsD de) = none := bad_none fun k e he' => hall k e (by rw [ae.len]; exact (List.getElem?_eq_some_iff.mp he').1) he'
    rw [g0] at du
    dsimp only at du
    have s13 := same_trans s12 s3
    dsimp only
    refine for_enum (fun Q q => ⟨_, rfl, q⟩) (hqs.elim (fun h => .inl (s3.seq h)) fun h => .inr (sqt_same h s3)) fun J G w hG => ?_
    refine for_it w (fun i σ' H' => ∃ w3 w5, σ' = [some (.ref x), some (.ref pe), some (.ref ps), w3, w4, w5] ∧ Same H3 H' ∧ ∀ (k : Nat) (d : PyData), k < i → (itemsD ds)[k]? = some d → shape 1 d = true) ⟨_, _, rfl, same_refl, fun k d hk => absurd hk (Nat.not_lt_zero _)⟩ (fun i σ' H' _ ⟨_, _, _, s, _⟩ => hG H' s) ?_ ?_
    · rintro i y σ' H4 H5 hi ⟨w3, w5, rfl, s4, hall2⟩ ⟨Tt, u, z, rfl, nT, rfl, hu, hz⟩
      obtain rfl : u = V.int (i : Nat) := (Option.some.inj hu).symm
      have lx := as.len
      obtain ⟨d, hd⟩ : ∃ d, (itemsD ds)[i]? = some d := ⟨_, List.getElem?_eq_getElem (by omega)⟩
      obtain ⟨z', hz', qz⟩ := as.at hd
      replace hz : ys[i]? = some z := hz
      rw [hz] at hz'
      obtain rfl : z = z' := Option.some.inj hz'
      have s5 := same_trans s4 (same_new (o := .tup [.int (i : Nat), z]) nT)
      refine ⟨Tt, _, rfl, SqT.of upd_same, rfl, _, _, rfl, _, _, rfl, rfl, ?_⟩
      refine ⟨_, rfl, z, d, rfl, qz.same (same_trans s3 s5), fun H6 s6 => ⟨_, rfl, ?_⟩⟩
      cases hb : shape 1 d with
      | false =>
        refine iteT ⟨_, rfl, by show 2 ≤ sizeLine; decide, fun p np => ?_⟩
        refine low (same_trans s13 (same_trans s5 (same_trans s6 (same_new np)))) (pl := .tuple [.str "step", .int (i : Int)]) (by rw [du, bad_at hall2 hd hb]) ?_
        exact .tup upd_same (.cons (.str _ (by decide +kernel)) (.cons (.int _) .nil))
      | true =>
        refine iteF ⟨_, _, rfl, same_trans s5 s6, fun k e hk he' => ?_⟩
        by_cases hki : k = i
        · subst hki
          rw [hd] at he'
          cases he'
          exact hb
        · exact hall2 k e (by omega) he'
    rintro σ' H4 ⟨w3', w5, rfl, s4, hall2⟩
    have g1 : firstBad 1 (itemsD ds) = none := bad_none fun k e he' => hall2 k e (by rw [as.len]; exact (List.getElem?_eq_some_iff.mp he').1) he'
    rw [g1] at du
    dsimp only at du
    have s14 := same_trans s13 s4
    dsimp only
    refine tuple_te (fun Q' q => ⟨_, rfl, q⟩) (hqe.elim (fun h => .inl ((same_trans s3 s4).seq h)) fun h => .inr (sqt_same h (same_trans s3 s4))) fun q1 H5 s5 e5 => ?_
    have hx5 := s5 _ _ (s14 _ _ hx)
    refine ⟨_, rfl, x, C, dx, [], rfl, hx5, cl, n1, by decide, ?_⟩
    have k6 : KpI H5 (upd H5 x (.ins C dx (putF "ends" (.ref q1) []))) := KpI.put hx5
    have hx6 : upd H5 x (.ins C dx (putF "ends" (.ref q1) [])) x = some (.ins C dx (putF "ends" (.ref q1) [])) := upd_same
    have o6 : ∀ b o, b ≠ x → H b = some o → upd H5 x (.ins C dx (putF "ends" (.ref q1) [])) b = some o := fun b o hb e => by
      rw [upd_ne hb]
      exact s5 _ _ (s14 _ _ e)
    have e6 := sqT_ins e5 k6
    have a6 := ((ae.same (same_trans s3 (same_trans s4 s5)))).ins k6
    have t6 := (as.same (same_trans s3 (same_trans s4 s5))).ins k6
    have q6 := hqs.elim (fun h => Or.inl (sqL_ins ((same_trans s3 (same_trans s4 s5)).seq h) k6)) fun h => Or.inr (sqT_ins (sqt_same h (same_trans s3 (same_trans s4 s5))) k6)
    have kk6 : KpI H (upd H5 x (.ins C dx (putF "ends" (.ref q1) []))) := (KpI.of (same_trans s14 s5)).trans k6
    generalize upd H5 x (HO.ins C dx (putF "ends" (V.ref q1) [])) = H6 at k6 hx6 o6 e6 a6 t6 q6 kk6
    dsimp only
    refine tuple_te (fun Q' q => ⟨_, rfl, q⟩) q6 fun q2 H7 s7 e7 => ?_
    refine ⟨_, rfl, x, C, dx, _, rfl, s7 _ _ hx6, cl, n2, by show 1 < 1000; decide, ?_⟩
    have k8 : KpI H7 (upd H7 x (.ins C dx (putF "steps" (.ref q2) (putF "ends" (.ref q1) [])))) := KpI.put (s7 _ _ hx6)
    refine hok _ _ du _ ((kk6.trans (KpI.of s7)).trans k8) (fun b o hb e => ?_) ⟨dx, q1, q2, xs, ys, ?_, sqT_ins (sqt_same e6 s7) k8, (a6.same s7).ins k8, sqT_ins e7 k8, (t6.same s7).ins k8⟩
    · rw [upd_ne hb]
      exact s7 _ _ (o6 b o hb e)
    · rw [two_fields]
      exact upd_same
end
end RU
set_option Elab.async false
set_option linter.all false
set_option maxRecDepth 100000
set_option maxHeartbeats 4000000
namespace RU
open PySem L2 L2H DQ K01 EnT
open XH hiding same_refl same_trans same_new
theorem OutB.same {H H' : Hp} {E : XK} {CB : Addr} {f : Str} {pl : PyData} (o : OutB H E CB f pl) (s : Same H H') : OutB H' E CB f pl := fun d v H'' s' e q => o d v H'' (same_trans s s') e q
theorem OutB.raise {H : Hp} {E : XK} {CB : Addr} {f : Str} {pl : PyData} {v : V} (o : OutB H E CB f pl) (q : Dq H v pl) : ∀ d, H d = none → E (.ref CB) (some d) (upd H d (.xd [(f, v)])) := fun d nd => o d v _ (same_new nd) upd_same (q.same (same_new nd))
/-- what a Rules(ve, vs') asks of its making -/
theorem make_ok {K : PySem.W.Frag} {C CB : Addr} {ve vs' : V} {de ds : PyData} {H : Hp} {Q : VK} {E : XK} (he : Rw K H ve de) (hs : Rw K H vs' ds) (bad : ∀ pl, dueR de ds = .inl pl → OutB H E CB "place" pl)
    (ok : ∀ es ss, dueR de ds = .inr (es, ss) → ∀ b H', Same H H' → H b = none → RulesAt K H' b C es ss → Q (.ref b) H') :
    ∀ x dx, H x = none → H dx = none → dx ≠ x → spRI K C CB [.ref x, ve, vs'] (upd (upd H dx (.own x)) x (.ins C dx [])) (fun v H2 => v = .non ∧ Q (.ref x) H2) E := by
  intro x dx hx hdx ne
  have sA : Same H (upd (upd H dx (.own x)) x (.ins C dx [])) := same_trans (same_new hdx) (same_new (by rw [upd_ne (Ne.symm ne)]; exact hx))
  refine ⟨x, dx, ve, vs', de, ds, rfl, upd_same, he.same sA, hs.same sA, fun pl h => (bad pl h).same sA, fun es ss h H' k o r => ⟨rfl, ok es ss h x H' (fun b u e => ?_) hx r⟩⟩
  have nb : b ≠ x := fun z => by rw [z, hx] at e; cases e
  exact o b u nb (sA b u e)
/-- the class Rules, as the text's written part tells it -/
structure RCl (K : PySem.W.Frag) (mg : Str → Option Value) (C fI : Addr) : Prop where
  g : mg "Rules" = some (.ref C)
  cl : Cls K C
  mkc : Mk K C fI
  n1 : NoAttr K C "ends"
  n2 : NoAttr K C "steps"
theorem RulesAt.inst {K : PySem.W.Frag} {H : Hp} {a C : Addr} {es ss : List PyData} (r : RulesAt K H a C es ss) : ∃ dx fs, H a = some (.ins C dx fs) := let ⟨dx, _, _, _, _, h, _⟩ := r; ⟨dx, _, h⟩
theorem lk_e (a b : V) : List.lookup ("ends" : Str) [(("ends" : Str), a), (("steps" : Str), b)] = some a := by simp [List.lookup]
theorem lk_s (a b : V) : List.lookup ("steps" : Str) [(("ends" : Str), a), (("steps" : Str), b)] = some b := by
  have z : (("steps" : Str) == ("ends" : Str)) = false := by decide +kernel
  simp [List.lookup, z]
section
variable {P : Program} {w : World} {K : PySem.W.Frag} {mg : Str → Option Value} {base : Heap}
end
end RU
set_option Elab.async false
set_option linter.all false
set_option maxRecDepth 100000
set_option maxHeartbeats 4000000
namespace RU
open PySem L2 L2H DQ K01 EnT OwI
open XH hiding same_refl same_trans same_new
mutual
theorem _root_.DQ.Dq.dp {K : PySem.W.Frag} {H : Hp} : ∀ {v : V} {d : PyData}, d.canLay0 = true → Dq H v d → Dp K H v d
  | _, _, _, .non => .non
  | _, _, _, .bl b => .bl b
  | _, _, _, .int i => .int i
  | _, _, _, .str x hx => .str x
  | _, _, h, .lst e a => .lst (SqL.of e) (a.dp h)
  | _, _, h, .tup e a => .tup (SqT.of e) (a.dp h)
  | _, _, h, .dic e => nomatch (show false = true from h)
theorem _root_.DQ.DqAll.dp {K : PySem.W.Frag} {H : Hp} : ∀ {vs : List V} {ds : List PyData}, PyData.canLayAll0 ds = true → DqAll H vs ds → DpAll K H vs ds
  | _, _, _, .nil => .nil
  | _, _, h, .cons a b => .cons (a.dp (Bool.and_eq_true_iff.mp h).1) (b.dp (Bool.and_eq_true_iff.mp h).2)
end
theorem dp_tup {K : PySem.W.Frag} {H : Hp} {p : Addr} {xs : List V} {ds : List PyData} (h : SqT K H p xs) (a : DqAll H xs ds) (s : SeqAt.shaped (.tuple ds) = true) : Dp K H (.ref p) (.tuple ds) := .tup h (a.dp (SeqAt.canLay_of_shaped s))
/-- what isinstance and == ask of the class Rules -/
structure REq (K : PySem.W.Frag) (C g : Addr) : Prop where
  i : C8.InsC K C
  nt : PySem.W.kitOne K (.type "tuple") (.ref C) = some false
  e : EqI K C g
  n1 : PySem.W.notFirst K C (.ref C) = true
  n2 : PySem.W.notFirst K C (.type "tuple") = true
def eqR (es ss es' ss' : List PyData) : Bool := PyData.eqv (.tuple es) (.tuple es') && PyData.eqv (.tuple ss) (.tuple ss')
def spEqR (K : PySem.W.Frag) (C : Addr) : Sp := fun vs H Q _ => ∃ (a : Addr) (y : V) (es ss : List PyData), vs = [.ref a, y] ∧ RulesAt K H a C es ss ∧ SeqAt.shaped (.tuple es) = true ∧ SeqAt.shaped (.tuple ss) = true ∧
  ((∃ (b : Addr) (es' ss' : List PyData), y = .ref b ∧ RulesAt K H b C es' ss' ∧ SeqAt.shaped (.tuple es') = true ∧ SeqAt.shaped (.tuple ss') = true ∧ Q (.bl (eqR es ss es' ss')) H) ∨
   (∃ (q : Addr) (xs : List V), y = .ref q ∧ SqT K H q xs ∧ Q (.bl false) H))
section
variable {P : Program} {w : World} {K : PySem.W.Frag} {mg : Str → Option Value} {base : Heap}
theorem screq : FnScope ["self", "other"] ["self", "other"] (defScope sREq) := ⟨rfl, rfl, rfl, by decide +kernel, rfl, by decide +kernel, by decide +kernel⟩
theorem ok_req {f fI C : Addr} {fd : FuncData} (F : Fun K "__eq__" "Rules.__eq__" sREq f fd) (R : RCl K mg C fI) (T : TI3 mg) (Z : REq K C f) : FnOk P w K mg base CX0 1 f fd ["self", "other"] (spEqR K C) := by
  refine F.ok screq (fun vs H Q E h => ?_) (fun cdv A outer s H vs Q E hr h => ?_)
  · obtain ⟨a, y, es, ss, rfl, _⟩ := h
    rfl
  · obtain ⟨a, y, es, ss, rfl, h1, s1, s2, h⟩ := h
    have hu : (A.deeper (PyProof.Rows.envOfC "Rules.__eq__" (defScope sREq) s.heap.objs.size f cdv)).units + 64 < cLine := by have := hr.un; omega
    refine ⟨_, pss_one (ps_ret (pe_and (pe_callB call_isi (by rfl) T.tr.isi bisi (pa_cons (pv 1) (pa_cons (pe_glob (v := .ref C) (by rfl) R.g rfl) pa_nil)))
      (pe_and (pe_cmpR (op_eqD hu) (pe_fld (pv 0) rfl) (pe_fld (pv 1) rfl) (by rfl)) (pe_one (pe_cmpR (op_eqD hu) (pe_fld (pv 0) rfl) (pe_fld (pv 1) rfl) (by rfl)))))), ?_⟩
    obtain ⟨dx, pe, ps, xs, ys, o1, o2, o3, o4, o5⟩ := h1
    rcases h with ⟨b, es', ss', rfl, h2, s3, s4, q⟩ | ⟨p, zs, rfl, h2, q⟩
    · obtain ⟨dx', pe', ps', xs', ys', r1, r2, r3, r4, r5⟩ := h2
      refine ⟨_, rfl, .ref b, .ref C, .ref C, .ref C, true, rfl, .own C, .base (.ins r1 R.cl Z.i.ha Z.i.hn Z.i.htk Z.i.hm), Z.i.me, _, rfl, ?_⟩
      refine iteT ⟨_, rfl, a, C, dx, _, .ref pe, rfl, o1, R.cl, R.n1, lk_e _ _, _, rfl, b, C, dx', _, .ref pe', rfl, r1, R.cl, R.n1, lk_e _ _, .tuple es, .tuple es', dp_tup o2 o3 s1, dp_tup r2 r3 s3, s1, s3, _, rfl, ?_⟩
      unfold eqR at q
      cases h1 : PyData.eqv (.tuple es) (.tuple es') with
      | false =>
        rw [h1, Bool.false_and] at q
        exact iteF q
      | true =>
        rw [h1, Bool.true_and] at q
        exact iteT ⟨_, rfl, a, C, dx, _, .ref ps, rfl, o1, R.cl, R.n2, lk_s _ _, _, rfl, b, C, dx', _, .ref ps', rfl, r1, R.cl, R.n2, lk_s _ _, .tuple ss, .tuple ss', dp_tup o4 o5 s2, dp_tup r4 r5 s4, s2, s4, q⟩
    · exact ⟨_, rfl, .ref p, .ref C, .type "tuple", .ref C, false, rfl, .own C, sqT_ty h2, Z.nt, _, rfl, iteF q⟩
end
end RU
set_option Elab.async false
set_option linter.all false
set_option maxRecDepth 100000
set_option maxHeartbeats 4000000
namespace K01
open PySem L2 L2H DQ RZ
/-! what is drawn has a shape; what has a shape is plain -/
theorem marks_ok {ms : List Str} (h : ms.Sublist abc3) : areMarks (.tuple (ms.map PyData.str)) = true := by
  unfold abc3 at h
  cases h <;> rename_i h <;> cases h <;> rename_i h <;> cases h <;> rename_i h <;> cases h <;> decide +kernel
theorem ef_word {u : Str} (h : efS u) : wordS u = true := by
  rcases h with rfl | rfl <;> decide +kernel
mutual
theorem Tc.cnt : ∀ {k n c : Nat} {d : PyData}, Tc k n c d → k ≤ 3 → (k = 3 → isPair d = true) → K01.cnt (k + 1) d = some ((n : Int), (c : Int))
  | k, n, c, _, .mk (n0 := n0) (c0 := c0) (c1 := c1) (ms := ms) (bs := bs) (r := r) h1 h2 h3 h4 e1 e2, hk, hp => by
    have f := h4.fold hk 1 (r.length : Int)
    have hn : isNode (3 - (k : Int)) (.tuple (.tuple (ms.map PyData.str) :: .tuple bs :: r)) = true := by
      unfold isNode
      have nb : nodeB (some (PyData.tuple (ms.map PyData.str))) (some (PyData.tuple bs)) = true := by
        show (areMarks (.tuple (ms.map PyData.str)) && fewB (.tuple bs)) = true
        rw [marks_ok h1]
        exact decide_eq_true h2
      refine Bool.and_eq_true_iff.mpr ⟨?_, nb⟩
      rcases h3 with ⟨rfl, _⟩ | ⟨rfl, _⟩
      · rfl
      · by_cases h : k = 3
        · exact absurd (hp h) (by simp [isPair])
        · have z : decide ((0 : Int) < 3 - (k : Int)) = true := decide_eq_true (by omega)
          rw [z, Bool.true_and]
          refine Bool.or_eq_true_iff.mpr (.inr ?_)
          show (decide ([PyData.tuple (ms.map PyData.str), .tuple bs, .str "call"].length = 3) && isCallS (some (.str "call"))) = true
          exact Bool.and_eq_true_iff.mpr ⟨decide_eq_true rfl, by decide +kernel⟩
    unfold K01.cnt
    rw [if_pos hn]
    show bs.foldl (stepB (K01.cnt k)) (some (1, (r.length : Int))) = _
    rw [f]
    have hr : r.length = c0 := by
      rcases h3 with ⟨rfl, rfl⟩ | ⟨rfl, rfl⟩ <;> rfl
    rw [hr, e1, e2]
    congr 2
    · omega
    · omega
theorem TcB.fold : ∀ {k n c : Nat} {bs : List PyData}, TcB k n c bs → k ≤ 3 → ∀ a b : Int, bs.foldl (stepB (K01.cnt k)) (some (a, b)) = some (a + (n : Int), b + (c : Int))
  | k, _, _, _, .nil, _, a, b => by simp
  | _, _, _, _, .cons (k := k) (n := n) (c := c) (n' := n') (c' := c') (u := u) (t := t) (bs := bs) hu ht hb e1 e2, hk, a, b => by
    have h := ht.cnt (by omega) (fun z => by omega)
    have hs : stepB (K01.cnt (k + 1)) (some (a, b)) (.tuple [.str u, t]) = some (a + (n : Int), b + (c : Int)) := by
      unfold stepB
      dsimp only
      rw [if_pos (ef_word hu), h]
    rw [List.foldl_cons, hs, hb.fold hk, e1, e2]
    congr 2
    · omega
    · omega
end
theorem pair0 {k n : Nat} {d : PyData} (h : Tc k n 0 d) : isPair d = true := by
  cases h with
  | mk _ _ h3 _ _ e2 =>
    rcases h3 with ⟨rfl, _⟩ | ⟨rfl, rfl⟩
    · rfl
    · omega
theorem tree_shape {k n : Nat} {d : PyData} (h : Tc k n 0 d) (hk : k ≤ 3) (hn : n ≤ 6) : shape 0 d = true := by
  have h3 : Tc 3 n 0 d := by
    obtain rfl | rfl | rfl | rfl : k = 0 ∨ k = 1 ∨ k = 2 ∨ k = 3 := by omega
    · exact h.mono.mono.mono
    · exact h.mono.mono
    · exact h.mono
    · exact h
  have hp : isPair d = true := pair0 h
  unfold shape
  rw [h3.cnt (Nat.le_refl _) fun _ => hp]
  have z : decide ((n : Int) ≤ 6) = true := decide_eq_true (by omega)
  dsimp only
  rw [z]
  rfl
theorem body_shape {n : Nat} {d : PyData} (h : Tc 3 n 1 d) (hp : isPair d = true) (hn : n ≤ 6) : shape 1 d = true := by
  unfold shape
  rw [h.cnt (Nat.le_refl _) fun _ => hp]
  have z : decide ((n : Int) ≤ 6) = true := decide_eq_true (by omega)
  dsimp only
  rw [z]
  rfl
/-! plain: texts of signs and tuples, not deep -/
theorem word_okM {x : Str} (h : wordS x = true) : PyData.strOk x = true := by
  unfold wordS at h
  have h2 := (Bool.and_eq_true_iff.mp (Bool.and_eq_true_iff.mp h).2).2
  unfold PyData.strOk
  rw [← Array.all_toList]
  refine List.all_eq_true.mpr fun c hc => ?_
  have z := List.all_eq_true.mp h2 c hc
  unfold low at z
  have z2 := of_decide_eq_true (Bool.and_eq_true_iff.mp z).2
  exact decide_eq_true (by omega)
theorem canAll {ds : List PyData} : PyData.canLayAll0 ds = true ↔ ∀ d ∈ ds, d.canLay0 = true := by
  induction ds with
  | nil => simp [PyData.canLayAll0]
  | cons d ds ih => simp [PyData.canLayAll0, ih]
theorem depAll {ds : List PyData} {n : Nat} (h : ∀ d ∈ ds, d.depth ≤ n) : PyData.depthAll ds ≤ n := by
  induction ds with
  | nil => simp [PyData.depthAll]
  | cons d ds ih =>
    have h1 := h d (List.mem_cons_self ..)
    have h2 := ih fun x hx => h x (List.mem_cons_of_mem _ hx)
    simp only [PyData.depthAll]
    omega
/-- such data -/
def plain (n : Nat) (d : PyData) : Prop := d.canLay0 = true ∧ d.depth ≤ n
theorem plain_tup {ds : List PyData} {n : Nat} (h : ∀ d ∈ ds, plain n d) : plain (n + 1) (.tuple ds) :=
  ⟨canAll.mpr fun d hd => (h d hd).1, Nat.succ_le_succ (depAll fun d hd => (h d hd).2)⟩
theorem plain_lst {ds : List PyData} {n : Nat} (h : ∀ d ∈ ds, plain n d) : plain (n + 1) (.list ds) :=
  ⟨canAll.mpr fun d hd => (h d hd).1, Nat.succ_le_succ (depAll fun d hd => (h d hd).2)⟩
theorem plain.mono {d : PyData} {n m : Nat} (h : plain n d) (hn : n ≤ m) : plain m d := ⟨h.1, Nat.le_trans h.2 hn⟩
theorem plain_word {d : PyData} (h : isWord d = true) : plain 0 d := by
  cases d with
  | str x => exact ⟨word_okM h, Nat.le_refl _⟩
  | _ => cases h
theorem plain_marks {d : PyData} (h : areMarks d = true) : plain 1 d := by
  cases d with
  | tuple ds =>
    have z := (Bool.and_eq_true_iff.mp (Bool.and_eq_true_iff.mp h).2).1
    exact plain_tup fun d hd => plain_word (List.all_eq_true.mp z d hd)
  | _ => cases h
theorem fold_all {c : PyData → Option (Int × Int)} : ∀ {bs : List PyData} {xy r : Int × Int}, bs.foldl (stepB c) (some xy) = some r → ∀ b ∈ bs, ∃ u t pq, b = .tuple [.str u, t] ∧ wordS u = true ∧ c t = some pq
  | [], _, _, _, _, hb => absurd hb (by simp)
  | b :: bs, xy, r, h, b', hb => by
    rw [List.foldl_cons] at h
    cases hs : stepB c (some xy) b with
    | none =>
      rw [hs, fold_none] at h
      cases h
    | some pq =>
      rw [hs] at h
      rcases List.mem_cons.mp hb with rfl | hb
      · unfold stepB at hs
        dsimp only at hs
        split at hs
        · rename_i u t
          split at hs
          · rename_i hw
            split at hs
            · rename_i pq' hc
              exact ⟨u, t, pq', rfl, hw, hc⟩
            · cases hs
          · cases hs
        · cases hs
      · exact fold_all h b' hb
theorem cnt_plain : ∀ {n : Nat} {d : PyData} {xy : Int × Int}, cnt n d = some xy → plain (3 * n) d
  | 0, _, _, h => nomatch h
  | n + 1, d, xy, h => by
    unfold cnt at h
    split at h
    · rename_i hn
      unfold isNode at hn
      obtain ⟨h1, h2⟩ := Bool.and_eq_true_iff.mp hn
      obtain ⟨a, b, r, rfl⟩ := pair_or_call h1
      obtain ⟨h3, h4⟩ := Bool.and_eq_true_iff.mp (show (areMarks a && fewB b) = true from h2)
      cases b with
      | tuple bs =>
        have f := fold_all (show bs.foldl (stepB (cnt n)) (some (1, (r.length : Int))) = some xy from h)
        have pb : plain (3 * n + 2) (.tuple bs) := plain_tup fun b hb => by
          obtain ⟨u, t, pq, rfl, hu, ht⟩ := f b hb
          refine plain_tup (n := 3 * n) fun x hx => ?_
          rcases List.mem_cons.mp hx with rfl | hx
          · exact plain.mono (plain_word hu) (Nat.zero_le _)
          · rw [List.mem_singleton.mp hx]
            exact cnt_plain ht
        refine plain_tup (n := 3 * n + 2) fun x hx => ?_
        rcases List.mem_cons.mp hx with rfl | hx
        · exact (plain_marks h3).mono (by omega)
        · rcases List.mem_cons.mp hx with rfl | hx
          · exact pb
          · rcases Bool.or_eq_true_iff.mp h1 with z | z
            · have e : (a :: PyData.tuple bs :: r).length = 2 := of_decide_eq_true z
              have e2 : r = [] := by
                cases r with
                | nil => rfl
                | cons y ys =>
                  simp at e
              rw [e2] at hx
              cases hx
            · obtain ⟨z1, z2⟩ := Bool.and_eq_true_iff.mp (Bool.and_eq_true_iff.mp z).2
              have e : (a :: PyData.tuple bs :: r).length = 3 := of_decide_eq_true z1
              match r, e, hx, z2 with
              | [y], _, hx, z2 =>
                rw [List.mem_singleton.mp hx]
                have z3 : isCallS (some y) = true := z2
                cases y with
                | str s =>
                  have e4 : V.str s = V.str "call" := of_decide_eq_true z3
                  cases e4
                  exact ⟨by decide +kernel, Nat.zero_le _⟩
                | _ => cases z3
      | _ => cases h4
    · cases h
theorem shape_plain {c : Int} {d : PyData} (h : shape c d = true) : plain 12 d := by
  unfold shape at h
  cases e : cnt 4 d with
  | none =>
    rw [e] at h
    cases h
  | some xy => exact cnt_plain e
end K01
set_option Elab.async false
set_option linter.all false
set_option maxRecDepth 100000
set_option maxHeartbeats 4000000
namespace K01
open PySem L2 L2H DQ RZ
/-! _law_ends_and_steps -/
def EndD (d : PyData) : Prop := ∃ q, Tc 2 q 0 d ∧ q ≤ 4
def StepD (d : PyData) : Prop := ∃ q, Tp 3 q 1 d ∧ q ≤ 6
def ESd (es ss : List PyData) : Prop := 1 ≤ es.length ∧ es.length ≤ 3 ∧ ss.length ≤ 3 ∧ (∀ d ∈ es, EndD d) ∧ ∀ d ∈ ss, StepD d
def spEas : Sp := fun vs H Q _ => ∃ (m c l z : Addr) (cs ls : List Int) (n : Int), vs = [.ref m, .ref z] ∧ MAt H m c l cs ls n ∧ n + 3000 ≤ 1000000000 ∧ fr H m l z = some (.tup [.int 3, .int 3, .int 4]) ∧
  ∀ (p eL sL : Addr) (xs ys : List V) (es ss : List PyData) (H' : Hp) (l' : Addr) (ls' : List Int) (n' : Int), MAt H' m c l' cs ls' n' → n' ≤ n + 3000 → Fs H m l H' l' → fr H' m l' p = some (.tup [.ref eL, .ref sL]) → fr H' m l' eL = some (.lst xs) → DqAll (fr H' m l') xs es →
    fr H' m l' sL = some (.lst ys) → DqAll (fr H' m l') ys ss → ESd es ss → eL ≠ sL → Q (.ref p) H'
abbrev nEs : List Str := ["m", "sizes", "ends", "k"]
theorem scEs : FnScope nEs ["m", "sizes"] (defScope sEas) := ⟨rfl, rfl, rfl, by decide +kernel, rfl, by decide +kernel, by decide +kernel⟩
section
variable {P : Program} {w : World} {K : PySem.W.Frag} {mg : Str → Option Value} {base : Heap}
theorem ix_tupK {X : Cx} (hK : X.K = K) : IxR X (rIxT K) := by
  subst hK
  exact ix_tup
theorem ok_eas {f fN fT fY : Addr} {fd dN dT dY : FuncData} (F : Fun K "_law_ends_and_steps" "_law_ends_and_steps" sEas f fd)
    (FN : Fun K "_law_next" "_law_next" sNext fN dN) (bN : Binds K dN ["m", "many"] []) (gN : mg "_law_next" = some (.ref fN)) (GN : FnOk P w K mg base CX0 1 fN dN ["m", "many"] spNx)
    (FT : Fun K "_law_tree" "_law_tree" sTree fT dT) (bT : Binds K dT ["m", "size", "deep"] []) (gT : mg "_law_tree" = some (.ref fT)) (GT : FnOk P w K mg base CX0 5 fT dT ["m", "size", "deep"] (spTr 2))
    (FY : Fun K "_law_body" "_law_body" sBody fY dY) (bY : Binds K dY ["m", "size"] []) (gY : mg "_law_body" = some (.ref fY)) (GY : FnOk P w K mg base CX0 7 fY dY ["m", "size"] spBy) (tR : mg "range" = none) :
    FnOk P w K mg base CX0 8 f fd ["m", "sizes"] spEas := by
  refine F.ok scEs (fun vs H Q E h => ?_) (fun cdv A outer s H vs Q E hr h => ?_)
  · obtain ⟨m, c, l, z, cs, ls, n, rfl, _⟩ := h
    rfl
  · obtain ⟨m, c, l, z, cs, ls, n, rfl, M, hn, hz, kk⟩ := h
    refine ⟨_, pss_cons (ps_setLc (i := 2) (own := [("k", 3)]) (g := gName 3) (tt := tYes) rfl scEs.nd rfl rfl (sw_true rfl rfl rfl (by decide +kernel))
          (pi_range1 rfl tR (pa_cons (pe_op op_add pe_int (pe_call GN (hr.mono (by decide)) (by rfl) gN FN.kp bN .nil pass0 (pa_cons (pv 0) (pa_cons (pe_ix (ix_tupK (K := K) rfl) (pv 1) pe_int (fun _ _ => rfl)) pa_nil)))) pa_nil))
          (blkOk_by (own := [("k", 3)]) (N := ["m", "sizes", "ends", "k"]) (sc := defScope sEas) (by decide +kernel))
          (fun _ _ _ _ _ => pg_name (i := 3) scEs.nd rfl (Or.inl rfl)) (fun _ _ _ _ _ => pts_nil)
          (fun _ _ _ _ _ => pe_call GT (hr.mono (by decide)) (by rfl) gT FT.kp bT .nil pass0 (pa_cons (pv 0) (pa_cons (pe_op op_add pe_int (pe_call GN (hr.mono (by decide)) (by rfl) gN FN.kp bN .nil pass0 (pa_cons (pv 0) (pa_cons (pe_ix (ix_tupK (K := K) rfl) (pv 1) pe_int (fun _ _ => rfl)) pa_nil)))) (pa_cons pe_int pa_nil)))))
      (pss_one (ps_ret (pe_tup (pa_cons (pv 2) (pa_cons (pe_lc (own := [("k", 3)]) (g := gName 3) (tt := tYes) rfl scEs.nd
          (pi_range1 rfl tR (pa_cons (pe_call GN (hr.mono (by decide)) (by rfl) gN FN.kp bN .nil pass0 (pa_cons (pv 0) (pa_cons (pe_op op_add (pe_ix (ix_tupK (K := K) rfl) (pv 1) pe_int (fun _ _ => rfl)) pe_int) pa_nil))) pa_nil))
          (blkOk_by (own := [("k", 3)]) (N := ["m", "sizes", "ends", "k"]) (sc := defScope sEas) (by decide +kernel))
          (fun _ _ _ _ _ => pg_name (i := 3) scEs.nd rfl (Or.inl rfl)) (fun _ _ _ _ _ => pts_nil)
          (fun _ _ _ _ _ => pe_call GY (hr.mono (by decide)) (by rfl) gY FY.kp bY .nil pass0 (pa_cons (pv 0) (pa_cons (pe_op op_add pe_int (pe_call GN (hr.mono (by decide)) (by rfl) gN FN.kp bN .nil pass0 (pa_cons (pv 0) (pa_cons (pe_ix (ix_tupK (K := K) rfl) (pv 1) pe_int (fun _ _ => rfl)) pa_nil)))) pa_nil)))) pa_nil))))), ?_⟩
    have zq : ∀ {H' : Hp} {l' : Addr}, Fs H m l H' l' → SqT K H' z [.int 3, .int 3, .int 4] := fun sf => SqT.of (fr_of (sf.1 _ _ hz)).2.2
    refine ⟨_, rfl, _, rfl, z, _, 0, .int 3, rfl, rfl, zq .refl, rfl, m, c, l, 3, cs, ls, n, rfl, M, by decide, by decide, by omega, fun r H1 l1 ls1 n1 r0 r1 M1 nn1 s1 => ⟨_, _, rfl, rfl, _, rfl, by omega, by omega, fun D nD => ?_⟩⟩
    have G1 : Gw m c l1 cs ls1 n1 H1 H1 := ⟨M1, .refl⟩
    obtain ⟨G2, t2, e2⟩ := G1.new (o := .lst []) nD
    have hD0 : H D = none := s1.2 _ nD
    have Dm : D ≠ m := (ne_of_none M.hm hD0).symm
    have Dc : D ≠ c := (ne_of_none M.hc hD0).symm
    have jn : (1 + r).toNat ≤ 3 := by omega
    have jn1 : 1 ≤ (1 + r).toNat := by omega
    refine lc_range (fun i H' => ∃ (l' : Addr) (ls' : List Int) (n' : Int) (xs : List V) (es : List PyData), Dl H m c l cs n (1 + 179 * (i : Int)) D xs H' l' ls' n' ∧ DqAll (fr H' m l') xs es ∧ xs.length = i ∧ ∀ d ∈ es, EndD d)
      ⟨l1, ls1, n1, [], [], ⟨G2.mat, by omega, s1.trans G2.sm, e2⟩, .nil, rfl, fun d hd => absurd hd (by simp)⟩ ?_ ?_
    · rintro i H5 hi ⟨l5, ls5, n5, xs, es, d5, q5, hl5, he5⟩
      refine ⟨rfl, ?_⟩
      unfold tYes
      try dsimp only
      rw [if_pos rfl]
      have le5 := d5.le
      refine ⟨_, rfl, _, rfl, _, rfl, z, _, 2, .int 4, rfl, rfl, zq d5.sm, rfl, m, c, l5, 4, cs, ls5, n5, rfl, d5.mat, by decide, by decide, by omega, fun r7 H7 l7 ls7 n7 r70 r71 M7 nn7 s7 => ⟨_, _, rfl, rfl, m, c, l7, cs, ls7, n7, 1 + r7, rfl, M7, ?_, by omega, by omega, fun r8 d8 q8 H8 l8 ls8 n8 M8 nn8 s8 dq8 tc8 hq8 => ?_⟩⟩
      · show n7 + 178 ≤ 1000000000
        omega
      · have nn8' : n8 ≤ n7 + 178 := nn8
        have dE := (d5.next (k' := 1 + 179 * (i : Int) + 1) M7 nn7 s7 (by omega)).next (k' := 1 + 179 * ((i + 1 : Nat) : Int)) M8 nn8' s8 (by omega)
        have lz : xs.length < sizeLine := small1000 (by omega)
        have te : tupA es = true := tupA_iff.mpr fun d hd => by
          obtain ⟨q, h, _⟩ := he5 d hd
          exact h.tup
        have qa : DqAll (fr H8 m l8) (xs ++ [r8]) (es ++ [d8]) := (q5.same (same_trans s7.1 s8.1)).app (.cons dq8 .nil)
        have ta : tupA (es ++ [d8]) = true := tupA_iff.mpr fun d hd => by
          rcases List.mem_append.mp hd with h | h
          · exact tupA_iff.mp te d h
          · rw [List.mem_singleton.mp h]
            exact tc8.tup
        refine ⟨_, (fr_of dE.dd).2.2, lz, l8, ls8, n8, xs ++ [r8], es ++ [d8], dE.put hD0 Dm Dc, qa.tups (gw_put dE.dd) ta, by rw [List.length_append, hl5]; rfl, fun d hd => ?_⟩
        rcases List.mem_append.mp hd with h | h
        · exact he5 d h
        · rw [List.mem_singleton.mp h]
          exact ⟨q8, tc8, by omega⟩
    rintro H5 ⟨l5, ls5, n5, xs, es, d5, q5, hl5, he5⟩
    have le5 := d5.le
    refine ⟨_, rfl, _, rfl, _, rfl, z, _, 1, .int 3, rfl, rfl, zq d5.sm, rfl, _, _, rfl, rfl, m, c, l5, 4, cs, ls5, n5, rfl, d5.mat, by decide, by decide, by omega, fun r6 H6 l6 ls6 n6 r60 r61 M6 nn6 s6 => ⟨_, rfl, by omega, by omega, fun D2 nD2 => ?_⟩⟩
    have G6 : Gw m c l6 cs ls6 n6 H6 H6 := ⟨M6, .refl⟩
    obtain ⟨G7, t7, e7⟩ := G6.new (o := .lst []) nD2
    have hD2 : H5 D2 = none := s6.2 _ nD2
    have Dm2 : D2 ≠ m := (ne_of_none d5.mat.hm hD2).symm
    have Dc2 : D2 ≠ c := (ne_of_none d5.mat.hc hD2).symm
    have jn2 : r6.toNat ≤ 3 := by omega
    refine lc_range (fun i H' => ∃ (l' : Addr) (ls' : List Int) (n' : Int) (ys : List V) (ss : List PyData), Dl H5 m c l5 cs n5 (1 + 701 * (i : Int)) D2 ys H' l' ls' n' ∧ DqAll (fr H' m l') ys ss ∧ ys.length = i ∧ ∀ d ∈ ss, StepD d)
      ⟨l6, ls6, n6, [], [], ⟨G7.mat, by omega, s6.trans G7.sm, e7⟩, .nil, rfl, fun d hd => absurd hd (by simp)⟩ ?_ ?_
    · rintro i H8 hi ⟨l8, ls8, n8, ys, ss, d8, q8, hl8, he8⟩
      refine ⟨rfl, ?_⟩
      unfold tYes
      try dsimp only
      rw [if_pos rfl]
      have le8 := d8.le
      refine ⟨_, rfl, _, rfl, _, rfl, z, _, 2, .int 4, rfl, rfl, zq (d5.sm.trans d8.sm), rfl, m, c, l8, 4, cs, ls8, n8, rfl, d8.mat, by decide, by decide, by omega, fun r9 H9 l9 ls9 n9 r90 r91 M9 nn9 s9 => ⟨_, _, rfl, rfl, m, c, l9, cs, ls9, n9, 2 + r9, rfl, M9, by omega, by omega, by omega, fun rA dA qA HA lA lsA nA MA nnA sA dqA tpA hqA => ?_⟩⟩
      have dE := (d8.next (k' := 1 + 701 * (i : Int) + 1) M9 nn9 s9 (by omega)).next (k' := 1 + 701 * ((i + 1 : Nat) : Int)) MA nnA sA (by omega)
      have lz : ys.length < sizeLine := small1000 (by omega)
      have te : tupA ss = true := tupA_iff.mpr fun d hd => by
        obtain ⟨q, h, _⟩ := he8 d hd
        exact h.tc.tup
      have qa : DqAll (fr HA m lA) (ys ++ [rA]) (ss ++ [dA]) := (q8.same (same_trans s9.1 sA.1)).app (.cons dqA .nil)
      have ta : tupA (ss ++ [dA]) = true := tupA_iff.mpr fun d hd => by
        rcases List.mem_append.mp hd with h | h
        · exact tupA_iff.mp te d h
        · rw [List.mem_singleton.mp h]
          exact tpA.tc.tup
      refine ⟨_, (fr_of dE.dd).2.2, lz, lA, lsA, nA, ys ++ [rA], ss ++ [dA], dE.put hD2 Dm2 Dc2, qa.tups (gw_put dE.dd) ta, by rw [List.length_append, hl8]; rfl, fun d hd => ?_⟩
      rcases List.mem_append.mp hd with h | h
      · exact he8 d h
      · rw [List.mem_singleton.mp h]
        exact ⟨qA, tpA, by omega⟩
    rintro H8 ⟨l8, ls8, n8, ys, ss, d8, q8, hl8, he8⟩
    have le8 := d8.le
    refine ⟨by show 2 ≤ sizeLine; decide, fun p np => ?_⟩
    have G8 : Gw m c l8 cs ls8 n8 H8 H8 := ⟨d8.mat, .refl⟩
    obtain ⟨G9, t9, e9⟩ := G8.new (o := .tup [.ref D, .ref D2]) np
    have nDD : D ≠ D2 := ne_of_none (fr_of d5.dd).2.2 hD2
    have lx : xs.length = es.length := q5.len
    have ly : ys.length = ss.length := q8.len
    exact kk p D D2 xs ys es ss _ l8 ls8 n8 G9.mat (by omega) (d5.sm.trans (d8.sm.trans G9.sm)) e9 (t9 _ _ (d8.sm.1 _ _ d5.dd)) (q5.same (same_trans d8.sm.1 t9)) (t9 _ _ d8.dd) (q8.same t9)
      ⟨by omega, by omega, by omega, he5, he8⟩ nDD
end
end K01
set_option Elab.async false
set_option linter.all false
set_option maxRecDepth 100000
set_option maxHeartbeats 4000000
/-! A def of any number of arguments, called where it is known that no repr is under way; its code object is told. -/
namespace L2H
open PySem PySem.Spec PyProof.Rows L2
def FnGs (P : Program) (w : World) (K : PySem.W.Frag) (mg : Str → Option Value) (base : Heap) (k : Nat) (f : Addr) (fd : FuncData) (ps : List Str) (sp : Sp) : Prop :=
  ∀ (A : Around) (outer : List Env) (s : Shared) (H : Hp) (us : List Value) (vs : List V) (Q : VK) (E : XK), Room k A → A.guards = some [] → Env0 P w K mg base A outer s H → BindsTo s fd ⟨us, []⟩ (ps.zip us) → Vals vs us → vs.length = ps.length → sp vs H Q E →
    codeAny (model P w) A (.call (.ref f) ⟨us, []⟩) (CR CX0 outer P w H s Q E) s
section
variable {P : Program} {w : World} {K : PySem.W.Frag} {mg : Str → Option Value} {base : Heap} {ps : List Str} {name : Str} {st : Stmt} {f : Addr} {fd : FuncData} {N : List Str} {k : Nat} {sp : Sp}
theorem fnGs_of (F : Fun K name name st f fd) (S : FnScope N ps (defScope st))
    (body : ∀ (A : Around) (outer : List Env) (s : Shared) (H : Hp) (vs : List V) (Q : VK) (E : XK), Room k (A.deeper (envOfC name (defScope st) s.heap.objs.size f fd.code)) → A.guards = some [] → sp vs H Q E →
      ∃ t, PSs (cxOf CX0 P w K mg base N name (defScope st) f fd.code A outer s H E).nox (defBody st) t ∧ t { nx := fun _ H' => Q .non H', rt := Q } (start N vs) H) :
    FnGs P w K mg base (k + 1) f fd ps sp := by
  obtain ⟨oc, od, kV, doc, pm, an, cdv, ct, osl, rfl, lk, hcd⟩ := F.ex
  intro A outer s H us vs Q E hr hg e0 hb ru hl hsp
  have KX : K.In s.heap := e0.mod.kin.keeps fun b o z => (e0.bs b o z).1
  have kinds : ∀ y ∈ ps.zip us, (defScope st).names.lookup y.1 = some .local ∨ ((defScope st).names.lookup y.1 = some .cell ∧ ((cellsFrom (s.heap.objs.size + 1) (defScope st).names []).lookup y.1).isSome = true) := fun y hy =>
    (S.par y.1 (List.of_mem_zip (a := y.1) (b := y.2) hy).1).elim .inl fun q => .inr ⟨q, PySem.W.cellsFrom_some _ _ _ (.inl q)⟩
  refine codeAny_call_function hr.depth (KX _ _ lk) rfl S.co S.gen rfl (PySem.W.codeRec_of KX hcd) (hb _ _ _ _ (wpAny_newFunctionEnv_cells S.kind kinds fun env he s1 y => ?_))
  subst he
  refine ⟨(e0.mod.nolimit.keeps fun b o z => (e0.bs b o z).1).keeps y.toInCall.keep, codeAny_func ?_⟩
  obtain ⟨t, ht, hq⟩ := body A outer s H vs Q E (hr.deeper _) hg hsp
  have I : Inv (cxOf CX0 P w K mg base N name (defScope st) f cdv A outer s H E) [] (start N vs) H s1 := inv_start S hr.hd e0 hl ru y
  refine wpAny_mono (ht.nox.run [] s1 (start N vs) H _ I hq) (fun fl s' hs => ?_) fun _ _ z => z
  cases fl with
  | next =>
    obtain ⟨σ', H', J, q⟩ := hs
    exact ⟨V.non, H', J.os, J.bare, J.base, J.hok, rfl, q⟩
  | ret u' =>
    obtain ⟨v', σ', H', J, rv, q⟩ := hs
    exact ⟨v', H', J.os, J.bare, J.base, J.hok, rv, q⟩
  | brk =>
    obtain ⟨_, _, _, q⟩ := hs
    exact q.elim
  | cont =>
    obtain ⟨_, _, _, q⟩ := hs
    exact q.elim
end
section
variable {X : Cx} {k : Nat} {f : Addr} {fd : FuncData} {sp : Sp} {x : Str} {ps : List Str} {p pos : Pos} {e : Expr} {es : List Expr} {t : TA}
theorem pe_callGs (F : FnGs X.prog X.w X.K X.mg X.base k f fd ps sp) (hr : Room k X.A) (gd : X.A.guards = some []) (hg : Gl X x) (hm : X.mg x = some (.ref f)) (hk : PySem.W.keepIn X.K (.ref f) = true) (hb : Binds X.K fd ps [])
    (hx : Passes CX0 X fun _ _ _ => False) (ha : PA X (e :: es) t) (hdb : (x == ("__debug__" : Str)) = false := by decide) (he : starEach (e :: es) X.env = (false, eval e X.env) :: starEach es X.env := by rfl) (hpl : (backTo pos (starEach es X.env)).any (·.1) = false := by rfl) :
    PE X (.Call (.Name x p) (e :: es) [] pos) (fun σ H Q => t σ H fun vs H1 => vs.length = ps.length ∧ sp vs H1 Q fun _ _ _ => False) := by
  refine ⟨fun pins s σ H Q I h => ?_⟩
  refine wpAny_Call_Name_kw (ld_glob I hg hm ?_ hdb)
  refine PySem.W.callWith_K (h₀ := X.base) I.ok.mod.kin hk (thn (ha.run pos pins s σ H _ I h) fun us s1 ⟨vs, H1, I1, r, hl, q⟩ => ⟨I1.kIn, ?_⟩) he hpl
  have ul : us.length = ps.length := (Vals.length r).symm.trans hl
  have bt := hb s1 us I1.kIn (by simpa using ul)
  refine wpAny_call (codeAny_mono (F X.A X.stack s1 H1 us vs Q (fun _ _ _ => False) hr gd I1.env0 (by simpa using bt) r hl q) fun r s' hq => ?_)
  cases r with
  | error e => exact hx pins σ H1 s1 e s' I1 hq
  | ok fl =>
    cases fl with
    | ret u => exact I1.after hq
    | next => exact False.elim hq
    | brk => exact False.elim hq
    | cont => exact False.elim hq
end
end L2H
set_option linter.all false
set_option maxRecDepth 100000
set_option Elab.async false
/-! texts of trees: a writer, and two readers that lead back -/
namespace X48
mutual
inductive Nd where
  | mk (ms : List (List Nat)) (bs : Bs) (c : Bool)
inductive Bs where
  | nil
  | cons (w : List Nat) (t : Nd) (r : Bs)
end
instance : Inhabited Bs := ⟨.nil⟩
instance : Inhabited Nd := ⟨.mk [] .nil false⟩
def Bs.isNil : Bs → Bool
  | .nil => true
  | _ => false
def jn (c : Nat) : List (List Nat) → List Nat
  | [] => []
  | [x] => x
  | x :: y :: r => x ++ c :: jn c (y :: r)
def wM (ms : List (List Nat)) : List Nat := if ms = [] then [45] else jn 43 ms
def wC (c : Bool) : List Nat := if c = true then [33] else []
mutual
def wr : Nd → List Nat
  | .mk ms bs c => wC c ++ (wM ms ++ wrB 40 bs)
def wrB : Nat → Bs → List Nat
  | a, .nil => if a = 40 then [] else [41]
  | a, .cons w t r => a :: (w ++ 62 :: (wr t ++ wrB 44 r))
end
def gw (w : List Nat) : Prop := w ≠ [] ∧ ∀ c ∈ w, 97 ≤ c ∧ c ≤ 122
mutual
def Gd : Nd → Prop
  | .mk ms bs _ => (∀ m ∈ ms, gw m) ∧ GdB bs
def GdB : Bs → Prop
  | .nil => True
  | .cons w t r => gw w ∧ Gd t ∧ GdB r
end
mutual
/-- how many levels -/
def hd : Nd → Nat
  | .mk _ bs _ => hdB bs + 1
def hdB : Bs → Nat
  | .nil => 0
  | .cons _ t r => Nat.max (hd t) (hdB r)
end
def sp (c : Nat) : List Nat → List (List Nat)
  | [] => [[]]
  | x :: r => if x = c then [] :: sp c r else match sp c r with
    | h :: t => (x :: h) :: t
    | [] => [[x]]
def sm (w : List Nat) : List (List Nat) := if w = [45] then [] else sp 43 w
def nb (c : Nat) : Bool := !(c == 40 || c == 44 || c == 41)
def isX (w : List Nat) : Bool := w.head? == some 33
def node (w : List Nat) (bs : Bs) : Nd := .mk (sm (if isX w = true then w.drop 1 else w)) bs (isX w)
def nG (c : Nat) : Bool := !(c == 62)
def fit (bs : Bs) (r : List Nat) : List Nat := if bs.isNil = true then r else r.drop 1
/-- the first reader: branches from here on, each led in by b, then by commas; r: what is left -/
def seemL : Nat → Nat → List Nat → Bs × List Nat
  | 0, _, r => (.nil, r)
  | _ + 1, _, [] => (.nil, [])
  | k + 1, b, c :: r => if c = b ∧ 62 ∈ r then
      (.cons (r.takeWhile nG) (node (((r.dropWhile nG).drop 1).takeWhile nb) (seemL k 40 (((r.dropWhile nG).drop 1).dropWhile nb)).1)
        (seemL k 44 (fit (seemL k 40 (((r.dropWhile nG).drop 1).dropWhile nb)).1 (seemL k 40 (((r.dropWhile nG).drop 1).dropWhile nb)).2)).1,
       (seemL k 44 (fit (seemL k 40 (((r.dropWhile nG).drop 1).dropWhile nb)).1 (seemL k 40 (((r.dropWhile nG).drop 1).dropWhile nb)).2)).2)
    else (.nil, c :: r)
def seem (k : Nat) (r : List Nat) : Nd × List Nat := (node (r.takeWhile nb) (seemL k 40 (r.dropWhile nb)).1, fit (seemL k 40 (r.dropWhile nb)).1 (seemL k 40 (r.dropWhile nb)).2)
theorem seemL_step {k b c : Nat} {r : List Nat} (h : c = b ∧ 62 ∈ r) : seemL (k + 1) b (c :: r) =
    (.cons (r.takeWhile nG) (seem k ((r.dropWhile nG).drop 1)).1 (seemL k 44 (seem k ((r.dropWhile nG).drop 1)).2).1, (seemL k 44 (seem k ((r.dropWhile nG).drop 1)).2).2) := by
  simp only [seemL, seem]
  rw [if_pos h]
theorem seemL_stop {k b c : Nat} {r : List Nat} (h : ¬ (c = b ∧ 62 ∈ r)) : seemL (k + 1) b (c :: r) = (.nil, c :: r) := by
  simp only [seemL]
  rw [if_neg h]
/-- the second reader -/
def lparts : Nat → List Nat → List Nat → Option (List (List Nat))
  | d, cur, [] => if d = 0 then some [cur] else none
  | d, cur, c :: r => if c = 41 then (if d = 0 then none else lparts (d - 1) (cur ++ [c]) r)
    else if c = 40 then lparts (d + 1) (cur ++ [c]) r
    else if c = 44 ∧ d = 0 then (lparts 0 [] r).map (cur :: ·)
    else lparts d (cur ++ [c]) r
def lreadB (f : List Nat → Option Nd) : List (List Nat) → Option Bs
  | [] => some .nil
  | p :: ps => if p = p.takeWhile nG then none else match f (p.drop ((p.takeWhile nG).length + 1)) with
    | none => none
    | some t => match lreadB f ps with
      | none => none
      | some bs => some (.cons (p.takeWhile nG) t bs)
def n4 (c : Nat) : Bool := !(c == 40)
def lin (s : List Nat) : Option (List (List Nat)) :=
  if 40 ∈ s then (if s.getLast? ≠ some 41 ∨ ((s.dropWhile n4).drop 1).dropLast = [] then none else lparts 0 [] ((s.dropWhile n4).drop 1).dropLast) else some []
def bare (s : List Nat) : List Nat := if isX (s.takeWhile n4) = true then (s.takeWhile n4).drop 1 else s.takeWhile n4
def lread : Nat → List Nat → Option Nd
  | 0, _ => none
  | k + 1, s => match lin s with
    | none => none
    | some ps => if bare s = [] then none else match lreadB (lread k) ps with
      | none => none
      | some bs => some (.mk (sm (bare s)) bs (isX (s.takeWhile n4)))
/-! facts of words -/
theorem gw_ne {w : List Nat} (h : gw w) {x : Nat} (hx : x < 97) : x ∉ w := fun m => by
  have := h.2 x m
  omega
theorem tw_app {p : Nat → Bool} : ∀ {w r : List Nat}, (∀ c ∈ w, p c = true) → (∀ c, r.head? = some c → p c = false) → (w ++ r).takeWhile p = w ∧ (w ++ r).dropWhile p = r
  | [], [], _, _ => ⟨rfl, rfl⟩
  | [], c :: r, _, h => by
    have := h c rfl
    simp [List.takeWhile, List.dropWhile, this]
  | x :: w, r, hw, h => by
    obtain ⟨a, b⟩ := tw_app (w := w) (r := r) (fun c hc => hw c (List.mem_cons_of_mem _ hc)) h
    have e := hw x (List.mem_cons_self ..)
    rw [List.cons_append, List.takeWhile_cons, List.dropWhile_cons, if_pos e, if_pos e, a, b]
    exact ⟨rfl, rfl⟩
theorem gw_nG {w : List Nat} (h : gw w) : ∀ c ∈ w, nG c = true := fun c hc => by
  have := h.2 c hc
  unfold nG
  simp
  omega
theorem gw_nb {w : List Nat} (h : gw w) : ∀ c ∈ w, nb c = true := fun c hc => by
  have := h.2 c hc
  unfold nb
  simp
  omega
theorem sp_one {c : Nat} : ∀ {w : List Nat}, c ∉ w → sp c w = [w]
  | [], _ => rfl
  | x :: w, h => by
    have e := sp_one (c := c) (w := w) fun m => h (List.mem_cons_of_mem _ m)
    have ne : x ≠ c := fun z => h (z ▸ List.mem_cons_self ..)
    simp only [sp]
    rw [if_neg ne, e]
theorem sp_app {c : Nat} : ∀ {w r : List Nat}, c ∉ w → sp c (w ++ c :: r) = w :: sp c r
  | [], r, _ => by
    simp only [List.nil_append, sp]
    rw [if_pos trivial]
  | x :: w, r, h => by
    have e := sp_app (c := c) (w := w) (r := r) fun m => h (List.mem_cons_of_mem _ m)
    have ne : x ≠ c := fun z => h (z ▸ List.mem_cons_self ..)
    rw [List.cons_append]
    simp only [sp]
    rw [if_neg ne, e]
theorem sp_jn {c : Nat} : ∀ {ms : List (List Nat)}, ms ≠ [] → (∀ m ∈ ms, c ∉ m) → sp c (jn c ms) = ms
  | [], h, _ => absurd rfl h
  | [x], _, h => sp_one (h x (List.mem_cons_self ..))
  | x :: y :: r, _, h => by
    show sp c (x ++ c :: jn c (y :: r)) = _
    rw [sp_app (h x (List.mem_cons_self ..)), sp_jn (fun z => by cases z) fun m hm => h m (List.mem_cons_of_mem _ hm)]
theorem jn_head : ∀ {ms : List (List Nat)}, ms ≠ [] → (∀ m ∈ ms, gw m) → ∃ a r, jn 43 ms = a :: r ∧ 97 ≤ a ∧ a ≤ 122
  | [], h, _ => absurd rfl h
  | [x], _, h => by
    obtain ⟨n, g⟩ := h x (List.mem_cons_self ..)
    cases x with
    | nil => exact absurd rfl n
    | cons a r => exact ⟨a, r, rfl, g a (List.mem_cons_self ..)⟩
  | x :: y :: r, _, h => by
    obtain ⟨n, g⟩ := h x (List.mem_cons_self ..)
    cases x with
    | nil => exact absurd rfl n
    | cons a z => exact ⟨a, z ++ 43 :: jn 43 (y :: r), rfl, g a (List.mem_cons_self ..)⟩
theorem jn_mem : ∀ {ms : List (List Nat)}, (∀ m ∈ ms, gw m) → ∀ c ∈ jn 43 ms, c = 43 ∨ (97 ≤ c ∧ c ≤ 122)
  | [], _, c, hc => absurd hc List.not_mem_nil
  | [x], h, c, hc => .inr ((h x (List.mem_cons_self ..)).2 c hc)
  | x :: y :: r, h, c, hc => by
    rcases List.mem_append.mp (show c ∈ x ++ 43 :: jn 43 (y :: r) from hc) with z | z
    · exact .inr ((h x (List.mem_cons_self ..)).2 c z)
    · rcases List.mem_cons.mp z with rfl | z
      · exact .inl rfl
      · exact jn_mem (fun m hm => h m (List.mem_cons_of_mem _ hm)) c z
theorem wM_mem {ms : List (List Nat)} (h : ∀ m ∈ ms, gw m) : ∀ c ∈ wM ms, c = 43 ∨ c = 45 ∨ (97 ≤ c ∧ c ≤ 122) := fun c hc => by
  unfold wM at hc
  split at hc
  · exact .inr (.inl (List.mem_singleton.mp hc))
  · rcases jn_mem h c hc with z | z
    · exact .inl z
    · exact .inr (.inr z)
theorem wM_head {ms : List (List Nat)} (h : ∀ m ∈ ms, gw m) : ∃ a r, wM ms = a :: r ∧ a ≠ 33 := by
  unfold wM
  split
  · exact ⟨45, [], rfl, by decide⟩
  · rename_i n
    obtain ⟨a, r, e, h1, _⟩ := jn_head n h
    exact ⟨a, r, e, by omega⟩
theorem sm_wM {ms : List (List Nat)} (h : ∀ m ∈ ms, gw m) : sm (wM ms) = ms := by
  unfold wM
  by_cases n : ms = []
  · rw [if_pos n, n]
    rfl
  · rw [if_neg n]
    unfold sm
    obtain ⟨a, r, e, h1, h2⟩ := jn_head n h
    rw [if_neg (by rw [e]; intro z; injection z with z _; omega)]
    exact sp_jn n fun m hm => gw_ne (h m hm) (by decide)
theorem isX_w {ms : List (List Nat)} (h : ∀ m ∈ ms, gw m) (c : Bool) : isX (wC c ++ wM ms) = c ∧ (if isX (wC c ++ wM ms) = true then (wC c ++ wM ms).drop 1 else wC c ++ wM ms) = wM ms := by
  obtain ⟨a, r, e, n⟩ := wM_head h
  cases c with
  | true => exact ⟨rfl, rfl⟩
  | false =>
    have e1 : isX (wM ms) = false := by
      unfold isX
      rw [e]
      simp [n]
    exact ⟨e1, by show (if isX (wM ms) = true then _ else _) = _; rw [e1]; rfl⟩
theorem node_w {ms : List (List Nat)} (h : ∀ m ∈ ms, gw m) (c : Bool) (bs : Bs) : node (wC c ++ wM ms) bs = .mk ms bs c := by
  obtain ⟨e1, e2⟩ := isX_w h c
  unfold node
  rw [e2, sm_wM h, e1]
theorem wCM_nb {ms : List (List Nat)} (h : ∀ m ∈ ms, gw m) (c : Bool) : ∀ x ∈ wC c ++ wM ms, nb x = true ∧ nG x = true ∧ n4 x = true ∧ x ≠ 41 ∧ x ≠ 44 := fun x hx => by
  have : x = 33 ∨ x = 43 ∨ x = 45 ∨ (97 ≤ x ∧ x ≤ 122) := by
    rcases List.mem_append.mp hx with z | z
    · unfold wC at z
      split at z
      · exact .inl (List.mem_singleton.mp z)
      · exact absurd z List.not_mem_nil
    · exact .inr (wM_mem h x z)
  unfold nb nG n4
  simp
  omega
end X48
set_option linter.all false
set_option maxRecDepth 100000
set_option Elab.async false
/-! the first reader leads back -/
namespace X48
def pk (r : List Nat) : Prop := ∀ c, r.head? = some c → c = 44 ∨ c = 41
theorem pk_nb {r : List Nat} (h : pk r) : ∀ c, r.head? = some c → nb c = false := fun c hc => by
  rcases h c hc with rfl | rfl <;> rfl
theorem wrB_pk {bs : Bs} {post : List Nat} : pk (wrB 44 bs ++ post) := fun c hc => by
  cases bs with
  | nil => exact .inr (Option.some.inj hc).symm
  | cons w t r => exact .inl (Option.some.inj hc).symm
theorem cnt_app (a b : List Nat) : (a ++ b).count 62 = a.count 62 + b.count 62 := List.count_append
theorem cnt_cons (a : Nat) (b : List Nat) : (a :: b).count 62 = b.count 62 + if a = 62 then 1 else 0 := by
  rw [List.count_cons]
  by_cases h : a = 62
  · rw [if_pos h, if_pos (by rw [h]; rfl)]
  · rw [if_neg h, if_neg (by simpa using h)]
mutual
theorem rt1 : ∀ {t : Nd} {post : List Nat} {k : Nat}, Gd t → pk post → (wr t ++ post).count 62 ≤ k → seem k (wr t ++ post) = (t, post)
  | .mk ms bs c, post, k, ⟨gm, gb⟩, hp, hk => by
    have e : wr (.mk ms bs c) ++ post = (wC c ++ wM ms) ++ (wrB 40 bs ++ post) := by
      simp only [wr, List.append_assoc]
    rw [e] at hk ⊢
    have hh : ∀ x, (wrB 40 bs ++ post).head? = some x → nb x = false := fun x hx => by
      cases bs with
      | nil => exact pk_nb hp x hx
      | cons w t r => rw [← (Option.some.inj hx)]; rfl
    obtain ⟨t1, t2⟩ := tw_app (p := nb) (fun x hx => (wCM_nb gm c x hx).1) hh
    unfold seem
    rw [t1, t2, rt1B (a := 40) gb hp (.inl rfl) (by rw [cnt_app] at hk; omega), node_w gm]
    cases bs with
    | nil => rfl
    | cons w t r => rfl
theorem rt1B : ∀ {bs : Bs} {a : Nat} {post : List Nat} {k : Nat}, GdB bs → pk post → (a = 40 ∨ a = 44) → (wrB a bs ++ post).count 62 ≤ k → seemL k a (wrB a bs ++ post) = (bs, if a = 40 ∧ bs.isNil = true then post else 41 :: post)
  | .nil, a, post, k, _, hp, ha, hk => by
    rcases ha with rfl | rfl
    · show seemL k 40 post = (.nil, post)
      cases k with
      | zero => rfl
      | succ k =>
        cases post with
        | nil => rfl
        | cons c r =>
          refine seemL_stop fun h => ?_
          rcases hp c rfl with z | z <;> omega
    · show seemL k 44 (41 :: post) = (.nil, 41 :: post)
      cases k with
      | zero => rfl
      | succ k => exact seemL_stop fun h => by omega
  | .cons w t r, a, post, k, ⟨gw', gt, gr⟩, hp, ha, hk => by
    have e : wrB a (.cons w t r) ++ post = a :: (w ++ (62 :: (wr t ++ (wrB 44 r ++ post)))) := by
      simp only [wrB, List.cons_append, List.append_assoc]
    rw [e] at hk ⊢
    obtain ⟨t1, t2⟩ := tw_app (p := nG) (r := 62 :: (wr t ++ (wrB 44 r ++ post))) (gw_nG gw') fun x hx => by
      rw [← Option.some.inj hx]
      rfl
    have hk' : (wr t ++ (wrB 44 r ++ post)).count 62 + 1 ≤ k := by
      rw [cnt_cons, cnt_app, cnt_cons, if_pos rfl] at hk
      omega
    cases k with
    | zero => omega
    | succ k =>
      rw [seemL_step ⟨rfl, by simp⟩, t1, t2]
      show (Bs.cons w (seem k (wr t ++ (wrB 44 r ++ post))).1 (seemL k 44 (seem k (wr t ++ (wrB 44 r ++ post))).2).1, (seemL k 44 (seem k (wr t ++ (wrB 44 r ++ post))).2).2) = _
      rw [rt1 gt wrB_pk (by omega)]
      rw [rt1B (a := 44) gr hp (.inr rfl) (by rw [cnt_app] at hk'; omega)]
      simp [Bs.isNil]
end
/-- the whole text -/
theorem rt1_all {t : Nd} (g : Gd t) {k : Nat} (hk : (wr t).count 62 ≤ k) : (seem k (wr t)).1 = t := by
  have z := rt1 (t := t) (post := []) (k := k) g (fun c h => by cases h) (by rw [List.append_nil]; exact hk)
  rw [List.append_nil] at z
  rw [z]
end X48
set_option linter.all false
set_option maxRecDepth 100000
set_option Elab.async false
/-! the second reader leads back -/
namespace X48
theorem lp_ch {c d : Nat} {cur r : List Nat} (h : c ≠ 41 ∧ c ≠ 40 ∧ (c ≠ 44 ∨ d ≠ 0)) : lparts d cur (c :: r) = lparts d (cur ++ [c]) r := by
  simp only [lparts]
  rw [if_neg h.1, if_neg h.2.1, if_neg fun z => by rcases h.2.2 with y | y <;> omega]
theorem lp_open {d : Nat} {cur r : List Nat} : lparts d cur (40 :: r) = lparts (d + 1) (cur ++ [40]) r := by
  simp only [lparts]
  rw [if_neg (by decide), if_pos trivial]
theorem lp_close {d : Nat} {cur r : List Nat} : lparts (d + 1) cur (41 :: r) = lparts d (cur ++ [41]) r := by
  simp only [lparts]
  rw [if_pos trivial, if_neg (by omega)]
  rfl
theorem lp_comma {cur r : List Nat} : lparts 0 cur (44 :: r) = (lparts 0 [] r).map (cur :: ·) := by
  simp only [lparts]
  rw [if_neg (by decide), if_neg (by decide), if_pos ⟨trivial, trivial⟩]
theorem lp_word {d : Nat} : ∀ {w cur r : List Nat}, (∀ c ∈ w, c ≠ 41 ∧ c ≠ 40 ∧ c ≠ 44) → lparts d cur (w ++ r) = lparts d (cur ++ w) r
  | [], cur, r, _ => by rw [List.append_nil]; rfl
  | x :: w, cur, r, h => by
    obtain ⟨a, b, c⟩ := h x (List.mem_cons_self ..)
    rw [List.cons_append, lp_ch ⟨a, b, .inl c⟩, lp_word fun z hz => h z (List.mem_cons_of_mem _ hz), List.append_assoc]
    rfl
theorem gw_lp {w : List Nat} (h : gw w) : ∀ c ∈ w, c ≠ 41 ∧ c ≠ 40 ∧ c ≠ 44 := fun c hc => by
  have := h.2 c hc
  omega
theorem wCM_lp {ms : List (List Nat)} (h : ∀ m ∈ ms, gw m) (c : Bool) : ∀ x ∈ wC c ++ wM ms, x ≠ 41 ∧ x ≠ 40 ∧ x ≠ 44 := fun x hx => by
  obtain ⟨_, _, a, b, e⟩ := wCM_nb h c x hx
  refine ⟨b, fun z => ?_, e⟩
  rw [z] at a
  exact absurd a (by decide)
mutual
theorem lp_wr : ∀ {t : Nd} {d : Nat} {cur r : List Nat}, Gd t → lparts d cur (wr t ++ r) = lparts d (cur ++ wr t) r
  | .mk ms .nil c, d, cur, r, ⟨gm, _⟩ => by
    have e : wr (.mk ms .nil c) = wC c ++ wM ms := by simp [wr, wrB]
    rw [e, lp_word (wCM_lp gm c)]
  | .mk ms (.cons w t b) c, d, cur, r, ⟨gm, gw', gt, gb⟩ => by
    have e : wr (.mk ms (.cons w t b) c) = (wC c ++ wM ms) ++ (40 :: (w ++ (62 :: (wr t ++ wrB 44 b)))) := by simp [wr, wrB]
    rw [e, List.append_assoc, lp_word (wCM_lp gm c)]
    show lparts d _ (40 :: ((w ++ 62 :: (wr t ++ wrB 44 b)) ++ r)) = _
    rw [lp_open, List.append_assoc w, lp_word (gw_lp gw')]
    show lparts (d + 1) _ (62 :: ((wr t ++ wrB 44 b) ++ r)) = _
    rw [lp_ch ⟨by decide, by decide, .inl (by decide)⟩, List.append_assoc (wr t), lp_wr gt, lp_wrB gb]
    simp only [List.append_assoc, List.cons_append, List.nil_append]
theorem lp_wrB : ∀ {b : Bs} {d : Nat} {cur r : List Nat}, GdB b → lparts (d + 1) cur (wrB 44 b ++ r) = lparts d (cur ++ wrB 44 b) r
  | .nil, d, cur, r, _ => by
    show lparts (d + 1) cur (41 :: r) = _
    rw [lp_close]
    rfl
  | .cons w t b, d, cur, r, ⟨gw', gt, gb⟩ => by
    have e : wrB 44 (.cons w t b) = 44 :: (w ++ (62 :: (wr t ++ wrB 44 b))) := by simp [wrB]
    rw [e]
    show lparts (d + 1) cur (44 :: ((w ++ 62 :: (wr t ++ wrB 44 b)) ++ r)) = _
    rw [lp_ch ⟨by decide, by decide, .inr (by omega)⟩, List.append_assoc w, lp_word (gw_lp gw')]
    show lparts (d + 1) _ (62 :: ((wr t ++ wrB 44 b) ++ r)) = _
    rw [lp_ch ⟨by decide, by decide, .inl (by decide)⟩, List.append_assoc (wr t), lp_wr gt, lp_wrB gb]
    simp only [List.append_assoc, List.cons_append, List.nil_append]
end
/-- branches behind commas -/
def wrI : Bs → List Nat
  | .nil => []
  | .cons w t r => 44 :: (w ++ 62 :: (wr t ++ wrI r))
theorem wrB_I : ∀ b : Bs, wrB 44 b = wrI b ++ [41]
  | .nil => rfl
  | .cons w t r => by simp [wrB, wrI, wrB_I r]
def part (w : List Nat) (t : Nd) : List Nat := w ++ 62 :: wr t
def prts : Bs → List (List Nat)
  | .nil => []
  | .cons w t r => part w t :: prts r
theorem lp_I : ∀ {b : Bs} {cur : List Nat}, GdB b → lparts 0 cur (wrI b) = some (cur :: prts b)
  | .nil, cur, _ => rfl
  | .cons w t r, cur, ⟨gw', gt, gr⟩ => by
    show lparts 0 cur (44 :: (w ++ 62 :: (wr t ++ wrI r))) = _
    rw [lp_comma, lp_word (gw_lp gw'), lp_ch ⟨by decide, by decide, .inl (by decide)⟩, lp_wr gt, lp_I gr]
    simp [prts, part]
theorem lp_in {w : List Nat} {t : Nd} {r : Bs} (gw' : gw w) (gt : Gd t) (gr : GdB r) : lparts 0 [] (w ++ 62 :: (wr t ++ wrI r)) = some (prts (.cons w t r)) := by
  rw [lp_word (gw_lp gw'), lp_ch ⟨by decide, by decide, .inl (by decide)⟩, lp_wr gt, lp_I gr]
  simp [prts, part]
theorem lreadB_ok {f : List Nat → Option Nd} : ∀ {b : Bs}, GdB b → (∀ w t r, b = .cons w t r → True) → (∀ t, Gd t → hd t ≤ hdB b → f (wr t) = some t) → lreadB f (prts b) = some b
  | .nil, _, _, _ => rfl
  | .cons w t r, ⟨gw', gt, gr⟩, _, hf => by
    obtain ⟨t1, t2⟩ := tw_app (p := nG) (r := 62 :: wr t) (gw_nG gw') fun x hx => by
      rw [← Option.some.inj hx]
      rfl
    show lreadB f (part w t :: prts r) = _
    simp only [lreadB]
    have e1 : (part w t).takeWhile nG = w := t1
    have e2 : (part w t).drop (w.length + 1) = wr t := by
      show (w ++ 62 :: wr t).drop (w.length + 1) = _
      rw [List.drop_append, List.drop_eq_nil_of_le (by omega), show w.length + 1 - w.length = 1 by omega]
      rfl
    rw [e1, e2, if_neg (by
      unfold part
      intro z
      have := congrArg List.length z
      rw [List.length_append, List.length_cons] at this
      omega), hf t gt (Nat.le_max_left ..), lreadB_ok gr (fun _ _ _ _ => trivial) fun t' g' h' => hf t' g' (Nat.le_trans h' (Nat.le_max_right ..))]
theorem bare_w {ms : List (List Nat)} (h : ∀ m ∈ ms, gw m) {c : Bool} {s : List Nat} (e : s.takeWhile n4 = wC c ++ wM ms) : bare s = wM ms ∧ isX (s.takeWhile n4) = c := by
  obtain ⟨e1, e2⟩ := isX_w h c
  unfold bare
  rw [e]
  exact ⟨e2, e1⟩
theorem rt2 : ∀ {k : Nat} {t : Nd}, Gd t → hd t ≤ k → lread k (wr t) = some t := by
  intro k
  induction k with
  | zero =>
    intro t _ h
    cases t with
    | mk ms bs c => exact absurd h (by simp [hd])
  | succ k ih =>
    intro t g h
    cases t with
    | mk ms bs c =>
      obtain ⟨gm, gb⟩ := g
      have hk : hdB bs ≤ k := by
        have : hdB bs + 1 ≤ k + 1 := h
        omega
      cases bs with
      | nil =>
        have e : wr (.mk ms .nil c) = wC c ++ wM ms := by simp [wr, wrB]
        have t1 : (wC c ++ wM ms).takeWhile n4 = wC c ++ wM ms := by
          have z := tw_app (p := n4) (w := wC c ++ wM ms) (r := []) (fun x hx => (wCM_nb gm c x hx).2.2.1) fun x hx => by cases hx
          rw [List.append_nil] at z
          exact z.1
        obtain ⟨b1, b2⟩ := bare_w gm t1
        have l1 : lin (wC c ++ wM ms) = some [] := by
          unfold lin
          rw [if_neg fun z => (wCM_lp gm c 40 z).2.1 rfl]
        obtain ⟨a, r, e3, _⟩ := wM_head gm
        rw [e]
        simp only [lread]
        rw [l1, b1, b2]
        show (if wM ms = [] then none else some (Nd.mk (sm (wM ms)) .nil c)) = _
        rw [if_neg (by rw [e3]; intro z; cases z), sm_wM gm]
      | cons w t r =>
        obtain ⟨gw', gt, gr⟩ := gb
        have e : wr (.mk ms (.cons w t r) c) = (wC c ++ wM ms) ++ (40 :: ((w ++ 62 :: (wr t ++ wrI r)) ++ [41])) := by
          simp [wr, wrB, wrB_I]
        rw [e]
        obtain ⟨t1, t2⟩ := tw_app (p := n4) (w := wC c ++ wM ms) (r := 40 :: ((w ++ 62 :: (wr t ++ wrI r)) ++ [41])) (fun x hx => (wCM_nb gm c x hx).2.2.1) fun x hx => by
          rw [← Option.some.inj hx]
          rfl
        obtain ⟨b1, b2⟩ := bare_w gm t1
        have l1 : lin ((wC c ++ wM ms) ++ (40 :: ((w ++ 62 :: (wr t ++ wrI r)) ++ [41]))) = some (prts (.cons w t r)) := by
          unfold lin
          rw [if_pos (by simp), t2]
          have ed : ((40 :: ((w ++ 62 :: (wr t ++ wrI r)) ++ [41])).drop 1).dropLast = w ++ 62 :: (wr t ++ wrI r) := List.dropLast_concat
          rw [if_neg, ed, lp_in gw' gt gr]
          intro z
          rw [ed] at z
          rcases z with z | z
          · refine z ?_
            rw [show (wC c ++ wM ms) ++ (40 :: ((w ++ 62 :: (wr t ++ wrI r)) ++ [41])) = ((wC c ++ wM ms) ++ (40 :: (w ++ 62 :: (wr t ++ wrI r)))) ++ [41] by simp]
            exact List.getLast?_concat
          · have := congrArg List.length z
            rw [List.length_append, List.length_cons] at this
            simp at this
        obtain ⟨a, y, e3, _⟩ := wM_head gm
        simp only [lread]
        rw [l1, b1, b2]
        show (if wM ms = [] then none else match lreadB (lread k) (prts (.cons w t r)) with | none => none | some bs => some (Nd.mk (sm (wM ms)) bs c)) = _
        rw [if_neg (by rw [e3]; intro z; cases z), sm_wM gm]
        show (match lreadB (lread k) (prts (.cons w t r)) with | none => none | some bs => some (Nd.mk ms bs c)) = _
        rw [lreadB_ok (b := .cons w t r) ⟨gw', gt, gr⟩ (fun _ _ _ _ => trivial) fun t' g' h' => ih g' (Nat.le_trans h' hk)]
end X48
set_option linter.all false
set_option maxRecDepth 100000
set_option Elab.async false
/-! the first reader without fuel -/
namespace X48
theorem cnt_suf {a b : List Nat} (h : a <:+ b) : a.count 62 ≤ b.count 62 := h.sublist.count_le 62
theorem suf_drop {a b : List Nat} (h : a <:+ b) (n : Nat) : a.drop n <:+ b := (List.drop_suffix n a).trans h
theorem suf_fit {a b : List Nat} (h : a <:+ b) (bs : Bs) : fit bs a <:+ b := by
  unfold fit
  split
  · exact h
  · exact suf_drop h 1
theorem suf_r3 (r : List Nat) : ((r.dropWhile nG).drop 1) <:+ r := suf_drop (List.dropWhile_suffix nG) 1
theorem cnt_r3 {r : List Nat} (h : 62 ∈ r) : ((r.dropWhile nG).drop 1).count 62 + 1 = r.count 62 := by
  obtain ⟨w, y, e, hw⟩ : ∃ w y, r = w ++ 62 :: y ∧ 62 ∉ w := by
    induction r with
    | nil => cases h
    | cons a r ih =>
      by_cases ha : a = 62
      · exact ⟨[], r, by rw [ha]; rfl, List.not_mem_nil⟩
      · rcases List.mem_cons.mp h with z | z
        · exact absurd z.symm ha
        · obtain ⟨w, y, e, hw⟩ := ih z
          exact ⟨a :: w, y, by rw [e]; rfl, fun q => by
            rcases List.mem_cons.mp q with q | q
            · exact ha q.symm
            · exact hw q⟩
  have z := tw_app (p := nG) (w := w) (r := 62 :: y) (fun c hc => by
    unfold nG
    have : c ≠ 62 := fun q => hw (q ▸ hc)
    simpa using this) fun c hc => by
    rw [← Option.some.inj hc]
    rfl
  rw [e, z.2, cnt_app, cnt_cons, if_pos rfl, List.count_eq_zero.mpr hw]
  show y.count 62 + 1 = 0 + (y.count 62 + 1)
  omega
theorem suf_L : ∀ (k b : Nat) (r : List Nat), (seemL k b r).2 <:+ r
  | 0, b, r => List.suffix_refl r
  | k + 1, b, [] => List.suffix_refl _
  | k + 1, b, c :: r => by
    by_cases h : c = b ∧ 62 ∈ r
    · rw [seemL_step h]
      have s1 : (seem k ((r.dropWhile nG).drop 1)).2 <:+ r := by
        unfold seem
        exact suf_fit ((suf_L k 40 _).trans ((List.dropWhile_suffix nb).trans (suf_r3 r))) _
      exact ((suf_L k 44 _).trans s1).trans (List.suffix_cons c r)
    · rw [seemL_stop h]
      exact List.suffix_refl _
theorem suf_S (k : Nat) (r : List Nat) : (seem k r).2 <:+ r := by
  unfold seem
  exact suf_fit ((suf_L k 40 _).trans (List.dropWhile_suffix nb)) _
theorem fuel : ∀ (k k' b : Nat) (r : List Nat), r.count 62 ≤ k → r.count 62 ≤ k' → seemL k b r = seemL k' b r := by
  have z0 : ∀ (k b : Nat) (r : List Nat), r.count 62 = 0 → seemL k b r = (.nil, r) := by
    intro k b r h
    cases k with
    | zero => rfl
    | succ k =>
      cases r with
      | nil => rfl
      | cons c r =>
        refine seemL_stop fun ⟨_, m⟩ => ?_
        rw [cnt_cons] at h
        have := List.count_pos_iff.mpr m
        omega
  intro k
  induction k with
  | zero => exact fun k' b r h h' => by rw [z0 0 b r (by omega), z0 k' b r (by omega)]
  | succ k ih =>
    intro k' b r h h'
    cases k' with
    | zero => rw [z0 _ b r (by omega), z0 0 b r (by omega)]
    | succ k' =>
      cases r with
      | nil => rfl
      | cons c r =>
        by_cases hc : c = b ∧ 62 ∈ r
        · rw [seemL_step hc, seemL_step hc]
          have e := cnt_r3 hc.2
          rw [cnt_cons] at h h'
          have es : seem k ((r.dropWhile nG).drop 1) = seem k' ((r.dropWhile nG).drop 1) := by
            unfold seem
            have := cnt_suf (List.dropWhile_suffix (l := (r.dropWhile nG).drop 1) nb)
            rw [ih k' 40 _ (by omega) (by omega)]
          have l2 := cnt_suf (suf_S k' ((r.dropWhile nG).drop 1))
          rw [es, ih k' 44 _ (by omega) (by omega)]
        · rw [seemL_stop hc, seemL_stop hc]
def sl (b : Nat) (r : List Nat) : Bs × List Nat := seemL (r.count 62) b r
def sn (r : List Nat) : Nd × List Nat := seem (r.count 62) r
theorem sn_eq (r : List Nat) : sn r = (node (r.takeWhile nb) (sl 40 (r.dropWhile nb)).1, fit (sl 40 (r.dropWhile nb)).1 (sl 40 (r.dropWhile nb)).2) := by
  unfold sn seem sl
  have := cnt_suf (List.dropWhile_suffix (l := r) nb)
  rw [fuel (r.count 62) ((r.dropWhile nb).count 62) 40 _ this (Nat.le_refl _)]
theorem sl_nil (b : Nat) : sl b [] = (.nil, []) := rfl
theorem sl_stop {b c : Nat} {r : List Nat} (h : ¬ (c = b ∧ 62 ∈ r)) : sl b (c :: r) = (.nil, c :: r) := by
  unfold sl
  cases (c :: r).count 62 with
  | zero => rfl
  | succ k => exact seemL_stop h
theorem sl_step {b c : Nat} {r : List Nat} (h : c = b ∧ 62 ∈ r) : sl b (c :: r) =
    (.cons (r.takeWhile nG) (sn ((r.dropWhile nG).drop 1)).1 (sl 44 (sn ((r.dropWhile nG).drop 1)).2).1, (sl 44 (sn ((r.dropWhile nG).drop 1)).2).2) := by
  have e := cnt_r3 h.2
  have p := List.count_pos_iff.mpr h.2
  have hk : ∃ k, (c :: r).count 62 = k + 1 ∧ r.count 62 ≤ k + 1 := by
    rw [cnt_cons]
    refine ⟨r.count 62 + (if c = 62 then 1 else 0) - 1, by omega, by omega⟩
  obtain ⟨k, ek, rk⟩ := hk
  unfold sl sn
  rw [ek, seemL_step h]
  have es : seem k ((r.dropWhile nG).drop 1) = seem (((r.dropWhile nG).drop 1).count 62) ((r.dropWhile nG).drop 1) := by
    unfold seem
    have := cnt_suf (List.dropWhile_suffix (l := (r.dropWhile nG).drop 1) nb)
    rw [fuel k (((r.dropWhile nG).drop 1).count 62) 40 _ (by omega) (by omega)]
  have l2 := cnt_suf (suf_S (((r.dropWhile nG).drop 1).count 62) ((r.dropWhile nG).drop 1))
  rw [es, fuel k _ 44 _ (by omega) (Nat.le_refl _)]
theorem sn_wr {t : Nd} (g : Gd t) : (sn (wr t)).1 = t := rt1_all g (Nat.le_refl _)
theorem sn_suf (r : List Nat) : (sn r).2 <:+ r := suf_S _ r
theorem sl_suf (b : Nat) (r : List Nat) : (sl b r).2 <:+ r := suf_L _ b r
/-- branches that are read, and what follows -/
def appB : List (List Nat × Nd) → Bs → Bs
  | [], b => b
  | p :: ps, b => .cons p.1 p.2 (appB ps b)
theorem appB_snoc : ∀ (ps : List (List Nat × Nd)) (w : List Nat) (t : Nd) (b : Bs), appB (ps ++ [(w, t)]) b = appB ps (.cons w t b)
  | [], w, t, b => rfl
  | p :: ps, w, t, b => by
    show Bs.cons p.1 p.2 (appB (ps ++ [(w, t)]) b) = _
    rw [appB_snoc ps w t b]
    rfl
theorem appB_nil (ps : List (List Nat × Nd)) : (appB ps .nil).isNil = ps.isEmpty := by
  cases ps <;> rfl
end X48
set_option Elab.async false
set_option linter.all false
set_option maxRecDepth 100000
set_option maxHeartbeats 4000000
/-! texts as lists of signs -/
namespace X48
open PySem
def S (l : List Nat) : Str := ⟨l.toArray⟩
def lS (x : Str) : List Nat := x.cps.toList
theorem lS_S (l : List Nat) : lS (S l) = l := rfl
theorem S_lS (x : Str) : S (lS x) = x := by
  obtain ⟨a⟩ := x
  show Str.mk a.toList.toArray = _
  rw [Array.toArray_toList]
theorem len_lS (x : Str) : x.length = (lS x).length := by
  obtain ⟨a⟩ := x
  exact Array.length_toList.symm
theorem len_S (l : List Nat) : (S l).length = l.length := by
  rw [len_lS]
  rfl
theorem at_one {x : Str} {c i : Nat} : StrLaws.At x (S [c]) x.length i ↔ (lS x)[i]? = some c := StrLaws.subAt_one x c i
theorem first_drop {c : Nat} : ∀ {l : List Nat} {i k : Nat}, i ≤ k → l[k]? = some c → (∀ j, i ≤ j → j < k → l[j]? ≠ some c) → c ∈ l.drop i ∧ ((l.drop i).takeWhile fun x => !(x == c)).length = k - i
  | l, i, k, ik, h, hn => by
    have hk : k < l.length := (List.getElem?_eq_some_iff.mp h).1
    have e : l.drop i = (l.drop i).take (k - i) ++ c :: l.drop (k + 1) := by
      have e1 : (l.drop i).drop (k - i) = c :: l.drop (k + 1) := by
        rw [List.drop_drop, show i + (k - i) = k by omega, List.drop_eq_getElem_cons hk]
        congr 1
        exact (List.getElem?_eq_some_iff.mp h).2
      rw [← e1, List.take_append_drop]
    have z := tw_app (p := fun x => !(x == c)) (w := (l.drop i).take (k - i)) (r := c :: l.drop (k + 1)) (fun y hy => by
      obtain ⟨m, hm⟩ := List.mem_iff_getElem?.mp hy
      have hm' : m < k - i := by
        have := (List.getElem?_eq_some_iff.mp hm).1
        rw [List.length_take] at this
        omega
      rw [List.getElem?_take, if_pos hm', List.getElem?_drop] at hm
      have n := hn (i + m) (by omega) (by omega)
      rw [hm] at n
      simpa using n) fun y hy => by
      have : c = y := Option.some.inj hy
      simp [this]
    refine ⟨by rw [e]; simp, ?_⟩
    rw [e, z.1, List.length_take, List.length_drop]
    omega
theorem no_drop {c i : Nat} {l : List Nat} (h : ∀ j, i ≤ j → l[j]? ≠ some c) : c ∉ l.drop i := fun m => by
  obtain ⟨k, hk⟩ := List.mem_iff_getElem?.mp m
  rw [List.getElem?_drop] at hk
  exact h (i + k) (by omega) hk
/-- where c stands, from i on -/
def fnd (c : Nat) (l : List Nat) (i : Nat) : Int := if c ∈ l.drop i then ((i + ((l.drop i).takeWhile fun x => !(x == c)).length : Nat) : Int) else -1
theorem occ_fnd (x : Str) (c i : Nat) : (match Builtin.Str.occurrences x (S [c]) i x.length 1 with | k :: _ => (k : Int) | [] => -1) = fnd c (lS x) i := by
  unfold fnd
  rcases StrLaws.occ_head_from x (S [c]) i 1 (Nat.le_refl _) with ⟨e, h⟩ | ⟨k, r, e, h1, h2, h3⟩
  · rw [e, if_neg (no_drop fun j hj z => h j hj (at_one.mpr z))]
  · obtain ⟨m, t⟩ := first_drop h1 (at_one.mp h2) fun j hj hk z => h3 j hj hk (at_one.mpr z)
    rw [e, if_pos m, t]
    show (k : Int) = _
    rw [show i + (k - i) = k by omega]
theorem find3_one (x : Str) (c i : Nat) : Txt.find3 x (S [c]) (i : Int) = fnd c (lS x) i := by
  unfold Txt.find3
  have e : fromIndex x.length (i : Int) = i := by
    unfold fromIndex
    rw [if_neg (by omega)]
    omega
  rw [e]
  exact occ_fnd x c i
theorem find_one (x : Str) (c : Nat) : Txt.find x (S [c]) = fnd c (lS x) 0 := occ_fnd x c 0
/-- all places of c -/
def pos (c : Nat) : Nat → List Nat → List Nat
  | _, [] => []
  | k, x :: r => if x = c then k :: pos c (k + 1) r else pos c (k + 1) r
theorem pos_len (c : Nat) : ∀ (k : Nat) (l : List Nat), (pos c k l).length = l.count c
  | _, [] => rfl
  | k, x :: r => by
    simp only [pos]
    rw [List.count_cons]
    by_cases h : x = c
    · rw [if_pos h, List.length_cons, pos_len c (k + 1) r, if_pos (by rw [h]; exact beq_self_eq_true c)]
    · rw [if_neg h, pos_len c (k + 1) r, if_neg (by simpa using h)]
      rfl
theorem occ_go (x : Str) (c : Nat) : ∀ (m lo free : Nat) (acc : Array Nat), lo + m = x.length + 1 → free ≤ lo → acc.size ≤ lo →
    (forIn (List.range' lo m) (acc, free) (StrLaws.occBody x (S [c]) x.length (x.length + 1))).run.fst.toList = acc.toList ++ pos c lo ((lS x).drop lo) := by
  intro m
  induction m with
  | zero =>
    intro lo free acc h _ _
    have e : (lS x).drop lo = [] := List.drop_eq_nil_of_le (by rw [← len_lS]; omega)
    rw [e]
    show acc.toList = acc.toList ++ []
    rw [List.append_nil]
  | succ m ih =>
    intro lo free acc h hf ha
    rw [List.range'_succ, List.forIn_cons]
    by_cases hx : (lS x)[lo]? = some c
    · have hx' := at_one.mpr hx
      have hl : lo < (lS x).length := (List.getElem?_eq_some_iff.mp hx).1
      rw [← len_lS] at hl
      have e : StrLaws.occBody x (S [c]) x.length (x.length + 1) lo (acc, free) = pure (ForInStep.yield (acc.push lo, lo + 1)) := by
        unfold StrLaws.occBody
        rw [if_pos ⟨⟨⟨by show acc.size < _; omega, hf⟩, hx'.1⟩, hx'.2⟩]
        rfl
      rw [e]
      show (forIn (List.range' (lo + 1) m) (acc.push lo, lo + 1) (StrLaws.occBody x (S [c]) x.length (x.length + 1))).run.fst.toList = _
      rw [ih (lo + 1) (lo + 1) (acc.push lo) (by omega) (Nat.le_refl _) (by rw [Array.size_push]; omega)]
      have ed : (lS x).drop lo = c :: (lS x).drop (lo + 1) := by
        rw [List.drop_eq_getElem_cons (by rw [← len_lS]; exact hl)]
        congr 1
        exact (List.getElem?_eq_some_iff.mp hx).2
      rw [ed, Array.toList_push]
      simp only [pos]
      rw [if_pos trivial, List.append_assoc]
      rfl
    · have e : StrLaws.occBody x (S [c]) x.length (x.length + 1) lo (acc, free) = pure (ForInStep.yield (acc, free)) := by
        unfold StrLaws.occBody
        rw [if_neg fun z => hx (at_one.mp ⟨z.1.2, z.2⟩)]
      rw [e]
      show (forIn (List.range' (lo + 1) m) (acc, free) (StrLaws.occBody x (S [c]) x.length (x.length + 1))).run.fst.toList = _
      rw [ih (lo + 1) free acc (by omega) (by omega) (by omega)]
      congr 1
      by_cases hl : lo < (lS x).length
      · rw [List.drop_eq_getElem_cons hl]
        simp only [pos]
        rw [if_neg fun z => hx (List.getElem?_eq_some_iff.mpr ⟨hl, z⟩)]
      · rw [List.drop_eq_nil_of_le (by omega), List.drop_eq_nil_of_le (by omega)]
        rfl
theorem occ_pos (x : Str) (c : Nat) : Builtin.Str.occurrences x (S [c]) 0 x.length (x.length + 1) = pos c 0 (lS x) := by
  rw [StrLaws.occ_eq]
  have z := occ_go x c (x.length + 1) 0 0 #[] (by omega) (Nat.le_refl _) (Nat.le_refl _)
  exact z
theorem count_one (x : Str) (c : Nat) : Txt.count x (S [c]) = (((lS x).count c : Nat) : Int) := by
  unfold Txt.count
  rw [occ_pos, pos_len]
theorem starts_one (x : Str) (c : Nat) : Txt.startswith x (S [c]) = ((lS x).head? == some c) := by
  unfold Txt.startswith
  have z := at_one (x := x) (c := c) (i := 0)
  unfold StrLaws.At at z
  rw [List.head?_eq_getElem?]
  rw [Bool.eq_iff_iff, Bool.and_eq_true_iff, decide_eq_true_eq, beq_iff_eq]
  exact z
end X48
set_option Elab.async false
set_option linter.all false
set_option maxRecDepth 100000
set_option maxHeartbeats 4000000
namespace X48
open PySem
theorem pos_none {c : Nat} : ∀ {l : List Nat} {k : Nat}, c ∉ l → pos c k l = []
  | [], _, _ => rfl
  | x :: r, k, h => by
    have ne : x ≠ c := fun z => h (z ▸ List.mem_cons_self ..)
    simp only [pos]
    rw [if_neg ne, pos_none fun z => h (List.mem_cons_of_mem _ z)]
theorem pos_app {c : Nat} : ∀ {w r : List Nat} {k : Nat}, c ∉ w → pos c k (w ++ c :: r) = (k + w.length) :: pos c (k + w.length + 1) r
  | [], r, k, _ => by
    simp only [List.nil_append, pos]
    rw [if_pos trivial]
    rfl
  | x :: w, r, k, h => by
    rw [List.cons_append]
    have ne : x ≠ c := fun z => h (z ▸ List.mem_cons_self ..)
    simp only [pos]
    rw [if_neg ne, pos_app fun z => h (List.mem_cons_of_mem _ z), List.length_cons, show k + 1 + w.length = k + (w.length + 1) by omega]
theorem split_at {c : Nat} : ∀ {l : List Nat}, c ∈ l → ∃ w r, l = w ++ c :: r ∧ c ∉ w
  | [], h => absurd h List.not_mem_nil
  | x :: l, h => by
    by_cases e : x = c
    · exact ⟨[], l, by rw [e]; rfl, List.not_mem_nil⟩
    · rcases List.mem_cons.mp h with z | z
      · exact absurd z.symm e
      · obtain ⟨w, r, e1, e2⟩ := split_at z
        exact ⟨x :: w, r, by rw [e1]; rfl, fun y => by
          rcases List.mem_cons.mp y with y | y
          · exact e y.symm
          · exact e2 y⟩
theorem sub_take (x : Str) (i j : Nat) : Builtin.Str.strSub x i j = S (((lS x).drop i).take (j - i)) := by
  obtain ⟨a⟩ := x
  show Str.mk (a.extract i j) = Str.mk _
  congr 1
  rw [← Array.toList_inj, Array.toList_extract]
  rfl
theorem parts_sp (x : Str) (c : Nat) : ∀ (n st : Nat), (lS x).length - st ≤ n → st ≤ (lS x).length → StrLaws.partsFrom x 1 st (pos c st ((lS x).drop st)) = (sp c ((lS x).drop st)).map S := by
  intro n
  induction n with
  | zero =>
    intro st h hs
    have e : (lS x).drop st = [] := List.drop_eq_nil_of_le (by omega)
    rw [e]
    show [Builtin.Str.strSub x st x.length] = [S []]
    rw [sub_take, e, List.take_nil]
  | succ n ih =>
    intro st h hs
    by_cases m : c ∈ (lS x).drop st
    · obtain ⟨w, r, e, hw⟩ := split_at m
      have ln : ((lS x).drop st).length = w.length + (r.length + 1) := by rw [e, List.length_append, List.length_cons]
      rw [List.length_drop] at ln
      have er : (lS x).drop (st + w.length + 1) = r := by
        rw [← List.drop_drop, ← List.drop_drop, e, List.drop_left]
        rfl
      have z := ih (st + w.length + 1) (by omega) (by omega)
      rw [er] at z
      rw [e, pos_app hw, sp_app hw]
      show Builtin.Str.strSub x st (st + w.length) :: StrLaws.partsFrom x 1 (st + w.length + 1) (pos c (st + w.length + 1) r) = S w :: (sp c r).map S
      rw [z, sub_take, e, show st + w.length - st = w.length by omega, List.take_left]
    · rw [pos_none m, sp_one m]
      show [Builtin.Str.strSub x st x.length] = [S ((lS x).drop st)]
      rw [sub_take, len_lS, List.take_of_length_le (by rw [List.length_drop]; omega)]
theorem split_one (x : Str) {c : Nat} (hc : c < 256) : Txt.split x (S [c]) = (sp c (lS x)).map S := by
  have k1 : Builtin.Str.strKind (S [c]) = 1 := by
    unfold Builtin.Str.strKind
    rw [if_pos (by simp [S, hc])]
  have k2 : 1 ≤ Builtin.Str.strKind x := by
    unfold Builtin.Str.strKind
    split
    · exact Nat.le_refl _
    · split <;> decide
  unfold Txt.split
  rw [k1, occ_pos]
  have z := parts_sp x c (lS x).length 0 (by omega) (by omega)
  rw [List.drop_zero] at z
  by_cases h : x.length < (S [c]).length ∨ Builtin.Str.strKind x < 1
  · rw [if_pos (by simpa using h)]
    have hl : (lS x) = [] := by
      have h0 : x.length = 0 := by
        have : (S [c]).length = 1 := rfl
        omega
      exact List.eq_nil_of_length_eq_zero (by rw [← len_lS]; exact h0)
    rw [hl]
    show [x] = [S []]
    rw [← hl, S_lS]
  · rw [if_neg (by simpa using h)]
    by_cases p : (pos c 0 (lS x)).isEmpty = true
    · rw [if_pos p]
      rw [List.isEmpty_iff.mp p] at z
      rw [← z]
      show [x] = [Builtin.Str.strSub x 0 x.length]
      rw [sub_take, List.drop_zero, len_lS, Nat.sub_zero, List.take_length, S_lS]
    · rw [if_neg p, StrLaws.partsBetween_eq]
      exact z
theorem app_S (a b : List Nat) : Str.append (S a) (S b) = S (a ++ b) := by
  show Str.mk (a.toArray ++ b.toArray) = Str.mk _
  rw [List.append_toArray]
theorem lS_app (x y : Str) : lS (x ++ y) = lS x ++ lS y := by
  obtain ⟨a⟩ := x
  obtain ⟨b⟩ := y
  exact Array.toList_append
theorem glue_fold (g : Array Nat) : ∀ (ps : List Str) (acc : Array Nat), (ps.foldl (fun acc p => acc ++ g ++ p.cps) acc).toList = acc.toList ++ ps.flatMap fun p => g.toList ++ lS p
  | [], acc => by simp
  | p :: ps, acc => by
    rw [List.foldl_cons, glue_fold g ps, List.flatMap_cons, Array.toList_append, Array.toList_append]
    simp only [List.append_assoc]
    rfl
def jnE (g : List Nat) : List (List Nat) → List Nat
  | [] => []
  | x :: r => x ++ r.flatMap fun p => g ++ p
theorem join_S (g : List Nat) (ps : List Str) : Txt.join (S g) ps = S (jnE g (ps.map lS)) := by
  unfold Txt.join Builtin.Str.glued
  have z := glue_fold (S g).cps (ps.drop 1) (ps.headD Str.empty).cps
  show Str.mk _ = Str.mk _
  congr 1
  rw [← Array.toList_inj, z]
  cases ps with
  | nil => rfl
  | cons p r =>
    show lS p ++ r.flatMap (fun p => g ++ lS p) = lS p ++ (r.map lS).flatMap fun p => g ++ p
    rw [List.flatMap_map]
theorem jnE_jn (c : Nat) : ∀ ps : List (List Nat), jnE [c] ps = jn c ps
  | [] => rfl
  | [x] => by simp [jnE, jn]
  | x :: y :: r => by
    show x ++ (([c] ++ y) ++ r.flatMap fun p => [c] ++ p) = x ++ c :: jn c (y :: r)
    rw [← jnE_jn c (y :: r)]
    simp [jnE]
theorem join_one (c : Nat) (ps : List Str) : Txt.join (S [c]) ps = S (jn c (ps.map lS)) := by rw [join_S, jnE_jn]
theorem cut_from (x : Str) (i : Nat) : L2.cutS x (some (i : Int)) none = S ((lS x).drop i) := by
  unfold L2.cutS HT.sIx
  simp only []
  rw [if_neg (by omega)]
  show Str.mk (List.take (x.length - min (i : Int).toNat x.length) (List.drop (min (i : Int).toNat x.length) (lS x))).toArray = _
  congr 1
  congr 1
  rw [len_lS, Int.toNat_natCast]
  by_cases h : i ≤ (lS x).length
  · rw [Nat.min_eq_left h, List.take_of_length_le (by rw [List.length_drop]; omega)]
  · rw [Nat.min_eq_right (by omega), List.drop_eq_nil_of_le (Nat.le_refl _), List.drop_eq_nil_of_le (by omega)]
    simp
theorem cut_mid (x : Str) (i j : Nat) : L2.cutS x (some (i : Int)) (some (j : Int)) = S (((lS x).drop i).take (j - i)) := by
  unfold L2.cutS HT.sIx
  simp only []
  rw [if_neg (by omega), if_neg (by omega), Int.toNat_natCast, Int.toNat_natCast]
  show Str.mk (List.take (min j x.length - min i x.length) (List.drop (min i x.length) (lS x))).toArray = _
  congr 1
  congr 1
  rw [len_lS]
  by_cases h : i ≤ (lS x).length
  · rw [Nat.min_eq_left h]
    by_cases h2 : j ≤ (lS x).length
    · rw [Nat.min_eq_left h2]
    · rw [Nat.min_eq_right (by omega), List.take_of_length_le (by rw [List.length_drop]; omega), List.take_of_length_le (by rw [List.length_drop]; omega)]
  · rw [Nat.min_eq_right (show (lS x).length ≤ i by omega), List.drop_eq_nil_of_le (Nat.le_refl _), List.drop_eq_nil_of_le (by omega)]
    simp
theorem cut_to (x : Str) (j : Nat) : L2.cutS x none (some (j : Int)) = S ((lS x).take j) := by
  unfold L2.cutS HT.sIx
  simp only []
  rw [if_neg (by omega), Int.toNat_natCast]
  show Str.mk (List.take (min j x.length - 0) (List.drop 0 (lS x))).toArray = _
  congr 1
  congr 1
  rw [len_lS, List.drop_zero, Nat.sub_zero]
  by_cases h : j ≤ (lS x).length
  · rw [Nat.min_eq_left h]
  · rw [Nat.min_eq_right (by omega), List.take_length, List.take_of_length_le (by omega)]
theorem cut_but_last (x : Str) (i : Nat) : L2.cutS x (some (i : Int)) (some (-1)) = S (((lS x).drop i).dropLast) := by
  unfold L2.cutS HT.sIx
  simp only []
  rw [if_pos (show (-1 : Int) < 0 by decide), if_neg (show ¬ (i : Int) < 0 by omega), Int.toNat_natCast]
  show Str.mk (List.take ((-1 + (x.length : Int)).toNat - min i x.length) (List.drop (min i x.length) (lS x))).toArray = _
  congr 1
  congr 1
  rw [len_lS, List.dropLast_eq_take, List.length_drop]
  by_cases h : i ≤ (lS x).length
  · rw [Nat.min_eq_left h]
    congr 1
    omega
  · rw [Nat.min_eq_right (show (lS x).length ≤ i by omega), List.drop_eq_nil_of_le (Nat.le_refl _), List.drop_eq_nil_of_le (by omega)]
    simp
theorem cut_last (x : Str) : L2.cutS x (some (-1)) none = S ((lS x).drop ((lS x).length - 1)) := by
  unfold L2.cutS HT.sIx
  simp only []
  rw [if_pos (by decide)]
  show Str.mk (List.take (x.length - (-1 + (x.length : Int)).toNat) (List.drop (-1 + (x.length : Int)).toNat (lS x))).toArray = _
  congr 1
  congr 1
  rw [len_lS, show (-1 + ((lS x).length : Int)).toNat = (lS x).length - 1 by omega, List.take_of_length_le (by rw [List.length_drop]; omega)]
end X48
set_option Elab.async false
set_option linter.all false
set_option maxRecDepth 100000
set_option maxHeartbeats 4000000
/-! min(xs, default = e) -/
namespace MD
open PySem PySem.Spec PyProof.Rows L2
theorem okArgs (x d : Value) : argsOk "min" ⟨[x], [(Str.ofString "default", d)]⟩ := by
  unfold argsOk
  kernel_rfl
theorem nm : (toString "min" ++ toString ".loop" : String) = "min.loop" := by decide
section
variable {P : Program} {w : World} {A : Around} {R : Result → Shared → Prop} {I T : Addr} {fp wr : List Addr} {n : Nat} {G : Nat → Value → Prop} {Z : Nat → Heap → Prop} {kw : List (Str × Value)}
/-- the loop once it has an item -/
theorem turn (W : Walks P w A.in1 I fp wr n G Z) {lt : Nat → Nat → Bool} (cm : CmpOf P w A.in1 .Lt G lt) (out : T ∉ fp) : ∀ (rest at' : Nat) (st : Shared) (best : Value) (ep : Nat), at' + rest = n → 1 ≤ at' → Z at' st.heap → G (argBest lt (at' - 1)) best →
    st.heap.get? T = some { cls := .type "list", dict := none, data := .seq #[best, best] ep, slots := #[] } →
    (∀ z g k, G (argBest lt (n - 1)) z → (∀ b o, b ∉ wr → b ≠ T → st.heap.get? b = some o → g.get? b = some o) → R (.ok (.ret z)) { st with heap := g, toks := k }) →
    codeAny (model P w) A (.builtin "min.loop" ⟨[.ref I, .none, .ref T], kw⟩) R st := by
  have nw : T ∉ wr := fun z => out (W.sub _ z)
  intro rest
  induction rest with
  | zero =>
    intro at' st best ep e1 e2 z g t kk
    have e3 : at' = n := e1
    refine codeAny_builtin F.entry_min_loop ?_
    rw [Around.under_plainId F.plain_min_loop _]
    show wpAny _ A.in1 (seqItems? (.ref T) >>= _) _ _ st
    refine wpAny_bind (wpAny_seqItems t rfl ?_)
    show wpAny _ A.in1 (tryCatch (pyNext (.ref I)) _ >>= _) _ _ st
    refine wpAny_bind (wpAny_tryCatch (W.done st _ _ (e3 ▸ z) fun g1 k1 s1 => ?_))
    have t1 := s1 T _ nw t
    show wpAny _ A.in1 (updateSeq T (fun _ => #[]) >>= _) _ _ _
    refine wpAny_bind (wpAny_updateSeq t1 rfl ?_)
    refine wpAny_bind (wpAny_letGo (wpAny_pure ?_))
    exact kk best _ k1 (by rw [← e3]; exact g) fun b o x y q => (Heap.get?_update_other _ _ fun z => y z.symm).trans (s1 b o x q)
  | succ rest ih =>
    intro at' st best ep e1 e2 z g t kk
    refine codeAny_builtin F.entry_min_loop ?_
    rw [Around.under_plainId F.plain_min_loop _]
    show wpAny _ A.in1 (seqItems? (.ref T) >>= _) _ _ st
    refine wpAny_bind (wpAny_seqItems t rfl ?_)
    show wpAny _ A.in1 (tryCatch (pyNext (.ref I)) _ >>= _) _ _ st
    refine wpAny_bind (wpAny_tryCatch (W.item at' st _ _ (by omega) z fun x g1 k1 gx z1 s1 => ?_))
    have t1 := s1 T _ nw t
    show wpAny _ A.in1 (tryCatch (holding [x, x] (richCompare .Lt x best >>= _)) _ >>= _) _ _ _
    refine wpAny_bind (wpAny_tryCatch (wpAny_holding (wpAny_bind (cm at' (argBest lt (at' - 1)) x best _ _ _ gx g ?_))))
    refine wpAny_bind (wpAny_holding (wpAny_truthy_bool ?_))
    refine wpAny_bind (wpAny_letGo (wpAny_pure ?_))
    have ea : at' - 1 + 1 = at' := by omega
    have eb : argBest lt at' = if lt at' (argBest lt (at' - 1)) then at' else argBest lt (at' - 1) := by
      have y : argBest lt (at' - 1 + 1) = if lt (at' - 1 + 1) (argBest lt (at' - 1)) then at' - 1 + 1 else argBest lt (at' - 1) := rfl
      rw [ea] at y
      exact y
    cases c : lt at' (argBest lt (at' - 1)) with
    | true =>
      rw [c, if_pos rfl] at eb
      simp only [if_true]
      refine wpAny_bind (wpAny_updateSeq t1 rfl ?_)
      refine wpAny_bind (wpAny_letGo ?_)
      rw [nm]
      refine wpAny_pure ⟨plainId_quiet F.plain_min_loop _, ih (at' + 1) _ x _ (by omega) (by omega) (W.frame _ _ _ z1 fun b hb o q => ?_) ?_ (Heap.get?_update_self _ t1 rfl) fun y g2 k2 gy s2 => ?_⟩
      · exact (Heap.get?_update_other _ _ fun y : T = b => out (by rw [y]; exact hb)).trans q
      · rw [Nat.add_sub_cancel, eb]
        exact gx
      · exact kk y g2 k2 gy fun b o h1 h2 q => s2 b o h1 h2 ((Heap.get?_update_other _ _ fun z => h2 z.symm).trans (s1 b o h1 q))
    | false =>
      rw [c, if_neg (by decide)] at eb
      simp only [Bool.false_eq_true, if_false]
      refine wpAny_bind (wpAny_letGo ?_)
      rw [nm]
      refine wpAny_pure ⟨plainId_quiet F.plain_min_loop _, ih (at' + 1) _ best ep (by omega) (by omega) z1 (by rw [Nat.add_sub_cancel, eb]; exact g) t1 fun y g2 k2 gy s2 => ?_⟩
      exact kk y g2 k2 gy fun b o h1 h2 q => s2 b o h1 h2 (s1 b o h1 q)
/-- the loop at its start -/
theorem turn0 (W : Walks P w A.in1 I fp wr n G Z) {lt : Nat → Nat → Bool} (cm : CmpOf P w A.in1 .Lt G lt) (out : T ∉ fp) {x : Str} {d : Value} {st : Shared} {ep : Nat} (z : Z 0 st.heap)
    (t : st.heap.get? T = some { cls := .type "list", dict := none, data := .seq #[] ep, slots := #[] })
    (kk : ∀ y g k, (if n = 0 then y = d else G (argBest lt (n - 1)) y) → (∀ b o, b ∉ wr → b ≠ T → st.heap.get? b = some o → g.get? b = some o) → R (.ok (.ret y)) { st with heap := g, toks := k }) :
    codeAny (model P w) A (.builtin "min.loop" ⟨[.ref I, .none, .ref T], [(x, d)]⟩) R st := by
  have nw : T ∉ wr := fun z => out (W.sub _ z)
  refine codeAny_builtin F.entry_min_loop ?_
  rw [Around.under_plainId F.plain_min_loop _]
  show wpAny _ A.in1 (seqItems? (.ref T) >>= _) _ _ st
  refine wpAny_bind (wpAny_seqItems t rfl ?_)
  show wpAny _ A.in1 (tryCatch (pyNext (.ref I)) _ >>= _) _ _ st
  by_cases h0 : n = 0
  · refine wpAny_bind (wpAny_tryCatch (W.done st _ _ (h0 ▸ z) fun g1 k1 s1 => ?_))
    refine wpAny_bind (wpAny_rule (wpAny_pure ?_))
    exact kk d g1 k1 (by rw [if_pos h0]) fun b o h1 _ q => s1 b o h1 q
  · refine wpAny_bind (wpAny_tryCatch (W.item 0 st _ _ (by omega) z fun y g1 k1 gx z1 s1 => ?_))
    have t1 := s1 T _ nw t
    show wpAny _ A.in1 (updateSeq T (fun _ => #[y, y]) >>= _) _ _ _
    refine wpAny_bind (wpAny_updateSeq t1 rfl ?_)
    rw [nm]
    refine wpAny_pure ⟨plainId_quiet F.plain_min_loop _, turn W cm out (n - 1) 1 _ y _ (by omega) (Nat.le_refl _) (W.frame _ _ _ z1 fun b hb o q => ?_) gx (Heap.get?_update_self _ t1 rfl) fun v g2 k2 gy s2 => ?_⟩
    · exact (Heap.get?_update_other _ _ fun y : T = b => out (by rw [y]; exact hb)).trans q
    · exact kk v g2 k2 (by rw [if_neg h0]; exact gy) fun b o h1 h2 q => s2 b o h1 h2 ((Heap.get?_update_other _ _ fun z => h2 z.symm).trans (s1 b o h1 q))
end
section
variable {P : Program} {w : World} {A : Around} {E : Value → Shared → Prop} {s : Shared}
theorem call_tree {b : Builtin} {id : String} {xs : List Value} {kw : List (Str × Value)} {Q : Value → Shared → Prop} (h1 : builtinKind id = none) (h2 : plainId id = true) (h3 : entryFor table id = some b) (h4 : argsOk id ⟨xs, kw⟩)
    (h : wpAny (model P w) A.in1 (b ⟨xs, kw⟩) (fun fin s' => match fin with
      | .done f => (match (Except.ok f : Result) with | .ok (.ret v) => Q v s' | .ok _ => False | .error e => E e s')
      | .again c' => c'.quiet = true ∧ codeAny (model P w) A c' (fun r s' => match r with | .ok (.ret v) => Q v s' | .ok _ => False | .error e => E e s') s') E s) : wpAny (model P w) A (call (.builtin id) xs kw) Q E s := by
  refine wpAny_call (codeAny_call_builtin h2 h3 ?_)
  simp only [checkBuiltinCall, h1]
  cases z : Manifest.signature? id with
  | none => exact wpAny_pure h
  | some sg =>
    simp only [argsOk, z] at h4
    have y : Bind.checkArgs id sg ⟨xs, kw⟩ = pure () := h4
    show wpAny _ A.in1 (Bind.checkArgs id sg ⟨xs, kw⟩) _ _ s
    rw [y]
    exact wpAny_pure h
/-- min of a list, or d -/
theorem min_list {a : Addr} {its : Array Value} {lt : Nat → Nat → Bool} {d : Value} {Q : Value → Shared → Prop} (hh : A.handled = none) (hl : s.heap.IsList a its) (cm : CmpOf P w A.in1 .Lt (fun i v => its[i]? = some v) lt)
    (h : ∀ v g k, (if its.size = 0 then v = d else its[argBest lt (its.size - 1)]? = some v) → (∀ b o, s.heap.get? b = some o → g.get? b = some o) → Q v { s with heap := g, toks := k }) :
    wpAny (model P w) A (call (.builtin "min") [.ref a] [(Str.ofString "default", d)]) Q E s := by
  refine call_tree F.kind_min F.plain_min F.entry_min (okArgs _ _) ?_
  show wpAny _ A.in1 (Builtin.Builtins.bindParams "min" ["key", "default"] 0 ⟨[], [(Str.ofString "default", d)]⟩ >>= _) _ _ s
  refine wpAny_bind (wpAny_of_eq (show Builtin.Builtins.bindParams "min" ["key", "default"] 0 ⟨[], [(Str.ofString "default", d)]⟩ = pure [none, some d] from rfl) ?_)
  refine wpAny_bind (wpAny_pure ?_)
  refine wpAny_bind (iter_anyList hl fun s₂ e st hf ne => ?_)
  subst e
  refine wpAny_bind (wpAny_newObj_type ?_)
  rw [nm]
  have W := Walks.list (prog := P) (w := w) (A := A.in1) hh s.heap.objs.size a ne its
  refine wpAny_pure ⟨plainId_quiet F.plain_min_loop _, turn0 W cm (fun z => Nat.lt_irrefl _ (hf _ z)) (W.frame _ _ _ st fun b _ o q => Heap.get?_push_of_some _ q) (Heap.get?_push_size _ rfl) fun y g k hy sk => ?_⟩
  refine h y g k hy fun b o q => sk b o (fun z => ?_) (fun z => ?_) (Heap.get?_push_of_some _ (Heap.get?_push_of_some _ q))
  · obtain rfl := List.mem_singleton.mp z
    exact Nat.lt_irrefl _ (Heap.lt_size q)
  · have y1 := Heap.lt_size q
    refine absurd y1 ?_
    rw [z]
    show ¬ (s.heap.push _).objs.size < _
    rw [Heap.size_push]
    exact Nat.not_lt.mpr (Nat.le_succ _)
end
end MD
namespace MD
open PySem PySem.Spec PyProof.Rows L2
theorem vals_at : ∀ {ns : List Int} {us : List Value}, Vals (ns.map V.int) us → ∀ (i : Nat) (v : Value), us[i]? = some v → ∃ t, v = .int (ns.getD i 0) t
  | [], _, .nil, i, v, h => by cases h
  | n :: ns, _, .cons h1 h2, 0, v, h => by
    obtain rfl := Option.some.inj h
    exact h1
  | n :: ns, _, .cons h1 h2, i + 1, v, h => vals_at h2 i v h
theorem vals_len : ∀ {xs : List V} {us : List Value}, Vals xs us → us.length = xs.length
  | _, _, .nil => rfl
  | _, _, .cons _ h => congrArg (· + 1) (vals_len h)
/-- min(list of numbers, default = e) -/
def rMinD (K : PySem.W.Frag) : List V → List V → Hp → VK → Prop := fun xs zs H Q => ∃ (p : Addr) (ns : List Int) (d : V), xs = [.ref p] ∧ SqL K H p (ns.map V.int) ∧ zs = [d] ∧ (ns = [] → Q d H) ∧ (ns ≠ [] → ∀ m, m ∈ ns → (∀ a ∈ ns, m ≤ a) → Q (.int m) H)
theorem call_minD {X : Cx} (hc : X.calm = true) : CallRK X (.builtin "min") ["default"] (rMinD X.K) := by
  intro pins s σ H xs zs us ws Q I r1 r2 h
  obtain ⟨p, ns, d, rfl, hs, rfl, q0, q1⟩ := h
  obtain ⟨its, rv, hl, _⟩ := I.list hs
  rw [Vals.ref1 r1]
  obtain ⟨u, rfl, ru⟩ : ∃ u, ws = [u] ∧ RelV d u := by
    cases r2 with
    | cons a b =>
      cases b
      exact ⟨_, rfl, a⟩
  have ln := vals_len rv
  rw [List.length_map] at ln
  refine min_list (I.ok.hd hc) hl.isList (CmpOf.ints_lt (fun i => ns.getD i 0) fun i v e => vals_at rv i v (by simpa using e)) fun v g k hv sk => ?_
  rw [List.size_toArray, ln] at hv
  by_cases hn : ns = []
  · rw [if_pos (by rw [hn]; rfl)] at hv
    rw [hv]
    exact ⟨d, H, I.kept sk, ru, q0 hn⟩
  · have l0 : ns.length ≠ 0 := fun z => hn (List.eq_nil_of_length_eq_zero z)
    rw [if_neg l0] at hv
    obtain ⟨t, rfl⟩ := vals_at rv _ v (by simpa using hv)
    obtain ⟨h1, h2⟩ := argBest_lt (fun i => ns.getD i 0) (ns.length - 1)
    refine ⟨.int _, H, I.kept sk, ⟨t, rfl⟩, q1 hn _ ?_ fun a ha => ?_⟩
    · exact getD_mem (Nat.lt_of_le_of_lt h1 (by omega))
    · obtain ⟨j, hj, rfl⟩ := mem_getD ha
      exact h2 j (by omega)
end MD
set_option Elab.async false
set_option linter.all false
set_option maxRecDepth 100000
set_option maxHeartbeats 4000000
/-! _next_bound -/
namespace X48
open PySem L2 L2H DQ K01 MD
theorem pe_bmK {X : Cx} {K : PySem.W.Frag} {o e : Expr} {es : List Expr} {to : TE} {t : TA} {name : Str} {apos cpos : Pos} {T id : String} {r : V → List V → Hp → VK → Prop} (hK : X.K = K) (a1 : PlainAttrs T) (a2 : Slot T name id)
    (a3 : typeOf (Value.builtin id) = pure (Value.type "method_descriptor")) (a4 : MtR X id r) (a5 : PE X o to) (a6 : PA X (e :: es) t) (b1 : attributeBase o name X.env (eval o X.env) = eval o X.env := by rfl)
    (b2 : (((((backTo cpos (starEach (e :: es) X.env)).all fun x => !x.fst) && (backToKw cpos (keywordEach [] X.env)).all fun x => x.fst.isSome) && decide ((e :: es).length + ([] : List Keyword).length + (if ([] : List Keyword).isEmpty then 0 else 1) < 30)) = true) := by rfl)
    (b3 : (apos.endLine == cpos.line) = true := by rfl) (b4 : starEach (e :: es) X.env = (false, eval e X.env) :: starEach es X.env := by rfl) (b5 : ((backTo cpos (starEach es X.env)).any fun x => x.fst) = false := by rfl) :
    PE X ((o.Attribute name apos).Call (e :: es) [] cpos) (tBM K T r to t) := by
  subst hK
  exact pe_bm a1 a2 a3 a4 a5 a6 b1 b2 b3 b4 b5
abbrev nNB : List Str := ["text", "start", "places", "sign", "place"]
theorem scNB : FnScope nNB ["text", "start"] (defScope sNB) := ⟨rfl, rfl, rfl, by decide +kernel, rfl, by decide +kernel, by decide +kernel⟩
theorem tk_snoc {α : Type} {l : List α} {i : Nat} {x : α} (h : l[i]? = some x) : l.take (i + 1) = l.take i ++ [x] := by
  rw [List.take_add_one, h]
  rfl
/-- how far on the next bound is -/
def run (l : List Nat) : Nat := (l.takeWhile nb).length
theorem run_le (l : List Nat) : run l ≤ l.length := by
  unfold run
  exact (List.takeWhile_sublist nb).length_le
theorem run_at {l : List Nat} {c : Nat} (h : l[run l]? = some c) : nb c = false := by
  unfold run at h
  induction l with
  | nil => cases h
  | cons x l ih =>
    by_cases e : nb x = true
    · rw [List.takeWhile_cons, if_pos e, List.length_cons, List.getElem?_cons_succ] at h
      exact ih h
    · rw [List.takeWhile_cons, if_neg e] at h
      obtain rfl := Option.some.inj h
      simpa using e
theorem run_lt {l : List Nat} {j c : Nat} (h : j < run l) (e : l[j]? = some c) : nb c = true := by
  unfold run at h
  have m : (l.takeWhile nb)[j]? = some c := by
    have y : l = l.takeWhile nb ++ l.dropWhile nb := List.takeWhile_append_dropWhile.symm
    rw [y, List.getElem?_append_left h] at e
    exact e
  have z := List.mem_of_getElem? m
  exact List.all_eq_true.mp List.all_takeWhile _ z
theorem tw_first {c : Nat} {l : List Nat} {k : Nat} (h : ∀ j, j < k → l[j]? ≠ some c) (hk : k ≤ l.length) : k ≤ (l.takeWhile fun x => !(x == c)).length := by
  induction l generalizing k with
  | nil => exact hk
  | cons x l ih =>
    cases k with
    | zero => exact Nat.zero_le _
    | succ k =>
      have e : x ≠ c := fun z => h 0 (by omega) (by rw [z]; rfl)
      rw [List.takeWhile_cons, if_pos (by simpa using e), List.length_cons]
      have := ih (k := k) (fun j hj => by
        have := h (j + 1) (by omega)
        rwa [List.getElem?_cons_succ] at this) (by rw [List.length_cons] at hk; omega)
      omega
theorem tw_hit {c : Nat} {l : List Nat} {k : Nat} (h : l[k]? = some c) : (l.takeWhile fun x => !(x == c)).length ≤ k := by
  induction l generalizing k with
  | nil => cases h
  | cons x l ih =>
    cases k with
    | zero =>
      obtain rfl := Option.some.inj h
      rw [List.takeWhile_cons, if_neg (by simp)]
      exact Nat.le_refl _
    | succ k =>
      rw [List.getElem?_cons_succ] at h
      rw [List.takeWhile_cons]
      split
      · rw [List.length_cons]
        have := ih h
        omega
      · exact Nat.zero_le _
theorem fnd_ge {c : Nat} {l : List Nat} {i : Nat} (hc : nb c = false) : fnd c l i = -1 ∨ ((i + run (l.drop i) : Nat) : Int) ≤ fnd c l i := by
  unfold fnd
  split
  · refine .inr ?_
    have := tw_first (c := c) (l := l.drop i) (k := run (l.drop i)) (fun j hj z => by
      have := run_lt hj z
      rw [hc] at this
      cases this) (run_le _)
    omega
  · exact .inl rfl
theorem fnd_hit {c : Nat} {l : List Nat} {i : Nat} (h : (l.drop i)[run (l.drop i)]? = some c) : fnd c l i = ((i + run (l.drop i) : Nat) : Int) := by
  rcases fnd_ge (l := l) (i := i) (run_at h) with z | z
  · unfold fnd at z
    rw [if_pos (List.mem_of_getElem? h)] at z
    omega
  · unfold fnd at z ⊢
    rw [if_pos (List.mem_of_getElem? h)] at z ⊢
    have := tw_hit h
    omega
def fnds (l : List Nat) (i : Nat) : List Int := [fnd 40 l i, fnd 44 l i, fnd 41 l i]
theorem min_fnd {l : List Nat} {i : Nat} (hi : i ≤ l.length) (m : Int) (h1 : m ∈ (fnds l i).filter fun x => !decide (x = -1)) (h2 : ∀ a ∈ (fnds l i).filter fun x => !decide (x = -1), m ≤ a) : m = ((i + run (l.drop i) : Nat) : Int) := by
  obtain ⟨a1, a2⟩ := List.mem_filter.mp h1
  have ge : ((i + run (l.drop i) : Nat) : Int) ≤ m := by
    have nm : m ≠ -1 := by simpa using a2
    have : ∃ c, nb c = false ∧ m = fnd c l i := by
      rcases List.mem_cons.mp a1 with z | z
      · exact ⟨40, rfl, z⟩
      · rcases List.mem_cons.mp z with z | z
        · exact ⟨44, rfl, z⟩
        · exact ⟨41, rfl, List.mem_singleton.mp z⟩
    obtain ⟨c, hc, rfl⟩ := this
    rcases fnd_ge (l := l) (i := i) hc with z | z
    · exact absurd z nm
    · exact z
  have lt : run (l.drop i) < (l.drop i).length := by
    rcases Nat.lt_or_ge (run (l.drop i)) (l.drop i).length with z | z
    · exact z
    · have : ∃ c, nb c = false ∧ m = fnd c l i := by
        rcases List.mem_cons.mp a1 with z | z
        · exact ⟨40, rfl, z⟩
        · rcases List.mem_cons.mp z with z | z
          · exact ⟨44, rfl, z⟩
          · exact ⟨41, rfl, List.mem_singleton.mp z⟩
      obtain ⟨c, hc, rfl⟩ := this
      have hm : c ∉ l.drop i := fun y => by
        obtain ⟨j, hj⟩ := List.mem_iff_getElem?.mp y
        have := (List.getElem?_eq_some_iff.mp hj).1
        have := run_lt (by omega) hj
        rw [hc] at this
        cases this
      have nm : fnd c l i ≠ -1 := by simpa using a2
      refine absurd ?_ nm
      unfold fnd
      rw [if_neg hm]
  have eh := List.getElem?_eq_getElem lt
  generalize (l.drop i)[run (l.drop i)] = c at eh
  have hc := run_at eh
  have hf := fnd_hit eh
  have mem : fnd c l i ∈ fnds l i := by
    unfold nb at hc
    have : c = 40 ∨ c = 44 ∨ c = 41 := by
      simp at hc
      omega
    unfold fnds
    rcases this with rfl | rfl | rfl <;> simp
  have := h2 (fnd c l i) (List.mem_filter.mpr ⟨mem, by rw [hf]; simp; omega⟩)
  omega
theorem none_fnd {l : List Nat} {i : Nat} (hi : i ≤ l.length) (h : ((fnds l i).filter fun x => !decide (x = -1)) = []) : l.length = i + run (l.drop i) := by
  have le := run_le (l.drop i)
  rw [List.length_drop] at le
  rcases Nat.lt_or_ge (run (l.drop i)) (l.drop i).length with lt | z
  · have eh := List.getElem?_eq_getElem lt
    generalize (l.drop i)[run (l.drop i)] = c at eh
    have hc := run_at eh
    have hf := fnd_hit eh
    have mem : fnd c l i ∈ fnds l i := by
      unfold nb at hc
      have : c = 40 ∨ c = 44 ∨ c = 41 := by
        simp at hc
        omega
      unfold fnds
      rcases this with rfl | rfl | rfl <;> simp
    have y : fnd c l i ∈ (fnds l i).filter fun x => !decide (x = -1) := List.mem_filter.mpr ⟨mem, by rw [hf]; simp; omega⟩
    rw [h] at y
    cases y
  · rw [List.length_drop] at z
    omega
/-- its promise: a place in a text; the answer -/
def spNB : Sp := fun vs H Q _ => ∃ (x : Str) (i : Nat), vs = [.str x, .int (i : Int)] ∧ x.length ≤ 1000000 ∧ i ≤ (lS x).length ∧ ∀ H', Same H H' → Q (.int ((i + run ((lS x).drop i) : Nat) : Int)) H'
structure TN (mg : Str → Option Value) : Prop where
  min : mg "min" = none
  len : mg "len" = none
section
variable {P : Program} {w : World} {K : PySem.W.Frag} {mg : Str → Option Value} {base : Heap}
theorem bmin : bootBuiltins ("min" : Str) = some (.builtin "min") := by decide +kernel
theorem sgn_three {i : Nat} {c : Nat} (h : ("(,)" : Str).cps[i]? = some c) : ([40, 44, 41] : List Nat)[i]? = some c := by
  have e : ("(,)" : Str).cps = #[40, 44, 41] := by decide +kernel
  rw [e] at h
  rw [← h]
  simp
theorem ok_nb {f : Addr} {fd : FuncData} (F : Fun K "_next_bound" "_next_bound" sNB f fd) (T : TN mg) : FnOk P w K mg base CX0 1 f fd ["text", "start"] spNB := by
  refine F.ok scNB (fun vs H Q E h => ?_) (fun cdv A outer s H vs Q E hr h => ?_)
  · obtain ⟨x, i, rfl, _⟩ := h
    rfl
  · obtain ⟨x, i, rfl, hx, hi, k⟩ := h
    refine ⟨_, pss_cons (ps_setLc (i := 2) (own := [("sign", 3)]) (g := gName 3) (tt := tYes) rfl scNB.nd rfl rfl (sw_true rfl rfl rfl (by decide +kernel)) (pi_str pe_str) (blkOk_by (own := [("sign", 3)]) (N := nNB) (sc := defScope sNB) (by decide +kernel))
        (fun _ _ _ _ _ => pg_name (i := 3) scNB.nd rfl (Or.inl rfl)) (fun _ _ _ _ _ => pts_nil) (fun _ _ _ _ _ => pe_bmK (K := K) rfl PySem.F.plainAttrs_str PySem.F.slot_str_find PySem.F.type_str_find mt_find3 (pv 0) (pa_cons (pv 3) (pa_cons (pv 1) pa_nil))))
      (pss_one (ps_ret (pe_callBK (call_minD rfl) (by rfl) T.min bmin (pa_cons (pe_lc (own := [("place", 4)]) (g := gName 4) rfl scNB.nd (pi_list (pv 2)) (blkOk_by (own := [("place", 4)]) (N := nNB) (sc := defScope sNB) (by decide +kernel))
        (fun _ _ _ _ _ => pg_name (i := 4) scNB.nd rfl (Or.inl rfl)) (fun _ _ _ _ _ => pts_one (pt_cmpR op_ne (pv 4) (pe_un un_neg pe_int) (nomark _))) (fun _ _ _ _ _ => pv 4)) pa_nil)
          (pk_cons (pe_callB call_len_str (by rfl) T.len PySem.boot_len (pa_cons (pv 0) pa_nil)) pk_nil)))), ?_⟩
    refine ⟨_, rfl, fun D nD => ?_⟩
    have e3 : ("(,)" : Str).cps = #[40, 44, 41] := by decide +kernel
    refine lc_it walk_str (fun j H' => Same H H' ∧ H' D = some (.lst (((fnds (lS x) i).take j).map V.int))) ⟨same_new nD, upd_same⟩ (fun _ _ _ _ => trivial) ?_ ?_
    · rintro j y H1 H2 hj ⟨s1, e⟩ ⟨rfl, c, hc, rfl⟩
      refine ⟨rfl, ?_⟩
      unfold tYes
      try dsimp only
      rw [if_pos rfl]
      refine ⟨_, rfl, rfl, _, rfl, _, rfl, x, _, _, rfl, rfl, ?_⟩
      have ej := sgn_three hc
      rw [show Txt.find3 x ⟨#[c]⟩ (i : Int) = fnd c (lS x) i from find3_one x c i]
      have el : (fnds (lS x) i)[j]? = some (fnd c (lS x) i) := by
        rcases j with _ | _ | _ | j
        · obtain rfl := Option.some.inj ej
          rfl
        · obtain rfl := Option.some.inj ej
          rfl
        · obtain rfl := Option.some.inj ej
          rfl
        · cases ej
      refine ⟨_, e, small1000 ?_, fun b o z => ?_, ?_⟩
      · rw [List.length_map, List.length_take]
        have : (fnds (lS x) i).length = 3 := rfl
        omega
      · rw [upd_ne (ne_of_none z nD)]
        exact s1 b o z
      · rw [upd_same, tk_snoc el, List.map_append]
        rfl
    rintro H1 ⟨s1, e⟩
    have e0 : H1 D = some (.lst ((fnds (lS x) i).map V.int)) := by
      rw [List.take_of_length_le] at e
      · exact e
      · rw [e3]
        exact Nat.le_refl _
    refine ⟨_, rfl, D, rfl, ⟨_, SqL.of e0⟩, fun D2 nD2 => ?_⟩
    refine lc_list (xs := (fnds (lS x) i).map V.int) (fun j H' => Same H1 H' ∧ H' D2 = some (.lst ((((fnds (lS x) i).take j).filter fun x => !decide (x = -1)).map V.int))) ⟨same_new nD2, upd_same⟩ (fun j H' _ q => SqL.of (q.1 _ _ e0)) ?_ ?_
    · rintro j y H2 hj ⟨s2, e2⟩
      rw [List.getElem?_map] at hj
      obtain ⟨z, hz, rfl⟩ := Option.map_eq_some_iff.mp hj
      refine ⟨rfl, _, rfl, _, rfl, rfl, _, rfl, ?_⟩
      have tk := tk_snoc hz
      by_cases hn : z = -1
      · subst hn
        refine iteF ⟨s2, ?_⟩
        rw [tk, List.filter_append]
        simpa using e2
      · have hv : decide (V.int z = V.int (-1)) = false := decide_eq_false fun y => hn (V.int.inj y)
        show if (!decide (V.int z = V.int (-1))) = true then _ else _
        rw [hv]
        refine iteT ⟨_, rfl, _, e2, small1000 ?_, fun b o y => ?_, ?_⟩
        · rw [List.length_map]
          have a1 := List.length_filter_le (fun x => !decide (x = -1)) ((fnds (lS x) i).take j)
          rw [List.length_take] at a1
          have : (fnds (lS x) i).length = 3 := rfl
          omega
        · rw [upd_ne (ne_of_none y nD2)]
          exact s2 b o y
        · rw [upd_same, tk, List.filter_append, List.map_append]
          simp [hn]
    rintro H2 ⟨s2, e2⟩
    rw [List.length_map, List.take_length] at e2
    refine ⟨_, rfl, x, rfl, Nat.le_trans hx (by decide), ?_⟩
    refine ⟨D2, _, _, rfl, SqL.of e2, rfl, fun hn => ?_, fun hn m h1 h2 => ?_⟩
    · rw [len_lS, none_fnd hi hn]
      exact k H2 (same_trans s1 s2)
    · rw [min_fnd hi m h1 h2]
      exact k H2 (same_trans s1 s2)
end
end X48
set_option Elab.async false
set_option linter.all false
set_option maxRecDepth 100000
set_option maxHeartbeats 4000000
/-! trees as data; _seeming_marks -/
namespace X48
open PySem L2 L2H DQ K01
def msD (ms : List (List Nat)) : List PyData := ms.map fun m => .str (S m)
mutual
def toD : Nd → PyData
  | .mk ms bs c => .tuple (.tuple (msD ms) :: .tuple (toB bs) :: (if c = true then [.str "call"] else []))
def toB : Bs → List PyData
  | .nil => []
  | .cons w t r => .tuple [.str (S w), toD t] :: toB r
end
/-- signs that may stand in a text -/
def okL (l : List Nat) : Prop := l.length ≤ 1000000 ∧ ∀ c ∈ l, c < 1114112
theorem okL_sub {l m : List Nat} (h : okL l) (n : m.length ≤ l.length) (s : ∀ c ∈ m, c ∈ l) : okL m := ⟨Nat.le_trans n h.1, fun c hc => h.2 c (s c hc)⟩
theorem okL_drop {l : List Nat} (h : okL l) (n : Nat) : okL (l.drop n) := okL_sub h (by rw [List.length_drop]; omega) fun c hc => List.mem_of_mem_drop hc
theorem okL_take {l : List Nat} (h : okL l) (n : Nat) : okL (l.take n) := okL_sub h (by rw [List.length_take]; omega) fun c hc => List.mem_of_mem_take hc
theorem ok_str {l : List Nat} (h : okL l) : PyData.strOk (S l) = true := by
  unfold PyData.strOk S
  rw [← Array.all_toList]
  exact List.all_eq_true.mpr fun c hc => decide_eq_true (h.2 c hc)
theorem m6 {n : Nat} (h : n ≤ 1000000) : n ≤ sizeLine := Nat.le_trans h (by decide)
theorem m62 {n : Nat} (h : n ≤ 1000000) : n + 2 ≤ sizeLine := Nat.le_trans (Nat.add_le_add_right h 2) (by decide)
theorem dq_S {H : Hp} {l : List Nat} (h : okL l) : Dq H (.str (S l)) (.str (S l)) := .str _ ⟨by rw [len_S]; exact m6 h.1, ok_str h⟩
theorem dq_call {H : Hp} : Dq H (.str "call") (.str "call") := .str _ ⟨by decide +kernel, by decide +kernel⟩
theorem okL_of {x : Str} (h1 : x.length ≤ 1000000) (h2 : PyData.strOk x = true) : okL (lS x) := ⟨by rw [← len_lS]; exact h1, fun c hc => by
  have z : x.cps.all (fun c => decide (c < 0x110000)) = true := h2
  rw [← Array.all_toList] at z
  exact of_decide_eq_true (List.all_eq_true.mp z c hc)⟩
theorem sp_sub {c : Nat} : ∀ {l : List Nat}, ∀ m ∈ sp c l, m.length ≤ l.length ∧ ∀ x ∈ m, x ∈ l
  | [], m, hm => by
    rw [List.mem_singleton.mp hm]
    exact ⟨Nat.le_refl _, fun x hx => hx⟩
  | a :: l, m, hm => by
    have ih := sp_sub (c := c) (l := l)
    simp only [sp] at hm
    split at hm
    · rcases List.mem_cons.mp hm with rfl | hm
      · exact ⟨Nat.zero_le _, fun x hx => absurd hx List.not_mem_nil⟩
      · obtain ⟨h1, h2⟩ := ih m hm
        exact ⟨by rw [List.length_cons]; omega, fun x hx => List.mem_cons_of_mem _ (h2 x hx)⟩
    · cases e : sp c l with
      | nil =>
        rw [e] at hm
        rw [List.mem_singleton.mp hm]
        exact ⟨by simp, fun x hx => by rw [List.mem_singleton.mp hx]; exact List.mem_cons_self ..⟩
      | cons h t =>
        rw [e] at hm ih
        rcases List.mem_cons.mp hm with rfl | hm
        · obtain ⟨h1, h2⟩ := ih h (List.mem_cons_self ..)
          refine ⟨by rw [List.length_cons, List.length_cons]; omega, fun x hx => ?_⟩
          rcases List.mem_cons.mp hx with rfl | hx
          · exact List.mem_cons_self ..
          · exact List.mem_cons_of_mem _ (h2 x hx)
        · obtain ⟨h1, h2⟩ := ih m (List.mem_cons_of_mem _ hm)
          exact ⟨by rw [List.length_cons]; omega, fun x hx => List.mem_cons_of_mem _ (h2 x hx)⟩
theorem sp_len {c : Nat} : ∀ l : List Nat, (sp c l).length ≤ l.length + 1
  | [] => Nat.le_refl _
  | a :: l => by
    have ih := sp_len (c := c) l
    simp only [sp]
    split
    · rw [List.length_cons, List.length_cons]
      omega
    · cases e : sp c l with
      | nil => simp
      | cons h t =>
        rw [e] at ih
        simp only [List.length_cons] at ih ⊢
        omega
theorem okL_sp {c : Nat} {l : List Nat} (h : okL l) : ∀ m ∈ sp c l, okL m := fun m hm => okL_sub h (sp_sub m hm).1 (sp_sub m hm).2
theorem okL_sm {l : List Nat} (h : okL l) : ∀ m ∈ sm l, okL m := fun m hm => by
  unfold sm at hm
  split at hm
  · exact absurd hm List.not_mem_nil
  · exact okL_sp h m hm
theorem dq_strs {H : Hp} : ∀ {ms : List (List Nat)}, (∀ m ∈ ms, okL m) → DqAll H (ms.map fun m => V.str (S m)) (msD ms)
  | [], _ => .nil
  | m :: ms, h => .cons (dq_S (h m (List.mem_cons_self ..))) (dq_strs fun m hm => h m (List.mem_cons_of_mem _ hm))
theorem str_eqL (x : Str) (l : List Nat) : decide (V.str x = V.str (S l)) = decide (lS x = l) := decide_eq_decide.mpr ⟨fun h => by rw [V.str.inj h]; rfl, fun h => by rw [← h, S_lS]⟩
theorem S_dash : ("-" : Str) = S [45] := by decide +kernel
theorem S_plus : ("+" : Str) = S [43] := by decide +kernel
theorem S_gt : (">" : Str) = S [62] := by decide +kernel
theorem S_bang : ("!" : Str) = S [33] := by decide +kernel
theorem S_open : ("(" : Str) = S [40] := by decide +kernel
theorem S_close : (")" : Str) = S [41] := by decide +kernel
theorem S_comma : ("," : Str) = S [44] := by decide +kernel
def spSM : Sp := fun vs H Q _ => ∃ x : Str, vs = [.str x] ∧ okL (lS x) ∧ ∀ r H', Same H H' → Dq H' r (.tuple (msD (sm (lS x)))) → Q r H'
theorem scSM : FnScope ["text"] ["text"] (defScope sSeM) := ⟨rfl, rfl, rfl, by decide +kernel, rfl, by decide +kernel, by decide +kernel⟩
section
variable {P : Program} {w : World} {K : PySem.W.Frag} {mg : Str → Option Value} {base : Heap}
theorem ok_sm {f : Addr} {fd : FuncData} (F : Fun K "_seeming_marks" "_seeming_marks" sSeM f fd) (tT : mg "tuple" = none) : FnOk P w K mg base CX0 1 f fd ["text"] spSM := by
  refine F.ok scSM (fun vs H Q E h => ?_) (fun cdv A outer s H vs Q E hr h => ?_)
  · obtain ⟨x, rfl, _⟩ := h
    rfl
  · obtain ⟨x, rfl, ok, k⟩ := h
    refine ⟨_, pss_one (ps_ret (pe_ifExp (pt_cmpR op_eq (pv 0) pe_str (nomark _)) (pe_tup pa_nil) (pe_callTy call_tuple_of (by rfl) tT btup (pa_cons (pe_split (pv 0) pe_str) pa_nil)))), ?_⟩
    refine ⟨_, rfl, rfl, _, rfl, ?_⟩
    rw [S_dash, str_eqL]
    by_cases h : lS x = [45]
    · rw [decide_eq_true h]
      refine iteT ⟨Nat.zero_le _, fun p np => k _ _ (same_new np) ?_⟩
      unfold sm
      rw [if_pos h]
      exact .tup upd_same .nil
    · rw [decide_eq_false h]
      refine iteF ⟨_, rfl, ⟨_, rfl⟩, x, _, rfl, rfl, by decide +kernel, m62 (by rw [len_lS]; exact ok.1), fun p np => ?_⟩
      rw [S_plus, split_one x (by decide), List.map_map]
      refine ⟨p, _, rfl, .inl ⟨SqL.of upd_same, fun q nq => k _ _ (same_trans (same_new np) (same_new nq)) ?_⟩⟩
      have e : sm (lS x) = sp 43 (lS x) := by
        unfold sm
        rw [if_neg h]
      rw [e]
      exact .tup upd_same (dq_strs (okL_sp ok))
end
end X48
set_option Elab.async false
set_option linter.all false
set_option maxRecDepth 100000
set_option maxHeartbeats 4000000
/-! _seeming_node -/
namespace X48
open PySem L2 L2H DQ K01
def off (H : Hp) (p : Addr) : Hp := fun b => if b = p then none else H b
theorem off_same {H : Hp} {p : Addr} : Same (off H p) H := fun b o e => by
  unfold off at e
  split at e
  · cases e
  · exact e
theorem off_mono {H H' : Hp} {p : Addr} (s : Same H H') : Same (off H p) (off H' p) := fun b o e => by
  unfold off at e ⊢
  split at e
  · cases e
  · rename_i h
    rw [if_neg h]
    exact s _ _ e
theorem off_put {H : Hp} {p : Addr} {o : HO} : off (upd H p o) p = off H p := by
  funext b
  unfold off
  by_cases h : b = p
  · rw [if_pos h, if_pos h]
  · rw [if_neg h, if_neg h, upd_ne h]
theorem off_new {H : Hp} {p : Addr} (h : H p = none) {o : HO} : Same H (off (upd H p o) p) := fun b u e => by
  unfold off
  have nb : b ≠ p := fun z => by rw [z, h] at e; cases e
  rw [if_neg nb, upd_ne nb]
  exact e
theorem off_at {H : Hp} {p q : Addr} {o : HO} (h : H q = some o) (n : q ≠ p) : off H p q = some o := by
  unfold off
  rw [if_neg n]
  exact h
mutual
/-- data of tuples and flat things only -/
def noL : PyData → Bool
  | .list _ => false
  | .dict _ => false
  | .tuple ds => noLs ds
  | _ => true
def noLs : List PyData → Bool
  | [] => true
  | d :: ds => noL d && noLs ds
end
mutual
theorem dq_off {H : Hp} {D : Addr} {zs : List V} (hD : H D = some (.lst zs)) : ∀ {v : V} {d : PyData}, Dq H v d → noL d = true → Dq (off H D) v d
  | _, _, .non, _ => .non
  | _, _, .bl b, _ => .bl b
  | _, _, .int i, _ => .int i
  | _, _, .str x h, _ => .str x h
  | _, _, .lst e a, h => by simp [noL] at h
  | _, _, .tup e a, h => .tup (off_at e (ne_of e hD (by intro z; cases z))) (dqs_off hD a (by simpa [noL] using h))
  | _, _, .dic e, h => by simp [noL] at h
theorem dqs_off {H : Hp} {D : Addr} {zs : List V} (hD : H D = some (.lst zs)) : ∀ {vs : List V} {ds : List PyData}, DqAll H vs ds → noLs ds = true → DqAll (off H D) vs ds
  | _, _, .nil, _ => .nil
  | _, _, .cons a b, h => by
    obtain ⟨h1, h2⟩ := Bool.and_eq_true_iff.mp (show (noL _ && noLs _) = true from h)
    exact .cons (dq_off hD a h1) (dqs_off hD b h2)
end
theorem noL_msD : ∀ ms : List (List Nat), noLs (msD ms) = true
  | [] => rfl
  | m :: ms => noL_msD ms
mutual
theorem noL_toD : ∀ t : Nd, noL (toD t) = true
  | .mk ms bs c => by
    simp only [toD, noL, noLs, noL_msD, noL_toB bs, Bool.true_and]
    cases c <;> simp [noLs, noL]
theorem noL_toB : ∀ b : Bs, noLs (toB b) = true
  | .nil => rfl
  | .cons w t r => by
    simp only [toB, noL, noLs, noL_toD t, noL_toB r, Bool.true_and, Bool.and_true]
end
theorem fn_never {P : Program} {w : World} {K : PySem.W.Frag} {mg : Str → Option Value} {base : Heap} {k : Nat} {f : Addr} {fd : FuncData} {ps : List Str} : FnOk P w K mg base CX0 k f fd ps (fun _ _ _ _ => False) :=
  ⟨fun _ _ _ _ h => h.elim, fun _ _ _ _ _ _ _ _ _ _ _ _ _ h => h.elim⟩
theorem tw_run (l : List Nat) : l.take (run l) = l.takeWhile nb := by
  have z := List.take_left (l₁ := l.takeWhile nb) (l₂ := l.dropWhile nb)
  rw [List.takeWhile_append_dropWhile] at z
  exact z
theorem dw_run (l : List Nat) : l.drop (run l) = l.dropWhile nb := by
  have z := List.drop_left (l₁ := l.takeWhile nb) (l₂ := l.dropWhile nb)
  rw [List.takeWhile_append_dropWhile] at z
  exact z
def μS (l : List Nat) (σ : L2.St) : Nat := match σ[2]? with | some (some (V.int a)) => (l.drop a.toNat).count 62 | _ => 0
abbrev nSN : List Str := ["text", "start", "after", "written", "branches", "bound", "sign", "below", "behind"]
theorem scSN : FnScope nSN ["text", "start"] (defScope sSeN) := ⟨rfl, rfl, rfl, by decide +kernel, rfl, by decide +kernel, by decide +kernel⟩
def spSN (n : Nat) : Sp := fun vs H Q _ => ∃ (x : Str) (i : Nat), vs = [.str x, .int (i : Int)] ∧ okL (lS x) ∧ i ≤ (lS x).length ∧ ((lS x).drop i).count 62 < n ∧
  ∀ (p : Addr) (v : V) (j : Nat) H', Same H H' → H' p = some (.tup [v, .int (j : Int)]) → Dq H' v (toD (sn ((lS x).drop i)).1) → (lS x).drop j = (sn ((lS x).drop i)).2 → Q (.ref p) H'
def brD (ps : List (List Nat × Nd)) : List PyData := ps.map fun p => .tuple [.str (S p.1), toD p.2]
theorem toB_app : ∀ ps : List (List Nat × Nd), toB (appB ps .nil) = brD ps
  | [] => rfl
  | p :: ps => by
    show PyData.tuple [.str (S p.1), toD p.2] :: toB (appB ps .nil) = _
    rw [toB_app ps]
    rfl
theorem tseq_of {t u : TS} {D : Ends} {σ : L2.St} {H : Hp} (h : t { D with nx := u D } σ H) : tSeq t u D σ H := h
theorem nx_go {D : Ends} {σ : L2.St} {H : Hp} (h : D.nx σ H) : tNext D σ H := h
structure TS8 (mg : Str → Option Value) : Prop where
  tuple : mg "tuple" = none
  ca : ∃ t, mg "CALL" = some (.str "call" t)
section
variable {P : Program} {w : World} {K : PySem.W.Frag} {mg : Str → Option Value} {base : Heap}
theorem ok_sn {f fB fM : Addr} {fd dB dM : FuncData} (F : Fun K "_seeming_node" "_seeming_node" sSeN f fd) (bF : Binds K fd ["text", "start"] []) (gF : mg "_seeming_node" = some (.ref f))
    (FB : Fun K "_next_bound" "_next_bound" sNB fB dB) (bB : Binds K dB ["text", "start"] []) (gB : mg "_next_bound" = some (.ref fB)) (GB : FnOk P w K mg base CX0 1 fB dB ["text", "start"] spNB)
    (FM : Fun K "_seeming_marks" "_seeming_marks" sSeM fM dM) (bM : Binds K dM ["text"] []) (gM : mg "_seeming_marks" = some (.ref fM)) (GM : FnOk P w K mg base CX0 1 fM dM ["text"] spSM) (T : TS8 mg) :
    ∀ n, FnOk P w K mg base CX0 (2 + n) f fd ["text", "start"] (spSN n) := by
  intro n
  induction n with
  | zero =>
    refine fn_never.imp fun vs H Q E h => ?_
    obtain ⟨x, i, _, _, _, hn, _⟩ := h
    omega
  | succ n ih =>
    refine F.ok (k := 2 + n) scSN (fun vs H Q E h => ?_) (fun cdv A outer s H vs Q E hr h => ?_)
    · obtain ⟨x, i, rfl, _⟩ := h
      rfl
    · obtain ⟨x, i, rfl, ok, hi, hn, k⟩ := h
      obtain ⟨tc, gc⟩ := T.ca
      refine ⟨_, pss_cons (ps_set (i := 2) scSN.nd rfl (Or.inl rfl) (pe_call GB (hr.mono (by omega)) (by rfl) gB FB.kp bB .nil pass0 (pa_cons (pv 0) (pa_cons (pv 1) pa_nil))))
        (pss_cons (ps_set (i := 3) scSN.nd rfl (Or.inl rfl) (pe_slice sl_str (pv 0) (po_some (pv 1)) (po_some (pv 2))))
        (pss_cons (ps_set (i := 4) scSN.nd rfl (Or.inl rfl) (pe_lst pa_nil))
        (pss_cons (ps_set (i := 5) scSN.nd rfl (Or.inl rfl) pe_str)
        (C8.pss_cut (ps_while PassesOwn.never (pt_cmpR op_eq (pe_slice sl_str (pv 0) (po_some (pv 2)) (po_some (pe_op op_add (pv 2) pe_int))) (pv 5) (nomark _))
          (pss_cons (ps_set (i := 6) scSN.nd rfl (Or.inl rfl) (pe_bm PySem.F.plainAttrs_str PySem.F.slot_str_find PySem.F.type_str_find mt_find3 (pv 0) (pa_cons pe_str (pa_cons (pv 2) pa_nil))))
          (pss_cons (ps_if (pt_cmpR op_eq (pv 6) (pe_un un_neg pe_int) (nomark _)) (pss_one ps_break) pss_nil)
          (pss_cons (ps_asg (pe_call ih hr (by rfl) gF F.kp bF .nil pass0 (pa_cons (pv 0) (pa_cons (pe_op op_add (pv 6) pe_int) pa_nil))) (pg_tup (n := 2) rfl (pgs_cons (pg_name (i := 7) scSN.nd rfl (Or.inl rfl)) (pgs_cons (pg_name (i := 8) scSN.nd rfl (Or.inl rfl)) pgs_nil))))
          (pss_cons (ps_expr (pe_bm PySem.F.plainAttrs_list PySem.F.slot_list_append PySem.F.type_list_append mt_append (pv 4) (pa_cons (pe_tup (pa_cons (pe_slice sl_str (pv 0) (po_some (pe_op op_add (pv 2) pe_int)) (po_some (pv 6))) (pa_cons (pv 7) pa_nil))) pa_nil)))
          (pss_cons (ps_set (i := 2) scSN.nd rfl (Or.inl rfl) (pv 8))
          (pss_one (ps_set (i := 5) scSN.nd rfl (Or.inl rfl) pe_str))))))))
        (C8.pss_cut (ps_if (pt_truth (pv 4) (by intro _; rfl)) (pss_one (ps_aug (i := 2) scSN.nd rfl (Or.inl rfl) pe_int ip_add)) pss_nil)
        (pss_cons (ps_if (pt_val (pe_bm PySem.F.plainAttrs_str PySem.F.slot_str_startswith PySem.F.type_str_startswith mt_startswith (pv 3) (pa_cons pe_str pa_nil)))
            (pss_one (ps_ret (pe_tup (pa_cons (pe_tup (pa_cons (pe_call GM (hr.mono (by omega)) (by rfl) gM FM.kp bM .nil pass0 (pa_cons (pe_slice sl_str (pv 3) (po_some pe_int) po_none) pa_nil)) (pa_cons (pe_callTy call_tuple_of (by rfl) T.tuple btup (pa_cons (pv 4) pa_nil)) (pa_cons (pe_glob (v := .str "call") (by rfl) gc ⟨_, rfl⟩) pa_nil)))) (pa_cons (pv 2) pa_nil))))) pss_nil)
        (pss_one (ps_ret (pe_tup (pa_cons (pe_tup (pa_cons (pe_call GM (hr.mono (by omega)) (by rfl) gM FM.kp bM .nil pass0 (pa_cons (pv 3) pa_nil)) (pa_cons (pe_callTy call_tuple_of (by rfl) T.tuple btup (pa_cons (pv 4) pa_nil)) pa_nil))) (pa_cons (pv 2) pa_nil))))))))))), ?_⟩
      have hx : x.length ≤ 1000000 := by rw [len_lS]; exact ok.1
      refine ⟨_, rfl, _, rfl, x, i, rfl, hx, hi, fun H1 s1 => ?_⟩
      dsimp only
      refine tseq_of ⟨_, rfl, _, rfl, (i : Int), rfl, _, rfl, ((i + run ((lS x).drop i) : Nat) : Int), rfl, x, rfl, m6 hx, ?_⟩
      rw [cut_mid, show i + run ((lS x).drop i) - i = run ((lS x).drop i) by omega, tw_run]
      have er : (lS x).drop (i + run ((lS x).drop i)) = ((lS x).drop i).dropWhile nb := by rw [← List.drop_drop, dw_run]
      generalize i + run ((lS x).drop i) = a0 at *
      refine ⟨Nat.zero_le _, fun D nD => ?_⟩
      dsimp only
      refine tseq_of ?_
      have cnt0 : (((lS x).drop i).dropWhile nb).count 62 < n + 1 := Nat.lt_of_le_of_lt (cnt_suf (List.dropWhile_suffix nb)) hn
      have len0 : (((lS x).drop i).dropWhile nb).count 62 ≤ 1000000 := Nat.le_trans (Nat.le_trans (cnt_suf ((List.dropWhile_suffix nb).trans (List.drop_suffix i _))) List.count_le_length) ok.1
      refine ⟨fun σ' H' => ∃ (a : Nat) (ps : List (List Nat × Nd)) (vs : List V) (w5 w6 w7 w8 : Option V), σ' = [some (.str x), some (.int (i : Int)), some (.int (a : Int)), some (.str (S (((lS x).drop i).takeWhile nb))), some (.ref D), w5, w6, w7, w8] ∧
          sl 40 (((lS x).drop i).dropWhile nb) = (appB ps .nil, (lS x).drop a) ∧ Same H1 (off H' D) ∧ H' D = some (.lst vs) ∧ DqAll (off H' D) vs (brD ps), ?_, ?_⟩
      rotate_left
      · rintro σ' H' ⟨a, ps, vs, w5, w6, w7, w8, rfl, es, s', eD, qa⟩
        have ln : vs.length = ps.length := by
          have := qa.len
          rw [this]
          exact List.length_map ..
        refine ⟨fun σ' H2 => H2 = H' ∧ ∃ (j : Nat), σ' = [some (.str x), some (.int (i : Int)), some (.int (j : Int)), some (.str (S (((lS x).drop i).takeWhile nb))), some (.ref D), w5, w6, w7, w8] ∧ (lS x).drop j = fit (appB ps .nil) ((lS x).drop a), ?_, ?_⟩
        · refine ⟨_, rfl, _, .inl ⟨vs, SqL.of eD, rfl⟩, ?_⟩
          have ee : vs.isEmpty = ps.isEmpty := by
            cases vs <;> cases ps <;> first | rfl | exact absurd ln (by simp)
          rw [ee]
          cases hp : ps.isEmpty with
          | true =>
            show if (!true) = true then _ else _
            rw [if_neg (by decide)]
            refine nx_go ⟨rfl, a, rfl, ?_⟩
            unfold fit
            rw [appB_nil, hp, if_pos rfl]
          | false =>
            show if (!false) = true then _ else _
            rw [if_pos (show (!false) = true from rfl)]
            refine ⟨_, rfl, (a : Int), 1, rfl, rfl, rfl, a + 1, rfl, ?_⟩
            unfold fit
            rw [appB_nil, hp, if_neg (by decide), ← List.drop_drop]
        rintro σ' H2 ⟨rfl, j, rfl, ej⟩
        have okw : okL (((lS x).drop i).takeWhile nb) := okL_sub (okL_drop ok i) (List.takeWhile_sublist nb).length_le fun c hc => (List.takeWhile_sublist nb).subset hc
        have esn := sn_eq ((lS x).drop i)
        rw [es] at esn
        have e1 : (sn ((lS x).drop i)).1 = node (((lS x).drop i).takeWhile nb) (appB ps .nil) := by rw [esn]
        have e2 : (lS x).drop j = (sn ((lS x).drop i)).2 := by rw [esn]; exact ej
        have sH : Same H H2 := same_trans s1 (same_trans s' off_same)
        have qb : DqAll H2 vs (toB (appB ps .nil)) := by
          rw [toB_app]
          exact qa.same off_same
        refine tseq_of ⟨_, rfl, rfl, _, _, rfl, rfl, _, rfl, ?_⟩
        rw [S_bang, starts_one, lS_S]
        show if isX (((lS x).drop i).takeWhile nb) = true then _ else _
        rw [e1] at k
        unfold node at k
        simp only [toD] at k
        rw [← e2] at k
        generalize ((lS x).drop i).takeWhile nb = wt at *
        have mw : (S wt).length ≤ sizeLine := by rw [len_S]; exact m6 okw.1
        cases hX : isX wt with
        | true =>
          rw [hX] at k
          rw [if_pos rfl]
          refine ⟨_, rfl, _, rfl, _, rfl, mw, ?_⟩
          rw [show L2.cutS (S wt) (some 1) none = S (wt.drop 1) from cut_from (S wt) 1]
          refine ⟨_, rfl, okL_drop okw 1, fun r H3 s3 q3 => ⟨_, rfl, D, vs, rfl, .inl ⟨SqL.of (s3 _ _ eD), fun tb ntb => ?_⟩⟩⟩
          refine ⟨by show 3 ≤ sizeLine; decide, fun t3 nt3 => ⟨_, rfl, by show 2 ≤ sizeLine; decide, fun p np => ?_⟩⟩
          have s4 := same_trans (same_new (o := .tup vs) ntb) (same_trans (same_new (o := .tup [r, .ref tb, .str "call"]) nt3) (same_new (o := .tup [.ref t3, .int (j : Int)]) np))
          refine k p (.ref t3) j _ (same_trans sH (same_trans s3 s4)) upd_same ?_ rfl
          refine .tup (same_new np _ _ upd_same) (.cons (q3.same s4) (.cons (.tup (same_trans (same_new nt3) (same_new np) _ _ upd_same) (qb.same (same_trans s3 s4))) (.cons dq_call .nil)))
        | false =>
          rw [hX] at k
          rw [if_neg (by decide)]
          refine nx_go ?_
          dsimp only
          refine ⟨_, rfl, _, rfl, okw, fun r H3 s3 q3 => ⟨_, rfl, D, vs, rfl, .inl ⟨SqL.of (s3 _ _ eD), fun tb ntb => ?_⟩⟩⟩
          refine ⟨by show 2 ≤ sizeLine; decide, fun t3 nt3 => ⟨_, rfl, by show 2 ≤ sizeLine; decide, fun p np => ?_⟩⟩
          have s4 := same_trans (same_new (o := .tup vs) ntb) (same_trans (same_new (o := .tup [r, .ref tb]) nt3) (same_new (o := .tup [.ref t3, .int (j : Int)]) np))
          refine k p (.ref t3) j _ (same_trans sH (same_trans s3 s4)) upd_same ?_ rfl
          refine .tup (same_new np _ _ upd_same) (.cons (q3.same s4) (.cons (.tup (same_trans (same_new nt3) (same_new np) _ _ upd_same) (qb.same (same_trans s3 s4))) .nil))
      refine while_by (fun σ' H' => ∃ (a b : Nat) (ps : List (List Nat × Nd)) (vs : List V) (w6 w7 w8 : Option V), σ' = [some (.str x), some (.int (i : Int)), some (.int (a : Int)), some (.str (S (((lS x).drop i).takeWhile nb))), some (.ref D), some (.str (S [b])), w6, w7, w8] ∧ (b = 40 ∨ b = 44) ∧
          sl 40 (((lS x).drop i).dropWhile nb) = (appB ps (sl b ((lS x).drop a)).1, (sl b ((lS x).drop a)).2) ∧ ((lS x).drop a).count 62 < n + 1 ∧ Same H1 (off H' D) ∧ H' D = some (.lst vs) ∧ DqAll (off H' D) vs (brD ps) ∧ vs.length + ((lS x).drop a).count 62 ≤ 1000000)
        (fun σ' _ => μS (lS x) σ') ⟨a0, 40, [], [], none, none, none, by rw [← S_open]; rfl, .inl rfl, by rw [er]; rfl, by rw [er]; exact cnt0, off_new nD, upd_same, .nil, by rw [er]; simpa using len0⟩ ?_ ?_
      rotate_left
      · intro σ' H' Q1 Q2 hq h
        obtain ⟨v0, f0, v1, f1, i1, g1, v2, f2, i2, j2, g2, h2, i3, g3, z, g4, g5, v5, f5, g6, kk, g7, q⟩ := h
        exact ⟨v0, f0, v1, f1, i1, g1, v2, f2, i2, j2, g2, h2, i3, g3, z, g4, g5, v5, f5, g6, kk, g7, hq _ _ q⟩
      rintro σ' H' ⟨a, b, ps, vs, w6, w7, w8, rfl, hb, es, ca, s', eD, qa, lv⟩
      refine ⟨_, rfl, _, rfl, (a : Int), rfl, _, rfl, (a : Int), 1, rfl, rfl, ((a + 1 : Nat) : Int), rfl, x, rfl, m6 hx, _, rfl, rfl, _, rfl, ?_⟩
      rw [cut_mid, show a + 1 - a = 1 by omega, str_eqL, lS_S]
      by_cases hc : ((lS x).drop a).take 1 = [b]
      rotate_left
      · rw [decide_eq_false hc]
        refine iteF ?_
        have e1 : sl b ((lS x).drop a) = (.nil, (lS x).drop a) := by
          cases hr0 : (lS x).drop a with
          | nil => rfl
          | cons c r =>
            refine sl_stop fun z => hc ?_
            rw [hr0, z.1]
            rfl
        rw [e1] at es
        exact ⟨a, ps, vs, _, _, _, _, rfl, es, s', eD, qa⟩
      rw [decide_eq_true hc]
      refine iteT ?_
      obtain ⟨r, hr0⟩ : ∃ r, (lS x).drop a = b :: r := by
        cases hr0 : (lS x).drop a with
        | nil =>
          rw [hr0] at hc
          cases hc
        | cons c r =>
          rw [hr0] at hc
          injection hc with hc _
          exact ⟨r, by rw [hc]⟩
      refine tseq_of ⟨_, rfl, rfl, _, rfl, x, _, _, rfl, rfl, ?_⟩
      rw [S_gt, find3_one x 62 a]
      dsimp only
      refine tseq_of ⟨_, rfl, _, rfl, rfl, _, rfl, ?_⟩
      have b62 : b ≠ 62 := by omega
      by_cases hg : 62 ∈ r
      rotate_left
      · have e0 : fnd 62 (lS x) a = -1 := by
          unfold fnd
          rw [if_neg (by rw [hr0]; intro z; rcases List.mem_cons.mp z with z | z; exact b62 z.symm; exact hg z)]
        rw [e0]
        refine iteT ?_
        have e1 : sl b ((lS x).drop a) = (.nil, (lS x).drop a) := by
          rw [hr0]
          exact sl_stop fun z => hg z.2
        rw [e1] at es
        exact ⟨a, ps, vs, _, _, _, _, rfl, es, s', eD, qa⟩
      have e0 : fnd 62 (lS x) a = ((a + 1 + (r.takeWhile nG).length : Nat) : Int) := by
        unfold fnd
        rw [if_pos (by rw [hr0]; exact List.mem_cons_of_mem _ hg), hr0, List.takeWhile_cons, if_pos (by simpa using b62), List.length_cons]
        show ((a + ((r.takeWhile nG).length + 1) : Nat) : Int) = _
        congr 1
        omega
      rw [e0]
      have hd : (decide (V.int ((a + 1 + (r.takeWhile nG).length : Nat) : Int) = V.int (-1))) = false := decide_eq_false fun y => by
        have := V.int.inj y
        omega
      show if decide (V.int ((a + 1 + (r.takeWhile nG).length : Nat) : Int) = V.int (-1)) = true then _ else _
      rw [hd]
      refine iteF (nx_go ?_)
      dsimp only
      have ed : (lS x).drop (a + 1) = r := by
        rw [← List.drop_drop, hr0]
        rfl
      have ln : (r.takeWhile nG).length + ((r.dropWhile nG).drop 1).length + 1 = r.length := by
        have z := congrArg List.length (List.takeWhile_append_dropWhile (p := nG) (l := r))
        rw [List.length_append] at z
        have y : r.dropWhile nG ≠ [] := fun q => by
          have z2 := List.takeWhile_append_dropWhile (p := nG) (l := r)
          rw [q, List.append_nil] at z2
          rw [← z2] at hg
          have := List.all_eq_true.mp List.all_takeWhile _ hg
          exact absurd this (by decide)
        have : 0 < (r.dropWhile nG).length := List.length_pos_iff.mpr y
        rw [List.length_drop]
        omega
      have e3 : (lS x).drop (a + 1 + (r.takeWhile nG).length + 1) = (r.dropWhile nG).drop 1 := by
        rw [← List.drop_drop, ← List.drop_drop, ed]
        congr 1
        have z := List.drop_left (l₁ := r.takeWhile nG) (l₂ := r.dropWhile nG)
        rw [List.takeWhile_append_dropWhile] at z
        exact z
      have hle : a + 1 + (r.takeWhile nG).length + 1 ≤ (lS x).length := by
        have z := congrArg List.length ed
        rw [List.length_drop] at z
        omega
      have c3 := cnt_r3 hg
      have ca' : ((lS x).drop a).count 62 = r.count 62 := by
        rw [hr0, cnt_cons, if_neg b62]
        rfl
      refine tseq_of ⟨_, rfl, _, rfl, ((a + 1 + (r.takeWhile nG).length : Nat) : Int), 1, rfl, rfl, x, a + 1 + (r.takeWhile nG).length + 1, rfl, ok, hle, by rw [e3]; omega, fun p v j H2 s2 e2 q2 d2 => ?_⟩
      rw [e3] at q2 d2
      refine ⟨p, _, rfl, SqT.of e2, rfl, _, _, rfl, _, _, rfl, rfl, ?_⟩
      dsimp only
      have eD2 := s2 _ _ eD
      refine tseq_of ⟨_, rfl, .inl ⟨rfl, _, SqL.of eD2⟩, _, rfl, _, rfl, (a : Int), 1, rfl, rfl, ((a + 1 : Nat) : Int), rfl, _, rfl, ((a + 1 + (r.takeWhile nG).length : Nat) : Int), rfl, x, rfl, m6 hx, ?_⟩
      refine ⟨_, rfl, by show 2 ≤ sizeLine; decide, fun t nt => ?_⟩
      have ew : L2.cutS x (some ((a + 1 : Nat) : Int)) (some ((a + 1 + (r.takeWhile nG).length : Nat) : Int)) = S (r.takeWhile nG) := by
        rw [cut_mid, ed, show a + 1 + (r.takeWhile nG).length - (a + 1) = (r.takeWhile nG).length by omega]
        have z := List.take_left (l₁ := r.takeWhile nG) (l₂ := r.dropWhile nG)
        rw [List.takeWhile_append_dropWhile] at z
        rw [z]
      rw [ew]
      have okw : okL (r.takeWhile nG) := by
        have o1 := okL_drop ok (a + 1)
        rw [ed] at o1
        exact okL_sub o1 (List.takeWhile_sublist nG).length_le fun c hc => (List.takeWhile_sublist nG).subset hc
      have tD : t ≠ D := (ne_of_none eD2 nt).symm
      have q3 : Dq (off (upd H2 t (.tup [.str (S (r.takeWhile nG)), v])) D) v (toD (sn ((r.dropWhile nG).drop 1)).1) := dq_off (same_new nt _ _ eD2) (q2.same (same_new nt)) (noL_toD _)
      refine ⟨D, vs, .ref t, rfl, rfl, same_new nt _ _ eD2, Nat.lt_of_le_of_lt (show vs.length ≤ 1000000 by omega) (by decide), ?_⟩
      show tSeq _ _ _ _ _
      refine tseq_of ⟨_, rfl, ?_⟩
      have cj : ((lS x).drop j).count 62 ≤ ((r.dropWhile nG).drop 1).count 62 := by
        rw [d2]
        exact cnt_suf (sn_suf _)
      have es2 : sl 40 (((lS x).drop i).dropWhile nb) = (appB (ps ++ [(r.takeWhile nG, (sn ((r.dropWhile nG).drop 1)).1)]) (sl 44 ((lS x).drop j)).1, (sl 44 ((lS x).drop j)).2) := by
        rw [es, hr0, sl_step ⟨rfl, hg⟩, appB_snoc, d2]
      refine ⟨⟨j, 44, _, _, _, _, _, by rw [← S_comma]; rfl, .inr rfl, es2, by omega, ?_, upd_same, ?_, ?_⟩, ?_⟩
      · rw [off_put]
        exact same_trans s' (off_mono (same_trans s2 (same_new nt)))
      · rw [off_put]
        unfold brD
        rw [List.map_append]
        exact (qa.same (off_mono (same_trans s2 (same_new nt)))).app (.cons (.tup (off_at upd_same tD) (.cons (dq_S okw) (.cons q3 .nil))) .nil)
      · rw [List.length_append, List.length_singleton]
        omega
      · show ((lS x).drop ((j : Int)).toNat).count 62 < ((lS x).drop ((a : Int)).toNat).count 62
        rw [Int.toNat_natCast, Int.toNat_natCast]
        omega
end
end X48
set_option Elab.async false
set_option linter.all false
set_option maxRecDepth 100000
set_option maxHeartbeats 4000000
/-! _node_text -/
namespace X48
open PySem L2 L2H DQ K01
theorem strs_vals {H : Hp} : ∀ {vs : List V} {ws : List Str}, DqAll H vs (ws.map PyData.str) → vs = ws.map V.str
  | _, [], .nil => rfl
  | _, w :: ws, .cons (.str _ _) b => by rw [strs_vals b]; rfl
theorem wrB_jn : ∀ {w : List Nat} {t : Nd} {r : Bs} (a : Nat), wrB a (.cons w t r) = a :: (jn 44 (prts (.cons w t r)) ++ [41])
  | w, t, .nil, a => by simp [wrB, prts, part, jn]
  | w, t, .cons w2 t2 r2, a => by
    have ih := wrB_jn (w := w2) (t := t2) (r := r2) 44
    show a :: (w ++ 62 :: (wr t ++ wrB 44 (.cons w2 t2 r2))) = _
    rw [ih]
    show _ = a :: ((part w t ++ 44 :: jn 44 (prts (.cons w2 t2 r2))) ++ [41])
    simp [part]
theorem sum_prts : ∀ b : Bs, ((prts b).map List.length).sum + (prts b).length ≤ (wrB 44 b).length
  | .nil => Nat.zero_le _
  | .cons w t r => by
    have ih := sum_prts r
    have e : wrB 44 (.cons w t r) = 44 :: (part w t ++ wrB 44 r) := by simp [wrB, part]
    rw [e, List.length_cons, List.length_append]
    simp only [prts, List.map_cons, List.sum_cons, List.length_cons]
    omega
theorem sum_jn (c : Nat) : ∀ ms : List (List Nat), (ms.map List.length).sum + ms.length ≤ (jn c ms).length + 1
  | [] => Nat.zero_le _
  | [x] => by simp [jn]
  | x :: y :: r => by
    have ih := sum_jn c (y :: r)
    show _ ≤ (x ++ c :: jn c (y :: r)).length + 1
    rw [List.length_append, List.length_cons]
    simp only [List.map_cons, List.sum_cons, List.length_cons] at ih ⊢
    omega
theorem apS (a b : List Nat) : (S a ++ S b : Str) = S (a ++ b) := app_S a b
theorem apE (a : List Nat) : (Str.empty ++ S a : Str) = S a := by
  show S [] ++ S a = S a
  rw [apS]
  rfl
theorem lenS6 {l : List Nat} (h : l.length ≤ 1000002) : (S l).length ≤ sizeLine := by
  rw [len_S]
  exact Nat.le_trans h (by decide)
def lB : Bs → List (List Nat × Nd)
  | .nil => []
  | .cons w t r => (w, t) :: lB r
theorem toB_lB : ∀ b : Bs, toB b = brD (lB b)
  | .nil => rfl
  | .cons w t r => by
    show PyData.tuple [.str (S w), toD t] :: toB r = _
    rw [toB_lB r]
    rfl
theorem prts_lB : ∀ b : Bs, prts b = (lB b).map fun p => part p.1 p.2
  | .nil => rfl
  | .cons w t r => by
    show part w t :: prts r = _
    rw [prts_lB r]
    rfl
theorem of_lB : ∀ {b : Bs} {p : List Nat × Nd}, p ∈ lB b → GdB b → gw p.1 ∧ Gd p.2 ∧ hd p.2 ≤ hdB b ∧ (part p.1 p.2).length ≤ (wrB 44 b).length
  | .nil, p, h, _ => absurd h List.not_mem_nil
  | .cons w t r, p, h, ⟨g1, g2, g3⟩ => by
    have e : wrB 44 (.cons w t r) = 44 :: (part w t ++ wrB 44 r) := by simp [wrB, part]
    rw [e, List.length_cons, List.length_append]
    rcases List.mem_cons.mp h with rfl | h
    · exact ⟨g1, g2, Nat.le_max_left .., by show (part w t).length ≤ _; omega⟩
    · obtain ⟨a1, a2, a3, a4⟩ := of_lB h g3
      exact ⟨a1, a2, Nat.le_trans a3 (Nat.le_max_right ..), by omega⟩
theorem wrB_len (a : Nat) (w : List Nat) (t : Nd) (r : Bs) : (wrB a (.cons w t r)).length = (wrB 44 (.cons w t r)).length := by simp [wrB]
theorem lB_len (b : Bs) : (lB b).length = (prts b).length := by rw [prts_lB, List.length_map]
theorem dq_pr {H : Hp} {v : V} {a b : PyData} (h : Dq H v (.tuple [a, b])) : ∃ p x y, v = .ref p ∧ H p = some (.tup [x, y]) ∧ Dq H x a ∧ Dq H y b := by
  obtain ⟨p, xs, rfl, e, al⟩ := dq_tup h
  cases al with
  | cons h1 al =>
  cases al with
  | cons h2 al =>
  cases al
  exact ⟨p, _, _, rfl, e, h1, h2⟩
def spNT (n : Nat) : Sp := fun vs H Q _ => ∃ (v : V) (t : Nd), vs = [v] ∧ Dq H v (toD t) ∧ Gd t ∧ hd t ≤ n ∧ (wr t).length ≤ 1000000 ∧ ∀ H', Same H H' → Q (.str (S (wr t))) H'
abbrev nNT : List Str := ["node", "sign", "text", "branches", "word", "below"]
theorem scNT : FnScope nNT ["node"] (defScope sNoT) := ⟨rfl, rfl, rfl, by decide +kernel, rfl, by decide +kernel, by decide +kernel⟩
section
variable {P : Program} {w : World} {K : PySem.W.Frag} {mg : Str → Option Value} {base : Heap}
theorem ok_nt {f : Addr} {fd : FuncData} (F : Fun K "_node_text" "_node_text" sNoT f fd) (bF : Binds K fd ["node"] []) (gF : mg "_node_text" = some (.ref f)) (tL : mg "len" = none) :
    ∀ n, FnOk P w K mg base CX0 (1 + n) f fd ["node"] (spNT n) := by
  intro n
  induction n with
  | zero =>
    refine fn_never.imp fun vs H Q E h => ?_
    obtain ⟨v, t, _, _, _, hn, _⟩ := h
    cases t with
    | mk ms bs c => exact absurd hn (by simp [hd])
  | succ n ih =>
    refine F.ok (k := 1 + n) scNT (fun vs H Q E h => ?_) (fun cdv A outer s H vs Q E hr h => ?_)
    · obtain ⟨v, t, rfl, _⟩ := h
      rfl
    · obtain ⟨v, t, rfl, hv, hg, hn, hl, k⟩ := h
      refine ⟨_, C8.pss_cut (ps_set (i := 1) scNT.nd rfl (Or.inl rfl) (pe_ifExp (pt_cmpR op_eq (pe_callB call_len_seq (by rfl) tL PySem.boot_len (pa_cons (pv 0) pa_nil)) pe_int (by rfl)) pe_str pe_str))
        (C8.pss_cut (ps_set (i := 2) scNT.nd rfl (Or.inl rfl) (pe_op op_add_str (pv 1) (pe_orT (pe_join pe_str (pe_ix ix_tup (pv 0) pe_int (fun _ _ => rfl))) (pe_one pe_str))))
        (pss_cons (ps_if (pt_not (pt_truth (pe_ix ix_tup (pv 0) pe_int (fun _ _ => rfl)) (by intro _; rfl))) (pss_one (ps_ret (pv 2))) pss_nil)
        (pss_cons (ps_set (i := 3) scNT.nd rfl (Or.inl rfl) (pe_join pe_str (pe_lc (own := [("word", 4), ("below", 5)]) (g := gTup K 2 (gCons (gName 4) (gCons (gName 5) gNil))) (tt := tYes) (by rfl) scNT.nd (pi_tup (pe_ix ix_tup (pv 0) pe_int (fun _ _ => rfl))) (blkOk_by (own := [("word", 4), ("below", 5)]) (N := nNT) (sc := defScope sNoT) (by decide +kernel))
          (fun _ _ _ _ _ => pg_tup (n := 2) rfl (pgs_cons (pg_name (i := 4) scNT.nd rfl (Or.inl rfl)) (pgs_cons (pg_name (i := 5) scNT.nd rfl (Or.inl rfl)) pgs_nil))) (fun _ _ _ _ _ => pts_nil)
          (fun _ _ _ _ _ => pe_joined (.cons (pe_fmt (pv 4)) (.cons pe_str (.cons (pe_fmt (pe_call ih hr (by rfl) gF F.kp bF .nil pass0 (pa_cons (pv 5) pa_nil))) .nil)))))))
        (pss_one (ps_ret (pe_joined (.cons (pe_fmt (pv 2)) (.cons pe_str (.cons (pe_fmt (pv 3)) (.cons pe_str .nil)))))))))), ?_⟩
      cases t with
      | mk ms bs c =>
      obtain ⟨gm, gb⟩ := hg
      obtain ⟨pd, xd, rfl, d1, da⟩ := dq_tup hv
      have hk' : hdB bs ≤ n := by
        have : hdB bs + 1 ≤ n + 1 := hn
        omega
      have ew : wr (.mk ms bs c) = wC c ++ (wM ms ++ wrB 40 bs) := by simp [wr]
      rw [ew, List.length_append, List.length_append] at hl
      rw [ew] at k
      obtain ⟨pm, xm, pb, xb, xr, rfl, em, am, eb, ab, hr3⟩ : ∃ (pm : Addr) (xm : List V) (pb : Addr) (xb xr : List V), xd = .ref pm :: .ref pb :: xr ∧ H pm = some (.tup xm) ∧ DqAll H xm (msD ms) ∧ H pb = some (.tup xb) ∧ DqAll H xb (toB bs) ∧ xr.length = (if c = true then 1 else 0) := by
        cases da with
        | cons qm da =>
        cases da with
        | cons qb da =>
        obtain ⟨pm, xm, rfl, em, am⟩ := dq_tup qm
        obtain ⟨pb, xb, rfl, eb, ab⟩ := dq_tup qb
        refine ⟨pm, xm, pb, xb, _, rfl, em, am, eb, ab, ?_⟩
        rw [da.len]
        cases c <;> rfl
      refine ⟨fun σ' H' => H = H' ∧ σ' = [some (.ref pd), some (.str (S (wC c))), none, none, none, none], ?_, ?_⟩
      · refine ⟨_, rfl, pd, _, rfl, .inr (SqT.of d1), rfl, _, rfl, ?_⟩
        have ec : decide (V.int (((V.ref pm :: V.ref pb :: xr).length : Nat) : Int) = V.int 3) = c := by
          rw [List.length_cons, List.length_cons, hr3]
          cases c <;> decide
        rw [ec]
        cases c with
        | true => exact iteT ⟨rfl, by rw [S_bang]; rfl⟩
        | false => exact iteF ⟨rfl, rfl⟩
      rintro σ' H' ⟨rfl, rfl⟩
      refine ⟨fun σ' H2 => H = H2 ∧ σ' = [some (.ref pd), some (.str (S (wC c))), some (.str (S (wC c ++ wM ms))), none, none, none], ?_, ?_⟩
      · have exm : xm = (ms.map S).map V.str := strs_vals (by
          rw [List.map_map]
          exact am)
        have el : ((ms.map S).map fun x => x.length) = ms.map List.length := by
          rw [List.map_map]
          exact List.map_congr_left fun m _ => len_S m
        have lw : (wM ms).length ≤ 1000000 := by omega
        have lm : (ms.map List.length).sum + ms.length ≤ 1000001 := by
          by_cases z : ms = []
          · rw [z]
            exact Nat.zero_le _
          · have y := sum_jn 43 ms
            have e : wM ms = jn 43 ms := by
              unfold wM
              rw [if_neg z]
            rw [e] at lw
            omega
        have okj : ((ms.map S).map fun x => x.length).sum + (ms.map S).length * ("+" : Str).length ≤ 16777216 := by
          rw [el, List.length_map, show ("+" : Str).length = 1 by decide +kernel]
          omega
        have ej : Txt.join ("+" : Str) (ms.map S) = S (jn 43 ms) := by
          rw [S_plus, join_one, List.map_map]
          congr 1
          congr 1
          exact List.map_id _
        have cl : (wC c).length ≤ 1 := by cases c <;> decide
        refine ⟨_, rfl, ⟨_, rfl⟩, _, rfl, pd, _, 0, .ref pm, rfl, rfl, SqT.of d1, atI_nat (j := 0) rfl, _, pm, ms.map S, rfl, rfl, .inr (SqT.of (by rw [← exm]; exact em)), okj, ?_⟩
        rw [ej]
        by_cases z : ms = []
        · have ew0 : wM ms = [45] := by rw [z]; rfl
          refine ⟨false, ⟨by rw [z]; decide, by rw [z]; rfl⟩, ?_⟩
          rw [if_neg (by decide)]
          refine ⟨_, _, rfl, rfl, ?_, rfl, ?_⟩
          · rw [len_S, show ("-" : Str).length = 1 by decide +kernel]
            exact m6 (by omega)
          · rw [S_dash, ew0]
            exact congrArg (fun y => [some (V.ref pd), some (.str (S (wC c))), some (V.str y), none, none, none]) (app_S _ _)
        · have ew0 : wM ms = jn 43 ms := by
            unfold wM
            rw [if_neg z]
          obtain ⟨a0, r0, e0, _⟩ := jn_head z gm
          rw [ew0] at lw
          refine ⟨true, ⟨by rw [len_S]; exact m6 lw, ?_⟩, ?_⟩
          · rw [len_S, e0, List.length_cons]
            exact (bne_iff_ne.mpr (by omega)).symm
          rw [if_pos rfl]
          refine ⟨_, _, rfl, rfl, ?_, rfl, ?_⟩
          · rw [len_S, len_S]
            exact Nat.le_trans (show (wC c).length + (jn 43 ms).length ≤ 1000001 by omega) (by decide)
          · rw [ew0]
            exact congrArg (fun y => [some (V.ref pd), some (.str (S (wC c))), some (V.str y), none, none, none]) (app_S _ _)
      rintro σ' H2 ⟨rfl, rfl⟩
      have lw : (wC c ++ wM ms).length ≤ 1000000 := by
        rw [List.length_append]
        omega
      refine tseq_of ⟨_, rfl, pd, _, 1, .ref pb, rfl, rfl, SqT.of d1, atI_nat (j := 1) rfl, _, .inr (.inl ⟨xb, SqT.of eb, rfl⟩), ?_⟩
      cases bs with
      | nil =>
        have hx : xb = [] := by
          cases ab
          rfl
        rw [hx]
        refine iteT ⟨_, rfl, ?_⟩
        have z := k H same_refl
        have e2 : wC c ++ (wM ms ++ wrB 40 .nil) = wC c ++ wM ms := by simp [wrB]
        rw [e2] at z
        exact z
      | cons w0 t0 r0 =>
        obtain ⟨y0, ys, hx⟩ : ∃ y ys, xb = y :: ys := by
          cases ab with
          | cons a b => exact ⟨_, _, rfl⟩
        have hne : (!xb.isEmpty) = true := by rw [hx]; rfl
        rw [hne]
        refine iteF (nx_go ?_)
        show tSeq _ _ _ _ _
        refine tseq_of ⟨⟨_, rfl⟩, _, rfl, pd, _, 1, .ref pb, rfl, rfl, SqT.of d1, atI_nat (j := 1) rfl, pb, rfl, ⟨_, SqT.of eb⟩, fun D nD => ?_⟩
        rw [wrB_len] at hl
        have lx : xb.length = (lB (.cons w0 t0 r0)).length := by
          rw [ab.len, toB_lB]
          exact List.length_map ..
        have sm0 := sum_prts (.cons w0 t0 r0)
        have lfew : (prts (.cons w0 t0 r0)).length ≤ 1000000 := by omega
        refine lc_it (walk_tup (xs := xb)) (te := fun σ H Q => tJs [tFmt (tVar 4), tC (V.str ">"), tFmt (tCall (spNT n) [] _ (tCons (tVar 5) tNil))] Str.empty σ H fun out H1 => Q (V.str out) H1) (fun i H' => Same H H' ∧ H' D = some (.lst (((prts (.cons w0 t0 r0)).take i).map fun l => V.str (S l)))) ⟨same_new nD, upd_same⟩ (fun i H' _ ⟨s, _⟩ => SqT.of (s _ _ eb)) ?_ ?_
        · rintro i y H5 H6 hi ⟨s5, hdd⟩ ⟨rfl, hy⟩
          have hil : i < (lB (.cons w0 t0 r0)).length := by omega
          have hp := List.getElem?_eq_getElem hil
          have hmem := List.getElem_mem hil
          generalize (lB (.cons w0 t0 r0))[i] = p at hp hmem
          obtain ⟨g1, g2, g3, g4⟩ := of_lB hmem gb
          have hdat : (toB (.cons w0 t0 r0))[i]? = some (.tuple [.str (S p.1), toD p.2]) := by
            rw [toB_lB]
            unfold brD
            rw [List.getElem?_map, hp]
            rfl
          obtain ⟨vi, hvi, qi⟩ := ab.at hdat
          rw [hy] at hvi
          obtain rfl : y = vi := Option.some.inj hvi
          obtain ⟨pi, vu, vt, rfl, epi, qu, qt⟩ := dq_pr qi
          obtain rfl : vu = .str (S p.1) := by
            cases qu
            rfl
          have lpart : (part p.1 p.2).length = p.1.length + ((wr p.2).length + 1) := by
            unfold part
            rw [List.length_append, List.length_cons]
          have l1 : p.1.length ≤ 1000000 := by omega
          refine ⟨pi, _, rfl, SqT.of (s5 _ _ epi), rfl, _, _, rfl, _, _, rfl, rfl, rfl, ?_⟩
          unfold tYes
          refine iteT ?_
          refine ⟨_, rfl, .inl ⟨S p.1, rfl, by rw [len_S]; exact m6 l1, S p.1, rfl, ?_, _, rfl, ?_, _, rfl, vt, p.2, rfl, qt.same s5, g2, by omega, by omega, fun H7 s7 => .inl ⟨S (wr p.2), rfl, by rw [len_S]; exact m6 (by omega), _, rfl, ?_, ?_⟩⟩⟩
          · rw [apE]
            exact lenS6 (by omega)
          · rw [apE, S_gt, apS]
            refine lenS6 ?_
            rw [List.length_append, List.length_singleton]
            omega
          · rw [apE, S_gt, apS, apS]
            refine lenS6 ?_
            rw [List.length_append, List.length_append, List.length_singleton]
            omega
          rw [apE, S_gt, apS, apS, show p.1 ++ [62] ++ wr p.2 = part p.1 p.2 by simp [part]]
          have hpt : (prts (.cons w0 t0 r0))[i]? = some (part p.1 p.2) := by
            rw [prts_lB, List.getElem?_map, hp]
            rfl
          refine ⟨_, s7 _ _ hdd, ?_, fun b o z => ?_, ?_⟩
          · rw [List.length_map, List.length_take]
            exact Nat.lt_of_le_of_lt (show min i (prts (.cons w0 t0 r0)).length ≤ 1000000 by omega) (by decide)
          · rw [upd_ne (ne_of_none z nD)]
            exact s7 _ _ (s5 _ _ z)
          · rw [upd_same, tk_snoc hpt, List.map_append]
            rfl
        · rintro H5 ⟨s5, hdd⟩
          rw [List.take_of_length_le (by rw [lx, lB_len]; exact Nat.le_refl _)] at hdd
          have em2 : ((prts (.cons w0 t0 r0)).map fun l => V.str (S l)) = ((prts (.cons w0 t0 r0)).map S).map V.str := by rw [List.map_map]; rfl
          rw [em2] at hdd
          have el : (((prts (.cons w0 t0 r0)).map S).map fun x => x.length) = (prts (.cons w0 t0 r0)).map List.length := by
            rw [List.map_map]
            exact List.map_congr_left fun m _ => len_S m
          refine ⟨_, D, _, rfl, rfl, .inl (SqL.of hdd), ?_, ?_⟩
          · rw [el, List.length_map, show ("," : Str).length = 1 by decide +kernel]
            omega
          have ej : Txt.join ("," : Str) ((prts (.cons w0 t0 r0)).map S) = S (jn 44 (prts (.cons w0 t0 r0))) := by
            rw [S_comma, join_one, List.map_map]
            congr 1
            congr 1
            exact List.map_id _
          rw [ej]
          have ewb := wrB_jn (w := w0) (t := t0) (r := r0) 40
          have lj : (jn 44 (prts (.cons w0 t0 r0))).length + 2 = (wrB 44 (.cons w0 t0 r0)).length := by
            rw [← wrB_len 40, ewb, List.length_cons, List.length_append, List.length_singleton]
          refine ⟨_, rfl, .inl ⟨_, rfl, lenS6 (by omega), _, rfl, ?_, _, rfl, ?_, _, rfl, .inl ⟨_, rfl, lenS6 (by omega), _, rfl, ?_, _, rfl, ?_, ?_⟩⟩⟩
          · rw [apE]
            exact lenS6 (by omega)
          · rw [apE, S_open, apS]
            refine lenS6 ?_
            rw [List.length_append, List.length_singleton]
            omega
          · rw [apE, S_open, apS, apS]
            refine lenS6 ?_
            rw [List.length_append, List.length_append, List.length_singleton, List.length_append]
            omega
          · rw [apE, S_open, apS, apS, S_close, apS]
            refine lenS6 ?_
            rw [List.length_append, List.length_append, List.length_append, List.length_singleton, List.length_singleton, List.length_append]
            omega
          rw [apE, S_open, apS, apS, S_close, apS]
          have z := k H5 s5
          rw [ewb] at z
          rw [show wC c ++ wM ms ++ [40] ++ jn 44 (prts (.cons w0 t0 r0)) ++ [41] = wC c ++ (wM ms ++ 40 :: (jn 44 (prts (.cons w0 t0 r0)) ++ [41])) by simp]
          exact z
end
end X48
set_option Elab.async false
set_option linter.all false
set_option maxRecDepth 100000
set_option maxHeartbeats 4000000
/-! _law_text_of -/
namespace X48
open PySem L2 L2H DQ K01
abbrev nLT : List Str := ["tree", "ahead", "inner", "word", "below"]
theorem scLT : FnScope nLT ["tree"] (defScope sTextOf) := ⟨rfl, rfl, rfl, by decide +kernel, rfl, by decide +kernel, by decide +kernel⟩
theorem if_two {c : Bool} {x y z : V} {σ : L2.St} {H : Hp} {Q : VK} (h : (if c = true then x else y) = z) (q : Q z H) : if c = true then tC x σ H Q else tC y σ H Q := by
  cases c with
  | true => rw [if_pos rfl] at h ⊢; rw [← h] at q; exact q
  | false => rw [if_neg (by decide)] at h ⊢; rw [← h] at q; exact q
section
variable {P : Program} {w : World} {K : PySem.W.Frag} {mg : Str → Option Value} {base : Heap}
theorem ok_lt {f : Addr} {fd : FuncData} (F : Fun K "_law_text_of" "_law_text_of" sTextOf f fd) (bF : Binds K fd ["tree"] []) (gF : mg "_law_text_of" = some (.ref f)) (tL : mg "len" = none) :
    ∀ n, FnOk P w K mg base CX0 (1 + n) f fd ["tree"] (spNT n) := by
  intro n
  induction n with
  | zero =>
    refine fn_never.imp fun vs H Q E h => ?_
    obtain ⟨v, t, _, _, _, hn, _⟩ := h
    cases t with
    | mk ms bs c => exact absurd hn (by simp [hd])
  | succ n ih =>
    refine F.ok (k := 1 + n) scLT (fun vs H Q E h => ?_) (fun cdv A outer s H vs Q E hr h => ?_)
    · obtain ⟨v, t, rfl, _⟩ := h
      rfl
    · obtain ⟨v, t, rfl, hv, hg, hn, hl, k⟩ := h
      have hu1 : (A.deeper (PyProof.Rows.envOfC "_law_text_of" (defScope sTextOf) s.heap.objs.size f cdv)).units < cLine := by have := hr.un; omega
      refine ⟨_, C8.pss_cut (ps_set (i := 1) scLT.nd rfl (Or.inl rfl) (pe_op op_add_str (pe_ifExp (pt_cmpR op_eq (pe_callB call_len_seq (by rfl) tL PySem.boot_len (pa_cons (pv 0) pa_nil)) pe_int (by rfl)) pe_str pe_str)
          (pe_ifExp (pt_cmpR (NI.op_neNilT hu1) (pe_ix ix_tup (pv 0) pe_int (fun _ _ => rfl)) (pe_tup pa_nil) (by rfl)) (pe_join pe_str (pe_ix ix_tup (pv 0) pe_int (fun _ _ => rfl))) pe_str)))
        (pss_cons (ps_set (i := 2) scLT.nd rfl (Or.inl rfl) (pe_join pe_str (pe_lc (own := [("word", 3), ("below", 4)]) (g := gTup K 2 (gCons (gName 3) (gCons (gName 4) gNil))) (tt := tYes) (by rfl) scLT.nd (pi_tup (pe_ix ix_tup (pv 0) pe_int (fun _ _ => rfl))) (blkOk_by (own := [("word", 3), ("below", 4)]) (N := nLT) (sc := defScope sTextOf) (by decide +kernel))
          (fun _ _ _ _ _ => pg_tup (n := 2) rfl (pgs_cons (pg_name (i := 3) scLT.nd rfl (Or.inl rfl)) (pgs_cons (pg_name (i := 4) scLT.nd rfl (Or.inl rfl)) pgs_nil))) (fun _ _ _ _ _ => pts_nil)
          (fun _ _ _ _ _ => pe_op op_add_str (pe_op op_add_str (pv 3) pe_str) (pe_call ih hr (by rfl) gF F.kp bF .nil pass0 (pa_cons (pv 4) pa_nil))))))
        (pss_one (ps_ret (pe_op op_add_str (pv 1) (pe_ifExp (pt_cmpR (NI.op_neNilT hu1) (pe_ix ix_tup (pv 0) pe_int (fun _ _ => rfl)) (pe_tup pa_nil) (by rfl)) (pe_op op_add_str (pe_op op_add_str pe_str (pv 2)) pe_str) pe_str))))), ?_⟩
      cases t with
      | mk ms bs c =>
      obtain ⟨gm, gb⟩ := hg
      obtain ⟨pd, xd, rfl, d1, da⟩ := dq_tup hv
      have hk' : hdB bs ≤ n := by
        have : hdB bs + 1 ≤ n + 1 := hn
        omega
      have ew : wr (.mk ms bs c) = wC c ++ (wM ms ++ wrB 40 bs) := by simp [wr]
      rw [ew, List.length_append, List.length_append] at hl
      rw [ew] at k
      obtain ⟨pm, xm, pb, xb, xr, rfl, em, am, eb, ab, hr3⟩ : ∃ (pm : Addr) (xm : List V) (pb : Addr) (xb xr : List V), xd = .ref pm :: .ref pb :: xr ∧ H pm = some (.tup xm) ∧ DqAll H xm (msD ms) ∧ H pb = some (.tup xb) ∧ DqAll H xb (toB bs) ∧ xr.length = (if c = true then 1 else 0) := by
        cases da with
        | cons qm da =>
        cases da with
        | cons qb da =>
        obtain ⟨pm, xm, rfl, em, am⟩ := dq_tup qm
        obtain ⟨pb, xb, rfl, eb, ab⟩ := dq_tup qb
        refine ⟨pm, xm, pb, xb, _, rfl, em, am, eb, ab, ?_⟩
        rw [da.len]
        cases c <;> rfl
      have cl : (wC c).length ≤ 1 := by cases c <;> decide
      refine ⟨fun σ' H' => Same H H' ∧ σ' = [some (.ref pd), some (.str (S (wC c ++ wM ms))), none, none, none], ?_, ?_⟩
      · have exm : xm = (ms.map S).map V.str := strs_vals (by
          rw [List.map_map]
          exact am)
        have el : ((ms.map S).map fun x => x.length) = ms.map List.length := by
          rw [List.map_map]
          exact List.map_congr_left fun m _ => len_S m
        have lw : (wM ms).length ≤ 1000000 := by omega
        have lm : (ms.map List.length).sum + ms.length ≤ 1000001 := by
          by_cases z : ms = []
          · rw [z]
            exact Nat.zero_le _
          · have y := sum_jn 43 ms
            have e : wM ms = jn 43 ms := by
              unfold wM
              rw [if_neg z]
            rw [e] at lw
            omega
        have okj : ((ms.map S).map fun x => x.length).sum + (ms.map S).length * ("+" : Str).length ≤ 16777216 := by
          rw [el, List.length_map, show ("+" : Str).length = 1 by decide +kernel]
          omega
        have ej : Txt.join ("+" : Str) (ms.map S) = S (jn 43 ms) := by
          rw [S_plus, join_one, List.map_map]
          congr 1
          congr 1
          exact List.map_id _
        refine ⟨_, rfl, pd, _, rfl, .inr (SqT.of d1), rfl, _, rfl, ?_⟩
        have ec : decide (V.int (((V.ref pm :: V.ref pb :: xr).length : Nat) : Int) = V.int 3) = c := by
          rw [List.length_cons, List.length_cons, hr3]
          cases c <;> decide
        rw [ec]
        refine if_two (x := .str "!") (y := .str "") (z := .str (S (wC c))) (by { cases c with | false => rfl | true => exact congrArg V.str S_bang }) ?_
        refine ⟨_, rfl, pd, _, 0, .ref pm, rfl, rfl, SqT.of d1, atI_nat (j := 0) rfl, Nat.zero_le _, fun q nq => ⟨pm, q, xm, rfl, rfl, SqT.of (same_new nq _ _ em), SqT.of upd_same, _, rfl, ?_⟩⟩
        by_cases z : ms = []
        · have ew0 : wM ms = [45] := by rw [z]; rfl
          have ex0 : xm = [] := by rw [exm, z]; rfl
          rw [ex0]
          refine iteF ⟨_, _, rfl, rfl, ?_, same_new nq, ?_⟩
          · rw [len_S, show ("-" : Str).length = 1 by decide +kernel]
            exact m6 (by omega)
          · rw [S_dash, ew0]
            exact congrArg (fun y => [some (V.ref pd), some (V.str y), none, none, none]) (app_S _ _)
        · have ew0 : wM ms = jn 43 ms := by
            unfold wM
            rw [if_neg z]
          have hne : (!xm.isEmpty) = true := by
            rw [exm]
            cases ms with
            | nil => exact absurd rfl z
            | cons a b => rfl
          show if (!xm.isEmpty) = true then _ else _
          rw [hne]
          refine iteT ⟨⟨_, rfl⟩, _, rfl, pd, _, 0, .ref pm, rfl, rfl, SqT.of (same_new nq _ _ d1), atI_nat (j := 0) rfl, _, pm, ms.map S, rfl, rfl, .inr (SqT.of (by rw [← exm]; exact same_new nq _ _ em)), okj, ?_⟩
          rw [ej]
          refine ⟨_, _, rfl, rfl, ?_, same_new nq, ?_⟩
          · rw [len_S, len_S]
            rw [ew0] at lw
            exact Nat.le_trans (show (wC c).length + (jn 43 ms).length ≤ 1000001 by omega) (by decide)
          · rw [ew0]
            exact congrArg (fun y => [some (V.ref pd), some (V.str y), none, none, none]) (app_S _ _)
      rintro σ' H' ⟨s', rfl⟩
      have lx : xb.length = (lB bs).length := by
        rw [ab.len, toB_lB]
        exact List.length_map ..
      have sm0 := sum_prts bs
      have h44 : (wrB 44 bs).length ≤ (wrB 40 bs).length + 1 := by
        cases bs with
        | nil => exact Nat.le_refl _
        | cons w0 t0 r0 =>
          rw [wrB_len 40]
          omega
      have lfew : (prts bs).length ≤ 1000001 := by omega
      have d1' := s' _ _ d1
      have eb' := s' _ _ eb
      refine tseq_of ⟨⟨_, rfl⟩, _, rfl, pd, _, 1, .ref pb, rfl, rfl, SqT.of d1', atI_nat (j := 1) rfl, pb, rfl, ⟨_, SqT.of eb'⟩, fun D nD => ?_⟩
      refine lc_it (walk_tup (xs := xb)) (fun i H2 => Same H' H2 ∧ H2 D = some (.lst (((prts bs).take i).map fun l => V.str (S l)))) ⟨same_new nD, upd_same⟩ (fun i H2 _ ⟨s, _⟩ => SqT.of (s _ _ eb')) ?_ ?_
      · rintro i y H5 H6 hi ⟨s5, hdd⟩ ⟨rfl, hy⟩
        have hil : i < (lB bs).length := by omega
        have hp := List.getElem?_eq_getElem hil
        have hmem := List.getElem_mem hil
        generalize (lB bs)[i] = p at hp hmem
        obtain ⟨g1, g2, g3, g4⟩ := of_lB hmem gb
        have hdat : (toB bs)[i]? = some (.tuple [.str (S p.1), toD p.2]) := by
          rw [toB_lB]
          unfold brD
          rw [List.getElem?_map, hp]
          rfl
        obtain ⟨vi, hvi, qi⟩ := ab.at hdat
        rw [hy] at hvi
        obtain rfl : y = vi := Option.some.inj hvi
        obtain ⟨pi, vu, vt, rfl, epi, qu, qt⟩ := dq_pr qi
        obtain rfl : vu = .str (S p.1) := by
          cases qu
          rfl
        have lpart : (part p.1 p.2).length = p.1.length + ((wr p.2).length + 1) := by
          unfold part
          rw [List.length_append, List.length_cons]
        have lpp : (part p.1 p.2).length ≤ 1000000 := by
          have : 0 < (prts bs).length := by rw [← lB_len]; omega
          cases bs with
          | nil => exact absurd hil (Nat.not_lt_zero _)
          | cons w0 t0 r0 =>
            rw [wrB_len 40] at hl
            omega
        refine ⟨pi, _, rfl, SqT.of (same_trans s' s5 _ _ epi), rfl, _, _, rfl, _, _, rfl, rfl, rfl, ?_⟩
        unfold tYes
        refine iteT ?_
        refine ⟨_, rfl, _, _, rfl, rfl, ?_, _, rfl, vt, p.2, rfl, qt.same (same_trans s' s5), g2, by omega, by omega, fun H7 s7 => ?_⟩
        · rw [len_S, show (">" : Str).length = 1 by decide +kernel]
          exact Nat.le_trans (show p.1.length + 1 ≤ 1000001 by omega) (by decide)
        rw [S_gt, apS]
        refine ⟨_, _, rfl, rfl, ?_, ?_⟩
        · rw [len_S, len_S, List.length_append, List.length_singleton]
          exact Nat.le_trans (show p.1.length + 1 + (wr p.2).length ≤ 1000001 by omega) (by decide)
        rw [apS, show p.1 ++ [62] ++ wr p.2 = part p.1 p.2 by simp [part]]
        have hpt : (prts bs)[i]? = some (part p.1 p.2) := by
          rw [prts_lB, List.getElem?_map, hp]
          rfl
        refine ⟨_, s7 _ _ hdd, ?_, fun b o z => ?_, ?_⟩
        · rw [List.length_map, List.length_take]
          exact Nat.lt_of_le_of_lt (show min i (prts bs).length ≤ 1000001 by omega) (by decide)
        · rw [upd_ne (ne_of_none z nD)]
          exact s7 _ _ (s5 _ _ z)
        · rw [upd_same, tk_snoc hpt, List.map_append]
          rfl
      rintro H5 ⟨s5, hdd⟩
      rw [List.take_of_length_le (by rw [lx, lB_len]; exact Nat.le_refl _)] at hdd
      have em2 : ((prts bs).map fun l => V.str (S l)) = ((prts bs).map S).map V.str := by rw [List.map_map]; rfl
      rw [em2] at hdd
      have el : (((prts bs).map S).map fun x => x.length) = (prts bs).map List.length := by
        rw [List.map_map]
        exact List.map_congr_left fun m _ => len_S m
      refine ⟨_, D, _, rfl, rfl, .inl (SqL.of hdd), ?_, ?_⟩
      · rw [el, List.length_map, show ("," : Str).length = 1 by decide +kernel]
        omega
      have ej : Txt.join ("," : Str) ((prts bs).map S) = S (jn 44 (prts bs)) := by
        rw [S_comma, join_one, List.map_map]
        congr 1
        congr 1
        exact List.map_id _
      rw [ej]
      have eb5 := s5 _ _ eb'
      have d15 := s5 _ _ d1'
      refine ⟨_, rfl, _, rfl, pd, _, 1, .ref pb, rfl, rfl, SqT.of d15, atI_nat (j := 1) rfl, Nat.zero_le _, fun q nq => ⟨pb, q, xb, rfl, rfl, SqT.of (same_new nq _ _ eb5), SqT.of upd_same, _, rfl, ?_⟩⟩
      have z := k _ (same_trans s' (same_trans s5 (same_new (o := .tup []) nq)))
      show if (!xb.isEmpty) = true then _ else _
      cases bs with
      | nil =>
        have hx : xb = [] := by
          cases ab
          rfl
        rw [hx]
        refine iteF ⟨_, _, rfl, rfl, ?_, ?_⟩
        · rw [len_S, List.length_append, show ("" : Str).length = 0 by decide +kernel]
          exact Nat.le_trans (show (wC c).length + (wM ms).length + 0 ≤ 1000001 by omega) (by decide)
        · rw [show ("" : Str) = S [] by decide +kernel, apS, List.append_nil]
          have e2 : wC c ++ (wM ms ++ wrB 40 .nil) = wC c ++ wM ms := by simp [wrB]
          rw [e2] at z
          exact z
      | cons w0 t0 r0 =>
        obtain ⟨y0, ys, hx⟩ : ∃ y ys, xb = y :: ys := by
          cases ab with
          | cons a b => exact ⟨_, _, rfl⟩
        have hne : (!xb.isEmpty) = true := by rw [hx]; rfl
        rw [hne]
        have ewb := wrB_jn (w := w0) (t := t0) (r := r0) 40
        have lj : (jn 44 (prts (.cons w0 t0 r0))).length + 2 = (wrB 40 (.cons w0 t0 r0)).length := by
          rw [ewb, List.length_cons, List.length_append, List.length_singleton]
        refine iteT ⟨_, rfl, _, _, rfl, rfl, ?_, ?_⟩
        · rw [len_S, show ("(" : Str).length = 1 by decide +kernel]
          exact Nat.le_trans (show 1 + (jn 44 (prts (.cons w0 t0 r0))).length ≤ 1000001 by omega) (by decide)
        rw [S_open, apS]
        refine ⟨_, _, rfl, rfl, ?_, ?_⟩
        · rw [len_S, List.length_append, List.length_singleton, show (")" : Str).length = 1 by decide +kernel]
          exact Nat.le_trans (show 1 + (jn 44 (prts (.cons w0 t0 r0))).length + 1 ≤ 1000001 by omega) (by decide)
        rw [S_close, apS]
        refine ⟨_, _, rfl, rfl, ?_, ?_⟩
        · rw [len_S, len_S]
          simp only [List.length_append, List.length_singleton]
          exact Nat.le_trans (show (wC c).length + (wM ms).length + (1 + (jn 44 (prts (.cons w0 t0 r0))).length + 1) ≤ 1000001 by omega) (by decide)
        rw [apS]
        rw [ewb] at z
        rw [show wC c ++ wM ms ++ ([40] ++ jn 44 (prts (.cons w0 t0 r0)) ++ [41]) = wC c ++ (wM ms ++ 40 :: (jn 44 (prts (.cons w0 t0 r0)) ++ [41])) by simp]
        exact z
end
end X48
set_option Elab.async false
set_option linter.all false
set_option maxRecDepth 100000
set_option maxHeartbeats 4000000
/-! shapes are trees -/
namespace X48
open PySem L2 L2H DQ K01
mutual
def nN : Nd → Nat
  | .mk _ bs _ => nB bs + 1
def nB : Bs → Nat
  | .nil => 0
  | .cons _ t r => nN t + nB r
end
mutual
theorem cnt_nN : ∀ {t : Nd}, Gd t → (wr t).count 62 + 1 = nN t
  | .mk ms bs c, ⟨gm, gb⟩ => by
    have e : wr (.mk ms bs c) = (wC c ++ wM ms) ++ wrB 40 bs := by simp [wr]
    have z : (wC c ++ wM ms).count 62 = 0 := List.count_eq_zero.mpr fun m => absurd (wCM_nb gm c 62 m).2.1 (by decide)
    rw [e, cnt_app, z, cnt_nB (.inl rfl) gb]
    simp [nN]
theorem cnt_nB : ∀ {bs : Bs} {a : Nat}, (a = 40 ∨ a = 44) → GdB bs → (wrB a bs).count 62 = nB bs
  | .nil, a, ha, _ => by
    rcases ha with rfl | rfl <;> rfl
  | .cons w t r, a, ha, ⟨gw', gt, gr⟩ => by
    have e : wrB a (.cons w t r) = a :: (w ++ (62 :: (wr t ++ wrB 44 r))) := rfl
    have z : w.count 62 = 0 := List.count_eq_zero.mpr fun m => absurd (gw'.2 62 m) (by decide)
    have i1 := cnt_nN gt
    have i2 := cnt_nB (a := 44) (.inr rfl) gr
    rw [e, cnt_cons, cnt_app, z, cnt_cons, cnt_app, i2, if_pos rfl]
    show _ = nN t + nB r
    rcases ha with rfl | rfl
    · rw [if_neg (by decide)]
      omega
    · rw [if_neg (by decide)]
      omega
end
/-- a word, as they are counted -/
theorem wordS_gw {x : Str} (h : wordS x = true) : gw (lS x) ∧ (lS x).length ≤ 8 := by
  unfold wordS at h
  obtain ⟨h1, h2⟩ := Bool.and_eq_true_iff.mp h
  obtain ⟨h2, h3⟩ := Bool.and_eq_true_iff.mp h2
  have a1 := of_decide_eq_true h1
  have a2 := of_decide_eq_true h2
  rw [len_lS] at a1 a2
  refine ⟨⟨fun z => ?_, fun c hc => ?_⟩, a2⟩
  · rw [z] at a1
    exact absurd a1 (by decide)
  · have y := List.all_eq_true.mp h3 c hc
    unfold low at y
    obtain ⟨y1, y2⟩ := Bool.and_eq_true_iff.mp y
    exact ⟨of_decide_eq_true y1, of_decide_eq_true y2⟩
theorem words_ms : ∀ {ds : List PyData}, ds.all isWord = true → ∃ ms, ds = msD ms ∧ ∀ m ∈ ms, gw m ∧ m.length ≤ 8
  | [], _ => ⟨[], rfl, fun m hm => absurd hm List.not_mem_nil⟩
  | d :: ds, h => by
    obtain ⟨h1, h2⟩ := Bool.and_eq_true_iff.mp (show (isWord d && ds.all isWord) = true from h)
    obtain ⟨ms, e, hm⟩ := words_ms h2
    cases d with
    | str x =>
      refine ⟨lS x :: ms, ?_, fun m hx => ?_⟩
      · show _ = PyData.str (S (lS x)) :: msD ms
        rw [S_lS, e]
      · rcases List.mem_cons.mp hx with rfl | hx
        · exact wordS_gw h1
        · exact hm m hx
    | _ => cases h1
theorem jn_len : ∀ {ms : List (List Nat)}, (∀ m ∈ ms, m.length ≤ 8) → (jn 43 ms).length ≤ 9 * ms.length
  | [], _ => Nat.zero_le _
  | [x], h => by
    have := h x (List.mem_cons_self ..)
    show x.length ≤ 9 * 1
    omega
  | x :: y :: r, h => by
    have i := jn_len (ms := y :: r) fun m hm => h m (List.mem_cons_of_mem _ hm)
    have := h x (List.mem_cons_self ..)
    show (x ++ 43 :: jn 43 (y :: r)).length ≤ _
    rw [List.length_append, List.length_cons, List.length_cons]
    omega
theorem wM_len {ms : List (List Nat)} (h : ∀ m ∈ ms, m.length ≤ 8) (l3 : ms.length ≤ 3) : (wM ms).length ≤ 27 := by
  unfold wM
  split
  · decide
  · have := jn_len h
    omega
/-- what a shape's counts say -/
structure Sh (m : Nat) (d : PyData) (xy : Int × Int) (t : Nd) : Prop where
  e : d = toD t
  g : Gd t
  h : hd t ≤ m
  n : xy.1 = (nN t : Int)
  l : (wr t).length + 10 ≤ 40 * nN t
theorem of_call {d : PyData} (h : isCall d = true) : ∃ a b, d = .tuple [a, b, .str "call"] := by
  cases d with
  | tuple ds =>
    obtain ⟨h1, h2⟩ := Bool.and_eq_true_iff.mp (show (decide (ds.length = 3) && isCallS ds[2]?) = true from h)
    have l3 := of_decide_eq_true h1
    match ds, l3, h2 with
    | [a, b, c], _, h2 =>
      refine ⟨a, b, ?_⟩
      cases c with
      | str x =>
        have y : decide (V.str x = V.str "call") = true := h2
        rw [V.str.inj (of_decide_eq_true y)]
      | _ => cases h2
  | _ => cases h
theorem fold_sh {m : Nat} (ih : ∀ d xy, cnt m d = some xy → ∃ t, Sh m d xy t) : ∀ (bs : List PyData) (acc xy : Int × Int), bs.foldl (stepB (cnt m)) (some acc) = some xy →
    ∃ B : Bs, bs = toB B ∧ GdB B ∧ hdB B ≤ m ∧ xy.1 = acc.1 + (nB B : Int) ∧ ∀ a, (wrB a B).length ≤ 40 * nB B + 1
  | [], acc, xy, h => by
    obtain rfl := Option.some.inj h
    refine ⟨.nil, rfl, trivial, Nat.zero_le _, by simp [nB], fun a => ?_⟩
    show (if a = 40 then [] else [41]).length ≤ 1
    split <;> decide
  | b :: bs, acc, xy, h => by
    rw [List.foldl_cons] at h
    rcases br_cases b with ⟨u, t, rfl⟩ | ⟨_, hn⟩
    · have es : stepB (cnt m) (some acc) (.tuple [.str u, t]) = if wordS u = true then (match cnt m t with | some pq => some (acc.1 + pq.1, acc.2 + pq.2) | none => none) else none := rfl
      rw [es] at h
      by_cases hw : wordS u = true
      · rw [if_pos hw] at h
        cases hc : cnt m t with
        | none =>
          rw [hc] at h
          rw [fold_none] at h
          cases h
        | some pq =>
          rw [hc] at h
          obtain ⟨B, e1, g1, h1, n1, l1⟩ := fold_sh ih bs _ _ h
          obtain ⟨t', S1⟩ := ih _ _ hc
          obtain ⟨gw1, l8⟩ := wordS_gw hw
          refine ⟨.cons (lS u) t' B, ?_, ⟨gw1, S1.g, g1⟩, Nat.max_le.mpr ⟨S1.h, h1⟩, ?_, fun a => ?_⟩
          · show _ = PyData.tuple [.str (S (lS u)), toD t'] :: toB B
            rw [S_lS, e1, S1.e]
          · rw [n1]
            have := S1.n
            show acc.1 + pq.1 + (nB B : Int) = acc.1 + ((nN t' + nB B : Nat) : Int)
            omega
          · show (a :: (lS u ++ 62 :: (wr t' ++ wrB 44 B))).length ≤ 40 * (nN t' + nB B) + 1
            rw [List.length_cons, List.length_append, List.length_cons, List.length_append]
            have := l1 44
            have := S1.l
            omega
      · rw [if_neg hw, fold_none] at h
        cases h
    · rw [hn, fold_none] at h
      cases h
theorem cnt_sh : ∀ (m : Nat) (d : PyData) (xy : Int × Int), cnt m d = some xy → ∃ t, Sh m d xy t := by
  intro m
  induction m with
  | zero =>
    intro d xy h
    cases h
  | succ m ih =>
    intro d xy h
    have e : cnt (m + 1) d = if isNode (3 - (m : Int)) d = true then cntOf (cnt m) d else none := rfl
    rw [e] at h
    by_cases hn : isNode (3 - (m : Int)) d = true
    · rw [if_pos hn] at h
      unfold isNode at hn
      obtain ⟨h1, h2⟩ := Bool.and_eq_true_iff.mp hn
      obtain ⟨c, a, b, rfl⟩ : ∃ (c : Bool) (a b : PyData), d = .tuple (a :: b :: (if c = true then [.str "call"] else [])) := by
        rcases Bool.or_eq_true_iff.mp h1 with z | z
        · cases d with
          | tuple ds =>
            have y : ds.length = 2 := of_decide_eq_true z
            match ds, y with
            | [a, b], _ => exact ⟨false, a, b, rfl⟩
          | _ => cases z
        · obtain ⟨a, b, rfl⟩ := of_call (Bool.and_eq_true_iff.mp z).2
          exact ⟨true, a, b, rfl⟩
      obtain ⟨h3, h4⟩ := Bool.and_eq_true_iff.mp (show (areMarks a && fewB b) = true from h2)
      cases a with
      | tuple ws =>
        cases b with
        | tuple bs =>
          obtain ⟨m3, m4⟩ := Bool.and_eq_true_iff.mp (show (decide (ws.length ≤ 3) && (ws.all isWord && (ws.zip ws.tail).all fun p => ltD p.1 p.2)) = true from h3)
          obtain ⟨ms, e1, hm⟩ := words_ms (Bool.and_eq_true_iff.mp m4).1
          have l3 := of_decide_eq_true m3
          have lms : ms.length ≤ 3 := by
            rw [e1] at l3
            unfold msD at l3
            rw [List.length_map] at l3
            exact l3
          obtain ⟨B, e2, g2, d2, n2, l2⟩ := fold_sh ih bs _ _ (show bs.foldl (stepB (cnt m)) (some (1, ((if c = true then [PyData.str "call"] else []).length : Int))) = some xy from h)
          refine ⟨.mk ms B c, ?_, ⟨fun x hx => (hm x hx).1, g2⟩, Nat.succ_le_succ d2, ?_, ?_⟩
          · simp only [toD]
            rw [e1, e2]
          · rw [n2]
            show (1 : Int) + (nB B : Int) = ((nB B + 1 : Nat) : Int)
            omega
          · have ew : wr (.mk ms B c) = wC c ++ (wM ms ++ wrB 40 B) := by simp [wr]
            rw [ew, List.length_append, List.length_append]
            have a1 := wM_len (fun x hx => (hm x hx).2) lms
            have a2 := l2 40
            have a3 : (wC c).length ≤ 1 := by cases c <;> decide
            show _ ≤ 40 * (nB B + 1)
            omega
        | _ => cases h4
      | _ => cases h3
    · rw [if_neg hn] at h
      cases h
/-- a tree or a body -/
def tob (d : PyData) : Bool := shape 0 d || shape 1 d
theorem tob_sh {d : PyData} (h : tob d = true) : ∃ t, d = toD t ∧ Gd t ∧ hd t ≤ 4 ∧ nN t ≤ 6 ∧ (wr t).length ≤ 240 := by
  have : ∃ xy, cnt 4 d = some xy ∧ xy.1 ≤ 6 := by
    rcases Bool.or_eq_true_iff.mp h with z | z <;>
    · unfold shape at z
      cases hc : cnt 4 d with
      | none =>
        rw [hc] at z
        cases z
      | some xy =>
        rw [hc] at z
        exact ⟨xy, rfl, of_decide_eq_true (Bool.and_eq_true_iff.mp z).1⟩
  obtain ⟨xy, hc, h6⟩ := this
  obtain ⟨t, S1⟩ := cnt_sh 4 d xy hc
  have n := S1.n
  have l := S1.l
  exact ⟨t, S1.e, S1.g, S1.h, by omega, by omega⟩
end X48
set_option Elab.async false
set_option linter.all false
set_option maxRecDepth 100000
set_option maxHeartbeats 4000000
/-! _told_tree -/
namespace X48
open PySem L2 L2H DQ K01
theorem S_inj {a b : List Nat} (h : S a = S b) : a = b := by rw [← lS_S a, h, lS_S]
theorem msD_inj : ∀ {a b : List (List Nat)}, msD a = msD b → a = b
  | [], [], _ => rfl
  | [], _ :: _, h => by cases h
  | _ :: _, [], h => by cases h
  | a :: as, b :: bs, h => by
    injection h with h1 h2
    rw [S_inj (PyData.str.inj h1), msD_inj h2]
mutual
theorem toD_inj : ∀ {a b : Nd}, toD a = toD b → a = b
  | .mk m1 b1 c1, .mk m2 b2 c2, h => by
    simp only [toD] at h
    have h := PyData.tuple.inj h
    injection h with h1 h2
    injection h2 with h2 h3
    have e1 := msD_inj (PyData.tuple.inj h1)
    have e2 := toB_inj (PyData.tuple.inj h2)
    have e3 : c1 = c2 := by
      cases c1 <;> cases c2 <;> first | rfl | (simp at h3)
    rw [e1, e2, e3]
theorem toB_inj : ∀ {a b : Bs}, toB a = toB b → a = b
  | .nil, .nil, _ => rfl
  | .nil, .cons _ _ _, h => by simp [toB] at h
  | .cons _ _ _, .nil, h => by simp [toB] at h
  | .cons w1 t1 r1, .cons w2 t2 r2, h => by
    simp only [toB] at h
    injection h with h1 h2
    have h1 := PyData.tuple.inj h1
    injection h1 with h1 h3
    injection h3 with h3 _
    rw [S_inj (PyData.str.inj h1), toD_inj h3, toB_inj h2]
end
def toldP (l : List Nat) : Option Nd := if 6 ≤ l.count 62 then none else if (tob (toD (sn l).1) && decide (wr (sn l).1 = l)) = true then some (sn l).1 else none
def ToldV (H : Hp) (r : V) : Option Nd → Prop
  | none => r = .non
  | some t => Dq H r (toD t)
def spTold : Sp := fun vs H Q _ => ∃ x : Str, vs = [.str x] ∧ okL (lS x) ∧ ∀ r H', Same H H' → ToldV H' r (toldP (lS x)) → Q r H'
abbrev nTo : List Str := ["text", "tree", "_"]
theorem scTo : FnScope nTo ["text"] (defScope sToT) := ⟨rfl, rfl, rfl, by decide +kernel, rfl, by decide +kernel, by decide +kernel⟩
section
variable {P : Program} {w : World} {K : PySem.W.Frag} {mg : Str → Option Value} {base : Heap}
theorem ok_told {f fS fT fB fN : Addr} {fd dS dT dB dN : FuncData} (F : Fun K "_told_tree" "_told_tree" sToT f fd)
    (FS : Fun K "_seeming_node" "_seeming_node" sSeN fS dS) (bS : Binds K dS ["text", "start"] []) (gS : mg "_seeming_node" = some (.ref fS)) (GS : FnOk P w K mg base CX0 8 fS dS ["text", "start"] (spSN 6))
    (FT : Fun K "is_tree" "is_tree" sTr fT dT) (bT : Binds K dT ["thing"] []) (gT : mg "is_tree" = some (.ref fT)) (GT : FnOk P w K mg base CX0 11 fT dT ["thing"] (spB (shape 0)))
    (FB : Fun K "is_body" "is_body" sBo fB dB) (bB : Binds K dB ["thing"] []) (gB : mg "is_body" = some (.ref fB)) (GB : FnOk P w K mg base CX0 11 fB dB ["thing"] (spB (shape 1)))
    (FN : Fun K "_node_text" "_node_text" sNoT fN dN) (bN : Binds K dN ["node"] []) (gN : mg "_node_text" = some (.ref fN)) (GN : FnOk P w K mg base CX0 5 fN dN ["node"] (spNT 4)) (T : TP mg) :
    FnOk P w K mg base CX0 12 f fd ["text"] spTold := by
  refine F.ok (k := 11) scTo (fun vs H Q E h => ?_) (fun cdv A outer s H vs Q E hr h => ?_)
  · obtain ⟨x, rfl, _⟩ := h
    rfl
  · obtain ⟨x, rfl, ok, k⟩ := h
    obtain ⟨t6, g6⟩ := T.n6
    refine ⟨_, pss_cons (ps_if (pt_cmpR op_ge (pe_bm PySem.F.plainAttrs_str PySem.F.slot_str_count PySem.F.type_str_count mt_count (pv 0) (pa_cons pe_str pa_nil)) (pe_glob (v := .int 6) (by rfl) g6 ⟨_, rfl⟩) (nomark _)) (pss_one (ps_ret pe_non)) pss_nil)
      (pss_cons (ps_asg (pe_call GS (hr.mono (by decide)) (by rfl) gS FS.kp bS .nil pass0 (pa_cons (pv 0) (pa_cons pe_int pa_nil))) (pg_tup (n := 2) rfl (pgs_cons (pg_name (i := 1) scTo.nd rfl (Or.inl rfl)) (pgs_cons (pg_name (i := 2) scTo.nd rfl (Or.inl rfl)) pgs_nil))))
      (pss_cons (ps_if (PW.pt (pw_and (PW.pt (pw_or (pt_val (pe_call GT hr (by rfl) gT FT.kp bT .nil pass0 (pa_cons (pv 1) pa_nil))) (pw_or1 (pt_val (pe_call GB hr (by rfl) gB FB.kp bB .nil pass0 (pa_cons (pv 1) pa_nil))))))
          (pw_and1 (pt_cmpR op_eq (pe_call GN (hr.mono (by decide)) (by rfl) gN FN.kp bN .nil pass0 (pa_cons (pv 1) pa_nil)) (pv 0) (nomark _))))) (pss_one (ps_ret (pv 1))) pss_nil)
      (pss_one (ps_ret pe_non)))), ?_⟩
    refine tseq_of ⟨_, rfl, rfl, _, _, rfl, rfl, _, _, rfl, rfl, _, rfl, ?_⟩
    rw [S_gt, count_one]
    by_cases h6 : 6 ≤ (lS x).count 62
    · rw [show decide ((((lS x).count 62 : Nat) : Int) ≥ 6) = true from decide_eq_true (by omega)]
      refine iteT ?_
      refine k .non H same_refl ?_
      unfold toldP
      rw [if_pos h6]
      rfl
    rw [show decide ((((lS x).count 62 : Nat) : Int) ≥ 6) = false from decide_eq_false (by omega)]
    refine iteF (nx_go ?_)
    show tSeq _ _ _ _ _
    have e0 : (lS x).drop 0 = lS x := rfl
    refine tseq_of ⟨_, rfl, x, 0, rfl, ok, Nat.zero_le _, by rw [e0]; omega, fun p v j H1 s1 e1 q1 d1 => ?_⟩
    rw [e0] at q1
    refine ⟨p, _, rfl, SqT.of e1, rfl, _, _, rfl, _, _, rfl, rfl, ?_⟩
    show tSeq _ _ _ _ _
    obtain ⟨t, ht⟩ : ∃ t, t = (sn (lS x)).1 := ⟨_, rfl⟩
    rw [← ht] at q1
    have tk : toldP (lS x) = if (tob (toD t) && decide (wr t = lS x)) = true then some t else none := by
      unfold toldP
      rw [if_neg h6, ← ht]
    rw [tk] at k
    -- the last answer
    have no : ∀ H', Same H H' → tob (toD t) = false ∨ wr t ≠ lS x → Q .non H' := fun H' s' h => by
      refine k .non H' s' ?_
      have : (tob (toD t) && decide (wr t = lS x)) = false := by
        rcases h with h | h
        · rw [h]
          rfl
        · rw [decide_eq_false h, Bool.and_false]
      rw [if_neg (by rw [this]; decide)]
      rfl
    have yes : ∀ H', Same H H' → Same H1 H' → tob (toD t) = true → wr t = lS x → Q v H' := fun H' s' s1' h1 h2 => by
      refine k v H' s' ?_
      rw [if_pos (by rw [h1, decide_eq_true h2]; rfl)]
      exact q1.same s1'
    have fin : ∀ H3, Same H1 H3 → tob (toD t) = true → ∀ W : Bool → Hp → Prop, (∀ H4, Same H3 H4 → W (decide (V.str (S (wr t)) = V.str x)) H4) →
        tTest (tOp rEq (tCall (spNT 4) [] C8.E0 (tCons (tVar 1) tNil)) (tVar 0)) ((List.set (L2.start nTo [V.str x]) 1 (some v)).set 2 (some (V.int ↑j))) H3 W := fun H3 s3 ht' W hW => by
      obtain ⟨t', e', g', h', _, l'⟩ := tob_sh ht'
      obtain rfl := toD_inj e'
      refine ⟨_, rfl, v, t, rfl, q1.same s3, g', h', by omega, fun H4 s4 => ⟨_, rfl, rfl, _, rfl, hW H4 s4⟩⟩
    have dec : decide (V.str (S (wr t)) = V.str x) = decide (wr t = lS x) := decide_eq_decide.mpr ⟨fun h => by rw [← V.str.inj h, lS_S], fun h => by rw [h, S_lS]⟩
    refine tseq_of ⟨_, rfl, v, toD t, rfl, q1, fun H2 s2 => ⟨_, rfl, ?_⟩⟩
    have s12 := same_trans s1 s2
    cases h0 : shape 0 (toD t) with
    | true =>
      have ht' : tob (toD t) = true := by unfold tob; rw [h0]; rfl
      refine iteT (iteT (fin H2 s2 ht' _ fun H4 s4 => ?_))
      rw [dec]
      by_cases hw : wr t = lS x
      · rw [decide_eq_true hw]
        exact iteT ⟨_, rfl, yes H4 (same_trans s12 s4) (same_trans s2 s4) ht' hw⟩
      · rw [decide_eq_false hw]
        exact iteF (nx_go (no H4 (same_trans s12 s4) (.inr hw)))
    | false =>
      refine iteF ⟨_, rfl, v, toD t, rfl, q1.same s2, fun H3 s3 => ⟨_, rfl, ?_⟩⟩
      have s13 := same_trans s12 s3
      cases h1 : shape 1 (toD t) with
      | true =>
        have ht' : tob (toD t) = true := by unfold tob; rw [h0, h1]; rfl
        refine iteT (fin H3 (same_trans s2 s3) ht' _ fun H4 s4 => ?_)
        rw [dec]
        by_cases hw : wr t = lS x
        · rw [decide_eq_true hw]
          exact iteT ⟨_, rfl, yes H4 (same_trans s13 s4) (same_trans (same_trans s2 s3) s4) ht' hw⟩
        · rw [decide_eq_false hw]
          exact iteF (nx_go (no H4 (same_trans s13 s4) (.inr hw)))
      | false =>
        have ht' : tob (toD t) = false := by unfold tob; rw [h0, h1]; rfl
        exact iteF (nx_go (no H3 s13 (.inl ht')))
end
end X48
set_option Elab.async false
set_option linter.all false
set_option maxRecDepth 100000
set_option maxHeartbeats 4000000
/-! clauses whose exception is kept in a name: it is tracked behind the suite -/
namespace XT
open PySem PySem.Spec PyProof.Rows L2 TrA
/-- an exception that has been caught, of the class cls, with its own dict d -/
def exD (cls : Value) (d : Option Addr) (a : Addr) : HO := .ext fun h => ∃ (oe : Obj) (vs : Array Value), h.get? a = some oe ∧ Zc cls d oe ∧ oe.data = .fields vs
theorem exD_ok {P : Program} {w : World} {H : Hp} {h : Heap} {a : Addr} {cls : Value} {d : Option Addr} {oe : Obj} {vs : Array Value} (e : h.get? a = some oe) (z : Zc cls d oe) (f : oe.data = .fields vs) : ObjOk P w H h a (exD cls d a) :=
  ⟨⟨oe, vs, e, z, f⟩, ⟨oe, e⟩, fun _ _ ⟨o, v, q, r⟩ k => ⟨o, v, k o q, r⟩⟩
/-- one more pin -/
theorem addpin {X : Cx} {pins : List (Addr × Obj)} {σ : L2.St} {H : Hp} {s : Shared} {p : Addr × Obj} (I : Inv X pins σ H s) (h : s.heap.get? p.1 = some p.2 ∧ H p.1 = none ∧ p.1 ≠ X.env.locals ∧ p.1 ∉ X.fs ∧ ∀ v, p.2.data ≠ .cell v) : Inv X (p :: pins) σ H s :=
  ⟨I.ok, I.os, I.bare, I.base, I.loc, I.cell, I.free, I.freeC, fun q hq => by
    rcases List.mem_append.mp hq with z | z
    · exact I.pin q (List.mem_append_left _ z)
    · rcases List.mem_cons.mp z with rfl | z
      · exact h
      · exact I.pin q (List.mem_append_right _ z), I.hok, I.len⟩
/-- a thing that came up behind the entry, and isn't tracked, may be tracked -/
theorem track {X : Cx} {pins : List (Addr × Obj)} {σ : L2.St} {H : Hp} {s : Shared} {a : Addr} {oe : Obj} {o : HO} (I : Inv X ((a, oe) :: pins) σ H s) (n0 : X.s_0.heap.get? a = none) (np : ∀ p ∈ X.pn ++ pins, p.1 ≠ a) (ob : ObjOk X.prog X.w (upd H a o) s.heap a o) : Inv X pins σ (upd H a o) s := by
  obtain ⟨e, hn, nL, nF, nC⟩ := I.pin (a, oe) (List.mem_append_right _ (List.mem_cons_self ..))
  dsimp only at e hn nL nF nC
  have ne0 : ∀ b u, X.s_0.heap.get? b = some u → b ≠ a := fun b u q z => by rw [z, n0] at q; cases q
  have neH : ∀ b u, H b = some u → b ≠ a := fun b u q z => by rw [z, hn] at q; cases q
  refine ⟨I.ok, I.os, I.bare, ⟨I.base.keep, I.base.slot, fun b u q n x => ?_, I.base.there, fun b xs q => ?_, fun b u v q => ?_, fun b ps q => ?_⟩, I.loc, I.cell, ?_, fun x c q => ?_, fun p hp => ?_, fun b u q => ?_, I.len⟩
  · rw [upd_ne (ne0 b u q)]
    exact I.base.free b u q n x
  · have y := I.base.tups b xs q
    rw [upd_ne (neH b _ y)]
    exact y
  · have y := I.base.frzs b u v q
    rw [upd_ne (neH b _ y)]
    exact y
  · obtain ⟨m, y⟩ := I.base.tbls b ps q
    exact ⟨m, by rw [upd_ne (neH b _ y)]; exact y⟩
  · rw [upd_ne (Ne.symm nL)]
    exact I.free
  · have y := I.freeC x c q
    obtain ⟨v, oc, z1, z2⟩ := I.cell x c q
    have : c ≠ a := fun z => by
      rw [z, e] at z1
      cases z1
      exact nC _ z2
    rw [upd_ne this]
    exact y
  · have hp' : p ∈ X.pn ++ ((a, oe) :: pins) := by
      rcases List.mem_append.mp hp with z | z
      · exact List.mem_append_left _ z
      · exact List.mem_append_right _ (List.mem_cons_of_mem _ z)
    obtain ⟨h1, h2, h3⟩ := I.pin p hp'
    exact ⟨h1, by rw [upd_ne (np p hp)]; exact h2, h3⟩
  · by_cases hb : b = a
    · subst hb
      rw [upd_same] at q
      cases q
      exact ob
    · rw [upd_ne hb] at q
      exact (I.hok b u q).stay (fun c v _ y => y) (fun c y => by rw [upd_ne (neH c _ y)]; exact y) fun c xs y => by rw [upd_ne (neH c _ y)]; exact y
def endsT (i : Nat) (cls : Value) (d : Option Addr) (a : Addr) (D : Ends) : Ends :=
  { nx := fun σ' H' => D.nx (σ'.set i none) (upd H' a (exD cls d a)), rt := D.rt, bk := fun σ' H' => D.bk (σ'.set i none) H', ct := fun σ' H' => D.ct (σ'.set i none) H' }
/-- what the clauses wish of an exception, one behind the other -/
def wManyT (K : PySem.W.Frag) (i : Nat) (Wout : WX) (D : Ends) : List (Value × Suite) → WX
  | [] => Wout
  | (c, ts) :: r => fun cls d σ H => ∃ b, PySem.W.exmOne K cls c = some b ∧ (b = true → ∀ a, H a = none → ts a cls d (endsT i cls d a D) (σ.set i (some (.ref a))) H) ∧ (b = false → wManyT K i Wout D r cls d σ H)
section
variable {X : Cx} {n : Str} {i : Nat} {body : List Stmt} {h₀ : ExceptHandler} {hds : List ExceptHandler} {l : List (Value × Suite)} {pos : Pos} {tb : WX → TS} {Wout : WX}
theorem ps_triesT (hex : X.ex = []) (hs : X.stack = X.env :: X.outer) (hf : X.env.frame = some X.env.locals) (hN : X.N.Nodup) (hi : X.N[i]? = some n) (hln : X.env.kindOf n = some .local) (tk : Takes X Wout)
    (hb : ∀ (W : WX) (pn : List (Addr × Obj)) (xe : Value → Shared → Prop), Takes (X.tr pn xe) W → PassesOwn (model X.prog X.w) X.A X.env xe → PSs (X.tr pn xe) body (tb W))
    (hh : HdAs X n (h₀ :: hds) l) : PS X (.Try body (h₀ :: hds) [] [] pos) (fun D σ H => tb (wManyT X.K i Wout D l) D σ H) := by
  refine ⟨fun pins s σ H D I h => ?_⟩
  have ok := I.ok
  have hloc : Loc X.env.scope n := .inl hln
  have hfr : X.A.frames = some (X.env :: X.outer) := by rw [ok.frames, hs]
  refine wpAny_Try_except ?_
  refine wpAny_mono ((hb (wManyT X.K i Wout D l) (X.pn ++ pins) (fun e s₁ => wpAny (model X.prog X.w) X.A (noteFrame e X.env) (fun _ s₂ => wpAny (model X.prog X.w) X.A (setFlight e none) (fun _ s₃ =>
    wpAny (model X.prog X.w) X.A (handleBy e X.env (h₀ :: hds)) (SP X pins D) X.xe s₃) X.xe s₂) X.xe s₁) (fun u s' xx => ?_) PassesOwn.looking).run [] s σ H D (I.toTry _) h) (fun f s1 hsp => ?_) (fun e s1 he => he)
  · -- the catch
    obtain ⟨a, B, sI, pins', σ', H', cls, d, rfl, J', nb, up, sky, na, os, ag, w⟩ := xx
    have J : Inv X pins σ' H' sI := J'.ofTry ok
    have sky' : Sky B (X.env :: X.outer) a (Zc cls d) X.env.locals s'.heap := by rw [← hs]; exact sky
    show wpAny (model X.prog X.w) X.A (noteFrame (.ref a) X.env) _ _ _
    refine Sky.land Zc.steady hfr hf sky' fun h3 fl3 up3 => ?_
    have J3 : Inv X pins σ' H' { s' with heap := h3 } := J.landed nb fl3.1 (up.trans up3) os ag
    obtain ⟨oe3, vs3, he3, hz3, hd3⟩ := fl3.there
    have notFr : ∀ {h : Heap} {o : Obj} {vs : Array Value}, h.FunFrames B (X.env :: X.outer) → h.get? a = some o → o.data = .fields vs → a ∉ frs (X.env :: X.outer) := fun {h o vs} ff e dd hm => by
      obtain ⟨_, o', e', hnf⟩ := ff.mem hm
      rw [e] at e'; cases e'
      exact hnf _ dd
    have nfr := notFr fl3.2.2.1 he3 hd3
    have nL : a ≠ X.env.locals := fun z => nfr (List.mem_filterMap.mpr ⟨X.env, List.mem_cons_self, by rw [hf, z]⟩)
    have nF : a ∉ X.fs := fun hm => by
      obtain ⟨e, he, q⟩ := List.mem_filterMap.mp hm
      exact nfr (List.mem_filterMap.mpr ⟨e, List.mem_cons_of_mem _ he, q⟩)
    have S3 := J3.suite he3 hd3 na nL nF
    have nB : B.get? a = none := fl3.2.1
    have nI : sI.heap.get? a = none := by
      cases q : sI.heap.get? a with
      | none => rfl
      | some u =>
        have y := nb a u q (by rw [hs]; exact nfr)
        rw [nB] at y
        cases y
    have n0 : X.s_0.heap.get? a = none := by
      cases q : X.s_0.heap.get? a with
      | none => rfl
      | some u =>
        obtain ⟨v, y⟩ := J.base.there a u q (by rw [hex]; exact fun z => nomatch z)
        rw [nI] at y
        cases y
    have apart : ∀ p ∈ X.pn ++ pins, p.1 ≠ a := fun p hp z => by
      have y := (J.pin p hp).1
      rw [z, nI] at y
      cases y
    have go : ∀ {hds' : List ExceptHandler} {l' : List (Value × (Addr → Value → Option Addr → TS))}, HdAs X n hds' l' → wManyT X.K i Wout D l' cls d σ' H' →
        wpAny (model X.prog X.w) X.A (handleBy (.ref a) X.env hds') (SP X pins D) X.xe { s' with heap := h3 } := by
      intro hds' l' hk
      induction hk with
      | nil =>
        intro w
        refine wpAny_handleBy_nil ?_
        obtain ⟨k1, k2, k3, oe, vs, T, oT, ts', he, hz, hd, h1, hr⟩ := id fl3
        unfold PySem.passOn
        refine wpAny_bind (wpAny_field he hd h1 ?_)
        rw [if_neg (show ¬ ((Value.ref T == Value.none) = true) from by simp)]
        have fin : wpAny (model X.prog X.w) X.A (setFlight (.ref a) X.env.frame) (fun _ s4 => wpAny (model X.prog X.w) X.A (throw (.ref a) : Sem Flow) (SP X pins D) X.xe s4) X.xe { s' with heap := h3 } := by
          rw [hf]
          refine HandSPX.setFlight_upZ fl3 fun h4 hh4 up4 => wpAny_throw (tk _ _ ?_)
          exact ⟨a, B, sI, pins, σ', H', cls, d, rfl, J, nb, (up.trans up3).trans up4, .inr (.inr (by rw [hs]; exact hh4)), na, os, ag, w⟩
        first
          | exact wpAny_bind (wpAny_pure (wpAny_bind fin))
          | exact wpAny_bind fin
      | @cons x c ts b₀ suite np pos' hds2 l2 hc hsu r ih =>
        intro w
        obtain ⟨b, hb1, hyes, hno⟩ := w
        refine wpAny_handleBy_cons (codeAny_handlers_test ?_) (by intro q; cases q)
        have LT : PySem.W.Looks (model X.prog X.w) h3 (typeOf (.ref a)) cls := fun A Q E s k q => wpAny_typeOf_ref (k _ _ he3) (by rw [hz3.1]; exact q)
        have LM := PySem.W.exm_one (M := model X.prog X.w) (J3.kIn) LT hb1
        have test : ∀ {Q : Value → Shared → Prop} {E : Value → Shared → Prop}, Q c { s' with heap := h3 } → wpAny (model X.prog X.w) (X.A.mark (some (.ref a))) (eval (.Name x np) X.env) Q E { s' with heap := h3 } := fun {Q E} q => by
          obtain ⟨hg, hdbg, hm | ⟨hm, hv, hnn⟩⟩ := hc
          · exact ld_glob (X := X.suite a ((a, oe3) :: (X.pn ++ pins))) S3 hg hm q hdbg
          · exact ld_blt (X := X.suite a ((a, oe3) :: (X.pn ++ pins))) S3 hg hm hv q hnn hdbg
        refine test (LM.here ?_)
        cases b with
        | true =>
          refine codeAny_handlers_suite_as ?_
          refine HandSPX.lands_againZ fl3 fun h4 fl4 up4 => ?_
          have J4 : Inv X pins σ' H' { s' with heap := h4 } := J.landed nb fl4.1 ((up.trans up3).trans up4) os ag
          obtain ⟨oe4, vs4, he4, hz4, hd4⟩ := fl4.there
          have S4 := J4.suite he4 hd4 na nL nF
          refine store_ok (X := X.suite a ((a, oe4) :: (X.pn ++ pins))) (v := .ref a) S4 hN hi hloc rfl (fun s5 S5 => ?_) (.inr hln)
          refine wpAny_mono ((hsu a oe4 cls d (X.pn ++ pins) hz4 ⟨_, hd4⟩).run [] s5 _ H' _ S5 (hyes rfl a na)) (fun f s6 hsp => ?_) (fun _ _ z => False.elim z)
          have end_ : ∀ {σ6 : L2.St} {H6 : Hp} {Q : Shared → Prop}, Inv (X.suite a ((a, oe4) :: (X.pn ++ pins))) [] σ6 H6 s6 → (∀ s7, Inv X ((a, oe4) :: pins) (σ6.set i none) H6 s7 → Q s7) →
              wpAny (model X.prog X.w) X.A (do bindName X.env n .none; unbindBehindTheSuite X.env n pos') (fun _ s7 => Q s7) X.xe s6 := fun {σ6 H6 Q} S6 hq => gone_ok (addpin (p := (a, oe4)) (S6.unsuite ok) (S6.pin (a, oe4) (List.mem_append_left _ (List.mem_cons_self ..)))) hN hi hln hq
          have unpin : ∀ {σ6 : L2.St} {H6 : Hp} {s7 : Shared}, Inv X ((a, oe4) :: pins) σ6 H6 s7 → Inv X pins σ6 H6 s7 := fun {σ6 H6 s7} I => ⟨I.ok, I.os, I.bare, I.base, I.loc, I.cell, I.free, I.freeC, fun p hp => I.pin p (by
            rcases List.mem_append.mp hp with z | z
            · exact List.mem_append_left _ z
            · exact List.mem_append_right _ (List.mem_cons_of_mem _ z)), I.hok, I.len⟩
          cases f with
          | next =>
            obtain ⟨σ6, H6, S6, q6⟩ := hsp
            exact end_ S6 fun s7 J7 => ⟨_, _, track J7 n0 apart (exD_ok (J7.pin (a, oe4) (List.mem_append_right _ (List.mem_cons_self ..))).1 hz4 hd4), q6⟩
          | brk =>
            obtain ⟨σ6, H6, S6, q6⟩ := hsp
            exact end_ S6 fun s7 J7 => ⟨_, _, unpin J7, q6⟩
          | cont =>
            obtain ⟨σ6, H6, S6, q6⟩ := hsp
            exact end_ S6 fun s7 J7 => ⟨_, _, unpin J7, q6⟩
          | ret u =>
            obtain ⟨v6, σ6, H6, S6, r6, q6⟩ := hsp
            exact end_ S6 fun s7 J7 => ⟨_, _, _, unpin J7, r6, q6⟩
        | false =>
          show wpAny _ X.A (handleBy (.ref a) X.env hds2) _ _ _
          exact ih (hno rfl)
    exact go hh w
  · cases f with
    | next =>
      obtain ⟨σ', H', J', q⟩ := hsp
      exact wpAny_execs_nil ⟨σ', H', J'.ofTry ok, q⟩
    | brk =>
      obtain ⟨σ', H', J', q⟩ := hsp
      exact ⟨σ', H', J'.ofTry ok, q⟩
    | cont =>
      obtain ⟨σ', H', J', q⟩ := hsp
      exact ⟨σ', H', J'.ofTry ok, q⟩
    | ret u =>
      obtain ⟨v, σ', H', J', r, q⟩ := hsp
      exact ⟨v, σ', H', J'.ofTry ok, r, q⟩
end
end XT
namespace XT
open PySem PySem.W PySem.Calls PyProof.Rows L2 XH
/-- at a: an exception of the class at C that has been caught, and keeps v in its field f -/
def GotAt (H : Hp) (a C : Addr) (f : Str) (v : V) : Prop := ∃ d, H a = some (exD (.ref C) (some d) a) ∧ H d = some (.xd [(f, v)])
theorem GotAt.same {H H' : Hp} {a C : Addr} {f : Str} {v : V} (x : GotAt H a C f v) (s : Same H H') : GotAt H' a C f v :=
  let ⟨d, h1, h2⟩ := x
  ⟨d, s _ _ h1, s _ _ h2⟩
section
variable {X : Cx} {pins : List (Addr × Obj)} {σ : L2.St} {H : Hp} {s : Shared}
theorem GotAt.inst {a C : Addr} {f : Str} {v : V} (I : Inv X pins σ H s) (x : GotAt H a C f v) : ∃ (ox od : Obj) (u : Value), InstAt s.heap a ox C (some od) ∧ RelV v u ∧ lookIn f od = some (some u) := by
  obtain ⟨d, h1, h2⟩ := x
  obtain ⟨⟨oe, vs, e, ⟨z1, z2⟩, df⟩, _⟩ := I.hok a _ h1
  obtain ⟨mA, ns, rel⟩ : ∃ mA, s.heap.Ns1 d mA ∧ ∀ g, RelO (List.lookup g [(f, v)]) (mA g) := I.hok d _ h2
  obtain ⟨od, ho, hl⟩ := lookIn_ns ns
  have z : RelO (some v) (mA f) := by
    have y := rel f
    simpa [List.lookup] using y
  obtain ⟨u, hu, ru⟩ := RelO.some_of (v := v) (o := mA f) z
  refine ⟨oe, od, u, ⟨e, z1, by unfold notCls; rw [df], ?_⟩, ru, by rw [hl, hu]⟩
  rw [z2]
  exact ho
end
/-- isinstance(x, c), x such an exception -/
def rIsG (K : Frag) : List V → Hp → VK → Prop := fun xs H Q => ∃ (a C : Addr) (f : Str) (v c : V) (u : Value) (b : Bool), xs = [.ref a, c] ∧ ClsV c u ∧ ExQ K C ∧ GotAt H a C f v ∧ kitOne K (.ref C) u = some b ∧ Q (.bl b) H
/-- e.f, e such an exception -/
def tGfl (K : Frag) (f : Str) (te : TE) : TE := fun σ H Q => te σ H fun x H1 => ∃ (a C : Addr) (v : V), x = .ref a ∧ ExQ K C ∧ findIn K (.ref C) f = some none ∧ GotAt H1 a C f v ∧ Q v H1
section
variable {X : Cx}
theorem call_isG : CallR X (.builtin "isinstance") (rIsG X.K) := by
  intro pins s σ H xs us Q I r h
  obtain ⟨a, C, f, v, c, u, b, rfl, kc, T, x, e, q⟩ := h
  obtain ⟨u1, u2, rfl, r1, r2⟩ := vals2 r
  have e2 := kc.eq r2
  subst e2
  obtain rfl : u1 = Value.ref a := r1
  obtain ⟨ox, od, w', J, _, _⟩ := x.inst I
  exact kia_one (kitx_exc T.cl T.ga T.gt T.sb T.hc T.hn T.tk T.hm) I.kIn J e (fun z => nomatch z) fun tk => ⟨.bl b, H, I.tok tk, rfl, q⟩
theorem pe_gfl {e : Expr} {te : TE} {pos : Pos} {f : Str} (he : PE X e te) (hb : attributeBase e f X.env (eval e X.env) = eval e X.env := by rfl) : PE X (.Attribute e f pos) (tGfl X.K f te) := by
  refine ⟨fun pins s σ H Q I h => ?_⟩
  refine attr_of hb (thn (he.run pins s σ H _ I h) fun u s1 hh => ?_)
  obtain ⟨x, H1, I1, rx, a, C, v, rfl, T, hno, xa, q⟩ := hh
  obtain rfl : u = Value.ref a := rx
  obtain ⟨ox, od, w', J, rw', hl⟩ := xa.inst I1
  exact HandSPX.exc_get I1.kIn J T.ga T.gt T.sb (findObj_own T.hd hno rfl hl) (handed_of rw') ⟨v, H1, I1.tok _, rw', q⟩
end
end XT
set_option Elab.async false
set_option linter.all false
set_option maxRecDepth 100000
set_option maxHeartbeats 4000000
/-! read_tree, tree_text -/
namespace X48
open PySem L2 L2H DQ K01
open XH hiding same_refl same_trans same_new
structure ExF (P : Program) (K : PySem.W.Frag) (mg : Str → Option Value) (x f : Str) (C : Addr) : Prop where
  ex : ∃ fI fd qn B newId initId bmB, ExT P K mg C fI fd f qn B newId initId bmB
  r : ExR K C f
  g : mg x = some (.ref C)
  k : PySem.W.keepIn K (.ref C) = true
def OutB (H : Hp) (E : XK) (CB : Addr) (f : Str) (pl : PyData) : Prop := ∀ (d : Addr) (v : V) (H' : Hp), Same H H' → H' d = some (.xd [(f, v)]) → Dq H' v pl → E (.ref CB) (some d) H'
theorem OutB.same {H H' : Hp} {E : XK} {CB : Addr} {f : Str} {pl : PyData} (o : OutB H E CB f pl) (s : Same H H') : OutB H' E CB f pl := fun d v H'' s' e q => o d v H'' (same_trans s s') e q
theorem OutB.raise {H : Hp} {E : XK} {CB : Addr} {f : Str} {pl : PyData} {v : V} (o : OutB H E CB f pl) (q : Dq H v pl) : ∀ d, H d = none → E (.ref CB) (some d) (upd H d (.xd [(f, v)])) := fun d nd => o d v _ (same_new nd) upd_same (q.same (same_new nd))
theorem pss_no {X : Cx} {st : List Stmt} : PSs X st (fun _ _ _ => False) := ⟨fun _ _ _ _ _ _ h => h.elim⟩
def isS : PyData → Bool
  | .str _ => true
  | _ => false
def spNeT (CX : Addr) : Sp := fun vs H Q E => ∃ (v : V) (d : PyData), vs = [v] ∧ Dq H v d ∧ (isS d = true → ∀ H', Same H H' → Q .non H') ∧ (isS d = false → OutB H E CX "line" .none)
def readP : PyData → PyData ⊕ Nd
  | .str x => match toldP (lS x) with
    | none => .inl (.int 1)
    | some t => .inr t
  | _ => .inl .none
def spRT (CX : Addr) : Sp := fun vs H Q E => ∃ (v : V) (d : PyData), vs = [v] ∧ Dq H v d ∧ (∀ x, d = .str x → x.length ≤ 1000000) ∧ (∀ pl, readP d = .inl pl → OutB H E CX "line" pl) ∧ (∀ t, readP d = .inr t → ∀ r H', Same H H' → Dq H' r (toD t) → Q r H')
def spTT (CT : Addr) : Sp := fun vs H Q E => ∃ (v : V) (d : PyData), vs = [v] ∧ Dq H v d ∧ (∀ t, d = toD t → tob d = true → ∀ H', Same H H' → Q (.str (S (wr t))) H') ∧ (tob d = false → OutB H E CT "value" d)
theorem scNe : FnScope ["thing"] ["thing"] (defScope sNT) := ⟨rfl, rfl, rfl, by decide +kernel, rfl, by decide +kernel, by decide +kernel⟩
section
variable {P : Program} {w : World} {K : PySem.W.Frag} {mg : Str → Option Value} {base : Heap}
theorem ok_needt {f CX : Addr} {fd : FuncData} (F : Fun K "_need_text" "_need_text" sNT f fd) (T : TP mg) (X : ExF P K mg "BadText" "line" CX) : FnOk P w K mg base (L2.CX P w) 1 f fd ["thing"] (spNeT CX) := by
  obtain ⟨fE, fdE, qn, B, newId, initId, bmB, XT⟩ := X.ex
  refine F.okX (k := 0) scNe (fun vs H Q E h => ?_) (fun cdv A outer s H vs Q E hr h => ?_)
  · obtain ⟨v, d, rfl, _⟩ := h
    rfl
  · obtain ⟨v, d, rfl, hd, hy, hn⟩ := h
    have dp : (A.deeper (PyProof.Rows.envOfC "_need_text" (defScope sNT) s.heap.objs.size f cdv)).depth + 1 < recursionLimit := by have := hr.dp; omega
    refine ⟨_, pss_one (ps_if (pt_not (pt_val (pe_callB call_isi (by rfl) T.isi bisi (pa_cons (pv 0) (pa_cons (pe_bltn (v := .ty "str") (by rfl) T.str bstr rfl) pa_nil))))) (pss_one (ps_raise rfl (takes_of rfl rfl rfl rfl) (pmk_xp XT X.r dp X.g X.k (by rfl) pe_non))) pss_nil), ?_⟩
    refine ⟨_, rfl, _, .ty "str", _, _, _, rfl, .ty _, hd.ty, kit_ty (ks d), _, rfl, ?_⟩
    cases hd with
    | str x hx => exact iteF (hy rfl H same_refl)
    | _ => exact iteT ((hn rfl).raise .non)
end
end X48
set_option Elab.async false
set_option linter.all false
set_option maxRecDepth 100000
set_option maxHeartbeats 4000000
/-! _law_is_node -/
namespace X48
open PySem L2 L2H DQ K01 RZ
theorem ix_tupK {X : Cx} {K : PySem.W.Frag} (hK : X.K = K) : IxR X (rIxT K) := by
  subst hK
  exact ix_tup
theorem call_len_seqK {X : Cx} {K : PySem.W.Frag} (hK : X.K = K) : CallR X (.builtin "len") (fun xs H Q => ∃ (p : Addr) (ys : List V), xs = [V.ref p] ∧ (SqL K H p ys ∨ SqT K H p ys) ∧ Q (V.int (ys.length : Nat)) H) := by
  subst hK
  exact call_len_seq
theorem call_isiK {X : Cx} {K : PySem.W.Frag} (hK : X.K = K) : CallR X (.builtin "isinstance") (rIsi K) := by
  subst hK
  exact call_isi
/-- branches that are pairs, led in by words -/
def bsOk : PyData → Bool
  | .tuple (_ :: .tuple bs :: _) => bs.all goodB
  | _ => false
def nodeO (d : PyData) : Bool := nodeL d && bsOk d
/-- how repr of what stands behind a node's two parts goes -/
def TlD : PyData → Prop
  | .tuple ds => OkD (.tuple (ds.drop 2))
  | _ => True
theorem nodeL_three (a b : PyData) (r : List PyData) (h : r.length = 0 ∨ r.length = 1) : nodeL (.tuple (a :: b :: r)) = ((r.length = 0 || isCallS r[0]?) && (areMarks a && fewB b)) := by
  unfold nodeL nodeP nodeB isPair isCall
  cases r with
  | nil => rfl
  | cons x r =>
    cases r with
    | nil => rfl
    | cons y r => simp at h
theorem nodeL_len {ds : List PyData} (h : ¬ (ds.length = 2 ∨ ds.length = 3)) : nodeL (.tuple ds) = false := by
  unfold nodeL
  have i2 : isPair (.tuple ds) = false := decide_eq_false fun z => h (.inl z)
  have i3 : isCall (.tuple ds) = false := by
    show (decide (ds.length = 3) && _) = false
    rw [decide_eq_false fun z => h (.inr z), Bool.false_and]
  rw [i2, i3]
  rfl
/-- what stands behind, in words -/
theorem tail_call (r : List PyData) (h : r.length = 0 ∨ r.length = 1) : inV (V.str (PyData.tuple r).shown) [V.str "()", V.str "('call',)"] = (decide (r.length = 0) || isCallS r[0]?) := by
  match r, h with
  | [], _ => decide +kernel
  | [x], _ =>
    have es : lS (PyData.tuple [x]).shown = 40 :: (lS x.shown ++ [44, 41]) := by
      have z : (PyData.tuple [x]).shown = ("(" : Str) ++ ((", " : Str).join [x.shown]) ++ (",)" : Str) := by
        simp only [PyData.shown, PyData.shownAll, tupleText]
        rfl
      rw [z, lS_app, lS_app]
      have j1 : (", " : Str).join [x.shown] = x.shown := rfl
      rw [j1, show lS ("(" : Str) = [40] by decide +kernel, show lS (",)" : Str) = [44, 41] by decide +kernel]
      simp
    have e1 : eqV (V.str "()") (V.str (PyData.tuple [x]).shown) = false := by
      show (("()" : Str) == (PyData.tuple [x]).shown) = false
      rw [beq_eq_false_iff_ne]
      intro z
      have y := congrArg lS z
      rw [es, show lS ("()" : Str) = [40, 41] by decide +kernel] at y
      have l := congrArg List.length y
      simp at l
    have e2 : eqV (V.str "('call',)") (V.str (PyData.tuple [x]).shown) = isCallS (some x) := by
      rw [callS_shown]
      show (("('call',)" : Str) == (PyData.tuple [x]).shown) = _
      rw [Bool.eq_iff_iff, beq_iff_eq, decide_eq_true_eq]
      have q1 : lS ("('call',)" : Str) = 40 :: (lS qcall ++ [44, 41]) := by decide +kernel
      constructor
      · intro z
        have y := congrArg lS z
        rw [es, q1] at y
        injection y with _ y
        have y2 := List.append_cancel_right y
        rw [← S_lS x.shown, ← y2, S_lS]
      · intro z
        have y : lS ("('call',)" : Str) = lS (PyData.tuple [x]).shown := by rw [es, q1, V.str.inj z]
        rw [← S_lS ("('call',)" : Str), y, S_lS]
    show (eqV (V.str "()") _ || (eqV (V.str "('call',)") _ || false)) = _
    rw [e1, e2]
    simp
theorem in23 (n : Nat) : inV (V.int (n : Int)) [V.int 2, V.int 3] = decide (n = 2 ∨ n = 3) := by
  rw [Bool.eq_iff_iff, decide_eq_true_eq]
  simp [inV, eqV]
  omega
theorem good_len {es : List PyData} (h : es.length ≠ 2) : goodB (.tuple es) = false := by
  match es, h with
  | [], _ => rfl
  | [.str u], _ => rfl
  | [.none], _ => rfl
  | [.bool _], _ => rfl
  | [.int _], _ => rfl
  | [.list _], _ => rfl
  | [.tuple _], _ => rfl
  | [.dict _], _ => rfl
  | [_, _], h => exact absurd rfl h
  | .str _ :: _ :: _ :: _, _ => rfl
  | .none :: _ :: _ :: _, _ => rfl
  | .bool _ :: _ :: _ :: _, _ => rfl
  | .int _ :: _ :: _ :: _, _ => rfl
  | .list _ :: _ :: _ :: _, _ => rfl
  | .tuple _ :: _ :: _ :: _, _ => rfl
  | .dict _ :: _ :: _ :: _, _ => rfl
theorem BE0cut (x y : V) (r : List V) : cutV (x :: y :: r) none (some 2) = [x, y] := K01.cut_to (x :: y :: r) (j := 2)
def spLN : Sp := fun vs H Q _ => ∃ (v : V) (d : PyData), vs = [v] ∧ Sys H ∧ Dq H v d ∧ TlD d ∧ ∀ H', Same H H' → Q (.bl (nodeO d)) H'
structure TL (mg : Str → Option Value) : Prop where
  tp : TP mg
  list : mg "list" = none
  set : mg "set" = none
  sorted : mg "sorted" = none
  repr : mg "repr" = none
abbrev nLN : List Str := ["node", "marks", "branches", "mark", "one"]
theorem scLN : FnScope nLN ["node"] (defScope sLNode) := ⟨rfl, rfl, rfl, by decide +kernel, rfl, by decide +kernel, by decide +kernel⟩
section
variable {P : Program} {w : World} {K : PySem.W.Frag} {mg : Str → Option Value} {base : Heap}
theorem ok_ln {f fN : Addr} {fd dN : FuncData} (F : Fun K "_law_is_node" "_law_is_node" sLNode f fd) (FN : Fun K "_law_is_name" "_law_is_name" sName fN dN) (bN : Binds K dN ["thing"] []) (gN : mg "_law_is_name" = some (.ref fN)) (T : TL mg) :
    FnG P w K mg base 2 f fd "node" spLN := by
  have GN : FnOk P w K mg base CX0 1 fN dN ["thing"] (spB isWord) := ok_name FN T.tp
  refine fnG_of F scLN fun cdv A outer s H v Q E hr hg h => ?_
  have hu2 : (A.deeper (PyProof.Rows.envOfC "_law_is_node" (defScope sLNode) s.heap.objs.size f cdv)).units + 64 < cLine := by have := hr.un; omega
  have hu1 : (A.deeper (PyProof.Rows.envOfC "_law_is_node" (defScope sLNode) s.heap.objs.size f cdv)).units < cLine := by omega
  have hu3 : (A.deeper (PyProof.Rows.envOfC "_law_is_node" (defScope sLNode) s.heap.objs.size f cdv)).units + 100 < cLine := by have := hr.un; omega
  have hgd : (A.deeper (PyProof.Rows.envOfC "_law_is_node" (defScope sLNode) s.heap.objs.size f cdv)).guards = some [] := hg
  refine ⟨_, pss_cons (ps_if (PW.pt (pw_or (pt_not (pt_val (pe_callB call_isi (by rfl) T.tp.isi bisi (pa_cons (pv 0) (pa_cons (pe_bltn (v := .ty "tuple") (by rfl) T.tp.tuple btup rfl) pa_nil)))))
        (pw_or (pt_cmpR op_notIn_seq (pe_callB call_len_seq (by rfl) T.tp.len PySem.boot_len (pa_cons (pv 0) pa_nil)) (pe_tup (pa_cons pe_int (pa_cons pe_int pa_nil))) (by rfl))
        (pw_or1 (pt_cmpR op_notIn_seq (pe_callB (call_reprX hgd hu3) (by rfl) T.repr brepr (pa_cons (pe_slice sl_tupF (pv 0) (po_some pe_int) po_none) pa_nil)) (pe_tup (pa_cons pe_str (pa_cons pe_str pa_nil))) (by rfl)))))) (pss_one (ps_ret pe_bl)) pss_nil)
    (pss_cons (ps_asg (pe_slice sl_tupF (pv 0) po_none (po_some pe_int)) (pg_tup (n := 2) rfl (pgs_cons (pg_name (i := 1) scLN.nd rfl (Or.inl rfl)) (pgs_cons (pg_name (i := 2) scLN.nd rfl (Or.inl rfl)) pgs_nil))))
    (pss_cons (ps_if (PW.pt (pw_or (pt_not (pt_val (pe_callB call_isi (by rfl) T.tp.isi bisi (pa_cons (pv 1) (pa_cons (pe_bltn (v := .ty "tuple") (by rfl) T.tp.tuple btup rfl) pa_nil)))))
        (pw_or (pt_not (pt_val (pe_callB call_isi (by rfl) T.tp.isi bisi (pa_cons (pv 2) (pa_cons (pe_bltn (v := .ty "tuple") (by rfl) T.tp.tuple btup rfl) pa_nil)))))
        (pw_or (pt_cmpR op_gt (pe_callB call_len_seq (by rfl) T.tp.len PySem.boot_len (pa_cons (pv 1) pa_nil)) pe_int (by rfl)) (pw_or1 (pt_cmpR op_gt (pe_callB call_len_seq (by rfl) T.tp.len PySem.boot_len (pa_cons (pv 2) pa_nil)) pe_int (by rfl))))))) (pss_one (ps_ret pe_bl)) pss_nil)
    (pss_cons (ps_if (PW.pt (pw_or (pt_cmpR (NI.op_neNil hu1) (pe_lc (own := [("mark", 3)]) (g := gName 3) rfl scLN.nd (pi_tup (pv 1)) (blkOk_by (own := [("mark", 3)]) (N := nLN) (sc := defScope sLNode) (by decide +kernel))
          (fun _ _ _ _ _ => pg_name (i := 3) scLN.nd rfl (Or.inl rfl)) (fun _ _ _ _ _ => pts_one (pt_not (pt_val (pe_call GN (hr.mono (by decide)) (by rfl) gN FN.kp bN .nil pass0 (pa_cons (pv 3) pa_nil))))) (fun _ _ _ _ _ => pv 3)) (pe_lst pa_nil) (by rfl))
        (pw_or1 (pt_cmpR (op_neD hu2) (pe_callTy call_list_of (by rfl) T.list blist (pa_cons (pv 1) pa_nil)) (pe_callB (cr_sortP (P := P) (w := w) rfl rfl rfl) (by rfl) T.sorted bsorted (pa_cons (pe_callTy (cr_setP (P := P) (w := w) (K := K) rfl rfl rfl rfl) (by rfl) T.set bset (pa_cons (pv 1) pa_nil)) pa_nil)) (by rfl))))) (pss_one (ps_ret pe_bl)) pss_nil)
    (pss_one (ps_ret (pe_cmpR (NI.op_eqNil hu1) (pe_lc (own := [("one", 4)]) (g := gName 4) rfl scLN.nd (pi_tup (pv 2)) (blkOk_by (own := [("one", 4)]) (N := nLN) (sc := defScope sLNode) (by decide +kernel))
        (fun _ _ _ _ _ => pg_name (i := 4) scLN.nd rfl (Or.inl rfl)) (fun _ _ _ _ _ => pts_one (PW.pt (pw_or (pt_not (pt_val (pe_callB (call_isiK (K := K) rfl) (by rfl) T.tp.isi bisi (pa_cons (pv 4) (pa_cons (pe_bltn (v := .ty "tuple") (by rfl) T.tp.tuple btup rfl) pa_nil)))))
          (pw_or (pt_cmpR op_ne (pe_callB (call_len_seqK (K := K) rfl) (by rfl) T.tp.len PySem.boot_len (pa_cons (pv 4) pa_nil)) pe_int (by rfl)) (pw_or1 (pt_not (pt_val (pe_call GN (hr.mono (by decide)) (by rfl) gN FN.kp bN .nil pass0 (pa_cons (pe_ix (ix_tupK (K := K) rfl) (pv 4) pe_int (fun _ _ => rfl)) pa_nil))))))))) (fun _ _ _ _ _ => pe_int)) (pe_lst pa_nil) (by rfl))))))), ?_⟩
  obtain ⟨v', d, ev, sy, hd, tl, k⟩ := h
  obtain rfl : v = v' := List.head_eq_of_cons_eq ev
  have stop : nodeO d = false → ∀ H3, Same H H3 → Q (.bl false) H3 := fun h H3 s3 => by
    have z := k H3 s3
    rw [h] at z
    exact z
  have stopN : nodeL d = false → ∀ H3, Same H H3 → Q (.bl false) H3 := fun h H3 s3 => stop (by unfold nodeO; rw [h, Bool.false_and]) H3 s3
  refine ⟨_, rfl, _, .ty "tuple", _, _, _, rfl, .ty _, hd.ty, kit_ty (kt _), _, rfl, ?_⟩
  cases hd with
  | @tup ad xs ds e a =>
    refine iteF ⟨_, rfl, _, _, rfl, .inr (SqT.of e), by show 2 ≤ sizeLine; decide, fun p3 np3 => ⟨p3, _, rfl, .inr (SqT.of upd_same), rfl, rfl, _, rfl, ?_⟩⟩
    rw [if_pos rfl, in23, a.len]
    by_cases h32 : ¬ (ds.length = 2 ∨ ds.length = 3)
    · rw [decide_eq_false h32]
      exact iteT (stopN (nodeL_len h32) _ (same_new np3))
    have h23 : ds.length = 2 ∨ ds.length = 3 := Classical.not_not.mp h32
    rw [decide_eq_true h23]
    refine iteF ?_
    have s3 : Same H (upd H p3 (.tup [.int 2, .int 3])) := same_new np3
    generalize upd H p3 (HO.tup [V.int 2, V.int 3]) = H3 at s3
    match ds, xs, a, h23, e, tl, stop, stopN, k with
    | a0 :: b0 :: r, va :: vb :: vs, .cons qa (.cons qb ar), h23, e, tl, stop, stopN, k =>
    have r01 : r.length = 0 ∨ r.length = 1 := by
      rw [List.length_cons, List.length_cons] at h23
      omega
    have nl := nodeL_three a0 b0 r r01
    have c2 : cutV (va :: vb :: vs) (some 2) none = vs := K01.cut_from (va :: vb :: vs) (j := 2)
    have tl' : OkD (.tuple r) := tl
    refine ⟨_, rfl, 2, rfl, ad, _, rfl, s3 _ _ e, fun p4 H4 s4 q4 => ?_⟩
    rw [c2] at q4
    have s34 := same_trans s3 s4
    refine ⟨.ref p4, .tuple r, rfl, sy.same s34, .tup q4 (ar.same s34), tl'.1, tl'.2.1, tl'.2.2, by show 2 ≤ sizeLine; decide, fun p5 np5 => ⟨p5, _, rfl, .inr (SqT.of upd_same), rfl, rfl, _, rfl, ?_⟩⟩
    rw [if_pos rfl, tail_call r r01]
    have s5 := same_trans s34 (same_new (o := .tup [.str "()", .str "('call',)"]) np5)
    generalize upd H4 p5 (HO.tup [V.str "()", V.str "('call',)"]) = H5 at s5
    have ebl : (decide (r.length = 0) || isCallS r[0]?) = (r.length = 0 || isCallS r[0]?) := rfl
    cases hc : (decide (r.length = 0) || isCallS r[0]?) with
    | false =>
      refine iteT (stopN ?_ _ s5)
      rw [nl, hc, Bool.false_and]
    | true =>
    rw [hc, Bool.true_and] at nl
    refine iteF (nx_go ?_)
    show tSeq _ _ _ _ _
    refine tseq_of ⟨_, rfl, 2, rfl, ad, _, rfl, s5 _ _ e, fun p6 H6 s6 q6 => ?_⟩
    rw [show cutV (va :: vb :: vs) none (some 2) = [va, vb] from BE0cut va vb vs] at q6
    refine ⟨p6, _, rfl, SqT.of q6, rfl, _, _, rfl, _, _, rfl, rfl, ?_⟩
    have sm := same_trans s5 s6
    have noM : areMarks a0 = false → nodeL (.tuple (a0 :: b0 :: r)) = false := fun z => by rw [nl, z, Bool.false_and]
    have noB : fewB b0 = false → nodeL (.tuple (a0 :: b0 :: r)) = false := fun z => by rw [nl, z, Bool.and_false]
    show tSeq _ _ _ _ _
    refine tseq_of ⟨_, rfl, _, .ty "tuple", _, _, _, rfl, .ty _, (qa.same sm).ty, kit_ty (kt _), _, rfl, ?_⟩
    cases qa with
    | @tup am ms md em aM =>
      refine iteF ⟨_, rfl, _, .ty "tuple", _, _, _, rfl, .ty _, (qb.same sm).ty, kit_ty (kt _), _, rfl, ?_⟩
      cases qb with
      | @tup ab bv bd eb aB =>
        refine iteF ⟨_, rfl, _, _, rfl, .inr (SqT.of (sm _ _ em)), _, _, rfl, rfl, _, rfl, ?_⟩
        by_cases m3 : (3 : Int) < (ms.length : Int)
        · rw [show decide ((ms.length : Int) > 3) = true from decide_eq_true m3]
          refine iteT (stopN (noM ?_) _ sm)
          show (decide (md.length ≤ 3) && _) = false
          rw [decide_eq_false (by rw [← aM.len]; omega), Bool.false_and]
        rw [show decide ((ms.length : Int) > 3) = false from decide_eq_false m3]
        refine iteF ⟨_, rfl, _, _, rfl, .inr (SqT.of (sm _ _ eb)), _, _, rfl, rfl, _, rfl, ?_⟩
        by_cases b3 : (3 : Int) < (bv.length : Int)
        · rw [show decide ((bv.length : Int) > 3) = true from decide_eq_true b3]
          refine iteT (stopN (noB ?_) _ sm)
          exact decide_eq_false (by rw [← aB.len]; omega)
        rw [show decide ((bv.length : Int) > 3) = false from decide_eq_false b3]
        refine iteF (nx_go ?_)
        dsimp only
        refine tseq_of ⟨_, rfl, am, rfl, ⟨_, SqT.of (sm _ _ em)⟩, fun D nD => ?_⟩
        refine lc_it (walk_tup (xs := ms)) (fun i H' => Same H6 H' ∧ ∃ ys, H' D = some (.lst ys) ∧ ys.length ≤ i ∧ ys.isEmpty = (md.take i).all isWord) ⟨same_new nD, [], upd_same, Nat.le_refl _, rfl⟩ (fun i H' _ p => SqT.of (p.1 _ _ (sm _ _ em))) ?_ ?_
        · rintro i y H7 H8 hi ⟨s7, ys, ey, ly, hy⟩ ⟨rfl, hx⟩
          obtain ⟨di, hdi⟩ : ∃ di, md[i]? = some di := ⟨md[i]'(by rw [← aM.len]; exact hi), List.getElem?_eq_getElem _⟩
          obtain ⟨v5, hv5, qv⟩ := aM.at hdi
          obtain rfl : v5 = y := Option.some.inj (hv5.symm.trans hx)
          refine ⟨rfl, _, rfl, v5, di, rfl, qv.same (same_trans sm s7), fun H9 s9 => ⟨_, rfl, ?_⟩⟩
          have tk : (md.take (i + 1)).all isWord = ((md.take i).all isWord && isWord di) := by
            rw [tk_snoc hdi, List.all_append]
            simp
          cases hw : isWord di with
          | false =>
            refine iteT ⟨_, rfl, ys, s9 _ _ ey, small1000 ?_, fun b o z => ?_, ys ++ [v5], upd_same, ?_, ?_⟩
            · have : i < 4 := by omega
              omega
            · rw [upd_ne (ne_of_none z nD)]
              exact s9 _ _ (s7 b o z)
            · rw [List.length_append, List.length_singleton]
              omega
            · rw [tk, hw, Bool.and_false]
              cases ys <;> rfl
          | true =>
            refine iteF ⟨same_trans s7 s9, ys, s9 _ _ ey, Nat.le_succ_of_le ly, ?_⟩
            rw [tk, hw, Bool.and_true]
            exact hy
        rintro H7 ⟨s7, ys, ey, ly, hy⟩
        rw [List.take_of_length_le (by rw [aM.len]; exact Nat.le_refl _)] at hy
        refine ⟨Nat.zero_le _, fun p7 np7 => ⟨D, p7, ys, rfl, rfl, SqL.of (same_new np7 _ _ ey), SqL.of upd_same, _, rfl, ?_⟩⟩
        have s8 : Same H6 (upd H7 p7 (.lst [])) := same_trans s7 (same_new np7)
        generalize upd H7 p7 (HO.lst []) = H8 at s8
        rw [hy]
        cases hw : md.all isWord with
        | false =>
          refine iteT (stopN (noM ?_) _ (same_trans sm s8))
          show (decide (md.length ≤ 3) && (md.all isWord && _)) = false
          rw [hw, Bool.false_and, Bool.and_false]
        | true =>
        refine iteF ?_
        obtain ⟨ws, rfl, hws⟩ := words_of hw
        obtain rfl := strs_vals aM
        have sm8 := same_trans sm s8
        have w3 : ws.length ≤ 3 := by
          rw [List.length_map] at m3
          omega
        refine ⟨_, rfl, am, _, rfl, .inr (SqT.of (sm8 _ _ em)), fun pl npl => ?_⟩
        have sl := same_new (o := .lst (ws.map V.str)) npl
        refine ⟨_, rfl, am, ws, rfl, SqT.of (sl _ _ (sm8 _ _ em)), by omega, fun pt npt => ?_⟩
        have st2 := same_new (o := SX.SetTO P w pt (SX.pack ws)) npt
        refine ⟨pt, _, rfl, upd_same, Nat.lt_of_le_of_lt (SX.pack_len ws) (by omega), fun ns pn hs hp npn => ?_⟩
        have sn := same_new (o := HO.lst (ns.map V.str)) npn
        have okw : ∀ x ∈ ws, PyData.strOk x = true := fun x hx => word_ok (hws x hx)
        have okn : ∀ x ∈ ns, PyData.strOk x = true := fun x hx => okw x (SX.pack_mem.mp (hp.mem_iff.mp hx))
        refine ⟨_, _, .lst (SqL.of (sn _ _ (st2 _ _ upd_same))) (dp_strs ws), .lst (SqL.of upd_same) (dp_strs ns), shaped_strs okw, shaped_strs okn, _, rfl, ?_⟩
        rw [← marks_eq w3 hws hs hp]
        have sm9 := same_trans (same_trans (same_trans sm8 sl) st2) sn
        clear sl st2 sn
        generalize upd (upd (upd H8 pl (HO.lst (ws.map V.str))) pt (SX.SetTO P w pt (SX.pack ws))) pn (HO.lst (ns.map V.str)) = H9 at sm9
        cases hm : areMarks (.tuple (ws.map PyData.str)) with
        | false => exact iteT (stopN (noM hm) _ sm9)
        | true =>
        refine iteF (nx_go ?_)
        dsimp only
        have nlt : nodeL (.tuple (.tuple (ws.map PyData.str) :: .tuple bd :: r)) = true := by
          rw [nl, hm]
          exact decide_eq_true (by rw [← aB.len]; omega)
        have fin : nodeO (.tuple (.tuple (ws.map PyData.str) :: .tuple bd :: r)) = bd.all goodB := by
          unfold nodeO
          rw [nlt, Bool.true_and]
          rfl
        refine ⟨_, rfl, ab, rfl, ⟨_, SqT.of (sm9 _ _ eb)⟩, fun D2 nD2 => ?_⟩
        refine lc_it (walk_tup (xs := bv)) (fun i H' => Same H9 H' ∧ ∃ ys, H' D2 = some (.lst ys) ∧ ys.length ≤ i ∧ ys.isEmpty = (bd.take i).all goodB) ⟨same_new nD2, [], upd_same, Nat.le_refl _, rfl⟩ (fun i H' _ p => SqT.of (p.1 _ _ (sm9 _ _ eb))) ?_ ?_
        · rintro i y HA H10 hi ⟨s10, ys2, ey2, ly2, hy2⟩ ⟨rfl, hx⟩
          obtain ⟨di, hdi⟩ : ∃ di, bd[i]? = some di := ⟨bd[i]'(by rw [← aB.len]; exact hi), List.getElem?_eq_getElem _⟩
          obtain ⟨v5, hv5, qv⟩ := aB.at hdi
          obtain rfl : v5 = y := Option.some.inj (hv5.symm.trans hx)
          have tk : (bd.take (i + 1)).all goodB = ((bd.take i).all goodB && goodB di) := by
            rw [tk_snoc hdi, List.all_append]
            simp
          have i3 : i < 4 := by omega
          have t10 := same_trans sm9 s10
          have badc : goodB di = false → ∀ H12, Same H10 H12 → ∃ acc, H12 D2 = some (.lst acc) ∧ acc.length < sizeLine ∧ Same H9 (upd H12 D2 (.lst (acc ++ [.int 1]))) ∧ ∃ ys, upd H12 D2 (.lst (acc ++ [.int 1])) D2 = some (.lst ys) ∧ ys.length ≤ i + 1 ∧ ys.isEmpty = (bd.take (i + 1)).all goodB := fun hg H12 s12 => by
            refine ⟨ys2, s12 _ _ ey2, small1000 (by omega), fun b o z => ?_, ys2 ++ [.int 1], upd_same, ?_, ?_⟩
            · rw [upd_ne (ne_of_none z nD2)]
              exact s12 _ _ (s10 b o z)
            · rw [List.length_append, List.length_singleton]
              omega
            · rw [tk, hg, Bool.and_false]
              cases ys2 <;> rfl
          refine ⟨rfl, _, rfl, _, .ty "tuple", _, _, _, rfl, .ty _, (qv.same t10).ty, kit_ty (kt _), _, rfl, ?_⟩
          cases qv with
          | @tup p9 zs ed e9 a9 =>
            refine iteF ⟨_, rfl, _, _, rfl, .inr (SqT.of (t10 _ _ e9)), rfl, _, rfl, ?_⟩
            by_cases n2 : ed.length = 2
            · have e2 : decide (V.int (zs.length : Nat) = V.int 2) = true := decide_eq_true (by rw [a9.len, n2]; rfl)
              show if (!decide (V.int (zs.length : Nat) = V.int 2)) = true then _ else _
              rw [e2]
              obtain ⟨u9, t9, rfl⟩ : ∃ u9 t9, ed = [u9, t9] := by
                match ed, n2 with
                | [u9, t9], _ => exact ⟨u9, t9, rfl⟩
              obtain ⟨vu, vt, rfl, qu, qt⟩ : ∃ vu vt, zs = [vu, vt] ∧ Dq H vu u9 ∧ Dq H vt t9 := by
                match zs, a9 with
                | [vu, vt], .cons qu (.cons qt .nil) => exact ⟨vu, vt, rfl, qu, qt⟩
              refine iteF ⟨_, rfl, p9, _, 0, vu, rfl, rfl, SqT.of (t10 _ _ e9), atI_nat (j := 0) rfl, vu, u9, rfl, qu.same t10, fun H12 s12 => ⟨_, rfl, ?_⟩⟩
              have g2 : goodB (.tuple [u9, t9]) = isWord u9 := by cases u9 <;> rfl
              cases hw9 : isWord u9 with
              | false => exact iteT (badc (by rw [g2]; exact hw9) H12 s12)
              | true =>
                refine iteF ⟨same_trans s10 s12, ys2, s12 _ _ ey2, Nat.le_succ_of_le ly2, ?_⟩
                rw [tk, g2, hw9, Bool.and_true]
                exact hy2
            · have e2 : decide (V.int (zs.length : Nat) = V.int 2) = false := decide_eq_false fun z => n2 (by rw [← a9.len]; exact vint.mpr z)
              show if (!decide (V.int (zs.length : Nat) = V.int 2)) = true then _ else _
              rw [e2]
              exact iteT (badc (good_len n2) H10 same_refl)
          | _ => exact iteT (badc rfl H10 same_refl)
        rintro H10 ⟨s10, ys2, ey2, ly2, hy2⟩
        rw [List.take_of_length_le (by rw [aB.len]; exact Nat.le_refl _)] at hy2
        refine ⟨Nat.zero_le _, fun p9 np9 => ⟨D2, p9, ys2, rfl, rfl, SqL.of (same_new np9 _ _ ey2), SqL.of upd_same, ?_⟩⟩
        have z := k _ (same_trans sm9 (same_trans s10 (same_new (o := .lst []) np9)))
        rw [fin, ← hy2] at z
        exact z
      | _ => exact iteT (stopN (noB rfl) _ sm)
    | _ => exact iteT (stopN (noM rfl) _ sm)
  | _ => exact iteT (stopN rfl H same_refl)
end
end X48
set_option Elab.async false
set_option linter.all false
set_option maxRecDepth 100000
set_option maxHeartbeats 4000000
/-! _law_is_small: its mathematics -/
namespace X48
open PySem L2 L2H DQ K01 RZ
/-- x in t, t a tuple of data -/
def rInDT (K : PySem.W.Frag) : R2 := fun x y H Q => ∃ d ds, Dp K H x d ∧ Dp K H y (.tuple ds) ∧ SeqAt.shaped d = true ∧ SeqAt.shaped (.tuple ds) = true ∧ Q (.bl (ds.any fun z => PyData.eqv z d)) H
theorem op_inDT {X : Cx} (hu : X.A.units + 65 < cLine) : OpR X (compareOp .In) (rInDT X.K) := by
  intro pins s σ H x y v u Q I rx ry h
  obtain ⟨d, ds, hd, he, sd, se, q⟩ := h
  obtain ⟨as, r1⟩ := Dp.reads I d x v hd rx
  obtain ⟨bs, r2⟩ := Dp.reads I (.tuple ds) y u he ry
  exact SeqAt.in_tuple_reads r2 r1 (SeqAt.canLay_of_shaped se) (SeqAt.canLay_of_shaped sd) (PyProof.Rows.room_in_shaped sd hu) ⟨.bl _, H, I, rfl, q⟩
def zr (fs : List Int) : Int := ((fs.filter fun x => decide (x ≤ 0)).length : Int)
theorem zr_app (fs : List Int) (l : Int) : zr (fs ++ [l]) = zr fs + (if l ≤ 0 then 1 else 0) := by
  unfold zr
  rw [List.filter_append, List.length_append]
  by_cases h : l ≤ 0
  · simp [h]
  · simp [h]
theorem stepL_bad {b : PyData} (h : goodB b = false) (c : PyData → Option T3) (a : Option T3) : stepL c a b = none := by
  rcases br_cases b with ⟨u, t, rfl⟩ | ⟨h1, _⟩
  · have hw : wordS u = false := h
    show (if wordS u = true then comb a (c t) else none) = none
    rw [hw]
    rfl
  · exact h1 c a
theorem nodeL_shape {x : PyData} (h : nodeL x = true) : ∃ a bs r, x = .tuple (a :: .tuple bs :: r) ∧ (r.length = 0 ∨ r.length = 1) ∧ bs.length ≤ 3 := by
  cases x with
  | tuple ds =>
    by_cases h23 : ds.length = 2 ∨ ds.length = 3
    · match ds, h23, h with
      | a :: b :: r, h23, h =>
        have r01 : r.length = 0 ∨ r.length = 1 := by
          rw [List.length_cons, List.length_cons] at h23
          omega
        rw [nodeL_three a b r r01] at h
        have h2 := (Bool.and_eq_true_iff.mp (Bool.and_eq_true_iff.mp h).2).2
        cases b with
        | tuple bs => exact ⟨a, bs, r, rfl, r01, of_decide_eq_true h2⟩
        | _ => cases h2
      | [_], h23, _ => simp at h23
      | [], h23, _ => simp at h23
    · rw [nodeL_len h23] at h
      cases h
  | _ => cases h
theorem goodB_pair {b : PyData} (h : goodB b = true) : ∃ u t, b = .tuple [u, t] := by
  rcases br_cases b with ⟨u, t, rfl⟩ | ⟨h1, _⟩
  · exact ⟨_, _, rfl⟩
  · cases b with
    | tuple es =>
      by_cases n : es.length = 2
      · match es, n with
        | [u, t], _ => exact ⟨u, t, rfl⟩
      · rw [good_len n] at h
        cases h
    | _ => cases h
theorem node_step {x : PyData} {l : Int} (h0 : 0 ≤ l) (h3 : l ≤ 3) (h : nodeO x = true) : ∃ a bs r, x = .tuple (a :: .tuple bs :: r) ∧ (r.length = 0 ∨ r.length = 1) ∧ bs.length ≤ 3 ∧
    lvl (x, l) = comb (some (start l r.length)) (tot (bs.map fun b => (tgt b, l + 1))) ∧ ∀ b ∈ bs, ∃ u t, b = .tuple [u, t] := by
  obtain ⟨h1, h2⟩ := Bool.and_eq_true_iff.mp (show (nodeL x && bsOk x) = true from h)
  obtain ⟨a, bs, r, rfl, r01, b3⟩ := nodeL_shape h1
  have hg : ∀ b ∈ bs, goodB b = true := List.all_eq_true.mp h2
  refine ⟨a, bs, r, rfl, r01, b3, ?_, fun b hb => goodB_pair (hg b hb)⟩
  rw [lvl_eq h3 h0, if_pos h1]
  exact fold_tot bs _ hg
theorem node_stop {x : PyData} {l : Int} (h0 : 0 ≤ l) (h3 : l ≤ 3) (h : nodeO x = false) : lvl (x, l) = none := by
  rw [lvl_eq h3 h0]
  by_cases h1 : nodeL x = true
  · rw [if_pos h1]
    obtain ⟨a, bs, r, rfl, _, _⟩ := nodeL_shape h1
    have hb : bs.all goodB = false := by
      have z : (nodeL (.tuple (a :: .tuple bs :: r)) && bs.all goodB) = false := h
      rw [h1, Bool.true_and] at z
      exact z
    obtain ⟨b, hm, hg⟩ : ∃ b ∈ bs, goodB b = false := by
      rcases List.all_eq_false.mp hb with ⟨b, hm, z⟩
      exact ⟨b, hm, by simpa using z⟩
    obtain ⟨i, hi⟩ := List.mem_iff_getElem?.mp hm
    exact foldL_stop hi fun a => stepL_bad hg _ a
  · rw [if_neg h1]
/-- the answer by the counts -/
def tb : Option T3 → Bool
  | none => false
  | some x => decide (x.1 ≤ 6) && ((decide (x.2.1 = 0) || decide (x.2.1 = 1)) && decide (x.2.2 = 0))
theorem tob_tb (d : PyData) : tob d = tb (root d) := by
  rw [Bool.eq_iff_iff]
  unfold tob
  rw [Bool.or_eq_true, shape_root, shape_root]
  constructor
  · rintro (⟨n, e, h⟩ | ⟨n, e, h⟩)
    · rw [e]
      simp [tb, h]
    · rw [e]
      simp [tb, h]
  · intro h
    cases hr : root d with
    | none =>
      rw [hr] at h
      cases h
    | some x =>
      rw [hr] at h
      obtain ⟨n, c, z⟩ := x
      obtain ⟨h1, h2⟩ := Bool.and_eq_true_iff.mp h
      obtain ⟨h2, h3⟩ := Bool.and_eq_true_iff.mp h2
      have h1 := of_decide_eq_true h1
      have h3 := of_decide_eq_true h3
      dsimp only at h1 h3
      rcases Bool.or_eq_true_iff.mp h2 with z | z
      · have z := of_decide_eq_true z
        dsimp only at z
        exact .inl ⟨n, by rw [z, h3], h1⟩
      · have z := of_decide_eq_true z
        dsimp only at z
        exact .inr ⟨n, by rw [z, h3], h1⟩
/-- how repr goes, so many levels deep -/
def Tl : Nat → PyData → Prop
  | 0, _ => True
  | n + 1, d => TlD d ∧ ∀ a bs r, d = .tuple (a :: .tuple bs :: r) → ∀ u x, PyData.tuple [u, x] ∈ bs → Tl n x
/-- which levels the calls may stand at -/
theorem calls_in (cs : List Int) (h : ∀ c ∈ cs, 0 ≤ c ∧ c ≤ 3) : ([[], [1], [2], [3]] : List (List Int)).any (fun z => decide (z = cs)) = ((decide ((cs.length : Int) = 0) || decide ((cs.length : Int) = 1)) && decide (zr cs = 0)) := by
  match cs, h with
  | [], _ => rfl
  | [c], h =>
    have := h c (List.mem_cons_self ..)
    rw [Bool.eq_iff_iff]
    simp [zr]
    omega
  | a :: b :: r, _ =>
    rw [Bool.eq_iff_iff]
    simp
    intro z
    omega
end X48
set_option Elab.async false
set_option linter.all false
set_option maxRecDepth 100000
set_option maxHeartbeats 4000000
/-! _law_is_small -/
namespace X48
open PySem L2 L2H DQ K01 RZ
def spSmall : Sp := fun vs H Q _ => ∃ (v : V) (d : PyData), vs = [v] ∧ Sys H ∧ Dq H v d ∧ Tl 4 d ∧ ∀ H', Same H H' → Q (.bl (tob d)) H'
abbrev nSm : List Str := ["thing", "row", "calls", "many", "level", "later", "node", "branch"]
theorem scSm : FnScope nSm ["thing"] (defScope sSmall) := ⟨rfl, rfl, rfl, by decide +kernel, rfl, by decide +kernel, by decide +kernel⟩
structure TQ (mg : Str → Option Value) : Prop where
  range : mg "range" = none
  len : mg "len" = none
theorem eqv_il : ∀ a b : List Int, PyData.eqv (.list (a.map PyData.int)) (.list (b.map PyData.int)) = decide (a = b) := by
  have h : ∀ a b : List Int, PyData.eqvAll (a.map PyData.int) (b.map PyData.int) = decide (a = b) := by
    intro a
    induction a with
    | nil =>
      intro b
      cases b <;> simp [PyData.eqvAll]
    | cons x a ih =>
      intro b
      cases b with
      | nil => simp [PyData.eqvAll]
      | cons y b =>
        have e : PyData.eqvAll ((x :: a).map PyData.int) ((y :: b).map PyData.int) = (PyData.eqv (.int x) (.int y) && PyData.eqvAll (a.map PyData.int) (b.map PyData.int)) := by
          simp only [List.map_cons, PyData.eqvAll]
        rw [e, ih b]
        have e2 : PyData.eqv (.int x) (.int y) = decide (x = y) := by
          simp only [PyData.eqv]
          rw [Bool.eq_iff_iff]
          simp
        rw [e2, Bool.eq_iff_iff]
        simp
  intro a b
  rw [← h a b]
  simp only [PyData.eqv]
theorem comb5 (a s t1 t2 u : Option T3) : comb (comb a s) (comb t1 (comb t2 u)) = comb a (comb (comb (comb s u) t1) t2) := by
  rw [comb_assoc a s]
  congr 1
  rw [comb_assoc (comb s u), comb_assoc s]
  congr 1
  rw [comb_comm u, comb_assoc]
section
variable {P : Program} {w : World} {K : PySem.W.Frag} {mg : Str → Option Value} {base : Heap}
theorem ok_small {f fN : Addr} {fd dN : FuncData} (F : Fun K "_law_is_small" "_law_is_small" sSmall f fd) (FN : Fun K "_law_is_node" "_law_is_node" sLNode fN dN) (bN : Binds K dN ["node"] []) (gN : mg "_law_is_node" = some (.ref fN)) (GN : FnG P w K mg base 2 fN dN "node" spLN) (T : TQ mg) :
    FnG P w K mg base 3 f fd "thing" spSmall := by
  refine fnG_of F scSm fun cdv A outer s H v Q E hr hg h => ?_
  have hu1 : (A.deeper (PyProof.Rows.envOfC "_law_is_small" (defScope sSmall) s.heap.objs.size f cdv)).units < cLine := by have := hr.un; omega
  have hu2 : (A.deeper (PyProof.Rows.envOfC "_law_is_small" (defScope sSmall) s.heap.objs.size f cdv)).units + 65 < cLine := by have := hr.un; omega
  have hgd : (A.deeper (PyProof.Rows.envOfC "_law_is_small" (defScope sSmall) s.heap.objs.size f cdv)).guards = some [] := hg
  refine ⟨_, pss_cons (ps_par3 rfl scSm.nd (i := 1) (j := 2) (l := 3) rfl rfl rfl (by decide) (by decide) (by decide) rfl rfl rfl (pa_cons (pe_lst (pa_cons (pv 0) pa_nil)) (pa_cons (pe_lst pa_nil) (pa_cons pe_int pa_nil))) rfl)
    (pss_cons (ps_for PassesOwn.never rfl (pi_range1 rfl T.range (pa_cons pe_int pa_nil)) (pg_name (i := 4) scSm.nd rfl (Or.inl rfl))
      (pss_cons (ps_set (i := 5) scSm.nd rfl (Or.inl rfl) (pe_lst pa_nil))
      (pss_cons (ps_for PassesOwn.never rfl (pi_list (pv 1)) (pg_name (i := 6) scSm.nd rfl (Or.inl rfl))
        (pss_cons (ps_if (pt_not (pt_val (pe_callG GN (hr.mono (by decide)) hgd (by rfl) gN FN.kp bN pass0 (pa_cons (pv 6) pa_nil)))) (pss_one (ps_ret pe_bl)) pss_nil)
        (C8.pss_cut (ps_set (i := 2) scSm.nd rfl (Or.inl rfl) (pe_op op_cat (pv 2) (pe_ifExp (pt_cmpR op_eq (pe_callB call_len_seq (by rfl) T.len PySem.boot_len (pa_cons (pv 6) pa_nil)) pe_int (by rfl)) (pe_lst (pa_cons (pv 4) pa_nil)) (pe_lst pa_nil))))
        (pss_one (ps_set (i := 5) scSm.nd rfl (Or.inl rfl) (pe_op op_cat (pv 5) (pe_lc (own := [("branch", 7)]) (g := gName 7) (tt := tYes) (by rfl) scSm.nd (pi_tup (pe_ix ix_tup (pv 6) pe_int (fun _ _ => rfl))) (blkOk_by (own := [("branch", 7)]) (N := nSm) (sc := defScope sSmall) (by decide +kernel))
          (fun _ _ _ _ _ => pg_name (i := 7) scSm.nd rfl (Or.inl rfl)) (fun _ _ _ _ _ => pts_nil) (fun _ _ _ _ _ => pe_ix (ix_tupK (K := K) rfl) (pv 7) pe_int (fun _ _ => rfl)))))))))
      (pss_one (ps_par rfl scSm.nd (i := 3) (j := 1) rfl rfl (by decide) rfl rfl (pa_cons (pe_op op_add (pv 3) (pe_callB call_len_seq (by rfl) T.len PySem.boot_len (pa_cons (pv 1) pa_nil))) (pa_cons (pv 5) pa_nil)) rfl)))))
    (pss_one (ps_ret (pe_and (pe_cmpR (NI.op_eqNil hu1) (pv 1) (pe_lst pa_nil) (by rfl)) (pe_and (pe_cmpR op_lt (pv 3) pe_int (by rfl)) (pe_one (pe_cmpR (op_inDT hu2) (pv 2) (pe_tup (pa_cons (pe_lst pa_nil) (pa_cons (pe_lst (pa_cons pe_int pa_nil)) (pa_cons (pe_lst (pa_cons pe_int pa_nil)) (pa_cons (pe_lst (pa_cons pe_int pa_nil)) pa_nil))))) (by rfl)))))))), ?_⟩
  obtain ⟨v', d, ev, sy, hd, tl, k⟩ := h
  obtain rfl : v = v' := List.head_eq_of_cons_eq ev
  have stop : root d = none → ∀ H3, Same H H3 → Q (.bl false) H3 := fun h H3 s3 => by
    have z := k H3 s3
    rw [tob_tb, h] at z
    exact z
  refine ⟨_, rfl, by show 1 ≤ sizeLine; decide, fun r0 nr0 => ⟨Nat.zero_le _, fun c0 nc0 => ⟨_, _, _, rfl, ?_⟩⟩⟩
  have s0 : Same H (upd (upd H r0 (.lst [v])) c0 (.lst [])) := same_trans (same_new nr0) (same_new nc0)
  have er0 : upd (upd H r0 (.lst [v])) c0 (.lst []) r0 = some (.lst [v]) := same_new nc0 _ _ upd_same
  have ec0 : upd (upd H r0 (.lst [v])) c0 (.lst []) c0 = some (.lst []) := upd_same
  generalize upd (upd H r0 (.lst [v])) c0 (.lst []) = H0 at s0 er0 ec0
  refine ⟨_, rfl, by decide, by decide, for_range (lo := 0) (fun l σ' H' => ∃ (rw' cl : Addr) (vs : List V) (ds : List PyData) (cs : List Int) (many : Nat) (w4 w5 w6 w7 : Option V), σ' = [some v, some (.ref rw'), some (.ref cl), some (.int (many : Int)), w4, w5, w6, w7] ∧ Same H H' ∧ H' rw' = some (.lst vs) ∧ DqAll H' vs ds ∧ (∀ x ∈ ds, Tl (4 - l) x) ∧ ds.length ≤ 3 ^ l ∧
      H' cl = some (.lst (cs.map V.int)) ∧ (∀ c ∈ cs, 0 ≤ c ∧ c ≤ 3) ∧ cs.length ≤ many ∧ many ≤ 100 * l ∧ comb (some ((many : Int), (cs.length : Int), zr cs)) (tot (ds.map fun x => (x, (l : Int)))) = root d) ?_ ?_ ?_⟩
  · refine ⟨r0, c0, [v], [d], [], 0, _, _, _, _, rfl, s0, er0, .cons (hd.same s0) .nil, fun x hx => by rw [List.mem_singleton.mp hx]; exact tl, Nat.le_refl _, ec0, fun c hc => absurd hc List.not_mem_nil, Nat.le_refl _, Nat.le_refl _, ?_⟩
    show comb (some (0, 0, 0)) (comb (lvl (d, 0)) (some (0, 0, 0))) = root d
    rw [comb_comm, comb_zero, comb_zero]
    rfl
  rotate_left
  · -- behind the levels
    rintro σ' H1 ⟨rw', cl, vs, ds, cs, many, w4, w5, w6, w7, rfl, s1, er, qa, _, _, ec, hcs, _, _, eq⟩
    refine ⟨_, rfl, Nat.zero_le _, fun p np => ⟨rw', p, vs, rfl, rfl, SqL.of (same_new np _ _ er), SqL.of upd_same, _, rfl, ?_⟩⟩
    have s2 := same_trans s1 (same_new (o := .lst []) np)
    have ec2 := same_new (o := .lst []) np _ _ ec
    generalize upd H1 p (HO.lst []) = H2 at s2 ec2
    by_cases hv : vs = []
    · subst hv
      have hds : ds = [] := by
        cases qa
        rfl
      subst hds
      have er' : root d = some ((many : Int), (cs.length : Int), zr cs) := by
        rw [← eq]
        exact comb_zero _
      have tbd : tob d = (decide ((many : Int) ≤ 6) && ((decide ((cs.length : Int) = 0) || decide ((cs.length : Int) = 1)) && decide (zr cs = 0))) := by
        rw [tob_tb, er']
        rfl
      refine iteT ⟨_, rfl, _, _, rfl, rfl, _, rfl, ?_⟩
      by_cases h7 : (many : Int) < 7
      · rw [decide_eq_true h7]
        refine iteT ⟨_, rfl, Nat.zero_le _, fun p1 n1 => ⟨by show 1 ≤ sizeLine; decide, fun p2 n2 => ⟨by show 1 ≤ sizeLine; decide, fun p3 n3 => ⟨by show 1 ≤ sizeLine; decide, fun p4 n4 => ⟨by show 4 ≤ sizeLine; decide, fun p5 n5 => ?_⟩⟩⟩⟩⟩
        have t5 := same_new (o := .tup [.ref p1, .ref p2, .ref p3, .ref p4]) n5
        have t4 := same_trans (same_new (o := .lst [.int 3]) n4) t5
        have t3 := same_trans (same_new (o := .lst [.int 2]) n3) t4
        have t2 := same_trans (same_new (o := .lst [.int 1]) n2) t3
        have t1 := same_trans (same_new (o := .lst []) n1) t2
        refine ⟨.list (cs.map PyData.int), [.list (([] : List Int).map PyData.int), .list (([1] : List Int).map PyData.int), .list (([2] : List Int).map PyData.int), .list (([3] : List Int).map PyData.int)], .lst (SqL.of (t1 _ _ ec2)) (dp_ints cs),
          .tup (SqT.of upd_same) (.cons (.lst (SqL.of (t2 _ _ upd_same)) .nil) (.cons (.lst (SqL.of (t3 _ _ upd_same)) (.cons (.int 1) .nil)) (.cons (.lst (SqL.of (t4 _ _ upd_same)) (.cons (.int 2) .nil)) (.cons (.lst (SqL.of (t5 _ _ upd_same)) (.cons (.int 3) .nil)) .nil)))), shaped_ints cs, by decide +kernel, ?_⟩
        have z := k _ (same_trans s2 t1)
        rw [tbd, decide_eq_true (show (many : Int) ≤ 6 by omega), Bool.true_and, ← calls_in cs hcs] at z
        have ea : ([PyData.list (([] : List Int).map PyData.int), .list (([1] : List Int).map PyData.int), .list (([2] : List Int).map PyData.int), .list (([3] : List Int).map PyData.int)].any fun z => PyData.eqv z (.list (cs.map PyData.int))) = ([[], [1], [2], [3]] : List (List Int)).any (fun z => decide (z = cs)) := by
          simp only [List.any_cons, List.any_nil, eqv_il]
        rw [ea]
        exact z
      · rw [decide_eq_false h7]
        have z := k H2 s2
        rw [tbd, decide_eq_false (show ¬ (many : Int) ≤ 6 by omega), Bool.false_and] at z
        exact iteF z
    · have hne : id vs.isEmpty = false := by
        cases vs with
        | nil => exact absurd rfl hv
        | cons a b => rfl
      rw [hne]
      refine iteF (stop ?_ H2 s2)
      rw [← eq]
      cases ds with
      | nil =>
        cases qa
        exact absurd rfl hv
      | cons x ds =>
        have e1 : lvl (x, 4) = none := lvl_deep (by decide)
        show comb _ (comb (lvl (x, 4)) _) = none
        rw [e1]
        rfl
  rintro l σ' H1 hl ⟨rw', cl, vs, ds, cs, many, w4, w5, w6, w7, rfl, s1, er, qa, tls, len, ec, hcs, hcl, hm, eq⟩
  have hl4 : l < 4 := hl
  refine ⟨Nat.zero_le _, fun lt0 nlt0 => ?_⟩
  have sA := same_trans s1 (same_new (o := .lst []) nlt0)
  have erA := same_new (o := .lst []) nlt0 _ _ er
  have ecA := same_new (o := .lst []) nlt0 _ _ ec
  have qaA := qa.same (same_new (o := .lst []) nlt0)
  have elA : upd H1 lt0 (.lst []) lt0 = some (.lst []) := upd_same
  generalize upd H1 lt0 (HO.lst []) = HA at sA erA ecA qaA elA
  dsimp only
  refine tseq_of ⟨_, rfl, rw', rfl, ⟨_, SqL.of erA⟩, ?_⟩
  have d3l : 3 ^ l ≤ 27 := by
    have : l ≤ 3 := by omega
    exact Nat.le_trans (Nat.pow_le_pow_right (by decide) this) (by decide)
  refine for_list (xs := vs) (fun i σ' H' => ∃ (cl lt : Addr) (cs : List Int) (lv : List V) (ld : List PyData) (w6 w7 : Option V), σ' = [some v, some (.ref rw'), some (.ref cl), some (.int (many : Int)), some (.int (0 + (l : Int))), some (.ref lt), w6, w7] ∧ Same HA H' ∧ H' cl = some (.lst (cs.map V.int)) ∧ (∀ c ∈ cs, 0 ≤ c ∧ c ≤ 3) ∧ cs.length ≤ many + i ∧
      H' lt = some (.lst lv) ∧ DqAll H' lv ld ∧ (∀ x ∈ ld, Tl (3 - l) x) ∧ ld.length ≤ 3 * i ∧ comb (some ((many : Int) + (i : Int), (cs.length : Int), zr cs)) (comb (tot ((ds.drop i).map fun x => (x, (l : Int)))) (tot (ld.map fun x => (x, (l : Int) + 1)))) = root d)
    ⟨cl, lt0, cs, [], [], _, _, rfl, same_refl, ecA, hcs, hcl, elA, .nil, fun x hx => absurd hx List.not_mem_nil, Nat.le_refl _, ?_⟩ (fun i σ H _ ⟨_, _, _, _, _, _, _, _, s, _⟩ => SqL.of (s _ _ erA)) ?_ ?_
  · show comb (some ((many : Int) + ((0 : Nat) : Int), _, _)) (comb (tot (ds.map fun x => (x, (l : Int)))) (some (0, 0, 0))) = root d
    rw [comb_zero, show (many : Int) + ((0 : Nat) : Int) = (many : Int) by omega]
    exact eq
  · rintro i y σ' H' hy ⟨cl, lt, cs, lv, ld, w6, w7, rfl, sB, ecB, hcsB, hclB, elB, qB, tlB, lenB, eqB⟩
    have hil : i < ds.length := by
      have := (List.getElem?_eq_some_iff.mp hy).1
      rw [qaA.len] at this
      exact this
    have hxi := List.getElem?_eq_getElem hil
    have hxm := List.getElem_mem hil
    have hdr := List.drop_eq_getElem_cons hil
    generalize ds[i] = x at hxi hxm hdr
    obtain ⟨vi, hvi, qx0⟩ := qaA.at hxi
    obtain rfl : y = vi := Option.some.inj (hy.symm.trans hvi)
    have tlx := tls x hxm
    obtain ⟨n4, hn4⟩ : ∃ n4, 4 - l = n4 + 1 ∧ n4 = 3 - l := ⟨3 - l, by omega, rfl⟩
    rw [hn4.1] at tlx
    obtain ⟨tlx1, tlx2⟩ := tlx
    have sHB := same_trans sA sB
    rw [hdr] at eqB
    refine ⟨_, rfl, y, rfl, y, x, rfl, sy.same sHB, qx0.same sB, tlx1, fun H3 s3 => ⟨_, rfl, ?_⟩⟩
    cases hno : nodeO x with
    | false =>
      refine iteT (stop ?_ H3 (same_trans sHB s3))
      rw [← eqB]
      show comb _ (comb (comb (lvl (x, (l : Int))) _) _) = none
      rw [node_stop (by omega) (by omega) hno]
      rfl
    | true =>
    refine iteF (nx_go ?_)
    dsimp only
    obtain ⟨a0, bs, r, rfl, r01, b3, elv, hpair⟩ := node_step (l := (l : Int)) (by omega) (by omega) hno
    have qx3 := (qx0.same sB).same s3
    obtain ⟨px, xs, rfl, ex, ax⟩ := dq_tup qx3
    obtain ⟨va, vb, vr, rfl, qa0, qb0, qr0⟩ : ∃ va vb vr, xs = va :: vb :: vr ∧ Dq H3 va a0 ∧ Dq H3 vb (.tuple bs) ∧ DqAll H3 vr r := by
      cases ax with
      | cons h1 ax =>
      cases ax with
      | cons h2 ax => exact ⟨_, _, _, rfl, h1, h2, ax⟩
    obtain ⟨pb, bv, rfl, eb, ab⟩ := dq_tup qb0
    have lr : (V.ref px = V.ref px) ∧ vr.length = r.length := ⟨rfl, qr0.len⟩
    -- the calls
    refine ⟨fun σ' H4 => ∃ (cl2 : Addr) (cs2 : List Int), σ' = [some v, some (.ref rw'), some (.ref cl2), some (.int (many : Int)), some (.int (0 + (l : Int))), some (.ref lt), some (.ref px), w7] ∧ Same H3 H4 ∧ H4 cl2 = some (.lst (cs2.map V.int)) ∧ (∀ c ∈ cs2, 0 ≤ c ∧ c ≤ 3) ∧ cs2.length ≤ many + (i + 1) ∧ (cs2.length : Int) = (cs.length : Int) + (r.length : Int) ∧ zr cs2 = zr cs + (if (l : Int) ≤ 0 then (r.length : Int) else 0), ?_, ?_⟩
    · refine ⟨_, rfl, _, rfl, px, _, rfl, .inr (SqT.of ex), rfl, _, rfl, ?_⟩
      have l3 : ((va :: V.ref pb :: vr).length : Int) = 2 + (r.length : Int) := by
        rw [List.length_cons, List.length_cons, lr.2]
        omega
      have csm : cs.length + 1 ≤ 1000000 := by
        have : ds.length ≤ 27 := Nat.le_trans len d3l
        omega
      rcases r01 with r0 | r1
      · have e3 : decide (V.int (((va :: V.ref pb :: vr).length : Nat) : Int) = V.int 3) = false := decide_eq_false fun z => by
          have := V.int.inj z
          rw [l3, r0] at this
          omega
        rw [e3]
        refine iteF ⟨Nat.zero_le _, fun p1 n1 => ⟨cl, p1, cs.map V.int, [], rfl, rfl, same_new n1 _ _ (s3 _ _ ecB), upd_same, ?_, fun p2 n2 => ?_⟩⟩
        · rw [List.length_map]
          exact Nat.le_trans (show cs.length + 0 ≤ 1000000 by omega) (by decide)
        · refine ⟨p2, cs, rfl, same_trans (same_new n1) (same_new n2), by rw [List.append_nil]; exact upd_same, hcsB, by omega, by rw [r0]; omega, by rw [r0]; split <;> omega⟩
      · have e3 : decide (V.int (((va :: V.ref pb :: vr).length : Nat) : Int) = V.int 3) = true := decide_eq_true (by
          rw [l3, r1]
          rfl)
        rw [e3]
        refine iteT ⟨_, rfl, by show 1 ≤ sizeLine; decide, fun p1 n1 => ⟨cl, p1, cs.map V.int, [.int (0 + (l : Int))], rfl, rfl, same_new n1 _ _ (s3 _ _ ecB), upd_same, ?_, fun p2 n2 => ?_⟩⟩
        · rw [List.length_map]
          exact Nat.le_trans (show cs.length + 1 ≤ 1000000 by omega) (by decide)
        · refine ⟨p2, cs ++ [0 + (l : Int)], rfl, same_trans (same_new n1) (same_new n2), ?_, ?_, ?_, ?_, ?_⟩
          · rw [upd_same, List.map_append]
            rfl
          · intro c hc
            rcases List.mem_append.mp hc with z | z
            · exact hcsB c z
            · rw [List.mem_singleton.mp z]
              omega
          · rw [List.length_append, List.length_singleton]
            omega
          · rw [List.length_append, List.length_singleton, r1]
            omega
          · rw [zr_app, r1]
            rw [show (0 + (l : Int)) = (l : Int) by omega]
            rfl
    rintro σ' H4 ⟨cl2, cs2, rfl, s4, ec4, hcs4, hcl4, cl4, zr4⟩
    have s34 := same_trans s3 s4
    have eb4 := s4 _ _ eb
    refine ⟨_, rfl, _, rfl, px, _, 1, .ref pb, rfl, rfl, SqT.of (s4 _ _ ex), atI_nat (j := 1) rfl, pb, rfl, ⟨_, SqT.of eb4⟩, fun D nD => ?_⟩
    refine lc_it (walk_tup (xs := bv)) (fun j H' => Same H4 H' ∧ ∃ ys, H' D = some (.lst ys) ∧ DqAll H4 ys ((bs.take j).map tgt)) ⟨same_new nD, [], upd_same, .nil⟩ (fun j H' _ p => SqT.of (p.1 _ _ eb4)) ?_ ?_
    · rintro j yy H5 H6 hj ⟨s5, ys, ey, qy⟩ ⟨rfl, hyj⟩
      have hjl : j < bs.length := by rw [← ab.len]; exact hj
      have hbj := List.getElem?_eq_getElem hjl
      have hbm := List.getElem_mem hjl
      generalize bs[j] = b at hbj hbm
      obtain ⟨u, t0, rfl⟩ := hpair b hbm
      obtain ⟨vj, hvj, qj⟩ := ab.at hbj
      obtain rfl : yy = vj := Option.some.inj (hyj.symm.trans hvj)
      obtain ⟨pj, vu, vt, rfl, ej, qu, qt⟩ := dq_pr qj
      refine ⟨rfl, ?_⟩
      unfold tYes
      refine iteT ⟨_, rfl, pj, _, 1, vt, rfl, rfl, SqT.of (same_trans s4 s5 _ _ ej), atI_nat (j := 1) rfl, ys, ey, small1000 ?_, fun b o z => ?_, ys ++ [vt], upd_same, ?_⟩
      · rw [qy.len, List.length_map, List.length_take]
        omega
      · rw [upd_ne (ne_of_none z nD)]
        exact s5 b o z
      · rw [tk_snoc hbj, List.map_append]
        exact qy.app (.cons (qt.same s4) .nil)
    rintro H5 ⟨s5, ys, ey, qy⟩
    rw [List.take_of_length_le (by rw [ab.len]; exact Nat.le_refl _)] at qy
    have elB5 := same_trans s34 s5 _ _ elB
    have lB' : lv.length = ld.length := qB.len
    have lY : ys.length = bs.length := by rw [qy.len, List.length_map]
    have i27 : i < 27 := by
      have : ds.length ≤ 27 := Nat.le_trans len d3l
      omega
    refine ⟨lt, D, lv, ys, rfl, rfl, elB5, ey, Nat.le_trans (show lv.length + ys.length ≤ 1000000 by omega) (by decide), fun p np => ?_⟩
    have sF := same_trans s5 (same_new (o := .lst (lv ++ ys)) np)
    refine ⟨cl2, p, cs2, lv ++ ys, ld ++ bs.map tgt, _, _, rfl, same_trans sB (same_trans s34 sF), sF _ _ ec4, hcs4, by omega, upd_same, ((qB.same s34).same sF).app (qy.same sF), ?_, ?_, ?_⟩
    · intro x hx
      rcases List.mem_append.mp hx with z | z
      · exact tlB x z
      · obtain ⟨b, hb, rfl⟩ := List.mem_map.mp z
        obtain ⟨u, t0, rfl⟩ := hpair b hb
        rw [← hn4.2]
        exact tlx2 a0 bs r rfl u t0 hb
    · rw [List.length_append, List.length_map]
      omega
    · rw [← eqB, List.map_append, tot_app, List.map_map]
      have e9 : tot (((.tuple (a0 :: .tuple bs :: r) : PyData) :: ds.drop (i + 1)).map fun x => (x, (l : Int))) = comb (lvl (.tuple (a0 :: .tuple bs :: r), (l : Int))) (tot ((ds.drop (i + 1)).map fun x => (x, (l : Int)))) := rfl
      rw [e9, elv]
      have e10 : (bs.map ((fun x => (x, (l : Int) + 1)) ∘ tgt)) = bs.map fun b => (tgt b, (l : Int) + 1) := rfl
      rw [e10]
      generalize tot ((ds.drop (i + 1)).map fun x => (x, (l : Int))) = T1
      generalize tot (ld.map fun x => (x, (l : Int) + 1)) = T2
      generalize tot (bs.map fun b => (tgt b, (l : Int) + 1)) = U3
      have es : (some ((many : Int) + ((i + 1 : Nat) : Int), (cs2.length : Int), zr cs2) : Option T3) = comb (some ((many : Int) + (i : Int), (cs.length : Int), zr cs)) (some (K01.start (l : Int) r.length)) := by
        unfold K01.start comb
        rw [cl4, zr4]
        simp [Int.add_assoc]
      rw [es]
      exact comb5 _ _ _ _ _
  · rintro σ' H' ⟨cl, lt, cs, lv, ld, w6, w7, rfl, sB, ecB, hcsB, hclB, elB, qB, tlB, lenB, eqB⟩
    have lvs : vs.length = ds.length := qaA.len
    refine ⟨_, rfl, _, rfl, rw', _, rfl, .inl (SqL.of (sB _ _ erA)), _, _, rfl, rfl, _, rfl, _, _, rfl, ?_⟩
    have ds27 : ds.length ≤ 27 := Nat.le_trans len d3l
    refine ⟨lt, cl, lv, ld, cs, many + vs.length, _, _, _, _, rfl, same_trans sA sB, elB, qB, fun x hx => ?_, ?_, ecB, hcsB, hclB, ?_, ?_⟩
    · have z := tlB x hx
      rw [show 4 - (l + 1) = 3 - l by omega]
      exact z
    · have z := lenB
      rw [lvs] at z
      rw [Nat.pow_succ]
      generalize 3 ^ l = y at *
      omega
    · omega
    · rw [lvs, List.drop_eq_nil_of_le (Nat.le_refl _)] at eqB
      have e0 : comb (tot (([] : List PyData).map fun x => (x, (l : Int)))) (tot (ld.map fun x => (x, (l : Int) + 1))) = tot (ld.map fun x => (x, (l : Int) + 1)) := by
        show comb (some (0, 0, 0)) _ = _
        rw [comb_comm, comb_zero]
      rw [e0] at eqB
      rw [lvs, show ((many + ds.length : Nat) : Int) = (many : Int) + (ds.length : Int) by omega, show (((l + 1 : Nat)) : Int) = (l : Int) + 1 by omega]
      exact eqB
end
end X48
set_option Elab.async false
set_option linter.all false
set_option maxRecDepth 100000
set_option maxHeartbeats 4000000
/-! _law_parts -/
namespace X48
open PySem L2 L2H DQ K01 RZ
def PartsV (H : Hp) (r : V) : Option (List (List Nat)) → Prop
  | none => r = .non
  | some ps => ∃ p, r = .ref p ∧ H p = some (.lst (ps.map fun m => V.str (S m)))
def spParts : Sp := fun vs H Q _ => ∃ x : Str, vs = [.str x] ∧ okL (lS x) ∧ ∀ r H', Same H H' → PartsV H' r (lparts 0 [] (lS x)) → Q r H'
abbrev nPa : List Str := ["text", "parts", "deep", "sign"]
theorem scPa : FnScope nPa ["text"] (defScope sParts) := ⟨rfl, rfl, rfl, by decide +kernel, rfl, by decide +kernel, by decide +kernel⟩
theorem sgn_eqS (c k : Nat) : decide (V.str (⟨#[c]⟩ : Str) = V.str (S [k])) = decide (c = k) := decide_eq_decide.mpr ⟨fun h => by
    have z : (⟨#[c]⟩ : Str) = S [k] := V.str.inj h
    have y : [c] = [k] := congrArg lS z
    injection y, fun h => by rw [h]; rfl⟩
theorem ixN_last (n : Nat) : ixN (n + 1) (-1) = some n := by
  unfold ixN
  rw [if_neg (by decide), if_pos (by omega)]
  congr 1
  omega
theorem at_lastV (xs : List V) (v : V) : atI (xs ++ [v]) (-1) = some v := by
  unfold atI
  rw [List.length_append, List.length_singleton, ixN_last]
  show (xs ++ [v])[xs.length]? = some v
  rw [List.getElem?_append_right (Nat.le_refl _), Nat.sub_self]
  rfl
theorem last_set {α : Type} (xs : List α) (a b : α) : (xs ++ [a]).set xs.length b = xs ++ [b] := by
  rw [List.set_append_right _ _ (Nat.le_refl _), Nat.sub_self]
  rfl
section
variable {P : Program} {w : World} {K : PySem.W.Frag} {mg : Str → Option Value} {base : Heap}
theorem ok_parts {f : Addr} {fd : FuncData} (F : Fun K "_law_parts" "_law_parts" sParts f fd) (tI : mg "int" = none) : FnOk P w K mg base CX0 1 f fd ["text"] spParts := by
  have bi : bootBuiltins ("int" : Str) = some (.type "int") := by decide +kernel
  refine F.ok (k := 0) scPa (fun vs H Q E h => ?_) (fun cdv A outer s H vs Q E hr h => ?_)
  · obtain ⟨x, rfl, _⟩ := h
    rfl
  · obtain ⟨x, rfl, ok, k⟩ := h
    refine ⟨_, pss_cons (ps_par rfl scPa.nd (i := 1) (j := 2) rfl rfl (by decide) rfl rfl (pa_cons (pe_lst (pa_cons pe_str pa_nil)) (pa_cons pe_int pa_nil)) rfl)
      (pss_cons (ps_for PassesOwn.never rfl (pi_str (pv 0)) (pg_name (i := 3) scPa.nd rfl (Or.inl rfl))
        (C8.pss_cut (ps_set (i := 2) scPa.nd rfl (Or.inl rfl) (pe_op op_sub (pe_op op_add (pv 2) (pe_callTy call_int1 (by rfl) tI bi (pa_cons (pe_cmpR op_eq (pv 3) pe_str (by rfl)) pa_nil))) (pe_callTy call_int1 (by rfl) tI bi (pa_cons (pe_cmpR op_eq (pv 3) pe_str (by rfl)) pa_nil))))
        (pss_cons (ps_if (pt_cmpR op_lt (pv 2) pe_int (by rfl)) (pss_one (ps_ret pe_non)) pss_nil)
        (pss_one (ps_if (PW.pt (pw_and (pt_cmpR op_eq (pv 3) pe_str (by rfl)) (pw_and1 (pt_cmpR op_eq (pv 2) pe_int (by rfl)))))
          (pss_one (ps_expr (pe_bm PySem.F.plainAttrs_list PySem.F.slot_list_append PySem.F.type_list_append mt_append (pv 1) (pa_cons pe_str pa_nil))))
          (pss_one (ps_asg (pe_op op_add_str (pe_ix ix_list (pv 1) (pe_un un_neg pe_int) (fun _ _ => rfl)) (pv 3)) (pg_sub (pv 1) (pe_un un_neg pe_int) set_list))))))))
      (pss_one (ps_ret (pe_ifExp (pt_cmpR op_eq (pv 2) pe_int (by rfl)) (pv 1) pe_non)))), ?_⟩
    refine ⟨by show 1 ≤ sizeLine; decide, fun D nD => ⟨_, _, rfl, ?_⟩⟩
    refine ⟨_, rfl, x, rfl, for_it walk_str (fun i σ' H' => ∃ (dp : Nat) (done : List (List Nat)) (cur : List Nat) (w3 : Option V), σ' = [some (.str x), some (.ref D), some (.int (dp : Int)), w3] ∧ Same H H' ∧ H' D = some (.lst ((done.map fun m => V.str (S m)) ++ [.str (S cur)])) ∧ lparts 0 [] (lS x) = (lparts dp cur ((lS x).drop i)).map (done ++ ·) ∧ cur.length ≤ i ∧ done.length ≤ i)
      ⟨0, [], [], _, rfl, same_new nD, upd_same, ?_, Nat.le_refl _, Nat.le_refl _⟩ (fun _ _ _ _ _ => trivial) ?_ ?_⟩
    · rw [List.drop_zero]
      cases lparts 0 [] (lS x) <;> rfl
    · rintro i y σ' HA H1 hi ⟨dp, done, cur, w3, rfl, s1, eD, el, lc, ld⟩ ⟨rfl, c, hc, rfl⟩
      have hil : i < (lS x).length := by
        rw [← len_lS]
        exact hi
      have hcl : (lS x)[i]? = some c := by
        show x.cps.toList[i]? = some c
        rw [Array.getElem?_toList]
        exact hc
      have hdr : (lS x).drop i = c :: (lS x).drop (i + 1) := by
        rw [List.drop_eq_getElem_cons hil]
        congr 1
        exact (List.getElem?_eq_some_iff.mp hcl).2
      rw [hdr] at el
      have oi := ok.1
      obtain ⟨dv, hdv⟩ : ∃ dv : Int, dv = (dp : Int) + (if c = 40 then 1 else 0) - (if c = 41 then 1 else 0) := ⟨_, rfl⟩
      refine ⟨fun σ' H2 => H1 = H2 ∧ σ' = [some (.str x), some (.ref D), some (.int dv), some (.str ⟨#[c]⟩)], ?_, ?_⟩
      · refine ⟨_, rfl, _, rfl, rfl, .inr ⟨_, rfl, _, _, rfl, rfl, _, rfl, rfl, .inr ⟨_, rfl, _, _, rfl, rfl, rfl, ?_⟩⟩⟩
        rw [S_open, S_close, sgn_eqS, sgn_eqS, hdv]
        by_cases a1 : c = 40
        · by_cases a2 : c = 41
          · omega
          · simp [a1]
        · by_cases a2 : c = 41
          · simp [a2]
          · simp [a1, a2]
      rintro σ' H2 ⟨rfl, rfl⟩
      refine tseq_of ⟨_, rfl, _, _, rfl, rfl, _, rfl, ?_⟩
      -- a sign that is put on
      have puts : ∀ (dp' : Nat) (DE : Ends), (∀ σ' H', (∃ (dp : Nat) (done : List (List Nat)) (cur : List Nat) (w3 : Option V), σ' = [some (.str x), some (.ref D), some (.int (dp : Int)), w3] ∧ Same H H' ∧ H' D = some (.lst ((done.map fun m => V.str (S m)) ++ [.str (S cur)])) ∧ lparts 0 [] (lS x) = (lparts dp cur ((lS x).drop (i + 1))).map (done ++ ·) ∧ cur.length ≤ i + 1 ∧ done.length ≤ i + 1) → DE.nx σ' H') →
          lparts 0 [] (lS x) = (lparts dp' (cur ++ [c]) ((lS x).drop (i + 1))).map (done ++ ·) →
          tAsg (tOp (fun x y H Q => ∃ i j, x = V.str i ∧ y = V.str j ∧ i.length + j.length ≤ sizeLine ∧ Q (V.str (i ++ j)) H) (tOp (rIxL K) (tVar 1) (tUn (rU fun i => V.int (-i)) (tC (V.int 1)))) (tVar 3)) (gSub (tVar 1) (tUn (rU fun i => V.int (-i)) (tC (V.int 1))) rSetL)
            DE [some (.str x), some (.ref D), some (.int (dp' : Int)), some (.str ⟨#[c]⟩)] H1 := fun dp' DE hDE el' => by
        have lm : ((done.map fun m => V.str (S m)) ++ [V.str (S cur)]).length = (done.map fun m => V.str (S m)).length + 1 := by rw [List.length_append, List.length_singleton]
        have hat : atI ((done.map fun m => V.str (S m)) ++ [V.str (S cur)]) (-1) = some (V.str (S cur)) := at_lastV _ _
        refine ⟨_, rfl, _, rfl, D, _, -1, .str (S cur), rfl, rfl, SqL.of eD, hat, _, rfl, S cur, _, rfl, rfl, ?_, ?_⟩
        · rw [len_S, show (⟨#[c]⟩ : Str).length = 1 from rfl]
          exact m62 (show cur.length ≤ 1000000 by omega) |> Nat.le_trans (by omega)
        have ec : (S cur ++ (⟨#[c]⟩ : Str) : Str) = S (cur ++ [c]) := apS cur [c]
        rw [ec]
        refine ⟨_, rfl, _, rfl, D, _, -1, (done.map fun m => V.str (S m)).length, rfl, rfl, eD, ?_, ?_⟩
        · rw [lm]
          exact ixN_last _
        · rw [last_set]
          refine hDE _ _ ⟨dp', done, cur ++ [c], _, rfl, fun b o z => ?_, upd_same, el', ?_, by omega⟩
          · rw [upd_ne (ne_of_none z nD)]
            exact s1 b o z
          · rw [List.length_append, List.length_singleton]
            omega
      by_cases c41 : c = 41
      · subst c41
        rw [if_neg (by decide), if_pos rfl] at hdv
        cases dp with
        | zero =>
          rw [decide_eq_true (show dv < 0 by omega)]
          refine iteT (k .non H1 s1 ?_)
          rw [el]
          rfl
        | succ dp =>
          obtain rfl : dv = (dp : Int) := by omega
          rw [decide_eq_false (show ¬ (dp : Int) < 0 by omega)]
          refine iteF (nx_go ?_)
          refine ⟨_, rfl, rfl, _, rfl, ?_⟩
          rw [S_comma, sgn_eqS]
          refine iteF (puts dp _ (fun _ _ h => h) ?_)
          rw [el, lp_close]
      · rw [if_neg c41] at hdv
        by_cases c40 : c = 40
        · subst c40
          rw [if_pos rfl] at hdv
          obtain rfl : dv = ((dp + 1 : Nat) : Int) := by omega
          rw [decide_eq_false (show ¬ ((dp + 1 : Nat) : Int) < 0 by omega)]
          refine iteF (nx_go ?_)
          refine ⟨_, rfl, rfl, _, rfl, ?_⟩
          rw [S_comma, sgn_eqS]
          refine iteF (puts (dp + 1) _ (fun _ _ h => h) ?_)
          rw [el, lp_open]
        · rw [if_neg c40] at hdv
          obtain rfl : dv = (dp : Int) := by omega
          rw [decide_eq_false (show ¬ (dp : Int) < 0 by omega)]
          refine iteF (nx_go ?_)
          refine ⟨_, rfl, rfl, _, rfl, ?_⟩
          rw [S_comma, sgn_eqS]
          by_cases c44 : c = 44
          · subst c44
            refine iteT ⟨_, rfl, rfl, _, rfl, ?_⟩
            by_cases h0 : dp = 0
            · subst h0
              rw [decide_eq_true (show V.int ((0 : Nat) : Int) = V.int 0 from rfl)]
              refine iteT ⟨_, rfl, .inl ⟨rfl, _, SqL.of eD⟩, D, _, _, rfl, rfl, eD, ?_, ?_⟩
              · rw [List.length_append, List.length_map, List.length_singleton]
                exact Nat.lt_of_le_of_lt (show done.length + 1 ≤ 1000001 by omega) (by decide)
              · refine ⟨0, done ++ [cur], [], _, rfl, fun b o z => ?_, ?_, ?_, Nat.zero_le _, ?_⟩
                · rw [upd_ne (ne_of_none z nD)]
                  exact s1 b o z
                · rw [upd_same, List.map_append]
                  rfl
                · rw [el, lp_comma, Option.map_map]
                  congr 1
                  funext z
                  simp
                · rw [List.length_append, List.length_singleton]
                  omega
            · rw [decide_eq_false (show ¬ V.int (dp : Int) = V.int 0 from fun z => h0 (by have := V.int.inj z; omega))]
              refine iteF (puts dp _ (fun _ _ h => h) ?_)
              rw [el, lp_ch ⟨by decide, by decide, .inr h0⟩]
          · rw [decide_eq_false c44]
            refine iteF (puts dp _ (fun _ _ h => h) ?_)
            rw [el, lp_ch ⟨c41, c40, .inl c44⟩]
    · rintro σ' H1 ⟨dp, done, cur, w3, rfl, s1, eD, el, lc, ld⟩
      rw [List.drop_eq_nil_of_le (by rw [← len_lS]; exact Nat.le_refl _)] at el
      refine ⟨_, rfl, rfl, _, rfl, ?_⟩
      by_cases h0 : dp = 0
      · subst h0
        rw [decide_eq_true (show V.int ((0 : Nat) : Int) = V.int 0 from rfl)]
        refine iteT ⟨_, rfl, k _ H1 s1 ?_⟩
        rw [el]
        refine ⟨D, rfl, ?_⟩
        rw [eD, List.map_append]
        rfl
      · rw [decide_eq_false (show ¬ V.int (dp : Int) = V.int 0 from fun z => h0 (by have := V.int.inj z; omega))]
        refine iteF (k _ H1 s1 ?_)
        rw [el]
        have : lparts dp cur [] = none := by
          simp only [lparts]
          rw [if_neg h0]
        rw [this]
        rfl
end
end X48
set_option Elab.async false
set_option linter.all false
set_option maxRecDepth 100000
set_option maxHeartbeats 8000000
/-! _law_read_node -/
namespace X48
open PySem L2 L2H DQ K01 RZ
def spLR (n : Nat) : Sp := fun vs H Q _ => ∃ (x : Str) (lv : Int), vs = [.str x, .int lv] ∧ lv + (n : Int) = 4 ∧ okL (lS x) ∧ ∀ r H', Same H H' → ToldV H' r (lread n (lS x)) → Q r H'
abbrev nLR : List Str := ["text", "level", "spot", "ahead", "inner", "bare", "branches", "parts", "part", "word", "below", "marks"]
theorem scLR : FnScope nLR ["text", "level"] (defScope sRNode) := ⟨rfl, rfl, rfl, by decide +kernel, rfl, by decide +kernel, by decide +kernel⟩
structure TL8 (mg : Str → Option Value) : Prop where
  len : mg "len" = none
  tuple : mg "tuple" = none
def inn (l : List Nat) : List Nat := ((l.dropWhile n4).drop 1).dropLast
def innV (l : List Nat) : V := if 40 ∈ l then .str (S (inn l)) else .non
theorem fnd40 (l : List Nat) : fnd 40 l 0 = if 40 ∈ l then (((l.takeWhile n4).length : Nat) : Int) else -1 := by
  unfold fnd
  rw [List.drop_zero]
  split
  · show ((0 + (l.takeWhile n4).length : Nat) : Int) = _
    rw [Nat.zero_add]
  · rfl
theorem take_tw (l : List Nat) : l.take (l.takeWhile n4).length = l.takeWhile n4 := by
  have z := List.take_left (l₁ := l.takeWhile n4) (l₂ := l.dropWhile n4)
  rw [List.takeWhile_append_dropWhile] at z
  exact z
theorem drop_tw (l : List Nat) : l.drop ((l.takeWhile n4).length + 1) = (l.dropWhile n4).drop 1 := by
  have z := List.drop_left (l₁ := l.takeWhile n4) (l₂ := l.dropWhile n4)
  rw [List.takeWhile_append_dropWhile] at z
  rw [← List.drop_drop, z]
theorem isX_take (l : List Nat) : decide (l.take 1 = [33]) = isX l := by
  cases l with
  | nil => rfl
  | cons a l =>
    unfold isX
    rw [Bool.eq_iff_iff]
    simp
theorem last_41 (l : List Nat) : decide (l.drop (l.length - 1) = [41]) = decide (l.getLast? = some 41) := by
  apply decide_eq_decide.mpr
  rw [List.getLast?_eq_getElem?]
  cases l with
  | nil => simp
  | cons a l =>
    have hl : l.length < (a :: l).length := by simp
    rw [List.length_cons, Nat.add_sub_cancel, List.drop_eq_getElem_cons hl, List.getElem?_eq_getElem hl, List.drop_eq_nil_of_le (by simp)]
    simp
theorem sp_head (c : Nat) : ∀ l : List Nat, (sp c l)[0]? = some (l.takeWhile fun x => !(x == c))
  | [] => rfl
  | x :: r => by
    have ih := sp_head c r
    simp only [sp]
    by_cases h : x = c
    · rw [if_pos h, List.takeWhile_cons, if_neg (by simp [h])]
      rfl
    · rw [if_neg h, List.takeWhile_cons, if_pos (by simpa using h)]
      cases e : sp c r with
      | nil =>
        rw [e] at ih
        cases ih
      | cons y t =>
        rw [e] at ih
        obtain rfl := Option.some.inj (show some y = some (r.takeWhile fun x => !(x == c)) from ih)
        rfl
theorem lparts_ne : ∀ {l : List Nat} {d : Nat} {cur : List Nat} {ps : List (List Nat)}, lparts d cur l = some ps → ps ≠ []
  | [], d, cur, ps, h => by
    simp only [lparts] at h
    split at h
    · cases h
      simp
    · cases h
  | c :: r, d, cur, ps, h => by
    simp only [lparts] at h
    split at h
    · split at h
      · cases h
      · exact lparts_ne h
    · split at h
      · exact lparts_ne h
      · split at h
        · obtain ⟨qs, _, e⟩ := Option.map_eq_some_iff.mp h
          rw [← e]
          simp
        · exact lparts_ne h
theorem lparts_len : ∀ {l : List Nat} {d : Nat} {cur : List Nat} {ps : List (List Nat)}, lparts d cur l = some ps → ps.length ≤ l.length + 1
  | [], d, cur, ps, h => by
    simp only [lparts] at h
    split at h
    · cases h
      exact Nat.le_refl _
    · cases h
  | c :: r, d, cur, ps, h => by
    rw [List.length_cons]
    simp only [lparts] at h
    split at h
    · split at h
      · cases h
      · have := lparts_len h
        omega
    · split at h
      · have := lparts_len h
        omega
      · split at h
        · obtain ⟨qs, hq, e⟩ := Option.map_eq_some_iff.mp h
          have := lparts_len hq
          rw [← e, List.length_cons]
          omega
        · have := lparts_len h
          omega
theorem lparts_sub : ∀ {l : List Nat} {d : Nat} {cur : List Nat} {ps : List (List Nat)}, lparts d cur l = some ps → ∀ p ∈ ps, p.length ≤ cur.length + l.length ∧ ∀ x ∈ p, x ∈ cur ∨ x ∈ l
  | [], d, cur, ps, h, p, hp => by
    simp only [lparts] at h
    split at h
    · cases h
      rw [List.mem_singleton.mp hp]
      exact ⟨Nat.le_add_right _ _, fun x hx => .inl hx⟩
    · cases h
  | c :: r, d, cur, ps, h, p, hp => by
    have step : ∀ d', lparts d' (cur ++ [c]) r = some ps → p.length ≤ cur.length + (c :: r).length ∧ ∀ x ∈ p, x ∈ cur ∨ x ∈ c :: r := fun d' h' => by
      obtain ⟨a, b⟩ := lparts_sub h' p hp
      rw [List.length_append, List.length_singleton] at a
      refine ⟨by rw [List.length_cons]; omega, fun x hx => ?_⟩
      rcases b x hx with z | z
      · rcases List.mem_append.mp z with z | z
        · exact .inl z
        · rw [List.mem_singleton.mp z]
          exact .inr (List.mem_cons_self ..)
      · exact .inr (List.mem_cons_of_mem _ z)
    simp only [lparts] at h
    split at h
    · split at h
      · cases h
      · exact step _ h
    · split at h
      · exact step _ h
      · split at h
        · obtain ⟨qs, hq, e⟩ := Option.map_eq_some_iff.mp h
          rw [← e] at hp
          rcases List.mem_cons.mp hp with rfl | hp
          · exact ⟨by omega, fun x hx => .inl hx⟩
          · obtain ⟨a, b⟩ := lparts_sub hq p hp
            refine ⟨by rw [List.length_cons]; rw [List.length_nil] at a; omega, fun x hx => ?_⟩
            rcases b x hx with z | z
            · exact absurd z List.not_mem_nil
            · exact .inr (List.mem_cons_of_mem _ z)
        · exact step _ h
section
variable {P : Program} {w : World} {K : PySem.W.Frag} {mg : Str → Option Value} {base : Heap}
theorem ok_lr {f fP : Addr} {fd dP : FuncData} (F : Fun K "_law_read_node" "_law_read_node" sRNode f fd) (bF : Binds K fd ["text", "level"] []) (gF : mg "_law_read_node" = some (.ref f))
    (FP : Fun K "_law_parts" "_law_parts" sParts fP dP) (bP : Binds K dP ["text"] []) (gP : mg "_law_parts" = some (.ref fP)) (GP : FnOk P w K mg base CX0 1 fP dP ["text"] spParts) (T : TL8 mg) :
    ∀ n, FnOk P w K mg base CX0 (2 + n) f fd ["text", "level"] (spLR n) := by
  have go : ∀ n, (∀ m, n = m + 1 → FnOk P w K mg base CX0 (2 + m) f fd ["text", "level"] (spLR m)) → FnOk P w K mg base CX0 (2 + n) f fd ["text", "level"] (spLR n) := by
    intro n ih0
    have ih : FnOk P w K mg base CX0 (1 + n) f fd ["text", "level"] (fun vs H Q E => 0 < n ∧ spLR (n - 1) vs H Q E) := by
      cases n with
      | zero => exact fn_never.imp fun vs H Q E h => absurd h.1 (by decide)
      | succ m =>
        have z := ih0 m rfl
        rw [show 1 + (m + 1) = 2 + m by omega]
        exact z.imp fun vs H Q E h => h.2
    rw [show 2 + n = (1 + n) + 1 by omega]
    refine F.ok (k := 1 + n) scLR (fun vs H Q E h => ?_) (fun cdv A outer s H vs Q E hr h => ?_)
    · obtain ⟨x, lv, rfl, _⟩ := h
      rfl
    · obtain ⟨x, lv, rfl, hlv, ok, k⟩ := h
      refine ⟨_, pss_cons (ps_set (i := 2) scLR.nd rfl (Or.inl rfl) (pe_bm PySem.F.plainAttrs_str PySem.F.slot_str_find PySem.F.type_str_find mt_find (pv 0) (pa_cons pe_str pa_nil)))
        (C8.pss_cut (ps_asg (pe_ifExp (pt_cmpR op_lt (pv 2) pe_int (by rfl)) (pe_tup (pa_cons (pv 0) (pa_cons pe_non pa_nil))) (pe_tup (pa_cons (pe_slice sl_str (pv 0) po_none (po_some (pv 2))) (pa_cons (pe_slice sl_str (pv 0) (po_some (pe_op op_add (pv 2) pe_int)) (po_some (pe_un un_neg pe_int))) pa_nil))))
            (pg_tup (n := 2) rfl (pgs_cons (pg_name (i := 3) scLR.nd rfl (Or.inl rfl)) (pgs_cons (pg_name (i := 4) scLR.nd rfl (Or.inl rfl)) pgs_nil))))
        (C8.pss_cut (ps_if (PW.pt (pw_or (pt_cmpR op_gt (pv 1) pe_int (by rfl)) (pw_or1 (PW.pt (pw_and (pt_cmpR op_notN (pv 4) pe_non (nomark _)) (pw_and1 (PW.pt (pw_or (pt_cmpR op_ne (pe_slice sl_str (pv 0) (po_some (pe_un un_neg pe_int)) po_none) pe_str (by rfl)) (pw_or1 (pt_cmpR op_eq (pv 4) pe_str (by rfl)))))))))))
          (pss_one (ps_ret pe_non)) pss_nil)
        (C8.pss_cut (ps_par rfl scLR.nd (i := 5) (j := 6) rfl rfl (by decide) rfl rfl (pa_cons (pe_ifExp (pt_cmpR op_eq (pe_slice sl_str (pv 3) po_none (po_some pe_int)) pe_str (by rfl)) (pe_slice sl_str (pv 3) (po_some pe_int) po_none) (pv 3)) (pa_cons (pe_lst pa_nil) pa_nil)) rfl)
        (C8.pss_cut (ps_set (i := 7) scLR.nd rfl (Or.inl rfl) (pe_ifExp (pt_cmpR op_notN (pv 4) pe_non (nomark _)) (pe_call GP (hr.mono (by omega)) (by rfl) gP FP.kp bP .nil pass0 (pa_cons (pv 4) pa_nil)) (pe_lst pa_nil)))
        (pss_cons (ps_if (PW.pt (pw_or (pt_cmpR op_isN (pv 7) pe_non (nomark _)) (pw_or1 (pt_cmpR op_eq (pv 5) pe_str (by rfl))))) (pss_one (ps_ret pe_non)) pss_nil)
        (C8.pss_cut (ps_for PassesOwn.never rfl (pi_list (pv 7)) (pg_name (i := 8) scLR.nd rfl (Or.inl rfl))
          (pss_cons (ps_set (i := 9) scLR.nd rfl (Or.inl rfl) (pe_ix ix_list (pe_split (pv 8) pe_str) pe_int (fun _ _ => rfl)))
          (C8.pss_cut (ps_set (i := 10) scLR.nd rfl (Or.inl rfl) (pe_ifExp (pt_cmpR op_ne (pv 8) (pv 9) (by rfl)) (pe_call ih hr (by rfl) gF F.kp bF .nil pass0 (pa_cons (pe_slice sl_str (pv 8) (po_some (pe_op op_add (pe_callB call_len_str (by rfl) T.len PySem.boot_len (pa_cons (pv 9) pa_nil)) pe_int)) po_none) (pa_cons (pe_op op_add (pv 1) pe_int) pa_nil))) pe_non))
          (pss_cons (ps_if (pt_cmpR op_isN (pv 10) pe_non (nomark _)) (pss_one (ps_ret pe_non)) pss_nil)
          (pss_one (ps_expr (pe_bm PySem.F.plainAttrs_list PySem.F.slot_list_append PySem.F.type_list_append mt_append (pv 6) (pa_cons (pe_tup (pa_cons (pv 9) (pa_cons (pv 10) pa_nil))) pa_nil))))))))
        (C8.pss_cut (ps_set (i := 11) scLR.nd rfl (Or.inl rfl) (pe_ifExp (pt_cmpR op_eq (pv 5) pe_str (by rfl)) (pe_tup pa_nil) (pe_callTy call_tuple_of (by rfl) T.tuple btup (pa_cons (pe_split (pv 5) pe_str) pa_nil))))
        (pss_one (ps_ret (pe_op op_catF (pe_tup (pa_cons (pv 11) (pa_cons (pe_callTy call_tuple_of (by rfl) T.tuple btup (pa_cons (pv 6) pa_nil)) pa_nil))) (pe_ifExp (pt_cmpR op_eq (pe_slice sl_str (pv 3) po_none (po_some pe_int)) pe_str (by rfl)) (pe_tup (pa_cons pe_str pa_nil)) (pe_tup pa_nil)))))))))))), ?_⟩
      have hx : x.length ≤ 1000000 := by rw [len_lS]; exact ok.1
      have kn : ∀ H', Same H H' → lread n (lS x) = none → Q .non H' := fun H' s' e => k .non H' s' (by rw [e]; rfl)
      obtain ⟨l, hl⟩ : ∃ l, l = lS x := ⟨_, rfl⟩
      rw [← hl] at ok k kn
      refine ⟨_, rfl, rfl, x, _, rfl, rfl, ?_⟩
      rw [S_open, find_one, ← hl, fnd40]
      -- ahead, inner
      refine ⟨fun σ' H2 => Same H H2 ∧ ∃ w2, σ' = [some (.str x), some (.int lv), w2, some (.str (S (l.takeWhile n4))), some (innV l), none, none, none, none, none, none, none], ?_, ?_⟩
      · refine ⟨_, rfl, _, _, rfl, rfl, _, rfl, ?_⟩
        by_cases h40 : 40 ∈ l
        · rw [if_pos h40, decide_eq_false (by omega)]
          refine iteF ⟨_, rfl, _, rfl, (((l.takeWhile n4).length : Nat) : Int), rfl, x, rfl, m6 hx, _, rfl, _, rfl, _, _, rfl, rfl, (((l.takeWhile n4).length + 1 : Nat) : Int), rfl, 1, rfl, -1, rfl, x, rfl, m6 hx, by show 2 ≤ sizeLine; decide, fun p np => ⟨p, _, rfl, SqT.of upd_same, rfl, _, _, rfl, _, _, rfl, rfl, same_new np, some (.int (((l.takeWhile n4).length : Nat) : Int)), ?_⟩⟩
          rw [cut_to, cut_but_last, ← hl, take_tw, drop_tw]
          unfold innV
          rw [if_pos h40]
          rfl
        · rw [if_neg h40, decide_eq_true (by decide)]
          refine iteT ⟨_, rfl, by show 2 ≤ sizeLine; decide, fun p np => ⟨p, _, rfl, SqT.of upd_same, rfl, _, _, rfl, _, _, rfl, rfl, same_new np, some (.int (-1)), ?_⟩⟩
          have e1 : l.takeWhile n4 = l := by
            have z := tw_app (p := n4) (w := l) (r := []) (fun c hc => by
              unfold n4
              have : c ≠ 40 := fun z => h40 (z ▸ hc)
              simpa using this) fun c hc => by cases hc
            rw [List.append_nil] at z
            exact z.1
          rw [e1]
          unfold innV
          rw [if_neg h40, hl, S_lS]
          rfl
      rintro σ' H2 ⟨s2, w2, rfl⟩
      have okt : okL (l.takeWhile n4) := okL_sub ok (List.takeWhile_sublist n4).length_le fun c hc => (List.takeWhile_sublist n4).subset hc
      have oki : okL (inn l) := okL_sub ok (by
        unfold inn
        rw [List.length_dropLast, List.length_drop]
        have := (List.dropWhile_suffix n4 (l := l)).length_le
        omega) fun c hc => (List.dropWhile_suffix n4).subset (List.mem_of_mem_drop (List.dropLast_subset _ hc))
      have l41 : (lS x).drop ((lS x).length - 1) = l.drop (l.length - 1) := by rw [← hl]
      refine ⟨fun σ' H3 => H2 = H3 ∧ 0 < n ∧ σ' = [some (.str x), some (.int lv), w2, some (.str (S (l.takeWhile n4))), some (innV l), none, none, none, none, none, none, none] ∧ (40 ∉ l ∧ lin l = some [] ∨ 40 ∈ l ∧ lin l = lparts 0 [] (inn l)), ?_, ?_⟩
      · refine ⟨_, rfl, _, _, rfl, rfl, _, rfl, ?_⟩
        by_cases n0 : n = 0
        · rw [decide_eq_true (show lv > 3 by omega)]
          refine iteT (kn H2 s2 (by rw [n0]; rfl))
        rw [decide_eq_false (show ¬ lv > 3 by omega)]
        refine iteF ⟨_, rfl, rfl, _, rfl, ?_⟩
        by_cases h40 : 40 ∈ l
        · have ei : innV l = .str (S (inn l)) := by
            unfold innV
            rw [if_pos h40]
          rw [ei, decide_eq_false (show ¬ V.str (S (inn l)) = V.non from fun z => by cases z)]
          have el : lin l = if l.getLast? ≠ some 41 ∨ inn l = [] then none else lparts 0 [] (inn l) := by
            unfold lin
            rw [if_pos h40]
            rfl
          have nn : (l.getLast? ≠ some 41 ∨ inn l = []) → lread n l = none := fun z => by
            cases n with
            | zero => rfl
            | succ n =>
              simp only [lread]
              rw [el, if_pos z]
          refine iteT ⟨_, rfl, 1, rfl, -1, rfl, x, rfl, m6 hx, rfl, _, rfl, ?_⟩
          rw [cut_last, l41, S_close, str_eqL, lS_S, last_41]
          by_cases g : l.getLast? = some 41
          · rw [decide_eq_true g]
            refine iteF ⟨_, rfl, rfl, _, rfl, ?_⟩
            rw [show ("" : Str) = S [] by decide +kernel, str_eqL, lS_S]
            by_cases e0 : inn l = []
            · rw [decide_eq_true e0]
              exact iteT (kn H2 s2 (nn (.inr e0)))
            · rw [decide_eq_false e0]
              refine iteF (nx_go ⟨rfl, by omega, rfl, .inr ⟨h40, ?_⟩⟩)
              rw [el, if_neg (fun z => z.elim (fun y => y g) e0)]
          · rw [decide_eq_false g]
            exact iteT (kn H2 s2 (nn (.inl g)))
        · have ei : innV l = .non := by
            unfold innV
            rw [if_neg h40]
          rw [ei]
          refine iteF (nx_go ⟨rfl, by omega, rfl, .inl ⟨h40, ?_⟩⟩)
          unfold lin
          rw [if_neg h40]
      rintro σ' H3 ⟨rfl, npos, rfl, hlin⟩
      obtain ⟨m, rfl⟩ : ∃ m, n = m + 1 := ⟨n - 1, by omega⟩
      have lk : lread (m + 1) l = match lin l with
        | none => none
        | some ps => if bare l = [] then none else match lreadB (lread m) ps with
          | none => none
          | some bs => some (.mk (sm (bare l)) bs (isX (l.takeWhile n4))) := rfl
      rw [lk] at k kn
      clear lk
      -- bare, branches
      have okb : okL (bare l) := by
        unfold bare
        split
        · exact okL_drop okt 1
        · exact okt
      refine ⟨fun σ' H3 => Same H2 H3 ∧ ∃ D, σ' = [some (.str x), some (.int lv), w2, some (.str (S (l.takeWhile n4))), some (innV l), some (.str (S (bare l))), some (.ref D), none, none, none, none, none] ∧ H3 D = some (.lst []) ∧ H2 D = none, ?_, ?_⟩
      · have mt : (S (l.takeWhile n4)).length ≤ sizeLine := by rw [len_S]; exact m6 okt.1
        refine ⟨_, rfl, 1, rfl, _, rfl, mt, rfl, _, rfl, ?_⟩
        rw [show L2.cutS (S (l.takeWhile n4)) none (some 1) = S ((l.takeWhile n4).take 1) from cut_to (S (l.takeWhile n4)) 1, S_bang, str_eqL, lS_S, isX_take]
        unfold bare
        cases hX : isX (l.takeWhile n4) with
        | true =>
          refine iteT ⟨_, rfl, 1, rfl, _, rfl, mt, Nat.zero_le _, fun D nD => ⟨_, _, rfl, same_new nD, D, ?_, upd_same, nD⟩⟩
          rw [show L2.cutS (S (l.takeWhile n4)) (some 1) none = S ((l.takeWhile n4).drop 1) from cut_from (S (l.takeWhile n4)) 1]
          rfl
        | false =>
          exact iteF ⟨_, rfl, Nat.zero_le _, fun D nD => ⟨_, _, rfl, same_new nD, D, rfl, upd_same, nD⟩⟩
      rintro σ' H3 ⟨s3, D, rfl, eD, nD⟩
      -- parts
      refine ⟨fun σ' H4 => Same H3 H4 ∧ ∃ vp, σ' = [some (.str x), some (.int lv), w2, some (.str (S (l.takeWhile n4))), some (innV l), some (.str (S (bare l))), some (.ref D), some vp, none, none, none, none] ∧ PartsV H4 vp (lin l) ∧ vp ≠ .ref D, ?_, ?_⟩
      · refine ⟨_, rfl, rfl, _, rfl, ?_⟩
        rcases hlin with ⟨h40, el⟩ | ⟨h40, el⟩
        · have ei : innV l = .non := by
            unfold innV
            rw [if_neg h40]
          rw [ei]
          refine iteF ⟨Nat.zero_le _, fun p np => ⟨same_new np, .ref p, rfl, ?_, fun z => ne_of_none eD np (V.ref.inj z).symm⟩⟩
          rw [el]
          exact ⟨p, rfl, upd_same⟩
        · have ei : innV l = .str (S (inn l)) := by
            unfold innV
            rw [if_pos h40]
          rw [ei, decide_eq_false (show ¬ V.str (S (inn l)) = V.non from fun z => by cases z)]
          refine iteT ⟨_, rfl, S (inn l), rfl, oki, fun r H4 s4 hp0 => ⟨s4, r, rfl, ?_, ?_⟩⟩
          · rw [el]
            exact hp0
          · intro z
            have hp : PartsV H4 r (lparts 0 [] (inn l)) := hp0
            cases hq : lparts 0 [] (inn l) with
            | none =>
              rw [hq] at hp
              rw [show r = .non from hp] at z
              cases z
            | some ps =>
              rw [hq] at hp
              obtain ⟨p, rfl, ep⟩ := hp
              rw [V.ref.inj z, s4 _ _ eD] at ep
              have y := HO.lst.inj (Option.some.inj ep)
              exact lparts_ne hq (List.map_eq_nil_iff.mp y.symm)
      rintro σ' H4 ⟨s4, vp, rfl, hvp, nvp⟩
      have s24 := same_trans s2 (same_trans s3 s4)
      refine tseq_of ⟨_, rfl, rfl, _, rfl, ?_⟩
      cases hli : lin l with
      | none =>
        rw [hli] at hvp
        obtain rfl : vp = .non := hvp
        exact iteT (kn H4 s24 (by rw [hli]))
      | some ps =>
      rw [hli] at hvp k kn
      obtain ⟨pp, rfl, epp⟩ := hvp
      refine iteF ⟨_, rfl, rfl, _, rfl, ?_⟩
      rw [show ("" : Str) = S [] by decide +kernel, str_eqL, lS_S]
      by_cases hb0 : bare l = []
      · rw [decide_eq_true hb0]
        exact iteT (kn H4 s24 (if_pos hb0))
      rw [decide_eq_false hb0]
      refine iteF (nx_go ?_)
      dsimp only
      have k2 : ∀ r H', Same H H' → ToldV H' r (match lreadB (lread m) ps with | none => none | some bs => some (.mk (sm (bare l)) bs (isX (l.takeWhile n4)))) → Q r H' := fun r H' s' t => k r H' s' (by
        show ToldV H' r (if bare l = [] then none else _)
        rw [if_neg hb0]
        exact t)
      have npp : pp ≠ D := fun z => nvp (by rw [z])
      have okp : ∀ p ∈ ps, okL p := fun p hp => by
        rcases hlin with ⟨_, el⟩ | ⟨_, el⟩
        · rw [el] at hli
          cases hli
          exact absurd hp List.not_mem_nil
        · rw [el] at hli
          obtain ⟨a, b⟩ := lparts_sub hli p hp
          refine okL_sub oki (by rw [List.length_nil] at a; omega) fun c hc => ?_
          rcases b c hc with z | z
          · exact absurd z List.not_mem_nil
          · exact z
      have lps : ps.length ≤ 1000001 := by
        rcases hlin with ⟨_, el⟩ | ⟨_, el⟩
        · rw [el] at hli
          cases hli
          exact Nat.zero_le _
        · rw [el] at hli
          have := lparts_len hli
          have := oki.1
          omega
      have knB : ∀ H', Same H H' → lreadB (lread m) ps = none → Q .non H' := fun H' s' e => k2 .non H' s' (by rw [e]; rfl)
      have eD4 := s4 _ _ eD
      have nDH : H D = none := by
        cases q : H D with
        | none => rfl
        | some o =>
          have := s2 _ _ q
          rw [nD] at this
          cases this
      have sH4 : ∀ {H' : Hp}, Same (off H4 D) (off H' D) → Same H H' := fun {H'} s b o e => by
        have nb : b ≠ D := fun z => by rw [z, nDH] at e; cases e
        exact off_same _ _ (s _ _ (off_at (s24 _ _ e) nb))
      refine ⟨fun σ' H' => ∃ (done : List (List Nat × Nd)) (vs : List V) (w8 w9 w10 : Option V), σ' = [some (.str x), some (.int lv), w2, some (.str (S (l.takeWhile n4))), some (innV l), some (.str (S (bare l))), some (.ref D), some (.ref pp), w8, w9, w10, none] ∧ Same (off H4 D) (off H' D) ∧ H' D = some (.lst vs) ∧ DqAll (off H' D) vs (brD done) ∧ lreadB (lread m) ps = some (appB done .nil), ?_, ?_⟩
      · refine ⟨_, rfl, pp, rfl, ⟨_, SqL.of epp⟩, ?_⟩
        refine for_list (xs := ps.map fun m => V.str (S m)) (fun i σ' H' => ∃ (done : List (List Nat × Nd)) (vs : List V) (w8 w9 w10 : Option V), σ' = [some (.str x), some (.int lv), w2, some (.str (S (l.takeWhile n4))), some (innV l), some (.str (S (bare l))), some (.ref D), some (.ref pp), w8, w9, w10, none] ∧ Same (off H4 D) (off H' D) ∧ H' D = some (.lst vs) ∧ DqAll (off H' D) vs (brD done) ∧ done.length = i ∧ lreadB (lread m) ps = (lreadB (lread m) (ps.drop i)).map (appB done))
          ⟨[], [], _, _, _, rfl, same_refl, eD4, .nil, rfl, ?_⟩ (fun i σ H' _ ⟨_, _, _, _, _, _, s, _⟩ => SqL.of (off_same _ _ (s _ _ (off_at epp npp)))) ?_ ?_
        · rw [List.drop_zero]
          cases lreadB (lread m) ps <;> rfl
        · rintro i y σ' H5 hy ⟨done, vs, w8, w9, w10, rfl, s5, eD5, qa, ld, el⟩
          rw [List.getElem?_map] at hy
          obtain ⟨p, hp, rfl⟩ := Option.map_eq_some_iff.mp hy
          have okpp := okp p (List.mem_of_getElem? hp)
          have hil := (List.getElem?_eq_some_iff.mp hp).1
          have hdr : ps.drop i = p :: ps.drop (i + 1) := by
            rw [List.drop_eq_getElem_cons hil]
            congr 1
            exact (List.getElem?_eq_some_iff.mp hp).2
          rw [hdr] at el
          have okw : okL (p.takeWhile nG) := okL_sub okpp (List.takeWhile_sublist nG).length_le fun c hc => (List.takeWhile_sublist nG).subset hc
          refine ⟨_, rfl, ⟨_, rfl⟩, S p, _, rfl, rfl, by decide +kernel, m62 (by rw [len_S]; exact okpp.1), fun q nq => ?_⟩
          rw [S_gt, split_one (S p) (by decide), List.map_map, lS_S]
          have hh : ((sp 62 p).map (V.str ∘ S))[0]? = some (V.str (S (p.takeWhile nG))) := by
            rw [List.getElem?_map, sp_head]
            rfl
          refine ⟨q, _, 0, _, rfl, rfl, SqL.of upd_same, atI_nat (j := 0) hh, ?_⟩
          have s6 := same_new (o := HO.lst ((sp 62 p).map (V.str ∘ S))) nq
          have eD6 := s6 _ _ eD5
          have qa6 := qa.same (off_mono (p := D) s6)
          have s46 := same_trans s5 (off_mono (p := D) s6)
          clear hh
          generalize upd H5 q (HO.lst ((sp 62 p).map (V.str ∘ S))) = H6 at s6 eD6 qa6 s46
          refine ⟨fun σ' H7 => Same H6 H7 ∧ ∃ vb, σ' = [some (.str x), some (.int lv), w2, some (.str (S (l.takeWhile n4))), some (innV l), some (.str (S (bare l))), some (.ref D), some (.ref pp), some (.str (S p)), some (.str (S (p.takeWhile nG))), some vb, none] ∧ ToldV H7 vb (if p = p.takeWhile nG then none else lread m (p.drop ((p.takeWhile nG).length + 1))), ?_, ?_⟩
          · refine ⟨_, rfl, _, rfl, rfl, _, rfl, ?_⟩
            have dn : decide (V.str (S p) = V.str (S (p.takeWhile nG))) = decide (p = p.takeWhile nG) := decide_eq_decide.mpr ⟨fun h => S_inj (V.str.inj h), fun h => by rw [← h]⟩
            show if (!decide (V.str (S p) = V.str (S (p.takeWhile nG)))) = true then _ else _
            rw [dn]
            by_cases hpw : p = p.takeWhile nG
            · rw [decide_eq_true hpw]
              refine iteF ⟨same_refl, .non, rfl, ?_⟩
              rw [if_pos hpw]
              rfl
            · rw [decide_eq_false hpw]
              refine iteT ⟨_, rfl, _, rfl, _, rfl, lenS6 (Nat.le_trans okw.1 (by decide)), _, _, rfl, rfl, (((p.takeWhile nG).length + 1 : Nat) : Int), by rw [len_S]; rfl, S p, rfl, lenS6 (Nat.le_trans okpp.1 (by decide)), _, rfl, _, _, rfl, rfl, ?_⟩
              rw [cut_from, lS_S]
              refine ⟨by omega, _, _, rfl, by omega, okL_drop okpp _, fun r H7 s7 t7 => ⟨s7, r, rfl, ?_⟩⟩
              rw [if_neg hpw]
              exact t7
          rintro σ' H7 ⟨s7, vb, rfl, tb7⟩
          refine tseq_of ⟨_, rfl, rfl, _, rfl, ?_⟩
          have s47 := same_trans s46 (off_mono (p := D) s7)
          have eD7 := s7 _ _ eD6
          have bad : (if p = p.takeWhile nG then none else lread m (p.drop ((p.takeWhile nG).length + 1))) = none → lreadB (lread m) ps = none := fun hb => by
            rw [el]
            simp only [lreadB]
            by_cases hpw : p = p.takeWhile nG
            · rw [if_pos hpw]
              rfl
            · rw [if_neg hpw] at hb ⊢
              rw [hb]
              rfl
          cases hb : (if p = p.takeWhile nG then none else lread m (p.drop ((p.takeWhile nG).length + 1))) with
          | none =>
            rw [hb] at tb7
            obtain rfl : vb = .non := tb7
            exact iteT (knB H7 (sH4 s47) (bad hb))
          | some t =>
            rw [hb] at tb7
            have nvb : decide (vb = V.non) = false := decide_eq_false fun z => by
              rw [z] at tb7
              cases t
              cases tb7
            rw [nvb]
            refine iteF (nx_go ?_)
            refine ⟨_, rfl, .inl ⟨rfl, _, SqL.of eD7⟩, _, rfl, _, rfl, by show 2 ≤ sizeLine; decide, fun tp ntp => ?_⟩
            have tD : tp ≠ D := (ne_of_none eD7 ntp).symm
            have s8 := same_new (o := .tup [.str (S (p.takeWhile nG)), vb]) ntp
            refine ⟨D, vs, .ref tp, rfl, rfl, s8 _ _ eD7, ?_, ?_⟩
            · rw [qa.len]
              unfold brD
              rw [List.length_map, ld]
              exact Nat.lt_of_le_of_lt (show i ≤ 1000001 by omega) (by decide)
            refine ⟨done ++ [(p.takeWhile nG, t)], _, _, _, _, rfl, ?_, upd_same, ?_, ?_, ?_⟩
            · rw [off_put]
              exact same_trans s47 (off_mono s8)
            · rw [off_put]
              unfold brD
              rw [List.map_append]
              exact ((qa6.same (off_mono s7)).same (off_mono s8)).app (.cons (.tup (off_at upd_same tD) (.cons (dq_S okw) (.cons (dq_off (s8 _ _ eD7) ((show Dq H7 vb (toD t) from tb7).same s8) (noL_toD _)) .nil))) .nil)
            · rw [List.length_append, ld]
              rfl
            · rw [el]
              simp only [lreadB]
              by_cases hpw : p = p.takeWhile nG
              · rw [if_pos hpw] at hb
                cases hb
              · rw [if_neg hpw] at hb ⊢
                rw [hb]
                cases lreadB (lread m) (ps.drop (i + 1)) with
                | none => rfl
                | some bs =>
                  show some (appB done (.cons (p.takeWhile nG) t bs)) = some (appB (done ++ [(p.takeWhile nG, t)]) bs)
                  rw [appB_snoc]
        · rintro σ' H5 ⟨done, vs, w8, w9, w10, rfl, s5, eD5, qa, ld, el⟩
          refine ⟨done, vs, w8, w9, w10, rfl, s5, eD5, qa, ?_⟩
          rw [el, List.drop_eq_nil_of_le (by rw [List.length_map]; exact Nat.le_refl _)]
          rfl
      rintro σ' H5 ⟨done, vs, w8, w9, w10, rfl, s5, eD5, qa, el⟩
      have k3 : ∀ r H', Same H H' → Dq H' r (toD (.mk (sm (bare l)) (appB done .nil) (isX (l.takeWhile n4)))) → Q r H' := fun r H' s' q => k2 r H' s' (by rw [el]; exact q)
      simp only [toD, toB_app] at k3
      have sH5 := sH4 s5
      have qaF := qa.same off_same
      refine ⟨fun σ' H6 => Same H5 H6 ∧ ∃ vm, σ' = [some (.str x), some (.int lv), w2, some (.str (S (l.takeWhile n4))), some (innV l), some (.str (S (bare l))), some (.ref D), some (.ref pp), w8, w9, w10, some vm] ∧ Dq H6 vm (.tuple (msD (sm (bare l)))), ?_, ?_⟩
      · refine ⟨_, rfl, rfl, _, rfl, ?_⟩
        rw [S_dash, str_eqL, lS_S]
        by_cases hd : bare l = [45]
        · rw [decide_eq_true hd]
          refine iteT ⟨Nat.zero_le _, fun p np => ⟨same_new np, .ref p, rfl, ?_⟩⟩
          unfold sm
          rw [if_pos hd]
          exact .tup upd_same .nil
        · rw [decide_eq_false hd]
          refine iteF ⟨_, rfl, ⟨_, rfl⟩, S (bare l), _, rfl, rfl, by decide +kernel, m62 (by rw [len_S]; exact okb.1), fun p np => ?_⟩
          rw [S_plus, split_one _ (by decide), List.map_map, lS_S]
          refine ⟨p, _, rfl, .inl ⟨SqL.of upd_same, fun q nq => ⟨same_trans (same_new np) (same_new nq), .ref q, rfl, ?_⟩⟩⟩
          have e : sm (bare l) = sp 43 (bare l) := by
            unfold sm
            rw [if_neg hd]
          rw [e]
          exact .tup upd_same (dq_strs (okL_sp okb))
      rintro σ' H6 ⟨s6, vm, rfl, qm⟩
      have lv0 : vs.length = done.length := by
        rw [qa.len]
        exact List.length_map ..
      have mt : (S (l.takeWhile n4)).length ≤ sizeLine := by rw [len_S]; exact m6 okt.1
      refine ⟨_, rfl, _, rfl, D, vs, rfl, .inl ⟨SqL.of (s6 _ _ eD5), fun tb ntb => ?_⟩⟩
      have s7 := same_new (o := .tup vs) ntb
      refine ⟨by show 2 ≤ sizeLine; decide, fun t2 nt2 => ?_⟩
      have s8 := same_new (o := .tup [vm, .ref tb]) nt2
      have e8 : upd (upd H6 tb (.tup vs)) t2 (.tup [vm, .ref tb]) t2 = some (.tup [vm, .ref tb]) := upd_same
      have eb8 := s8 _ _ (show upd H6 tb (.tup vs) tb = some (.tup vs) from upd_same)
      have s68 := same_trans s7 s8
      generalize upd (upd H6 tb (.tup vs)) t2 (.tup [vm, .ref tb]) = H8 at e8 eb8 s68
      clear s7 s8
      refine ⟨_, rfl, 1, rfl, _, rfl, mt, rfl, _, rfl, ?_⟩
      rw [show L2.cutS (S (l.takeWhile n4)) none (some 1) = S ((l.takeWhile n4).take 1) from cut_to (S (l.takeWhile n4)) 1, S_bang, str_eqL, lS_S, isX_take]
      have s58 := same_trans s6 s68
      cases hX : isX (l.takeWhile n4) with
      | true =>
        rw [hX] at k3
        refine iteT ⟨by show 1 ≤ sizeLine; decide, fun q nq => ?_⟩
        have s9 := same_new (o := .tup [.str "call"]) nq
        refine ⟨t2, q, _, _, rfl, rfl, s9 _ _ e8, upd_same, by show 2 + 1 ≤ sizeLine; decide, fun p HF sF eF => ?_⟩
        have s9F := same_trans s9 sF
        exact k3 (.ref p) HF (same_trans sH5 (same_trans s58 s9F)) (.tup eF (.cons (qm.same (same_trans s68 s9F)) (.cons (.tup (s9F _ _ eb8) (qaF.same (same_trans s58 s9F))) (.cons dq_call .nil))))
      | false =>
        rw [hX] at k3
        refine iteF ⟨Nat.zero_le _, fun q nq => ?_⟩
        have s9 := same_new (o := .tup []) nq
        refine ⟨t2, q, _, _, rfl, rfl, s9 _ _ e8, upd_same, by show 2 + 0 ≤ sizeLine; decide, fun p HF sF eF => ?_⟩
        have s9F := same_trans s9 sF
        exact k3 (.ref p) HF (same_trans sH5 (same_trans s58 s9F)) (.tup eF (.cons (qm.same (same_trans s68 s9F)) (.cons (.tup (s9F _ _ eb8) (qaF.same (same_trans s58 s9F))) .nil)))
  intro n
  induction n with
  | zero => exact go 0 fun m h => absurd h (by omega)
  | succ n ih =>
    refine go (n + 1) fun m h => ?_
    obtain rfl : m = n := by omega
    exact ih
end
end X48
set_option Elab.async false
set_option linter.all false
set_option maxRecDepth 100000
set_option maxHeartbeats 4000000
/-! _law_read; both readers tell the same -/
namespace X48
open PySem L2 L2H DQ K01 RZ
def lawR (l : List Nat) : Option Nd := match lread 4 l with
  | none => none
  | some t => if (tob (toD t) && decide (wr t = l)) = true then some t else none
theorem read_eq (l : List Nat) : toldP l = lawR l := by
  cases hp : toldP l with
  | some t =>
    unfold toldP at hp
    split at hp
    · cases hp
    · split at hp
      · rename_i h
        obtain rfl := Option.some.inj hp
        obtain ⟨h1, h2⟩ := Bool.and_eq_true_iff.mp h
        have h2 := of_decide_eq_true h2
        obtain ⟨t', e, g, h4, _, _⟩ := tob_sh h1
        have et := toD_inj e
        rw [← et] at g h4
        have r := rt2 g h4
        rw [h2] at r
        unfold lawR
        rw [r]
        show _ = if _ then _ else _
        rw [if_pos h]
      · cases hp
  | none =>
    cases hq : lawR l with
    | none => rfl
    | some t =>
      exfalso
      unfold lawR at hq
      cases hr : lread 4 l with
      | none =>
        rw [hr] at hq
        cases hq
      | some t0 =>
        rw [hr] at hq
        dsimp only at hq
        split at hq
        · rename_i h
          obtain rfl := Option.some.inj hq
          obtain ⟨h1, h2⟩ := Bool.and_eq_true_iff.mp h
          have h2' := of_decide_eq_true h2
          obtain ⟨t', e, g, h4, n6, _⟩ := tob_sh h1
          have et := toD_inj e
          rw [← et] at g h4 n6
          have c := cnt_nN g
          have s := sn_wr g
          rw [h2'] at c s
          unfold toldP at hp
          rw [if_neg (by omega), s, if_pos h] at hp
          cases hp
        · cases hq
theorem mem_toB : ∀ {b : Bs} {d : PyData}, d ∈ toB b → ∃ w t, d = .tuple [.str (S w), toD t]
  | .nil, d, h => absurd h List.not_mem_nil
  | .cons w t r, d, h => by
    rcases List.mem_cons.mp h with rfl | h
    · exact ⟨w, t, rfl⟩
    · exact mem_toB h
theorem Tl_toD : ∀ (n : Nat) (t : Nd), Tl n (toD t) := by
  intro n
  induction n with
  | zero => exact fun _ => trivial
  | succ n ih =>
    intro t
    cases t with
    | mk ms bs c =>
      refine ⟨?_, fun a bs' r e u x hx => ?_⟩
      · cases c with
        | true =>
          show OkD (.tuple [.str "call"])
          exact ⟨by decide +kernel, by decide +kernel, by decide +kernel⟩
        | false =>
          show OkD (.tuple [])
          exact ⟨by decide +kernel, by decide +kernel, by decide +kernel⟩
      · simp only [toD] at e
        have e := PyData.tuple.inj e
        injection e with _ e
        injection e with e _
        obtain rfl := PyData.tuple.inj e
        obtain ⟨w, t', e2⟩ := mem_toB hx
        have e2 := PyData.tuple.inj e2
        injection e2 with _ e2
        injection e2 with e2 _
        rw [e2]
        exact ih t'
def spRd : Sp := fun vs H Q _ => ∃ x : Str, vs = [.str x] ∧ Sys H ∧ okL (lS x) ∧ ∀ r H', Same H H' → ToldV H' r (toldP (lS x)) → Q r H'
theorem scRd : FnScope ["text", "tree"] ["text"] (defScope sRead) := ⟨rfl, rfl, rfl, by decide +kernel, rfl, by decide +kernel, by decide +kernel⟩
section
variable {P : Program} {w : World} {K : PySem.W.Frag} {mg : Str → Option Value} {base : Heap}
theorem ok_rd {f fR fS fT : Addr} {fd dR dS dT : FuncData} (F : Fun K "_law_read" "_law_read" sRead f fd)
    (FR : Fun K "_law_read_node" "_law_read_node" sRNode fR dR) (bR : Binds K dR ["text", "level"] []) (gR : mg "_law_read_node" = some (.ref fR)) (GR : FnOk P w K mg base CX0 6 fR dR ["text", "level"] (spLR 4))
    (FS : Fun K "_law_is_small" "_law_is_small" sSmall fS dS) (bS : Binds K dS ["thing"] []) (gS : mg "_law_is_small" = some (.ref fS)) (GS : FnG P w K mg base 3 fS dS "thing" spSmall)
    (FT : Fun K "_law_text_of" "_law_text_of" sTextOf fT dT) (bT : Binds K dT ["tree"] []) (gT : mg "_law_text_of" = some (.ref fT)) (GT : FnOk P w K mg base CX0 5 fT dT ["tree"] (spNT 4)) :
    FnG P w K mg base 7 f fd "text" spRd := by
  refine fnG_of F scRd fun cdv A outer s H v Q E hr hg h => ?_
  have hgd : (A.deeper (PyProof.Rows.envOfC "_law_read" (defScope sRead) s.heap.objs.size f cdv)).guards = some [] := hg
  refine ⟨_, pss_cons (ps_set (i := 1) scRd.nd rfl (Or.inl rfl) (pe_call GR (hr.mono (by decide)) (by rfl) gR FR.kp bR .nil pass0 (pa_cons (pv 0) (pa_cons pe_int pa_nil))))
    (pss_one (ps_ret (pe_ifExp (PW.pt (pw_and (pt_cmpR op_notN (pv 1) pe_non (nomark _)) (pw_and (pt_val (pe_callG GS (hr.mono (by decide)) hgd (by rfl) gS FS.kp bS pass0 (pa_cons (pv 1) pa_nil))) (pw_and1 (pt_cmpR op_eq (pe_call GT (hr.mono (by decide)) (by rfl) gT FT.kp bT .nil pass0 (pa_cons (pv 1) pa_nil)) (pv 0) (by rfl)))))) (pv 1) pe_non))), ?_⟩
  obtain ⟨x, ev, sy, ok, k⟩ := h
  obtain rfl : v = .str x := List.head_eq_of_cons_eq ev
  refine ⟨_, rfl, x, 0, rfl, rfl, ok, fun r H1 s1 t1 => ⟨_, rfl, rfl, _, rfl, ?_⟩⟩
  rw [read_eq] at k
  cases hr4 : lread 4 (lS x) with
  | none =>
    rw [hr4] at t1
    obtain rfl : r = .non := t1
    refine iteF (k .non H1 s1 ?_)
    unfold lawR
    rw [hr4]
    rfl
  | some t =>
    rw [hr4] at t1
    have q1 : Dq H1 r (toD t) := t1
    have lw : lawR (lS x) = if (tob (toD t) && decide (wr t = lS x)) = true then some t else none := by
      unfold lawR
      rw [hr4]
    rw [lw] at k
    have nr : decide (r = V.non) = false := decide_eq_false fun z => by
      rw [z] at q1
      cases t
      cases q1
    rw [nr]
    refine iteT ⟨_, rfl, r, rfl, r, toD t, rfl, sy.same s1, q1, Tl_toD 4 t, fun H2 s2 => ⟨_, rfl, ?_⟩⟩
    have s12 := same_trans s1 s2
    have dec : decide (V.str (S (wr t)) = V.str x) = decide (wr t = lS x) := decide_eq_decide.mpr ⟨fun h => by rw [← V.str.inj h, lS_S], fun h => by rw [h, S_lS]⟩
    cases ht : tob (toD t) with
    | false =>
      rw [ht] at k
      exact iteF (k .non H2 s12 rfl)
    | true =>
      obtain ⟨t', e, g, h4, n6, l2⟩ := tob_sh ht
      have et := toD_inj e
      rw [← et] at g h4 l2
      refine iteT ⟨_, rfl, r, t, rfl, q1.same s2, g, h4, by omega, fun H3 s3 => ⟨_, rfl, rfl, _, rfl, ?_⟩⟩
      rw [dec]
      rw [ht, Bool.true_and] at k
      by_cases hw : wr t = lS x
      · rw [decide_eq_true hw]
        rw [decide_eq_true hw] at k
        exact iteT ⟨_, rfl, k r H3 (same_trans s12 s3) (q1.same (same_trans s2 s3))⟩
      · rw [decide_eq_false hw]
        rw [decide_eq_false hw] at k
        exact iteF (k .non H3 (same_trans s12 s3) rfl)
end
end X48
set_option Elab.async false
set_option linter.all false
set_option maxRecDepth 100000
set_option maxHeartbeats 4000000
/-! _law_hand -/
namespace X48
open PySem PySem.Spec L2 L2H DQ K01 RZ
theorem fold_rep (a : Array Nat) : ∀ (n : Nat) (acc : Array Nat), ((List.replicate n a).foldl (· ++ ·) acc).toList = acc.toList ++ (List.replicate n a.toList).flatten
  | 0, acc => by simp
  | n + 1, acc => by
    rw [List.replicate_succ, List.foldl_cons, fold_rep a n, Array.toList_append, List.replicate_succ, List.flatten_cons, List.append_assoc]
/-- text * k -/
def rMulK : R2 := fun a b H Q => ∃ (x : Str) (k : Int), a = .str x ∧ b = .int k ∧ 0 < k ∧ k ≤ 1000 ∧ x.length ≤ 1000 ∧ ∀ y : Str, (y.length : Int) ≤ k * x.length → (∀ c ∈ lS y, c ∈ lS x) → Q (.str y) H
theorem op_mulK {X : Cx} : OpR X (binaryOp .Mult) rMulK := by
  intro pins s σ H a b v u Q I ra rb h
  obtain ⟨x, k, rfl, rfl, k0, k1, hx, q⟩ := h
  obtain ⟨t, rfl⟩ := ra
  obtain ⟨t', rfl⟩ := rb
  obtain ⟨n, rfl⟩ : ∃ n : Nat, k = (n : Int) := ⟨k.toNat, by omega⟩
  have nx : x.length * n ≤ 1000000 := by
    have : n ≤ 1000 := by omega
    exact Nat.mul_le_mul hx this
  have n1000 : n ≤ 1000 := by omega
  have pw : ((2 : Int) ^ 63) = 9223372036854775808 := by decide
  refine P.mul_str (by
    refine Bool.or_eq_false_iff.mpr ⟨decide_eq_false ?_, decide_eq_false ?_⟩
    · show ¬ (n : Int) < -2 ^ 63
      omega
    · show ¬ (n : Int) ≥ 2 ^ 63
      omega) (fun _ _ => by
    show ¬ (x.length : Int) > (2 ^ 63 - 1) / (n : Int)
    have n0 : (0 : Int) < (n : Int) := k0
    have := (Int.le_ediv_iff_mul_le (a := (x.length : Int)) (b := 2 ^ 63 - 1) n0).mpr (by
      have h1 : ((x.length * n : Nat) : Int) ≤ ((1000000 : Nat) : Int) := Int.ofNat_le.mpr nx
      rw [Int.natCast_mul] at h1
      omega)
    omega) (fun _ _ => ?_) ?_
  · show decide (x.length * ((n : Nat) : Int).toNat > sizeLine) = false
    refine decide_eq_false ?_
    rw [Int.toNat_natCast]
    show ¬ x.length * n > 2 ^ 24
    omega
  · rw [if_neg (by omega)]
    split
    · exact ⟨.str x, H, I, ⟨_, rfl⟩, q x (by
        have : (1 : Int) * x.length ≤ (n : Int) * x.length := Int.mul_le_mul_of_nonneg_right (by omega) (by omega)
        omega) fun c hc => hc⟩
    · rw [Int.toNat_natCast]
      have e := fold_rep x.cps n #[]
      rw [Array.toList_empty, List.nil_append] at e
      have ln : ((List.replicate n x.cps).foldl (· ++ ·) #[]).size = n * x.length := by
        rw [← Array.length_toList, e, List.length_flatten]
        simp
        rfl
      refine ⟨by
        show ((List.replicate n x.cps).foldl (· ++ ·) #[]).size ≤ 2 ^ 24
        rw [ln, Nat.mul_comm]
        omega, ?_⟩
      refine ⟨.str _, H, I.tok _, ⟨_, rfl⟩, q _ ?_ fun c hc => ?_⟩
      · show ((((List.replicate n x.cps).foldl (· ++ ·) #[]).size : Nat) : Int) ≤ _
        rw [ln]
        push_cast
        exact Int.le_refl _
      · have hc' : c ∈ ((List.replicate n x.cps).foldl (· ++ ·) #[]).toList := hc
        rw [e] at hc'
        obtain ⟨l, hl, hcl⟩ := List.mem_flatten.mp hc'
        rw [List.eq_of_mem_replicate hl] at hcl
        exact hcl
/-- a text that may be asked about -/
def okT (x : Str) : Prop := okL (lS x) ∧ (lS x).length ≤ 1000
theorem okT_of {x : Str} (h : (decide (x.length ≤ 1000) && x.cps.toList.all fun c => decide (c < 1114112)) = true) : okT x := by
  obtain ⟨a, b⟩ := Bool.and_eq_true_iff.mp h
  have a := of_decide_eq_true a
  rw [len_lS] at a
  exact ⟨⟨by omega, fun c hc => of_decide_eq_true (List.all_eq_true.mp b c hc)⟩, a⟩
theorem okTs {ts : List Str} (h : (ts.all fun x => decide (x.length ≤ 1000) && x.cps.toList.all fun c => decide (c < 1114112)) = true) : ∀ t ∈ ts, okT t := fun t ht => okT_of (List.all_eq_true.mp h t ht)
theorem okT_mul {x y : Str} (h : okT x) (hy : ∀ c ∈ lS y, c ∈ lS x) (ly : (y.length : Int) ≤ 1000) : okT y := by
  have e : (lS y).length = y.length := by
    rw [len_lS]
  exact ⟨⟨by omega, fun c hc => h.1.2 c (hy c hc)⟩, by omega⟩
theorem hcatG {te : TE} {σ : St} {H : Hp} {p : Addr} {ts : List Str} {G : List Str → Prop} {Q : VK} (hp : σ[0]? = some (some (V.ref p))) (h : H p = some (.lst (ts.map V.str))) (hte : ∀ Q' : VK, (∀ es, G es → ∀ q, H q = none → Q' (.ref q) (upd H q (.lst (es.map V.str)))) → te σ H Q') (hz : ∀ es, G es → ts.length + es.length ≤ 1000) (k : ∀ es, G es → ∀ r H', Same H H' → H' r = some (.lst ((ts ++ es).map V.str)) → Q (.ref r) H') : tOp rCat (tVar 0) te σ H Q := by
  refine ⟨_, hp, hte _ fun es g q nq => ?_⟩
  refine ⟨p, q, ts.map V.str, es.map V.str, rfl, rfl, same_new nq _ _ h, upd_same, ?_, fun r nr => k es g r _ (same_trans (same_new nq) (same_new nr)) ?_⟩
  · rw [List.length_map, List.length_map]
    exact Nat.le_trans (hz es g) (by decide)
  · rw [List.map_append]
    exact upd_same
theorem hcat {te : TE} {σ : St} {H : Hp} {p : Addr} {ts es : List Str} {Q : VK} (hp : σ[0]? = some (some (V.ref p))) (h : H p = some (.lst (ts.map V.str))) (hte : ∀ Q' : VK, (∀ q, H q = none → Q' (.ref q) (upd H q (.lst (es.map V.str)))) → te σ H Q') (hz : ts.length + es.length ≤ 1000) (k : ∀ r H', Same H H' → H' r = some (.lst ((ts ++ es).map V.str)) → Q (.ref r) H') : tOp rCat (tVar 0) te σ H Q := by
  refine ⟨_, hp, hte _ fun q nq => ?_⟩
  refine ⟨p, q, ts.map V.str, es.map V.str, rfl, rfl, same_new nq _ _ h, upd_same, ?_, fun r nr => k r _ (same_trans (same_new nq) (same_new nr)) ?_⟩
  · rw [List.length_map, List.length_map]
    exact Nat.le_trans hz (by decide)
  · rw [List.map_append]
    exact upd_same
end X48
set_option Elab.async false
set_option linter.all false
set_option maxRecDepth 100000
set_option maxHeartbeats 4000000
/-! _law_texts_near -/
namespace X48
open PySem L2 L2H DQ K01 RZ
/-- a text of at most b signs -/
def okB (b : Nat) (t : Str) : Prop := (lS t).length ≤ b ∧ ∀ c ∈ lS t, c < 1114112
theorem okB.mono {b b' : Nat} {t : Str} (h : okB b t) (hb : b ≤ b') : okB b' t := ⟨Nat.le_trans h.1 hb, h.2⟩
theorem okB.app {b b' : Nat} {t u : Str} (h : okB b t) (h' : okB b' u) : okB (b + b') (t ++ u) := by
  have e : lS (t ++ u) = lS t ++ lS u := by
    show (t.cps ++ u.cps).toList = _
    rw [Array.toList_append]
    rfl
  constructor
  · rw [e, List.length_append]
    exact Nat.add_le_add h.1 h'.1
  · rw [e]
    intro c hc
    rcases List.mem_append.mp hc with z | z
    · exact h.2 c z
    · exact h'.2 c z
theorem okB.sub {b : Nat} {t u : Str} (h : okB b t) (hl : (lS u).length ≤ (lS t).length) (hs : ∀ c ∈ lS u, c ∈ lS t) : okB b u := ⟨Nat.le_trans hl h.1, fun c hc => h.2 c (hs c hc)⟩
theorem okB.to {b : Nat} {t : Str} (h : okB b t) (j : Nat) : okB b (S ((lS t).take j)) := h.sub (by rw [lS_S, List.length_take]; exact Nat.min_le_right _ _) fun c hc => by rw [lS_S] at hc; exact List.mem_of_mem_take hc
theorem okB.from {b : Nat} {t : Str} (h : okB b t) (j : Nat) : okB b (S ((lS t).drop j)) := h.sub (by rw [lS_S, List.length_drop]; exact Nat.sub_le _ _) fun c hc => by rw [lS_S] at hc; exact List.mem_of_mem_drop hc
/-- a cut, something put in, the rest -/
theorem okB.ins {b k : Nat} {t u : Str} (h : okB b t) (hu : okB k u) (i j : Nat) (hij : i ≤ j) : okB (b + k) (S ((lS t).take i) ++ u ++ S ((lS t).drop j)) := by
  have e : lS (S ((lS t).take i) ++ u ++ S ((lS t).drop j)) = (lS t).take i ++ lS u ++ (lS t).drop j := by
    show (((S ((lS t).take i)).cps ++ u.cps) ++ (S ((lS t).drop j)).cps).toList = _
    rw [Array.toList_append, Array.toList_append]
    rfl
  have h1 := h.1
  have h2 := hu.1
  constructor
  · rw [e, List.length_append, List.length_append, List.length_take, List.length_drop]
    omega
  · rw [e]
    intro c hc
    rcases List.mem_append.mp hc with z | z
    · rcases List.mem_append.mp z with z | z
      · exact h.2 c (List.mem_of_mem_take z)
      · exact hu.2 c z
    · exact h.2 c (List.mem_of_mem_drop z)
theorem okB.cat {b : Nat} {t : Str} (h : okB b t) (i j : Nat) (hij : i ≤ j) : okB b (S ((lS t).take i) ++ S ((lS t).drop j)) := by
  have e : lS (S ((lS t).take i) ++ S ((lS t).drop j)) = (lS t).take i ++ (lS t).drop j := by
    show ((S ((lS t).take i)).cps ++ (S ((lS t).drop j)).cps).toList = _
    rw [Array.toList_append]
    rfl
  have h1 := h.1
  constructor
  · rw [e, List.length_append, List.length_take, List.length_drop]
    omega
  · rw [e]
    intro c hc
    rcases List.mem_append.mp hc with z | z
    · exact h.2 c (List.mem_of_mem_take z)
    · exact h.2 c (List.mem_of_mem_drop z)
theorem lzz {u v : Str} {a b : Nat} (h : okB a u) (h' : okB b v) (ha : a ≤ 1000000) (hb : b ≤ 1000000) : u.length + v.length ≤ sizeLine := by
  have h1 := h.1
  have h2 := h'.1
  have e1 : u.length = (lS u).length := len_lS u
  have e2 : v.length = (lS v).length := len_lS v
  show _ ≤ 2 ^ 24
  omega
theorem part_at {k : Nat} (h : k < 6) : ∃ u : Str, [V.str "(e>-)", V.str ",e>a", V.str "!", V.str "+c", V.str "-", V.str "e>"][k]? = some (.str u) ∧ okB 5 u := by
  have ok (u : Str) (hu : (decide (u.length ≤ 5) && u.cps.toList.all fun c => decide (c < 1114112)) = true) : okB 5 u := by
    obtain ⟨a, b⟩ := Bool.and_eq_true_iff.mp hu
    have a := of_decide_eq_true a
    rw [len_lS] at a
    exact ⟨a, fun c hc => of_decide_eq_true (List.all_eq_true.mp b c hc)⟩
  rcases k with _ | _ | _ | _ | _ | _ | k
  · exact ⟨_, rfl, ok _ (by decide +kernel)⟩
  · exact ⟨_, rfl, ok _ (by decide +kernel)⟩
  · exact ⟨_, rfl, ok _ (by decide +kernel)⟩
  · exact ⟨_, rfl, ok _ (by decide +kernel)⟩
  · exact ⟨_, rfl, ok _ (by decide +kernel)⟩
  · exact ⟨_, rfl, ok _ (by decide +kernel)⟩
  · omega
theorem six_at {b : Nat} {u1 u2 u3 u4 u5 u6 : Str} (h1 : okB b u1) (h2 : okB b u2) (h3 : okB b u3) (h4 : okB b u4) (h5 : okB b u5) (h6 : okB b u6) {k : Nat} (h : k < 6) : ∃ u : Str, ([V.str u1, V.str u2, V.str u3] ++ [V.str u4, V.str u5, V.str u6])[k]? = some (.str u) ∧ okB b u := by
  rcases k with _ | _ | _ | _ | _ | _ | k
  · exact ⟨_, rfl, h1⟩
  · exact ⟨_, rfl, h2⟩
  · exact ⟨_, rfl, h3⟩
  · exact ⟨_, rfl, h4⟩
  · exact ⟨_, rfl, h5⟩
  · exact ⟨_, rfl, h6⟩
  · omega
def spNear : Sp := fun vs H Q _ => ∃ (m c l : Addr) (cs ls : List Int) (n : Int) (x : Str) (b : Nat), vs = [.ref m, .str x] ∧ MAt H m c l cs ls n ∧ n + 50 ≤ 1000000000 ∧ okB b x ∧ b ≤ 900000 ∧
  ∀ (p : Addr) (ts : List Str) (H' : Hp) (l' : Addr) (ls' : List Int) (n' : Int), MAt H' m c l' cs ls' n' → n' ≤ n + 50 → Fs H m l H' l' → fr H' m l' p = some (.lst (ts.map V.str)) → ts.length = 11 → (∀ t ∈ ts, okB (b + 50) t) → Q (.ref p) H'
abbrev nNr : List Str := ["m", "text", "found", "k", "here", "spot", "sign", "part", "some"]
theorem scNr : FnScope nNr ["m", "text"] (defScope sNear) := ⟨rfl, rfl, rfl, by decide +kernel, rfl, by decide +kernel, by decide +kernel⟩
theorem ix_listK {X : Cx} {K : PySem.W.Frag} (hK : X.K = K) : IxR X (rIxL K) := by
  subst hK
  exact ix_list
structure TN8 (mg : Str → Option Value) : Prop where
  len : mg "len" = none
  range : mg "range" = none
section
variable {P : Program} {w : World} {K : PySem.W.Frag} {mg : Str → Option Value} {base : Heap}
theorem ok_near {f fN : Addr} {fd dN : FuncData} (F : Fun K "_law_texts_near" "_law_texts_near" sNear f fd)
    (FN : Fun K "_law_next" "_law_next" sNext fN dN) (bN : Binds K dN ["m", "many"] []) (gN : mg "_law_next" = some (.ref fN)) (GN : FnOk P w K mg base CX0 1 fN dN ["m", "many"] spNx) (T : TN8 mg) :
    FnOk P w K mg base CX0 2 f fd ["m", "text"] spNear := by
  refine F.ok (k := 1) scNr (fun vs H Q E h => ?_) (fun cdv A outer s H vs Q E hr h => ?_)
  · obtain ⟨m, c, l, cs, ls, n, x, b, rfl, _⟩ := h
    rfl
  · obtain ⟨m, c, l, cs, ls, n, x, b, rfl, M, hn, hx, hb, kk⟩ := h
    refine ⟨_, pss_cons (ps_set (i := 2) scNr.nd rfl (Or.inl rfl) (pe_lst (pa_cons (pv 1) pa_nil)))
      (pss_cons (ps_for PassesOwn.never rfl (pi_range1 rfl T.range (pa_cons pe_int pa_nil)) (pg_name (i := 3) scNr.nd rfl (Or.inl rfl))
        (pss_cons (ps_set (i := 4) scNr.nd rfl (Or.inl rfl) (pe_ix (ix_listK (K := K) rfl) (pv 2) (pe_call GN hr (by rfl) gN FN.kp bN .nil pass0 (pa_cons (pv 0) (pa_cons (pe_callB call_len_seq (by rfl) T.len PySem.boot_len (pa_cons (pv 2) pa_nil)) pa_nil))) (fun _ _ => rfl)))
        (pss_cons (ps_par rfl scNr.nd (i := 5) (j := 6) rfl rfl (by decide) rfl rfl (pa_cons (pe_call GN hr (by rfl) gN FN.kp bN .nil pass0 (pa_cons (pv 0) (pa_cons (pe_op op_add (pe_callB call_len_str (by rfl) T.len PySem.boot_len (pa_cons (pv 4) pa_nil)) pe_int) pa_nil)))
            (pa_cons (pe_ix ix_str pe_str (pe_call GN hr (by rfl) gN FN.kp bN .nil pass0 (pa_cons (pv 0) (pa_cons pe_int pa_nil))) (fun _ _ => rfl)) pa_nil)) rfl)
        (pss_cons (ps_set (i := 7) scNr.nd rfl (Or.inl rfl) (pe_ix (ix_listK (K := K) rfl) (pe_lst (pa_cons pe_str (pa_cons pe_str (pa_cons pe_str (pa_cons pe_str (pa_cons pe_str (pa_cons pe_str pa_nil))))))) (pe_call GN hr (by rfl) gN FN.kp bN .nil pass0 (pa_cons (pv 0) (pa_cons pe_int pa_nil))) (fun _ _ => rfl)))
        (pss_cons (ps_set (i := 8) scNr.nd rfl (Or.inl rfl) (pe_lst (pa_cons (pe_op op_add_str (pe_op op_add_str (pe_slice sl_str (pv 4) po_none (po_some (pv 5))) (pv 6)) (pe_slice sl_str (pv 4) (po_some (pv 5)) po_none))
            (pa_cons (pe_op op_add_str (pe_slice sl_str (pv 4) po_none (po_some (pv 5))) (pe_slice sl_str (pv 4) (po_some (pe_op op_add (pv 5) pe_int)) po_none))
            (pa_cons (pe_op op_add_str (pe_op op_add_str (pe_slice sl_str (pv 4) po_none (po_some (pv 5))) (pv 7)) (pe_slice sl_str (pv 4) (po_some (pv 5)) po_none)) pa_nil)))))
        (pss_one (ps_expr (pe_bm PySem.F.plainAttrs_list PySem.F.slot_list_append PySem.F.type_list_append mt_append (pv 2) (pa_cons (pe_ix (ix_listK (K := K) rfl) (pe_op op_cat (pv 8) (pe_lst (pa_cons (pe_op op_add_str (pe_op op_add_str (pe_slice sl_str (pv 4) po_none (po_some (pv 5))) (pv 6)) (pe_slice sl_str (pv 4) (po_some (pe_op op_add (pv 5) pe_int)) po_none)) (pa_cons (pe_slice sl_str (pv 4) po_none (po_some (pv 5))) (pa_cons (pe_op op_add_str (pv 4) (pv 7)) pa_nil)))))
            (pe_call GN hr (by rfl) gN FN.kp bN .nil pass0 (pa_cons (pv 0) (pa_cons pe_int pa_nil))) (fun _ _ => rfl)) pa_nil)))))))))
      (pss_one (ps_ret (pv 2)))), ?_⟩
    refine ⟨_, rfl, by show 1 ≤ sizeLine; decide, fun D nD => ?_⟩
    have G0 : Gw m c l cs ls n H H := ⟨M, .refl⟩
    obtain ⟨G1, t1, e1⟩ := G0.new (o := .lst [.str x]) nD
    have Dm : D ≠ m := (ne_of_none M.hm nD).symm
    have Dc : D ≠ c := (ne_of_none M.hc nD).symm
    have al {i : Nat} {xs : List V} {v : V} (h : xs[i]? = some v) : atI xs (i : Int) = some v := atI_nat h
    refine ⟨10, rfl, by decide, by decide, for_range (n := 10) (fun i σ' H' => ∃ (l' : Addr) (ls' : List Int) (n' : Int) (ts : List Str) (w3 w4 w5 w6 w7 w8 : Option V), σ' = [some (V.ref m), some (.str x), some (.ref D), w3, w4, w5, w6, w7, w8] ∧ Dl H m c l cs n (5 * (i : Int)) D (ts.map V.str) H' l' ls' n' ∧ ts.length = i + 1 ∧ ∀ t ∈ ts, okB (b + 5 * i) t)
      ⟨l, ls, n, [x], _, _, _, _, _, _, rfl, ⟨G1.mat, by omega, G1.sm, e1⟩, rfl, fun t ht => by rw [List.mem_singleton.mp ht]; exact hx.mono (by omega)⟩ ?_ ?_⟩
    · rintro i σ' H2 hi ⟨l2, ls2, n2, ts, w3, w4, w5, w6, w7, w8, rfl, d2, hts, ok⟩
      have le2 := d2.le
      -- here
      refine ⟨_, rfl, _, rfl, _, rfl, D, _, rfl, .inl (SqL.of (fr_of d2.dd).2.2), m, c, l2, _, cs, ls2, n2, rfl, d2.mat, ?_, ?_, by omega, fun r3 H3 l3 ls3 n3 r30 r31 M3 nn3 s3 => ?_⟩
      · rw [List.length_map]; omega
      · rw [List.length_map]; omega
      rw [List.length_map] at r31
      obtain ⟨k3, rfl⟩ : ∃ k : Nat, r3 = (k : Int) := ⟨r3.toNat, by omega⟩
      have hk3 : k3 < ts.length := by omega
      obtain ⟨t, ht⟩ : ∃ t, ts[k3]? = some t := ⟨_, List.getElem?_eq_getElem hk3⟩
      have okt : okB (b + 5 * i) t := ok t (List.mem_of_getElem? ht)
      have d3 := d2.next (k' := 5 * (i : Int) + 1) M3 nn3 s3 (by omega)
      refine ⟨D, _, (k3 : Int), .str t, rfl, rfl, SqL.of (fr_of d3.dd).2.2, al (by rw [List.getElem?_map, ht]; rfl), ?_⟩
      have lt := okt.1
      have lt2 : t.length = (lS t).length := len_lS t
      have zt : t.length ≤ sizeLine := by
        rw [lt2]
        exact m6 (by omega)
      -- spot, sign
      refine ⟨_, rfl, _, rfl, t, rfl, zt, _, _, rfl, rfl, m, c, l3, _, cs, ls3, n3, rfl, d3.mat, by omega, by omega, by have := d3.le; omega, fun r4 H4 l4 ls4 n4 r40 r41 M4 nn4 s4 => ⟨_, rfl, m, c, l4, 13, cs, ls4, n4, rfl, M4, by decide, by decide, by have := d3.le; omega, fun r5 H5 l5 ls5 n5 r50 r51 M5 nn5 s5 => ?_⟩⟩
      obtain ⟨k4, rfl⟩ : ∃ k : Nat, r4 = (k : Int) := ⟨r4.toNat, by omega⟩
      obtain ⟨k5, rfl⟩ : ∃ k : Nat, r5 = (k : Int) := ⟨r5.toNat, by omega⟩
      have d5 := (d3.next (k' := 5 * (i : Int) + 2) M4 nn4 s4 (by omega)).next (k' := 5 * (i : Int) + 3) M5 nn5 s5 (by omega)
      have hsg : ∃ cc, ("ab+->(),!e \nA" : Str).cps.toList[k5]? = some cc ∧ cc < 1114112 := by
        have : k5 < 13 := by omega
        have z : ∀ k < 13, ∃ cc, ("ab+->(),!e \nA" : Str).cps.toList[k]? = some cc ∧ cc < 1114112 := by
          intro k hk
          have y : (("ab+->(),!e \nA" : Str).cps.toList[k]?.map fun cc => decide (cc < 1114112)) = some true := by
            have := (List.all_eq_true.mp (show ((List.range 13).all fun k => (("ab+->(),!e \nA" : Str).cps.toList[k]?.map fun cc => decide (cc < 1114112)) == some true) = true by decide +kernel)) k (List.mem_range.mpr hk)
            simpa using this
          cases e : ("ab+->(),!e \nA" : Str).cps.toList[k]? with
          | none => rw [e] at y; cases y
          | some cc =>
            rw [e] at y
            exact ⟨cc, rfl, of_decide_eq_true (Option.some.inj y)⟩
        exact z k5 this
      obtain ⟨cc, hcc, lcc⟩ := hsg
      have oks : okB 1 (⟨#[cc]⟩ : Str) := ⟨Nat.le_refl _, fun c hc => by
        have : c ∈ [cc] := hc
        rw [List.mem_singleton.mp this]
        exact lcc⟩
      refine ⟨_, _, cc, rfl, rfl, by decide, atI_nat hcc, ?_⟩
      generalize (⟨#[cc]⟩ : Str) = sg at oks
      -- part
      have G5 : Gw m c l5 cs ls5 n5 H5 H5 := ⟨d5.mat, .refl⟩
      refine ⟨_, _, rfl, by show 6 ≤ sizeLine; decide, fun p6 np6 => ?_⟩
      obtain ⟨G6, t6, e6⟩ := G5.new (o := .lst [V.str "(e>-)", V.str ",e>a", V.str "!", V.str "+c", V.str "-", V.str "e>"]) np6
      refine ⟨_, rfl, m, c, l5, 6, cs, ls5, n5, rfl, G6.mat, by decide, by decide, by have := d5.le; omega, fun r6 H6 l6 ls6 n6 r60 r61 M6 nn6 s6 => ?_⟩
      obtain ⟨k6, rfl⟩ : ∃ k : Nat, r6 = (k : Int) := ⟨r6.toNat, by omega⟩
      obtain ⟨pt, hpt, okp⟩ := part_at (k := k6) (by omega)
      have d6 := (d5.next (j := 0) (k' := 5 * (i : Int) + 3) G6.mat (by omega) G6.sm (by omega)).next (k' := 5 * (i : Int) + 4) M6 nn6 s6 (by omega)
      refine ⟨p6, _, (k6 : Int), .str pt, rfl, rfl, SqL.of (fr_of (s6.1 _ _ e6)).2.2, al hpt, ?_⟩
      obtain ⟨B, hB⟩ : ∃ B, B = b + 5 * i := ⟨_, rfl⟩
      rw [← hB] at okt lt
      have ea := cut_to t k4
      have eb0 := cut_from t k4
      have eb1 := cut_from t (k4 + 1)
      have X1 : okB (B + 5) (L2.cutS t none (some (k4 : Int)) ++ sg ++ L2.cutS t (some (k4 : Int)) none) := by
        rw [ea, eb0]
        exact (okt.ins oks k4 k4 (Nat.le_refl _)).mono (by omega)
      have X2 : okB (B + 5) (L2.cutS t none (some (k4 : Int)) ++ L2.cutS t (some ((k4 + 1 : Nat) : Int)) none) := by
        rw [ea, eb1]
        exact (okt.cat k4 (k4 + 1) (Nat.le_succ _)).mono (by omega)
      have X3 : okB (B + 5) (L2.cutS t none (some (k4 : Int)) ++ pt ++ L2.cutS t (some (k4 : Int)) none) := by
        rw [ea, eb0]
        exact (okt.ins okp k4 k4 (Nat.le_refl _)).mono (by omega)
      have X4 : okB (B + 5) (L2.cutS t none (some (k4 : Int)) ++ sg ++ L2.cutS t (some ((k4 + 1 : Nat) : Int)) none) := by
        rw [ea, eb1]
        exact (okt.ins oks k4 (k4 + 1) (Nat.le_succ _)).mono (by omega)
      have X5 : okB (B + 5) (L2.cutS t none (some (k4 : Int))) := by
        rw [ea]
        exact (okt.to k4).mono (by omega)
      have X6 : okB (B + 5) (t ++ pt) := okt.app okp
      have Y0 : okB (B + 5) (L2.cutS t (some (k4 : Int)) none) := by
        rw [eb0]
        exact (okt.from k4).mono (by omega)
      have Y1 : okB (B + 5) (L2.cutS t (some ((k4 + 1 : Nat) : Int)) none) := by
        rw [eb1]
        exact (okt.from (k4 + 1)).mono (by omega)
      have Z1 := X5.app oks
      have Z2 := X5.app okp
      have B1 : B + 5 ≤ 1000000 := by omega
      have B2 : B + 5 + 5 ≤ 1000000 := by omega
      -- some
      refine ⟨_, rfl, _, rfl, (k4 : Int), rfl, t, rfl, zt, _, rfl, _, _, rfl, rfl, lzz X5 oks B1 (by decide), _, rfl, _, rfl, (k4 : Int), rfl, t, rfl, zt, _, _, rfl, rfl, lzz Z1 Y0 (by omega) B1, ?_⟩
      refine ⟨_, rfl, _, rfl, (k4 : Int), rfl, t, rfl, zt, _, rfl, _, rfl, _, _, rfl, rfl, ((k4 + 1 : Nat) : Int), rfl, t, rfl, zt, _, _, rfl, rfl, lzz X5 Y1 B1 B1, ?_⟩
      refine ⟨_, rfl, _, rfl, (k4 : Int), rfl, t, rfl, zt, _, rfl, _, _, rfl, rfl, lzz X5 okp B1 (by decide), _, rfl, _, rfl, (k4 : Int), rfl, t, rfl, zt, _, _, rfl, rfl, lzz Z2 Y0 (by omega) B1, ?_⟩
      refine ⟨by show 3 ≤ sizeLine; decide, fun p8 np8 => ?_⟩
      have G7 : Gw m c l6 cs ls6 n6 H6 H6 := ⟨d6.mat, .refl⟩
      obtain ⟨G8, t8, e8⟩ := G7.new (o := .lst [V.str (L2.cutS t none (some (k4 : Int)) ++ sg ++ L2.cutS t (some (k4 : Int)) none), V.str (L2.cutS t none (some (k4 : Int)) ++ L2.cutS t (some ((k4 + 1 : Nat) : Int)) none), V.str (L2.cutS t none (some (k4 : Int)) ++ pt ++ L2.cutS t (some (k4 : Int)) none)]) np8
      -- found.append
      refine ⟨_, rfl, .inl ⟨rfl, _, SqL.of (fr_of (G8.sm.1 _ _ d6.dd)).2.2⟩, ?_⟩
      refine ⟨_, rfl, ?_⟩
      refine ⟨_, rfl, _, rfl, (k4 : Int), rfl, t, rfl, zt, _, rfl, _, _, rfl, rfl, lzz X5 oks B1 (by decide), _, rfl, _, rfl, _, _, rfl, rfl, ((k4 + 1 : Nat) : Int), rfl, t, rfl, zt, _, _, rfl, rfl, lzz Z1 Y1 (by omega) B1, ?_⟩
      refine ⟨_, rfl, _, rfl, (k4 : Int), rfl, t, rfl, zt, ?_⟩
      refine ⟨_, rfl, _, rfl, _, _, rfl, rfl, lzz (okt.mono (Nat.le_add_right _ 5)) okp B1 (by decide), ?_⟩
      refine ⟨by show 3 ≤ sizeLine; decide, fun p9 np9 => ?_⟩
      obtain ⟨G9, t9, e9⟩ := G8.new (o := .lst [V.str (L2.cutS t none (some (k4 : Int)) ++ sg ++ L2.cutS t (some ((k4 + 1 : Nat) : Int)) none), V.str (L2.cutS t none (some (k4 : Int))), V.str (t ++ pt)]) np9
      refine ⟨p8, p9, _, _, rfl, rfl, (fr_of (t9 _ _ e8)).2.2, upd_same, by show 6 ≤ sizeLine; decide, fun pA npA => ?_⟩
      obtain ⟨GA, tA, eA⟩ := G9.new (o := .lst ([V.str (L2.cutS t none (some (k4 : Int)) ++ sg ++ L2.cutS t (some (k4 : Int)) none), V.str (L2.cutS t none (some (k4 : Int)) ++ L2.cutS t (some ((k4 + 1 : Nat) : Int)) none), V.str (L2.cutS t none (some (k4 : Int)) ++ pt ++ L2.cutS t (some (k4 : Int)) none)] ++ [V.str (L2.cutS t none (some (k4 : Int)) ++ sg ++ L2.cutS t (some ((k4 + 1 : Nat) : Int)) none), V.str (L2.cutS t none (some (k4 : Int))), V.str (t ++ pt)])) npA
      refine ⟨_, rfl, m, c, l6, 6, cs, ls6, n6, rfl, GA.mat, by decide, by decide, by have := d6.le; omega, fun r7 H7 l7 ls7 n7 r70 r71 M7 nn7 s7 => ?_⟩
      obtain ⟨k7, rfl⟩ : ∃ k : Nat, r7 = (k : Int) := ⟨r7.toNat, by omega⟩
      obtain ⟨nt, hnt, okn⟩ := six_at X1 X2 X3 X4 X5 X6 (k := k7) (by omega)
      have d7 := (d6.next (j := 0) (k' := 5 * (i : Int) + 4) GA.mat (by omega) GA.sm (by omega)).next (k' := 5 * ((i + 1 : Nat) : Int)) M7 nn7 s7 (by omega)
      refine ⟨pA, _, (k7 : Int), .str nt, rfl, rfl, SqL.of (fr_of (s7.1 _ _ eA)).2.2, al hnt, ?_⟩
      refine ⟨D, _, .str nt, rfl, rfl, (fr_of d7.dd).2.2, ?_, ?_⟩
      · rw [List.length_map]
        exact small1000 (by omega)
      · refine ⟨l7, ls7, n7, ts ++ [nt], _, _, _, _, _, _, rfl, ?_, by rw [List.length_append, hts]; rfl, fun u hu => ?_⟩
        · rw [List.map_append]
          exact d7.put nD Dm Dc
        · rcases List.mem_append.mp hu with z | z
          · exact (ok u z).mono (by omega)
          · rw [List.mem_singleton.mp z]
            exact okn.mono (by omega)
    · rintro σ' H2 ⟨l2, ls2, n2, ts, w3, w4, w5, w6, w7, w8, rfl, d2, hts, ok⟩
      have le2 := d2.le
      exact ⟨_, rfl, kk D ts H2 l2 ls2 n2 d2.mat (by omega) d2.sm d2.dd hts ok⟩
end
end X48
set_option Elab.async false
set_option linter.all false
set_option maxRecDepth 100000
set_option maxHeartbeats 4000000
namespace K01
open PySem L2 L2H DQ RZ
/-! bounds of drawn trees -/
theorem sz_marks {ms : List Str} (h : ms.Sublist abc3) : szAll (ms.map PyData.str) ≤ 42 := by
  have z : ∀ l : List Str, (∀ x ∈ l, x.length = 1) → szAll (l.map PyData.str) = 14 * l.length := fun l => by
    induction l with
    | nil => intro _; rfl
    | cons x l ih =>
      intro hl
      have h1 := hl x (List.mem_cons_self ..)
      have h2 := ih fun y hy => hl y (List.mem_cons_of_mem _ hy)
      simp only [List.map_cons, szAll, sz, List.length_cons, h1, h2]
      omega
  rw [z ms fun x hx => (sub_sm h x hx).2]
  have := sub_len h
  omega
theorem dp_marks (ms : List Str) : PyData.depthAll (ms.map PyData.str) = 0 := by
  induction ms with
  | nil => rfl
  | cons x l ih => simp only [List.map_cons, PyData.depthAll, PyData.depth, ih, Nat.max_self]
theorem gd_marks {ms : List Str} (h : ms.Sublist abc3) : gdAll 0 (ms.map PyData.str) = true := gdAll_iff.mpr fun d hd => by
  obtain ⟨x, hx, rfl⟩ := List.mem_map.mp hd
  simpa [gd] using (sub_sm h x hx).1
mutual
theorem Tc.bound : ∀ {k n c : Nat} {d : PyData}, Tc k n c d → gd 0 d = true ∧ sz d + 22 ≤ 130 * n ∧ d.depth ≤ 3 * k + 2
  | k, n, c, _, .mk (ms := ms) (bs := bs) hm hl hr hb e1 e2 => by
    obtain ⟨b1, b2, b3⟩ := hb.bound
    have m1 := sz_marks hm
    have m2 := dp_marks ms
    have m3 := gd_marks hm
    rcases hr with ⟨rfl, _⟩ | ⟨rfl, _⟩
    · refine ⟨?_, ?_, ?_⟩
      · simp only [gd, gdAll, m3, b1, Bool.and_self]
      · simp only [sz, szAll]
        omega
      · simp only [PyData.depth, PyData.depthAll, m2]
        omega
    · have ok : PyData.strOk ("call" : Str) = true := by decide +kernel
      have ln : ("call" : Str).length = 4 := by decide +kernel
      refine ⟨?_, ?_, ?_⟩
      · simp only [gd, gdAll, m3, b1, ok, Bool.and_self]
      · simp only [sz, szAll, ln]
        omega
      · simp only [PyData.depth, PyData.depthAll, m2]
        omega
theorem TcB.bound : ∀ {k n c : Nat} {bs : List PyData}, TcB k n c bs → gdAll 0 bs = true ∧ szAll bs ≤ 130 * n ∧ PyData.depthAll bs ≤ 3 * k
  | _, _, _, _, .nil => ⟨rfl, Nat.zero_le _, Nat.zero_le _⟩
  | _, _, _, _, .cons (u := u) hu ht hb e1 e2 => by
    obtain ⟨a1, a2, a3⟩ := ht.bound
    obtain ⟨b1, b2, b3⟩ := hb.bound
    have hs := ef_sm hu
    refine ⟨?_, ?_, ?_⟩
    · simp only [gd, gdAll, hs.1, a1, b1, Bool.and_self]
    · simp only [sz, szAll, hs.2]
      omega
    · simp only [PyData.depth, PyData.depthAll]
      omega
end
end K01
/-! drawn trees, and what stands near them -/
namespace X48
open PySem L2 L2H DQ K01 RZ
theorem msD_strs (ms : List Str) : ms.map PyData.str = msD (ms.map lS) := by
  unfold msD
  rw [List.map_map]
  refine List.map_congr_left fun m _ => ?_
  show PyData.str m = .str (S (lS m))
  rw [S_lS]
theorem abc_gw {m : Str} (h : m ∈ abc3) : gw (lS m) ∧ (lS m).length ≤ 8 := by
  have z : (abc3.all fun m => wordS m) = true := by decide +kernel
  exact wordS_gw (List.all_eq_true.mp z m h)
theorem ef_gw {u : Str} (h : efS u) : gw (lS u) ∧ (lS u).length = 1 := by
  rcases h with rfl | rfl
  · exact ⟨(wordS_gw (by decide +kernel)).1, rfl⟩
  · exact ⟨(wordS_gw (by decide +kernel)).1, rfl⟩
mutual
theorem Tc_nd : ∀ {k n c : Nat} {d : PyData}, Tc k n c d → ∃ t, d = toD t ∧ Gd t ∧ hd t ≤ k + 1 ∧ (wr t).length + 3 ≤ 32 * n
  | k, n, c, _, .mk (ms := ms) (bs := bs) hm hl hr hb e1 e2 => by
    obtain ⟨b, rfl, gb, hh, hw⟩ := TcB_nd hb
    have hw40 := hw 40 (.inl rfl)
    have gms : ∀ m ∈ ms.map lS, gw m := fun m hx => by
      obtain ⟨x, hx', rfl⟩ := List.mem_map.mp hx
      exact (abc_gw (hm.subset hx')).1
    have lm : (wM (ms.map lS)).length ≤ 27 := wM_len (fun m hx => by
      obtain ⟨x, hx', rfl⟩ := List.mem_map.mp hx
      exact (abc_gw (hm.subset hx')).2) (by rw [List.length_map]; exact hm.length_le)
    rcases hr with ⟨rfl, _⟩ | ⟨rfl, _⟩
    · refine ⟨.mk (ms.map lS) b false, ?_, ⟨gms, gb⟩, ?_, ?_⟩
      · simp only [toD, msD_strs]
        rfl
      · simp only [hd]
        omega
      · simp only [wr, wC, List.length_append]
        rw [if_neg (by decide)]
        simp only [List.length_nil]
        omega
    · refine ⟨.mk (ms.map lS) b true, ?_, ⟨gms, gb⟩, ?_, ?_⟩
      · simp only [toD, msD_strs]
        rfl
      · simp only [hd]
        omega
      · simp only [wr, wC, List.length_append]
        rw [if_pos trivial]
        simp only [List.length_cons, List.length_nil]
        omega
theorem TcB_nd : ∀ {k n c : Nat} {bs : List PyData}, TcB k n c bs → ∃ b, bs = toB b ∧ GdB b ∧ hdB b ≤ k ∧ ∀ a, (a = 40 ∨ a = 44) → (wrB a b).length ≤ 1 + 32 * n
  | _, _, _, _, .nil => ⟨.nil, rfl, trivial, Nat.zero_le _, fun a ha => by
    simp only [wrB]
    split <;> simp⟩
  | _, _, _, _, .cons (u := u) hu ht hb e1 e2 => by
    obtain ⟨t, rfl, gt, h1, w1⟩ := Tc_nd ht
    obtain ⟨b, rfl, gb, h2, w2⟩ := TcB_nd hb
    obtain ⟨gu, lu⟩ := ef_gw hu
    have w44 := w2 44 (.inr rfl)
    refine ⟨.cons (lS u) t b, ?_, ⟨gu, gt, gb⟩, ?_, fun a ha => ?_⟩
    · simp only [toB, S_lS]
    · simp only [hdB]
      exact Nat.max_le.mpr ⟨h1, h2⟩
    · simp only [wrB, List.length_cons, List.length_append, lu]
      omega
end
mutual
theorem wr_lt : ∀ {t : Nd}, Gd t → ∀ c ∈ wr t, c ≤ 122
  | .mk ms bs c, g, x, hx => by
    simp only [wr] at hx
    rcases List.mem_append.mp hx with h | h
    · cases c with
      | true =>
        rw [List.mem_singleton.mp (show x ∈ [33] from h)]
        decide
      | false => exact absurd (show x ∈ [] from h) List.not_mem_nil
    · rcases List.mem_append.mp h with h | h
      · rcases wM_mem g.1 x h with h | h | h
        · omega
        · omega
        · omega
      · exact wrB_lt (by decide) g.2 x h
theorem wrB_lt : ∀ {b : Bs} {a : Nat}, a ≤ 122 → GdB b → ∀ c ∈ wrB a b, c ≤ 122
  | .nil, a, ha, g, x, hx => by
    simp only [wrB] at hx
    split at hx
    · exact absurd hx List.not_mem_nil
    · rw [List.mem_singleton.mp hx]
      decide
  | .cons w t r, a, ha, g, x, hx => by
    simp only [wrB] at hx
    rcases List.mem_cons.mp hx with rfl | hx
    · exact ha
    · rcases List.mem_append.mp hx with h | h
      · exact (g.1.2 x h).2
      · rcases List.mem_cons.mp h with rfl | h
        · decide
        · rcases List.mem_append.mp h with h | h
          · exact wr_lt g.2.1 x h
          · exact wrB_lt (by decide) g.2.2 x h
end
theorem gw_ok {w : List Nat} (h : gw w) : PyData.strOk (S w) = true := by
  unfold PyData.strOk S
  rw [← Array.all_toList]
  exact List.all_eq_true.mpr fun c hc => decide_eq_true (by have := (h.2 c hc).2; omega)
theorem gd_msD (N : Nat) {ms : List (List Nat)} (h : ∀ m ∈ ms, gw m) : gdAll N (msD ms) = true := gdAll_iff.mpr fun d hd => by
  obtain ⟨m, hm, rfl⟩ := List.mem_map.mp hd
  simpa [gd] using gw_ok (h m hm)
theorem dp_msD (ms : List (List Nat)) : PyData.depthAll (msD ms) = 0 := by
  induction ms with
  | nil => rfl
  | cons m ms ih =>
    show Nat.max 0 (PyData.depthAll (msD ms)) = 0
    rw [ih]
    rfl
theorem sz_jn : ∀ {ms : List (List Nat)}, (∀ m ∈ ms, gw m) → szAll (msD ms) ≤ 14 * (jn 43 ms).length
  | [], _ => Nat.zero_le _
  | [m], h => by
    have : m ≠ [] := (h m (List.mem_cons_self ..)).1
    have := List.length_pos_iff.mpr this
    simp only [msD, List.map_cons, List.map_nil, szAll, sz, jn, len_S]
    omega
  | m :: m' :: ms, h => by
    have ih := sz_jn (ms := m' :: ms) fun x hx => h x (List.mem_cons_of_mem _ hx)
    have e : szAll (msD (m :: m' :: ms)) = 10 * m.length + 2 + 2 + szAll (msD (m' :: ms)) := by
      simp only [msD, List.map_cons, szAll, sz, len_S]
    rw [e]
    simp only [jn, List.length_append, List.length_cons] at ih ⊢
    omega
theorem sz_wM {ms : List (List Nat)} (h : ∀ m ∈ ms, gw m) : szAll (msD ms) ≤ 14 * (wM ms).length ∧ 1 ≤ (wM ms).length := by
  unfold wM
  split
  · rename_i e
    rw [e]
    exact ⟨Nat.zero_le _, Nat.le_refl _⟩
  · refine ⟨sz_jn h, ?_⟩
    rename_i e
    obtain ⟨a, r, z, _⟩ := jn_head e h
    rw [z, List.length_cons]
    omega
mutual
theorem toD_b (N : Nat) : ∀ {t : Nd}, Gd t → gd N (toD t) = true ∧ sz (toD t) ≤ 60 * (wr t).length ∧ (toD t).depth + 1 ≤ 3 * hd t
  | .mk ms bs c, g => by
    obtain ⟨b1, b2, b3⟩ := toB_b N g.2
    have b2' := b2 40
    obtain ⟨s1, s2⟩ := sz_wM g.1
    have ok : PyData.strOk ("call" : Str) = true := by decide +kernel
    have ln : ("call" : Str).length = 4 := by decide +kernel
    have gm := gd_msD N g.1
    have dm := dp_msD ms
    cases c with
    | true =>
      simp only [toD, if_pos, gd, gdAll, gm, b1, ok, Bool.and_self, sz, szAll, ln, wr, wC, List.length_append, List.length_cons, List.length_nil, PyData.depth, PyData.depthAll, dm, hd]
      refine ⟨trivial, ?_, ?_⟩ <;> omega
    | false =>
      simp only [toD, gd, gdAll, gm, b1, Bool.and_self, sz, szAll, ln, wr, wC, List.length_append, List.length_cons, List.length_nil, PyData.depth, PyData.depthAll, dm, hd, Bool.false_eq_true, if_false]
      refine ⟨trivial, ?_, ?_⟩ <;> omega
theorem toB_b (N : Nat) : ∀ {b : Bs}, GdB b → gdAll N (toB b) = true ∧ (∀ a, szAll (toB b) ≤ 60 * (wrB a b).length) ∧ PyData.depthAll (toB b) ≤ 3 * hdB b
  | .nil, _ => ⟨rfl, fun _ => Nat.zero_le _, Nat.zero_le _⟩
  | .cons w t r, g => by
    obtain ⟨a1, a2, a3⟩ := toD_b N g.2.1
    obtain ⟨b1, b2, b3⟩ := toB_b N g.2.2
    have b2' := b2 44
    have gw' := gw_ok g.1
    refine ⟨?_, fun a => ?_, ?_⟩
    · simp only [toB, gd, gdAll, gw', a1, b1, Bool.and_self]
    · simp only [toB, sz, szAll, wrB, List.length_cons, List.length_append, len_S]
      omega
    · simp only [toB, PyData.depth, PyData.depthAll, hdB]
      show Nat.max (Nat.max 0 (Nat.max (toD t).depth 0) + 1) (PyData.depthAll (toB r)) ≤ 3 * Nat.max (hd t) (hdB r)
      have h1 : hd t ≤ Nat.max (hd t) (hdB r) := Nat.le_max_left _ _
      have h2 : hdB r ≤ Nat.max (hd t) (hdB r) := Nat.le_max_right _ _
      refine Nat.max_le.mpr ⟨?_, by omega⟩
      have : Nat.max 0 (Nat.max (toD t).depth 0) ≤ (toD t).depth := Nat.max_le.mpr ⟨Nat.zero_le _, Nat.max_le.mpr ⟨Nat.le_refl _, Nat.zero_le _⟩⟩
      omega
end
/-- things that may be shown, and asked about -/
structure Ob (d : PyData) : Prop where
  g : gd (10 ^ 30 + 10) d = true
  s : sz d ≤ 30000
  d : d.depth ≤ 40
theorem n31 : 10 ^ 30 + 10 ≤ 10 ^ 40 := by decide +kernel
theorem Ob.ok {d : PyData} (h : Ob d) : OkD d := by
  obtain ⟨a, b⟩ := shown_le n31 d h.g
  exact ⟨a, by have := h.d; omega, by
    have := h.s
    show _ ≤ 2 ^ 24
    omega⟩
theorem sz_mem : ∀ {ds : List PyData} {d : PyData}, d ∈ ds → sz d ≤ szAll ds
  | e :: ds, d, h => by
    simp only [szAll]
    rcases List.mem_cons.mp h with rfl | h
    · omega
    · have := sz_mem h
      omega
theorem Ob.mem {ds : List PyData} {d : PyData} (h : Ob (.tuple ds)) (hd : d ∈ ds) : Ob d := by
  obtain ⟨a, b, c⟩ := h
  simp only [gd] at a
  simp only [sz] at b
  simp only [PyData.depth] at c
  refine ⟨gdAll_iff.mp a d hd, ?_, ?_⟩
  · have := sz_mem hd
    omega
  · have := (dp_all (k := 39)).mp (by omega) d hd
    omega
theorem Ob.sub {ds es : List PyData} (h : Ob (.tuple ds)) (he : ∀ d ∈ es, d ∈ ds) (hs : szAll es ≤ szAll ds) : Ob (.tuple es) := by
  obtain ⟨a, b, c⟩ := h
  simp only [gd] at a
  simp only [sz] at b
  simp only [PyData.depth] at c
  refine ⟨?_, ?_, ?_⟩
  · simp only [gd]
    exact gdAll_iff.mpr fun d hd => gdAll_iff.mp a d (he d hd)
  · simp only [sz]
    omega
  · simp only [PyData.depth]
    have := (dp_all (k := 39) (ds := es)).mpr fun d hd => (dp_all (k := 39)).mp (by omega) d (he d hd)
    omega
theorem Ob.tl : ∀ {n : Nat} {d : PyData}, Ob d → Tl n d
  | 0, _, _ => trivial
  | n + 1, d, h => by
    refine ⟨?_, fun a bs r e u x hx => ?_⟩
    · cases d with
      | tuple ds => exact (h.sub (es := ds.drop 2) (fun d hd => List.mem_of_mem_drop hd) (by have := szAll_split ds 2; omega)).ok
      | _ => trivial
    · rw [e] at h
      have h1 : Ob (.tuple bs) := h.mem (List.mem_cons_of_mem _ (List.mem_cons_self ..))
      have h2 := h1.mem hx
      exact (h2.mem (List.mem_cons_of_mem _ (List.mem_cons_self ..))).tl
end X48
set_option Elab.async false
set_option linter.all false
set_option maxRecDepth 100000
set_option maxHeartbeats 4000000
/-! the law's own def, called from the very top: the table of modules and some tables of code objects are tracked -/
namespace L2H
open PySem PySem.Spec PyProof.Rows L2 LamX
/-- what is tracked when the law begins -/
def hT (om : Obj) (cs : List (Addr × Addr)) (a : Addr) (tr : Bool) (al : Obj) (xs : List V) : Hp := fun b =>
  if b = sysModules then some (.frz om (.ext fun _ => True)) else if b ∈ cs.map (·.2) then some (.tbl #[]) else if b = a ∧ tr = true then some (.frz al (.lst xs)) else none
section
variable {om al : Obj} {cs : List (Addr × Addr)} {a b : Addr} {tr : Bool} {xs : List V}
theorem hT_sys : hT om cs a tr al xs sysModules = some (.frz om (.ext fun _ => True)) := if_pos rfl
theorem hT_tab {p : Addr × Addr} (hp : p ∈ cs) (n : p.2 ≠ sysModules) : hT om cs a tr al xs p.2 = some (.tbl #[]) := by
  unfold hT
  rw [if_neg n, if_pos (List.mem_map.mpr ⟨p, hp, rfl⟩)]
theorem hT_scr (n : a ≠ sysModules) (m : a ∉ cs.map (·.2)) (h : tr = true) : hT om cs a tr al xs a = some (.frz al (.lst xs)) := by
  unfold hT
  rw [if_neg n, if_neg m, if_pos ⟨rfl, h⟩]
theorem hT_or {u : HO} (h : hT om cs a tr al xs b = some u) : (b = sysModules ∧ u = .frz om (.ext fun _ => True)) ∨ ((∃ p ∈ cs, p.2 = b) ∧ u = .tbl #[]) ∨ (b = a ∧ tr = true ∧ u = .frz al (.lst xs)) := by
  unfold hT at h
  by_cases h1 : b = sysModules
  · rw [if_pos h1] at h
    exact .inl ⟨h1, (Option.some.inj h).symm⟩
  · rw [if_neg h1] at h
    by_cases h2 : b ∈ cs.map (·.2)
    · rw [if_pos h2] at h
      obtain ⟨p, hp, e⟩ := List.mem_map.mp h2
      exact .inr (.inl ⟨⟨p, hp, e⟩, (Option.some.inj h).symm⟩)
    · rw [if_neg h2] at h
      by_cases h3 : b = a ∧ tr = true
      · rw [if_pos h3] at h
        exact .inr (.inr ⟨h3.1, h3.2, (Option.some.inj h).symm⟩)
      · rw [if_neg h3] at h
        cases h
end
section
variable {P : Program} {w : World} {K : PySem.W.Frag} {mg mb : Str → Option Value} {fa a : Addr} {fd : FuncData} {x : Str} {sp : Sp} {t : Shared} {vs : List Value} {ns : List Int} {k : Nat} {cs : List (Addr × Addr)}
theorem from_topT (KX : K.In t.heap) (gn : t.heap.Ns mainGlobals mg) (bn : t.heap.Ns builtinsNs mb) (bb : ∀ y : Str, y ≠ "__name__" → mb y = bootBuiltins y) (lim : t.heap.NoLimit) (g0 : t.gens = #[])
    (sm : ∃ m, t.heap.Ns sysModules m) (km : K.lookup sysModules = none)
    (tabs : ∀ p ∈ cs, t.heap.get? p.2 = some { cls := .none, data := .fields #[] }) (nT : ∀ p ∈ cs, K.lookup p.2 = none) (C : ∀ p ∈ cs, PySem.W.CodeHd t.heap p.1 p.2)
    (hbm : ∃ (bm : Addr) (ob : Obj), mg "__builtins__" = some (.ref bm) ∧ bm ≠ builtinsNs ∧ t.heap.get? bm = some ob ∧ ob.cls = .type "module" ∧ ob.dict = some builtinsNs ∧ ob.data = .plain)
    (at_a : t.heap.get? a = some { cls := .type "list", data := .seq vs.toArray }) (allInt : IntsAre vs ns) (short : ns.length ≤ sizeLine) (hr : Room k callerA)
    (F : ∀ base : Heap, K.In base → base.Ns mainGlobals mg → (∀ p ∈ cs, TabB base mg p.1 p.2) → FnGs P w K mg base k fa fd [x] sp) (bind : ∀ (s : Shared) (u : Value), BindsTo s fd ⟨[u], []⟩ [(x, u)])
    (wish : ∀ H : Hp, SysF H → (∀ p ∈ cs, H p.2 = some (.tbl #[])) → SqL K H a (ns.map V.int) → sp [.ref a] H (fun v _ => v = .bl true) fun _ _ _ => False) :
    codeAny (model P w) callerA (.call (.ref fa) ⟨[.ref a], []⟩) (Good t) t := by
  have rvs := vals_ints allInt
  obtain ⟨mm, om, esm, epm, hom, hdm, _⟩ := sm
  have tn : ∀ p ∈ cs, p.2 ≠ sysModules := fun p hp z => by
    have q := tabs p hp
    rw [z, hom] at q
    have y := congrArg Obj.data (Option.some.inj q)
    rw [show om.data = Data.dict esm epm from hdm] at y
    cases y
  have na : a ≠ sysModules := fun z => by
    rw [z, hom] at at_a
    have y := congrArg Obj.data (Option.some.inj at_a)
    rw [show om.data = Data.dict esm epm from hdm] at y
    cases y
  have ta : a ∉ cs.map (·.2) := fun z => by
    obtain ⟨p, hp, e⟩ := List.mem_map.mp z
    have q := tabs p hp
    rw [e, at_a] at q
    have y : Data.seq vs.toArray _ = Data.fields #[] := congrArg Obj.data (Option.some.inj q)
    cases y
  obtain ⟨tr, htr⟩ : ∃ tr : Bool, tr = (K.lookup a).isNone := ⟨_, rfl⟩
  have inK : tr = false → ∃ o, K.lookup a = some o := fun z => by
    rw [z] at htr
    cases q : K.lookup a with
    | none => rw [q] at htr; cases htr
    | some o => exact ⟨o, rfl⟩
  have nK : tr = true → K.lookup a = none := fun z => by
    rw [z] at htr
    cases q : K.lookup a with
    | none => rfl
    | some o => rw [q] at htr; cases htr
  obtain ⟨H, hH⟩ : ∃ H : Hp, H = hT om cs a tr { cls := .type "list", data := .seq vs.toArray } (ns.map V.int) := ⟨_, rfl⟩
  have or_ : ∀ {b : Addr} {u : HO}, H b = some u → (b = sysModules ∧ u = .frz om (.ext fun _ => True)) ∨ ((∃ p ∈ cs, p.2 = b) ∧ u = .tbl #[]) ∨ (b = a ∧ tr = true ∧ u = .frz { cls := .type "list", data := .seq vs.toArray } (.lst (ns.map V.int))) := fun {b u} e => by
    rw [hH] at e
    exact hT_or e
  -- what may be seen in the base
  have free : ∀ {b : Addr} {o : Obj}, t.heap.get? b = some o → b ≠ sysModules → (∀ vs n, o.data ≠ .seq vs n) → o.data ≠ .fields #[] → H b = none := fun {b o} e n1 n2 n3 => by
    cases q : H b with
    | none => rfl
    | some u =>
      rcases or_ q with ⟨z, _⟩ | ⟨⟨p, hp, z⟩, _⟩ | ⟨z, _, _⟩
      · exact absurd z n1
      · rw [← z, tabs p hp] at e
        cases e
        exact absurd rfl n3
      · rw [z, at_a] at e
        cases e
        exact absurd rfl (n2 _ _)
  have pass : ∀ {b : Addr} {o : Obj}, t.heap.get? b = some o → H b = none → (hidT t.heap H).get? b = some o := fun z n => hidT_get z n
  have nsp : ∀ {b : Addr} {m : Str → Option Value}, b ≠ sysModules → t.heap.Ns b m → (hidT t.heap H).Ns b m := fun {b m} nb ⟨o, es, ep, z, dz, r⟩ =>
    ⟨o, es, ep, pass z (free z nb (fun vs n y => by rw [show o.data = _ from dz] at y; cases y) fun y => by rw [show o.data = _ from dz] at y; cases y), dz, r⟩
  have Kb : K.In (hidT t.heap H) := fun b o z => pass (KX b o z) (by
    cases q : H b with
    | none => rfl
    | some u =>
      rcases or_ q with ⟨y, _⟩ | ⟨⟨p, hp, y⟩, _⟩ | ⟨y, h1, _⟩
      · rw [y, km] at z
        cases z
      · rw [← y, nT p hp] at z
        cases z
      · rw [y, nK h1] at z
        cases z)
  have md : Mod K mg (hidT t.heap H) := ⟨Kb, nsp (by decide) gn, ⟨mb, nsp (by decide) bn, bb⟩, let ⟨mc, q1, q2⟩ := lim; ⟨mc, nsp (by decide) q1, q2⟩⟩
  have hok : HOk P w H t.heap := fun b u e => by
    rcases or_ e with ⟨rfl, rfl⟩ | ⟨⟨p, hp, rfl⟩, rfl⟩ | ⟨rfl, _, rfl⟩
    · exact ⟨hom, trivial, ⟨om, hom⟩, fun _ _ _ _ => trivial⟩
    · exact tabs p hp
    · exact ⟨at_a, by rw [List.length_map]; exact short, vs, _, rvs, at_a⟩
  have tbl : ∀ p ∈ cs, H p.2 = some (.tbl #[]) := fun p hp => by rw [hH]; exact hT_tab hp (tn p hp)
  have sq : SqL K H a (ns.map V.int) := by
    cases htr' : tr with
    | true => exact .inl (.inr ⟨_, by rw [hH]; exact hT_scr na ta htr'⟩)
    | false =>
      obtain ⟨o, hk⟩ := inK htr'
      have z := KX a o hk
      rw [at_a] at z
      cases z
      exact .inr ⟨_, vs.toArray, _, hk, rfl, rfl, rfl, by rw [List.size_toArray, allInt.length]; exact short, by simpa using rvs⟩
  have notSys : ∀ {b : Addr} {o : Obj}, t.heap.get? b = some o → (∀ es ep, o.data ≠ .dict es ep) → b ≠ sysModules := fun {b o} e n z => by
    rw [z, hom] at e
    cases e
    exact n _ _ hdm
  have TB : ∀ p ∈ cs, TabB (hidT t.heap H) mg p.1 p.2 := fun p hp => by
    refine ⟨?_, ?_, fun z => ?_⟩
    · obtain ⟨o, us, file, tf, flags, tg, inF, text, tt, c1, c2, c3, c4, c5⟩ := C p hp
      refine ⟨o, us, file, tf, flags, tg, inF, text, tt, pass c1 (free c1 (notSys c1 fun es ep y => ?_) (fun vs n y => ?_) fun y => ?_), c2, c3, c4, c5⟩
      · rw [c3] at y
        cases y
      · rw [c3] at y
        cases y
      · rw [c3] at y
        cases y
        simp at c4
    · obtain ⟨bm, ob, b1, b2, b3, b4, b5, b6⟩ := hbm
      have nG : bm ≠ mainGlobals := fun q => by
        obtain ⟨o, es, ep, e, hd, _⟩ := gn
        rw [q, e] at b3
        cases b3
        rw [hd] at b6
        cases b6
      have nP : bm ≠ p.2 := fun q => by
        rw [q, tabs p hp] at b3
        cases b3
        cases b6
      refine ⟨bm, ob, b1, b2, nG, nP, pass b3 (free b3 (notSys b3 fun es ep y => ?_) (fun vs n y => ?_) fun y => ?_), b4, b5, b6⟩
      · rw [b6] at y
        cases y
      · rw [b6] at y
        cases y
      · rw [b6] at y
        cases y
    · obtain ⟨o, es, ep, e, hd, _⟩ := gn
      rw [z, tabs p hp] at e
      cases e
      cases hd
  have sysf : SysF H := ⟨om, .ext fun _ => True, by rw [hH]; exact hT_sys⟩
  have env : Env0 P w K mg (hidT t.heap H) callerA [] t H :=
    ⟨rfl, md, fun b o z => of_hidT z, Nat.le_of_eq (hidT_size _ _), trivial, fun b hb => absurd (show b ∈ ([] : List Addr) from hb) (by simp), hok, .of_eq g0⟩
  refine codeAny_mono (F _ Kb (nsp (by decide) gn) TB callerA [] t H [.ref a] [.ref a] _ _ hr rfl env (bind t (.ref a)) (.cons rfl .nil) rfl (wish H sysf tbl sq)) fun r t' h => ?_
  cases r with
  | error e => exact False.elim h
  | ok fl =>
    cases fl with
    | next => exact False.elim h
    | brk => exact False.elim h
    | cont => exact False.elim h
    | ret u =>
      obtain ⟨v, H', os, bare, un, hok', r', q⟩ := h
      obtain rfl : v = V.bl true := q
      obtain rfl : u = Value.bool true := r'
      have stay : ∀ b o, t.heap.get? b = some o → (∀ p ∈ cs, p.2 ≠ b) → t'.heap.get? b = some o := fun b o z n => by
        cases q : H b with
        | none => exact un.keep b o z q (by intro y; exact absurd (show b ∈ ([] : List Addr) from y) (by simp)) (by simp)
        | some u =>
          have lock : ∀ ob u', u = .frz ob u' → t'.heap.get? b = some o := fun ob u' e => by
            rw [e] at q
            obtain ⟨e1, _⟩ := hok b _ q
            obtain ⟨e2, _⟩ := hok' b _ (un.frzs b ob _ q)
            rw [z] at e1
            cases e1
            exact e2
          rcases or_ q with ⟨_, y⟩ | ⟨⟨p, hp, y⟩, _⟩ | ⟨_, _, y⟩
          · exact lock _ _ y
          · exact absurd y (n p hp)
          · exact lock _ _ y
      have grown : ∀ p ∈ cs, ∃ more : Array Value, t'.heap.get? p.2 = some { cls := .none, data := .fields more } := fun p hp => by
        obtain ⟨more, z⟩ := un.tbls p.2 #[] (tbl p hp)
        exact ⟨_, hok' p.2 _ z⟩
      refine ⟨rfl, ⟨fun b o e => ?_, fun b o e => ?_⟩, os, bare⟩
      · by_cases hb : ∃ p ∈ cs, p.2 = b
        · obtain ⟨p, hp, rfl⟩ := hb
          obtain ⟨more, hm⟩ := grown p hp
          rw [tabs p hp] at e
          cases e
          exact .inr (.inl ⟨((C p hp).tab (tabs p hp)).isCodeTable, rfl, #[], more, rfl, by rw [Array.empty_append]; exact hm⟩)
        · exact .inl (stay b o e fun p hp y => hb ⟨p, hp, y⟩)
      · by_cases hb : ∃ p ∈ cs, p.2 = b
        · obtain ⟨p, hp, rfl⟩ := hb
          obtain ⟨more, hm⟩ := grown p hp
          exact ⟨_, hm⟩
        · exact ⟨o, stay b o e fun p hp y => hb ⟨p, hp, y⟩⟩
end
end L2H
set_option Elab.async false
set_option linter.all false
set_option maxRecDepth 100000
set_option maxHeartbeats 4000000
namespace L2H
open PySem PySem.Spec PyProof.Rows L2 LamX
/-- what is known of the law's promise at the head's heap h -/
def LawAtT (l : PySem.W.OpenLaw) (w : World) (k n : Nat) (x : Str) (mg : Str → Option Value) (fa : Addr) (h : Heap) : Prop :=
  ∃ (K : PySem.W.Frag) (fd : FuncData) (cs : List (Addr × Addr)) (sp : Sp), K.In h ∧ K.lookup sysModules = none ∧ (∀ p ∈ cs, h.get? p.2 = some { cls := .none, data := .fields #[] }) ∧ (∀ p ∈ cs, K.lookup p.2 = none) ∧ (∀ p ∈ cs, PySem.W.CodeHd h p.1 p.2) ∧
    (∀ (s : Shared) (u : Value), BindsTo s fd ⟨[u], []⟩ [(x, u)]) ∧
    (∀ (H : Hp) (a : Addr) (ns : List Int), ns.length ≤ n → SysF H → (∀ p ∈ cs, H p.2 = some (.tbl #[])) → SqL K H a (ns.map V.int) → sp [.ref a] H (fun v _ => v = .bl true) fun _ _ _ => False) ∧
    ∀ base : Heap, K.In base → base.Ns mainGlobals mg → (∀ p ∈ cs, TabB base mg p.1 p.2) → FnGs l.prog w K mg base k fa fd [x] sp
theorem walk_topT {l : PySem.W.OpenLaw} {n k : Nat} {q : Program} {loose : List Str} {XP : (Str → Option Value) → Heap → Prop} {YP : World → Heap → Prop} {d : DefRec} {x : Str}
    (hn : l.most = some n) (few : n ≤ sizeLine) (hdf : d.params.defaults = []) (hi : importsNone q = true) (hr : Room k callerA)
    (F : ∀ (w : World) (mg : Str → Option Value) (fa : Addr) (h : Heap), YP w h → h.Ns mainGlobals mg → mg d.name = some (.ref fa) → LawAtT l w k n x mg fa h) :
    PySem.W.WalkO q loose XP YP l.row.toRowW d [] (fun f vs => PySem.call f vs) := by
  refine Att.attach_call hn hdf fun w s₀ t mg mb fa o pm cd doc a vs ns G Y ho hd hcd hmg hobj hints hlen g0 => ?_
  obtain ⟨K, fd, cs, sp, KX, km, tabs, nT, C, hb, wish, hF⟩ := F w mg fa _ Y G.T.g hmg
  have S := G.T.seer hi
  exact from_topT KX G.T.g G.T.b G.T.builtins G.T.nolimit g0 (let ⟨mm, y, _⟩ := S.mods; ⟨mm, y⟩) km tabs nT C G.T.bmain hobj hints (Nat.le_trans hlen few) hr hF hb fun H hO hT hS => wish H a ns hlen hO hT hS
end L2H
set_option Elab.async false
set_option linter.all false
set_option maxRecDepth 100000
set_option maxHeartbeats 4000000
/-! the mathematics of texts of rules -/
namespace X48
open PySem L2 L2H DQ K01
mutual
/-- how many calls -/
def nC : Nd → Nat
  | .mk _ bs c => nCB bs + (if c = true then 1 else 0)
def nCB : Bs → Nat
  | .nil => 0
  | .cons _ t r => nC t + nCB r
end
mutual
/-- the level of the first call -/
def lvN : Nd → Option Nat
  | .mk _ bs c => if c = true then some 0 else (lvB bs).map (· + 1)
def lvB : Bs → Option Nat
  | .nil => none
  | .cons _ t r => match lvN t with
    | some j => some j
    | none => lvB r
end
mutual
theorem lv_none : ∀ t : Nd, lvN t = none ↔ nC t = 0
  | .mk ms bs c => by
    have h := lvB_none bs
    cases c with
    | true => simp [lvN, nC]
    | false =>
      simp only [lvN, nC, Bool.false_eq_true, if_false, Option.map_eq_none_iff, h]
      omega
theorem lvB_none : ∀ b : Bs, lvB b = none ↔ nCB b = 0
  | .nil => by simp [lvB, nCB]
  | .cons w t r => by
    have h1 := lv_none t
    have h2 := lvB_none r
    simp only [lvB, nCB]
    cases ht : lvN t with
    | none =>
      rw [ht] at h1
      have z := h1.mp rfl
      simp only [h2]
      omega
    | some j =>
      rw [ht] at h1
      have z : nC t ≠ 0 := fun z => by have := h1.mpr z; cases this
      simp
      omega
end
mutual
theorem cnt_nC : ∀ {t : Nd} {m : Nat} {xy : Int × Int}, cnt m (toD t) = some xy → xy.2 = (nC t : Int)
  | .mk ms bs c, 0, xy, h => by cases h
  | .mk ms bs c, m + 1, xy, h => by
    have e : cnt (m + 1) (toD (.mk ms bs c)) = if isNode (3 - (m : Int)) (toD (.mk ms bs c)) = true then cntOf (cnt m) (toD (.mk ms bs c)) else none := rfl
    rw [e] at h
    split at h
    · have z := fold_nC (m := m) (acc := (1, ((if c = true then [PyData.str "call"] else []).length : Int))) (show (toB bs).foldl (stepB (cnt m)) (some (1, ((if c = true then [PyData.str "call"] else []).length : Int))) = some xy from h)
      rw [z]
      cases c with
      | true =>
        simp only [nC, if_true, List.length_cons, List.length_nil]
        push_cast
        omega
      | false =>
        simp only [nC, Bool.false_eq_true, if_false, List.length_nil]
        push_cast
        omega
    · cases h
theorem fold_nC : ∀ {bs : Bs} {m : Nat} {acc xy : Int × Int}, (toB bs).foldl (stepB (cnt m)) (some acc) = some xy → xy.2 = acc.2 + (nCB bs : Int)
  | .nil, m, acc, xy, h => by
    obtain rfl := Option.some.inj h
    simp [nCB]
  | .cons w t r, m, acc, xy, h => by
    have h : (toB r).foldl (stepB (cnt m)) (stepB (cnt m) (some acc) (.tuple [.str (S w), toD t])) = some xy := h
    have es : stepB (cnt m) (some acc) (.tuple [.str (S w), toD t]) = if wordS (S w) = true then (match cnt m (toD t) with | some pq => some (acc.1 + pq.1, acc.2 + pq.2) | none => none) else none := rfl
    rw [es] at h
    by_cases hw : wordS (S w) = true
    · rw [if_pos hw] at h
      cases hc : cnt m (toD t) with
      | none =>
        rw [hc] at h
        rw [fold_none] at h
        cases h
      | some pq =>
        rw [hc] at h
        have a := fold_nC h
        have b := cnt_nC hc
        rw [a, b]
        simp only [nCB]
        push_cast
        omega
    · rw [if_neg hw, fold_none] at h
      cases h
end
/-- trees, bodies, by their calls -/
theorem shape_nC {t : Nd} (h : tob (toD t) = true) : shape 0 (toD t) = decide (nC t = 0) ∧ shape 1 (toD t) = decide (nC t ≠ 0) := by
  have key : ∀ c : Int, shape c (toD t) = true ∨ shape c (toD t) = false := fun c => by cases shape c (toD t) <;> simp
  have : ∃ xy, cnt 4 (toD t) = some xy ∧ xy.1 ≤ 6 ∧ (xy.2 = 0 ∨ xy.2 = 1) := by
    rcases Bool.or_eq_true_iff.mp h with z | z <;>
    · unfold shape at z
      cases hc : cnt 4 (toD t) with
      | none =>
        rw [hc] at z
        cases z
      | some xy =>
        rw [hc] at z
        obtain ⟨z1, z2⟩ := Bool.and_eq_true_iff.mp z
        have z3 := V.int.inj (of_decide_eq_true z2)
        exact ⟨xy, rfl, of_decide_eq_true z1, by omega⟩
  obtain ⟨xy, hc, h6, h01⟩ := this
  have n := cnt_nC hc
  have s : ∀ c : Int, shape c (toD t) = decide (xy.2 = c) := fun c => by
    unfold shape
    rw [hc]
    show (decide (xy.1 ≤ 6) && decide (V.int xy.2 = V.int c)) = _
    rw [decide_eq_true h6, Bool.true_and]
    exact decide_eq_decide.mpr ⟨fun h => V.int.inj h, fun h => by rw [h]⟩
  rw [s, s]
  exact ⟨decide_eq_decide.mpr (by omega), decide_eq_decide.mpr (by omega)⟩
/-! ### lines -/
def n32 (c : Nat) : Bool := !(c == 32)
def wd (l : List Nat) : List Nat := l.takeWhile n32
def rs (l : List Nat) : List Nat := (l.dropWhile n32).drop 1
def wEnd : List Nat := [101, 110, 100]
def wStep : List Nat := [115, 116, 101, 112]
theorem S_end : ("end" : Str) = S wEnd := by decide +kernel
theorem S_step : ("step" : Str) = S wStep := by decide +kernel
/-- one line more -/
def stepR (es ss : List Nd) (l : List Nat) : Option (List Nd × List Nd) :=
  match toldP (rs l) with
  | none => none
  | some t => if wd l = wEnd ∧ nC t = 0 ∧ ss = [] ∧ es.length < 3 then some (es ++ [t], ss)
    else if wd l = wStep ∧ nC t ≠ 0 ∧ es ≠ [] ∧ ss.length < 3 then some (es, ss ++ [t]) else none
/-- all lines: the first that cannot stand there, or the rules -/
def goR : Nat → List Nd → List Nd → List (List Nat) → Nat ⊕ (List Nd × List Nd)
  | _, es, ss, [] => .inr (es, ss)
  | k, es, ss, l :: ls => match stepR es ss l with
    | none => .inl (k + 1)
    | some q => goR (k + 1) q.1 q.2 ls
def dueT (l : List Nat) : Nat ⊕ (List Nd × List Nd) := goR 0 [] [] (sp 10 l)
theorem told_nil : toldP [] = none := by decide +kernel
/-- ends and steps as they are read -/
structure EsOk (es ss : List Nd) : Prop where
  e : ∀ t ∈ es, Gd t ∧ tob (toD t) = true ∧ nC t = 0
  s : ∀ t ∈ ss, Gd t ∧ tob (toD t) = true ∧ nC t ≠ 0
  l : es.length ≤ 3
  m : ss.length ≤ 3
  n : ss ≠ [] → es ≠ []
theorem EsOk.nil : EsOk [] [] := ⟨fun t h => absurd h List.not_mem_nil, fun t h => absurd h List.not_mem_nil, by decide, by decide, fun h => absurd rfl h⟩
theorem told_ok {l : List Nat} {t : Nd} (h : toldP l = some t) : Gd t ∧ hd t ≤ 4 ∧ tob (toD t) = true ∧ (wr t).length ≤ 240 := by
  rw [read_eq] at h
  unfold lawR at h
  cases hr : lread 4 l with
  | none =>
    rw [hr] at h
    cases h
  | some u =>
    rw [hr] at h
    have h : (if (tob (toD u) && decide (wr u = l)) = true then some u else none) = some t := h
    cases ht : tob (toD u) with
    | false =>
      rw [ht] at h
      cases h
    | true =>
      rw [ht, Bool.true_and] at h
      by_cases hw : wr u = l
      · rw [decide_eq_true hw] at h
        obtain rfl := Option.some.inj h
        obtain ⟨t', e, g, h4, n6, l2⟩ := tob_sh ht
        have et := toD_inj e
        rw [← et] at g h4 l2
        exact ⟨g, h4, ht, l2⟩
      · rw [decide_eq_false hw] at h
        cases h
theorem told_wr {t : Nd} (g : Gd t) (h : hd t ≤ 4) (ht : tob (toD t) = true) : toldP (wr t) = some t := by
  rw [read_eq]
  unfold lawR
  rw [rt2 g h]
  show (if (tob (toD t) && decide (wr t = wr t)) = true then some t else none) = some t
  rw [ht, decide_eq_true rfl]
  rfl
theorem EsOk.step {es ss es' ss' : List Nd} {l : List Nat} (h : EsOk es ss) (q : stepR es ss l = some (es', ss')) : EsOk es' ss' ∧ es' ≠ [] := by
  unfold stepR at q
  cases ht : toldP (rs l) with
  | none =>
    rw [ht] at q
    cases q
  | some t =>
    rw [ht] at q
    obtain ⟨g, _, tb, _⟩ := told_ok ht
    have q : (if wd l = wEnd ∧ nC t = 0 ∧ ss = [] ∧ es.length < 3 then some (es ++ [t], ss) else if wd l = wStep ∧ nC t ≠ 0 ∧ es ≠ [] ∧ ss.length < 3 then some (es, ss ++ [t]) else none) = some (es', ss') := q
    split at q
    · rename_i c
      obtain ⟨c1, c2, c3, c4⟩ := c
      have e := Option.some.inj q
      obtain ⟨rfl, rfl⟩ := Prod.mk.inj e
      refine ⟨⟨fun u hu => ?_, h.s, by rw [List.length_append, List.length_singleton]; omega, h.m, fun _ z => by simp at z⟩, by simp⟩
      rcases List.mem_append.mp hu with z | z
      · exact h.e u z
      · rw [List.mem_singleton.mp z]
        exact ⟨g, tb, c2⟩
    · split at q
      · rename_i c
        obtain ⟨c1, c2, c3, c4⟩ := c
        have e := Option.some.inj q
        obtain ⟨rfl, rfl⟩ := Prod.mk.inj e
        refine ⟨⟨h.e, fun u hu => ?_, h.l, by rw [List.length_append, List.length_singleton]; omega, fun _ => c3⟩, c3⟩
        rcases List.mem_append.mp hu with z | z
        · exact h.s u z
        · rw [List.mem_singleton.mp z]
          exact ⟨g, tb, c2⟩
      · cases q
theorem goR_app : ∀ (ls ms : List (List Nat)) (k : Nat) (es ss : List Nd) (es' ss' : List Nd), goR k es ss ls = .inr (es', ss') → goR k es ss (ls ++ ms) = goR (k + ls.length) es' ss' ms
  | [], ms, k, es, ss, es', ss', h => by
    obtain ⟨rfl, rfl⟩ := Prod.mk.inj (Sum.inr.inj h)
    rfl
  | l :: ls, ms, k, es, ss, es', ss', h => by
    simp only [goR] at h
    simp only [List.cons_append, goR]
    cases hq : stepR es ss l with
    | none =>
      rw [hq] at h
      cases h
    | some q =>
      rw [hq] at h
      have := goR_app ls ms (k + 1) q.1 q.2 es' ss' h
      show goR (k + 1) q.1 q.2 (ls ++ ms) = _
      rw [this, List.length_cons, Nat.add_assoc, Nat.add_comm 1]
end X48
set_option Elab.async false
set_option linter.all false
set_option maxRecDepth 100000
set_option maxHeartbeats 4000000
/-! enumerate of a list, from a start given by its name -/
namespace EnS
open PySem PySem.Spec PyProof.Rows L2
theorem enum_endL {prog : Program} {w : World} {A : Around} {E : Value → Shared → Prop} {s : Shared} {e it l : Addr} {c : Int} {i : Nat} {items : Array Value} {old : Value} {Q : Option Value → Shared → Prop} (hh : A.handled = none)
    (he : IsEnum s.heap e it c old) (hit : s.heap.IsListIter it l i) (hl : s.heap.IsList l items) (hx : items[i]? = none)
    (hQ : ∀ h', Heap.ExtBut it s.heap h' → Q none { s with heap := h' }) : wpAny (model prog w) A (pyNext (.ref e)) Q E s := by
  have hT : s.TypeIs (.ref e) "enumerate" := ⟨_, he, rfl⟩
  unfold pyNext
  refine wpAny_bind (wpAny_attempt (wpAny_callSpecial?_slot (name := Str.ofString "__next__") hT F.slot_enumerate_next
    (wpAny_call_entry F.slot_enumerate_next hT F.entry_enumerate_next ?_ (F.args_enumerate_next_1 _))))
  show wpAny _ _ (field (.ref e) 2 >>= _) _ _ _
  refine wpAny_bind (wpAny_field he rfl (x := .ref it) rfl ?_)
  refine wpAny_bind (wpAny_nextOf_list_end (by rw [show A.in1.handled = A.handled from rfl]; exact hh) hit hl hx fun h' x he' hx' => ?_)
  obtain ⟨o, ho, hc⟩ := hx'
  refine wpAny_bind (wpAny_isInstance (T := "StopIteration") (b := true) ⟨o, ho, hc⟩ isSubtype_stop ?_)
  exact wpAny_pure (hQ _ he')
/-- the list at a, each item in a new pair, counted from c -/
def IteS (K : PySem.W.Frag) (a : Addr) (c : Int) : It :=
  ⟨fun i H => ∃ (xs : List V) (x : V), SqL K H a xs ∧ xs[i]? = some x, fun i H v H' => ∃ T x, v = .ref T ∧ H T = none ∧ H' = upd H T (.tup [.int (c + (i : Nat)), x]) ∧ ∀ xs, SqL K H a xs → xs[i]? = some x, fun i H => ∃ xs : List V, SqL K H a xs ∧ xs.length ≤ i⟩
theorem turn_enumS {P : Program} {w : World} {K : PySem.W.Frag} {elts : List Expr} {kk : Nat} {tpos : Pos} (a e it : Addr) (c : Int) (hai : a ≠ it) (hae : a ≠ e) :
    Turn P w K (.Tuple elts kk tpos) (IteS K a c) [e, it] e (fun i h => (∃ old, IsEnum h e it (c + ((i : Nat) : Int)) old) ∧ h.IsListIter it a i ∧ e ≠ it) where
  mem := by simp
  obj := fun i h st b hb => by
    obtain ⟨⟨old, he⟩, ⟨o, ho, hc, hd⟩, _⟩ := st
    have e' : b = e ∨ b = it := by simpa using hb
    rcases e' with z | z
    · rw [z]; exact ⟨_, he, fun v q => nomatch q⟩
    · rw [z]; exact ⟨o, ho, fun v q => by rw [hd] at q; cases q⟩
  keep := fun i h h' st k => let ⟨⟨old, he⟩, hi, hne⟩ := st; ⟨⟨old, k e (by simp) _ he⟩, hi.at fun o q => k it (by simp) o q, hne⟩
  item := by
    intro X hP hw hK hc i pins s σ H E I hf st hg
    subst hP hw hK
    obtain ⟨⟨old, he⟩, hit, hne⟩ := st
    obtain ⟨xs, x, hq, hx⟩ := hg
    obtain ⟨its, rv, p, hz⟩ := I.list hq
    have p : s.heap.IsList a its.toArray := p.isList
    obtain ⟨u, hu, ru⟩ := rv.get hx
    have hel : e < s.heap.objs.size := Heap.lt_size he
    have hil : it < s.heap.objs.size := by obtain ⟨_, q, _⟩ := hit; exact Heap.lt_size q
    have hlt : i < its.toArray.size := by
      have := (List.getElem?_eq_some_iff.mp hu).1
      simpa using this
    refine wpAny_pyNext_enum_itemC (Draws.list (by rw [show X.A.in1.handled = X.A.handled from rfl]; exact I.ok.hd hc) it a hai its.toArray) he ⟨hit, p⟩ hlt hne (fun z => ?_) fun x' h' tk hP ho hst' hT hsz hk => ?_
    · rcases List.mem_cons.mp z with z | z
      · exact hne z
      · exact hae (List.mem_singleton.mp z).symm
    have hxu : x' = u := by
      have y : its[i]? = some x' := by simpa using hP
      rw [hu] at y
      exact (Option.some.inj y).symm
    subst hxu
    obtain ⟨hit', _⟩ := hst'
    refine ⟨_, rfl, wpAny_letOwnedTupleGo_enum (s := { s with heap := h', toks := tk + 1 }) ho fun h'' he' sb => ?_⟩
    have hT2 : h''.get? s.heap.objs.size = some { cls := .type "tuple", data := .seq #[.int (c + i) tk, x'] } := (sb.2 _ (Nat.ne_of_gt hel)).trans hT
    have new : ObjOk X.prog X.w (upd H s.heap.objs.size (.tup [.int (c + (i : Nat)), x])) h'' s.heap.objs.size (.tup [.int (c + (i : Nat)), x]) :=
      ⟨by show 2 ≤ sizeLine; decide, [.int (c + i) tk, x'], .cons ⟨_, rfl⟩ (.cons ru .nil), ⟨_, hT2, rfl, _, rfl⟩⟩
    have I1 : Inv X pins σ (upd H s.heap.objs.size (.tup [.int (c + (i : Nat)), x])) { s with heap := h'', toks := tk + 1 } :=
      I.turnedNew (ch := [e, it]) (fun b ob hb q => (sb.2 b (fun z => hb (by simp [z]))).trans (hk b ob (fun z => hb (by simp [z])) (fun z => hb (by simp [z])) q)) hf (Nat.le_refl _) new
    refine ⟨.ref s.heap.objs.size, _, I1, rfl, ⟨_, x, rfl, I.hok.fresh (Nat.le_refl _), rfl, fun ys hy => by rw [I.list_inj hy hq]; exact hx⟩, ⟨⟨x', ?_⟩, hit'.at fun o q => (sb.2 it (Ne.symm hne)).trans q, hne⟩, fun b hb => ?_⟩
    · have e1 : c + ((i + 1 : Nat) : Int) = c + (i : Int) + 1 := by omega
      rw [e1]; exact he'
    · have hb' : b < s.heap.objs.size := by
        have e' : b = e ∨ b = it := by simpa using hb
        rcases e' with z | z
        · rw [z]; exact hel
        · rw [z]; exact hil
      rw [upd_ne (Nat.ne_of_lt hb')]
      exact (hf b hb).1
  done := by
    intro X hP hw hK hc i pins s σ H E I hf st hg
    subst hP hw hK
    obtain ⟨⟨old, he⟩, hit, hne⟩ := st
    obtain ⟨xs, hq, hx⟩ := hg
    obtain ⟨its, rv, p, hz⟩ := I.list hq
    obtain ⟨f0, f1, f2, f3, f4, f5⟩ := hf it (by simp)
    have hl := rv.length
    exact enum_endL (I.ok.hd hc) he hit p.isList (by simp; omega) fun h' eb => ⟨rfl, I.turned (t' := s.toks) (fun b o hb q => eb b o hb q) f0 f1 f3 f4 f5⟩
  self := fun A i s Q E st h => let ⟨⟨_, he⟩, _⟩ := st; wpAny_pyIter_enum he h
section
variable {M : Model} {A : Around} {E : Value → Shared → Prop} {s : Shared} {env : Env}
/-- a built-in class called with keywords -/
theorem callWith_kwT {pos : Pos} {T : String} {e : Expr} {rest : List Expr} {kws : List Keyword} {Q : Value → Shared → Prop}
    (h : wpAny M A (spliced (backTo pos (starEach (e :: rest) env))) (fun vs s₁ => wpAny M A (evalAll ((backToKw pos (keywordEach kws env)).map (·.2)))
      (fun kvs s₂ => wpAny M A (call (.type T) vs (((backToKw pos (keywordEach kws env)).filterMap (·.1)).zip kvs)) Q E s₂) E s₁) E s)
    (he : backTo pos (starEach (e :: rest) env) = (false, eval e env) :: backTo pos (starEach rest env))
    (hplain : (backTo pos (starEach (e :: rest) env)).any (·.1) = false)
    (hall : (backToKw pos (keywordEach kws env)).all (·.1.isSome) = true)
    (hkw : (backToKw pos (keywordEach kws env)).any (·.1.isNone) = false) :
    wpAny M A (callWith pos (.type T) [] (backTo pos (starEach (e :: rest) env)) (backToKw pos (keywordEach kws env))) Q E s := by
  have h2 : wpAny M A (evalArgs (.type T) true (backTo pos (starEach (e :: rest) env)) (backToKw pos (keywordEach kws env))) (fun a s₁ => wpAny M A (call (.type T) ([] ++ a.pos) a.kw) Q E s₁) E s := by
    rw [he] at h ⊢
    exact evalArgs_kwB hall h
  unfold callWith
  refine wpAny_bind (wpAny_holding (wpAny_mono h2 (fun a s₁ h₁ => wpAny_bind (wpAny_standAt ?_)) fun _ _ x => x))
  simp only [hplain, hkw, Bool.or_false]
  refine wpAny_bind (wpAny_pure ?_)
  exact wpAny_bind (wpAny_mono h₁ (fun r s₂ hr => wpAny_bind (wpAny_holding (wpAny_point (wpAny_pure hr)))) fun _ _ x => x)
end
def iEnumS (K : PySem.W.Frag) (ta tk : TA) : TI := fun σ H R => ta σ H fun vs H1 => tk σ H1 fun zs H2 => ∃ a xs c, vs = [.ref a] ∧ zs = [.int c] ∧ 0 ≤ c ∧ c ≤ 1000 ∧ SqL K H2 a xs ∧ R (IteS K a c) H2
theorem pi_enumS {X : Cx} {e : Expr} {ta tk : TA} {p pos tpos : Pos} {elts : List Expr} {kk : Nat} {kws : List Keyword} (hg : Gl X "enumerate") (hm : X.mg "enumerate" = none) (ha : PA X [e] ta) (hk : PK X kws tk)
    (he : backTo pos (starEach [e] X.env) = (false, eval e X.env) :: backTo pos (starEach [] X.env) := by rfl) (hpl : (backTo pos (starEach [e] X.env)).any (·.1) = false := by rfl)
    (hall : (backToKw pos (keywordEach kws X.env)).all (·.1.isSome) = true := by rfl) (hnone : (backToKw pos (keywordEach kws X.env)).any (·.1.isNone) = false := by rfl) (hks : (backToKw pos (keywordEach kws X.env)).filterMap (·.1) = [("start" : Str)] := by rfl) :
    PI X (.Tuple elts kk tpos) (.Call (.Name "enumerate" p) [e] kws pos) (iEnumS X.K ta tk) := by
  refine ⟨fun pins s σ H R I h => ?_⟩
  refine wpAny_Call_Name_kw (ld_blt I hg hm boot_enumerate ?_ (by decide) (by decide))
  refine callWith_kwT (thn (ha.run pos pins s σ H _ I h) fun us s1 ⟨vs, H1, I1, r1, q1⟩ => thn (hk.run pos pins s1 σ H1 _ I1 q1) fun ws s2 ⟨zs, H2, I2, r2, q2⟩ => ?_) he hpl hall hnone
  rw [hks]
  obtain ⟨a, xs, c, ex, ez, c0, c1, hq, q⟩ := q2
  subst ex ez
  cases r1 with
  | cons r rr =>
  cases rr
  cases r
  cases r2 with
  | cons r rr =>
  cases rr
  obtain ⟨t, rfl⟩ := r
  obtain ⟨its, rv, p', hz⟩ := I2.list hq
  have p2 : s2.heap.IsList a its.toArray := p'.isList
  have lt : a < s2.heap.objs.size := by obtain ⟨_, z, _⟩ := p2; exact Heap.lt_size z
  refine enum_begins_start (begins_list a its.toArray) p2 (by omega) (by
    have : (1000 : Int) < 2 ^ 63 := by decide
    omega) fun h' he ho hsz hk => wpAny_pyIter_enum he ?_
  have I3 : Inv X pins σ H2 { s2 with heap := h' } := I2.kept (t' := s2.toks) hk
  have e' : ∀ b, b ∈ [s2.heap.objs.size + 1, s2.heap.objs.size] → s2.heap.objs.size ≤ b := fun b hb => by
    have : b = s2.heap.objs.size + 1 ∨ b = s2.heap.objs.size := by simpa using hb
    rcases this with z | z
    · rw [z]; exact Nat.le_add_right _ _
    · rw [z]; exact Nat.le_refl _
  refine ⟨s2.heap.objs.size + 1, [s2.heap.objs.size + 1, s2.heap.objs.size], _, _, H2, rfl, I3, turn_enumS a (s2.heap.objs.size + 1) s2.heap.objs.size c (Nat.ne_of_lt lt) (Nat.ne_of_lt (Nat.lt_succ_of_lt lt)), ⟨⟨.none, ?_⟩, ⟨_, ho, rfl, rfl⟩, Nat.succ_ne_self _⟩, fun b hb => I2.fpOk (e' b hb) (I2.hok.fresh (e' b hb)), q⟩
  have : c + ((0 : Nat) : Int) = c := by omega
  rw [this]
  exact he
/-- the pairs of a list's items -/
theorem walk_enumS {K : PySem.W.Frag} {a : Addr} {c : Int} {xs : List V} : Walk (IteS K a c) xs.length (fun H => SqL K H a xs) (YPair (fun i => some (.int (c + (i : Nat)))) (fun i => xs[i]?)) where
  goes := fun i H hi q => ⟨xs, xs[i], q, by simp [hi]⟩
  stops := fun H q => ⟨xs, q, Nat.le_refl _⟩
  yields := fun i H x H' hi q y => by
    obtain ⟨T, u, rfl, n, rfl, h⟩ := y
    exact ⟨T, _, u, rfl, n, rfl, rfl, h xs q⟩
end EnS
set_option Elab.async false
set_option linter.all false
set_option maxRecDepth 100000
set_option maxHeartbeats 4000000
/-! != of two lists whose items are equal one by one, by an own __eq__ too -/
namespace EqL
open PySem PySem.SeqAt GQ
open AutoSeq1 (wpAny_loadPart')
open MeetsSeq MeetsSeq2 MeetsSeq3 SeqRoads2
section
variable {prog : Program} {w : World} {A : Around} {R : Result → Shared → Prop}
theorem ne_loop (l b : Addr) (N : Nat) (I : Nat → Shared → Prop) (hl : ListI prog w A (fun e s' => R (.error e) s') l b N I)
    (fin : ∀ s, I N s → R (.ok (.ret (.bool false))) s) (k : Nat) :
    ∀ i : Nat, N - i = k → i ≤ N → ∀ s, I i s →
      wpAny (model prog w) A.in1 (Builtin.«list.__eq__.loop» ⟨[.ref l, .ref b, rawInt i, rawInt 3], []⟩) (FinOf prog w A R) (fun e s' => R (.error e) s') s := by
  induction k with
  | zero =>
    intro i hk hi s h
    obtain ⟨items, items2, n, n2, hl1, hb1, hs1, hs2, _⟩ := hl _ _ h
    have hi' : i = N := by omega
    have hR : R (.ok (.ret (.bool false))) s := fin s (hi' ▸ h)
    obtain ⟨hp, g, d, tk, os⟩ := s
    wp_walk using wpAny_loadPart' hl1, wpAny_loadPart' hb1
    have hi1 : items[((i : Nat) : Int).toNat]? = none := by simp; omega
    have hi2 : items2[((i : Nat) : Int).toNat]? = none := by simp; omega
    rw [hi1, hi2]
    wp_walk using wpAny_loadPart' hl1, wpAny_loadPart' hb1
    show R (.ok (.ret (.bool (items.size != items2.size)))) _
    rw [hs1, hs2]
    simpa using hR
  | succ k ih =>
    intro i hk hi s h
    obtain ⟨items, items2, n, n2, hl1, hb1, hs1, hs2, turn⟩ := hl _ _ h
    have hlt : i < items.size := by omega
    have hlt2 : i < items2.size := by omega
    have ht := turn hlt hlt2
    obtain ⟨hp, g, d, tk, os⟩ := s
    wp_walk using wpAny_loadPart' hl1, wpAny_loadPart' hb1
    have hi1 : items[((i : Nat) : Int).toNat]? = some items[i] := by simp [hlt]
    have hi2 : items2[((i : Nat) : Int).toNat]? = some items2[i] := by simp [hlt2]
    have hc : ((i : Int) + 1) = ((i + 1 : Nat) : Int) := by omega
    rw [hi1, hi2]
    refine wpAny_bind (wpAny_mono ht (fun r s2 h2 => ?_) fun _ _ x => x)
    obtain ⟨hr, h2⟩ := h2
    subst hr
    have hrec := ih (i + 1) (by omega) (by omega) s2 h2
    obtain ⟨hp2, g2, d2, tk2, os2⟩ := s2
    wp_walk
    rw [hc]
    exact ⟨plainId_quiet plain_eq_loop _, codeAny_builtin entry_eq_loop (by
      rw [Around.under_plainId plain_eq_loop _]
      exact hrec)⟩
theorem list_ne (l b : Addr) (N : Nat) (I : Nat → Shared → Prop) (hl : ListI prog w A (fun e s' => R (.error e) s') l b N I)
    (fin : ∀ s, I N s → R (.ok (.ret (.bool false))) s) {s : Shared} (h : I 0 s) :
    wpAny (model prog w) A.in1 (Builtin.«list.__ne__» ⟨[.ref l, .ref b], []⟩) (FinOf prog w A R) (fun e s' => R (.error e) s') s := by
  obtain ⟨items, items2, n, n2, hl1, hb1, hs1, hs2, _⟩ := hl _ _ h
  have hrec := ne_loop (A := A) (R := R) l b N I hl fin _ 0 rfl (Nat.zero_le _) s h
  obtain ⟨hp, g, d, tk, os⟩ := s
  have f3 := AutoSeq1.sub_list_list
  have hne : ¬ (items.size != items2.size) = true := by simp [hs1, hs2]
  wp_walk using wpAny_loadPart' hl1, wpAny_loadPart' hb1
  exact ⟨plainId_quiet plain_eq_loop _, codeAny_builtin entry_eq_loop (by
    rw [Around.under_plainId plain_eq_loop _]
    exact hrec)⟩
end
section
variable {prog : Program} {w : World} {A : Around} {E : Value → Shared → Prop} {s : Shared}
theorem rc_ne {l b : Addr} {N : Nat} {Q : Value → Shared → Prop} (hu : A.units < cLine) (I : Nat → Shared → Prop) (hl : ListI prog w A E l b N I)
    (fin : ∀ s, I N s → Q (.bool false) s) (h : I 0 s) : wpAny (model prog w) A (richCompare .NotEq (.ref l) (.ref b)) Q E s := by
  obtain ⟨items, items2, n, n2, hl1, hb1, _, _, _⟩ := hl _ _ h
  refine wpAny_richCompare_same_room (op := .NotEq) ⟨_, hl1, rfl⟩ ⟨_, hb1, rfl⟩ F.slot_list_ne (call_here F.slot_list_ne ⟨_, hl1, rfl⟩ F.entry_list_ne (F.args_list_ne_2 _ _) ?_) hu
  exact list_ne (R := wants (fun v s' => v ≠ .notImplemented ∧ Q v s') E) l b N I hl (fun s' q => ⟨(fun x => nomatch x), fin s' q⟩) h
end
end EqL
namespace EqL
open PySem PySem.Spec PyProof.Rows L2
section
variable {X : Cx} {n : Nat} {D : Eqv}
/-- x != y of two lists whose items are equal -/
def rNeL (D : Eqv) : R2 := fun x y H Q => DList D x y H ∧ ∀ H', Ext H H' → Q (.bl false) H'
theorem op_neL (hD : Mon D) (h : EqG X n D) (hr : Room (n + 1) X.A) : OpR X (compareOp .NotEq) (rNeL D) := by
  intro pins s σ H x y v u Q I rx ry hq
  obtain ⟨d, q⟩ := hq
  show wpAny (model X.prog X.w) X.A (richCompare .NotEq v u) (EP X pins σ Q) X.xe s
  obtain ⟨a, b, xs, ys, rfl, rfl, ha, hb, p⟩ := d
  cases rx
  cases ry
  have sb : Sub X (n + 1) X.A := ⟨hr, rfl⟩
  refine rc_ne (N := xs.length) sb.room.units0 (fun _ s' => LoopI X pins σ H s') (fun i s' q => ?_) (fun s' z => ?_) ⟨H, I, Ext.rfl'⟩
  · obtain ⟨H1, I1, e1⟩ := id q
    obtain ⟨z, its, k, r, e⟩ := I1.hok a _ (e1 _ _ ha)
    obtain ⟨z2, its2, k2, r2, e2⟩ := I1.hok b _ (e1 _ _ hb)
    refine ⟨its.toArray, its2.toArray, k, k2, e, e2, by rw [List.size_toArray, ← r.length], by rw [List.size_toArray, ← r2.length, ← p.1], fun h1 h2 => ?_⟩
    exact turnG hD h sb p r r2 i h1 h2 s' q
  · obtain ⟨H', I', e⟩ := z
    exact ⟨.bl false, H', I', rfl, q H' e⟩
end
end EqL
set_option Elab.async false
set_option linter.all false
set_option maxRecDepth 100000
set_option maxHeartbeats 4000000
/-! rules_text -/
namespace X48
open PySem L2 L2H DQ K01
open XH hiding same_refl same_trans same_new
open RU (RulesAt RCl lk_e lk_s)
def lnE (t : Nd) : List Nat := wEnd ++ 32 :: wr t
def lnS (t : Nd) : List Nat := wStep ++ 32 :: wr t
theorem S_sp : (" " : Str) = S [32] := by decide +kernel
theorem S_nl : ("\n" : Str) = S [10] := by decide +kernel
def txR (es ss : List Nd) : List Nat := jn 10 (es.map lnE ++ ss.map lnS)
def GsOk (ts : List Nd) : Prop := ∀ t ∈ ts, Gd t ∧ hd t ≤ 4 ∧ (wr t).length ≤ 1000
def spRX (K : PySem.W.Frag) (C : Addr) : Sp := fun vs H Q _ => ∃ (a : Addr) (es ss : List Nd), vs = [.ref a] ∧ RulesAt K H a C (es.map toD) (ss.map toD) ∧ GsOk es ∧ GsOk ss ∧ es.length ≤ 3 ∧ ss.length ≤ 3 ∧ ∀ H', Same H H' → Q (.str (S (txR es ss))) H'
abbrev nRX : List Str := ["rules", "ends", "steps", "end", "step"]
theorem scRX : FnScope nRX ["rules"] (defScope sRTx) := ⟨rfl, rfl, rfl, by decide +kernel, rfl, by decide +kernel, by decide +kernel⟩
theorem jn_len10 (c : Nat) : ∀ ms : List (List Nat), (jn c ms).length ≤ (ms.map List.length).sum + ms.length
  | [] => Nat.zero_le _
  | [m] => by simp [jn]
  | m :: m' :: ms => by
    have ih := jn_len10 c (m' :: ms)
    simp only [jn, List.length_append, List.length_cons, List.map_cons, List.sum_cons] at ih ⊢
    omega
theorem sum_le {α : Type} (f : α → Nat) (b : Nat) : ∀ l : List α, (∀ x ∈ l, f x ≤ b) → (l.map f).sum ≤ b * l.length
  | [], _ => Nat.zero_le _
  | x :: l, h => by
    have a := h x (List.mem_cons_self ..)
    have ih := sum_le f b l fun y hy => h y (List.mem_cons_of_mem _ hy)
    simp only [List.map_cons, List.sum_cons, List.length_cons, Nat.mul_add]
    omega
section
variable {P : Program} {w : World} {K : PySem.W.Frag} {mg : Str → Option Value} {base : Heap}
theorem ok_rx {f fN fI C : Addr} {fd dN : FuncData} (F : Fun K "rules_text" "rules_text" sRTx f fd) (R : RCl K mg C fI) (gE : ∃ t, mg "END_WORD" = some (.str "end" t)) (gS : ∃ t, mg "STEP_WORD" = some (.str "step" t))
    (FN : Fun K "_node_text" "_node_text" sNoT fN dN) (bN : Binds K dN ["node"] []) (gN : mg "_node_text" = some (.ref fN)) (GN : FnOk P w K mg base CX0 5 fN dN ["node"] (spNT 4)) : FnOk P w K mg base CX0 6 f fd ["rules"] (spRX K C) := by
  refine F.ok (k := 5) scRX (fun vs H Q E h => ?_) (fun cdv A outer s H vs Q E hr h => ?_)
  · obtain ⟨a, es, ss, rfl, _⟩ := h
    rfl
  · obtain ⟨a, es, ss, rfl, ra, okE, okS, l3, m3, kk⟩ := h
    obtain ⟨tE, gE⟩ := gE
    obtain ⟨tS, gS⟩ := gS
    refine ⟨_, pss_cons (ps_setLc (i := 1) (own := [("end", 3)]) (g := gName 3) (tt := tYes) (by rfl) scRX.nd rfl rfl (sw_true rfl rfl rfl (by decide +kernel)) (pi_tup (pe_fld (pv 0) rfl)) (blkOk_by (own := [("end", 3)]) (N := nRX) (sc := defScope sRTx) (by decide +kernel))
        (fun _ _ _ _ _ => pg_name (i := 3) scRX.nd rfl (Or.inl rfl)) (fun _ _ _ _ _ => pts_nil)
        (fun _ _ _ _ _ => pe_joined (.cons (pe_fmt (pe_glob (v := .str "end") (by rfl) gE ⟨_, rfl⟩)) (.cons pe_str (.cons (pe_fmt (pe_call GN hr (by rfl) gN FN.kp bN .nil pass0 (pa_cons (pv 3) pa_nil))) .nil)))))
      (pss_cons (ps_setLc (i := 2) (own := [("step", 4)]) (g := gName 4) (tt := tYes) (by rfl) scRX.nd rfl rfl (sw_true rfl rfl rfl (by decide +kernel)) (pi_tup (pe_fld (pv 0) rfl)) (blkOk_by (own := [("step", 4)]) (N := nRX) (sc := defScope sRTx) (by decide +kernel))
        (fun _ _ _ _ _ => pg_name (i := 4) scRX.nd rfl (Or.inl rfl)) (fun _ _ _ _ _ => pts_nil)
        (fun _ _ _ _ _ => pe_joined (.cons (pe_fmt (pe_glob (v := .str "step") (by rfl) gS ⟨_, rfl⟩)) (.cons pe_str (.cons (pe_fmt (pe_call GN hr (by rfl) gN FN.kp bN .nil pass0 (pa_cons (pv 4) pa_nil))) .nil)))))
      (pss_one (ps_ret (pe_join pe_str (pe_op op_cat (pv 1) (pv 2)))))), ?_⟩
    obtain ⟨dx, pe, ps, xs, ys, o1, o2, o3, o4, o5⟩ := ra
    refine ⟨_, rfl, a, C, dx, _, .ref pe, rfl, o1, R.cl, R.n1, lk_e _ _, pe, rfl, ⟨_, o2⟩, fun D nD => ?_⟩
    refine lc_it (walk_tup (xs := xs)) (te := fun σ H Q => tJs [tFmt (tC (.str "end")), tC (.str " "), tFmt (tCall (spNT 4) [] _ (tCons (tVar 3) tNil))] Str.empty σ H fun out H1 => Q (V.str out) H1) (fun i H' => Same H H' ∧ H' D = some (.lst (((es).take i).map fun t => V.str (S (lnE t))))) ⟨same_new nD, upd_same⟩ (fun i H' _ ⟨s, _⟩ => sqt_same o2 s) ?_ ?_
    · rintro i y H5 H6 hi ⟨s5, hdd⟩ ⟨rfl, hy⟩
      have hil : i < (es).length := by
        rw [o3.len, List.length_map] at hi
        exact hi
      have hp := List.getElem?_eq_getElem hil
      have hmem := List.getElem_mem hil
      generalize (es)[i] = p at hp hmem
      obtain ⟨g1, g2, g3⟩ := okE p hmem
      have hdat : ((es).map toD)[i]? = some (toD p) := by
        rw [List.getElem?_map, hp]
        rfl
      obtain ⟨vi, hvi, qi⟩ := o3.at hdat
      rw [hy] at hvi
      obtain rfl : y = vi := Option.some.inj hvi
      refine ⟨rfl, ?_⟩
      unfold tYes
      refine iteT ?_
      refine .inl ⟨"end", rfl, by decide +kernel, _, rfl, by decide +kernel, _, rfl, by decide +kernel, _, rfl, y, p, rfl, qi.same s5, g1, g2, by omega, fun H7 s7 => .inl ⟨S (wr p), rfl, by rw [len_S]; exact m6 (by omega), _, rfl, ?_, ?_⟩⟩
      · rw [S_end, S_sp, apE, apS, apS]
        refine lenS6 ?_
        simp only [List.length_append, wEnd, List.length_cons, List.length_nil]
        omega
      rw [S_end, S_sp, apE, apS, apS, show wEnd ++ [32] ++ wr p = lnE p by simp [lnE]]
      refine ⟨_, s7 _ _ hdd, ?_, fun b o z => ?_, ?_⟩
      · rw [List.length_map, List.length_take]
        exact Nat.lt_of_le_of_lt (show min i (es).length ≤ 1000000 by omega) (by decide)
      · rw [upd_ne (ne_of_none z nD)]
        exact s7 _ _ (s5 _ _ z)
      · rw [upd_same, tk_snoc hp, List.map_append]
        rfl
    rintro H5 ⟨s5, e5⟩
    rw [List.take_of_length_le (by rw [o3.len, List.length_map]; exact Nat.le_refl _)] at e5
    have o4b := sqt_same o4 s5
    have o5b := o5.same s5
    refine ⟨_, rfl, a, C, dx, _, .ref ps, rfl, s5 _ _ o1, R.cl, R.n2, lk_s _ _, ps, rfl, ⟨_, o4b⟩, fun D2 nD2 => ?_⟩
    refine lc_it (walk_tup (xs := ys)) (te := fun σ H Q => tJs [tFmt (tC (.str "step")), tC (.str " "), tFmt (tCall (spNT 4) [] _ (tCons (tVar 4) tNil))] Str.empty σ H fun out H1 => Q (V.str out) H1) (fun i H' => Same H5 H' ∧ H' D2 = some (.lst (((ss).take i).map fun t => V.str (S (lnS t))))) ⟨same_new nD2, upd_same⟩ (fun i H' _ ⟨s, _⟩ => sqt_same o4b s) ?_ ?_
    · rintro i y H5 H6 hi ⟨s5, hdd⟩ ⟨rfl, hy⟩
      have hil : i < (ss).length := by
        rw [o5b.len, List.length_map] at hi
        exact hi
      have hp := List.getElem?_eq_getElem hil
      have hmem := List.getElem_mem hil
      generalize (ss)[i] = p at hp hmem
      obtain ⟨g1, g2, g3⟩ := okS p hmem
      have hdat : ((ss).map toD)[i]? = some (toD p) := by
        rw [List.getElem?_map, hp]
        rfl
      obtain ⟨vi, hvi, qi⟩ := o5b.at hdat
      rw [hy] at hvi
      obtain rfl : y = vi := Option.some.inj hvi
      refine ⟨rfl, ?_⟩
      unfold tYes
      refine iteT ?_
      refine .inl ⟨"step", rfl, by decide +kernel, _, rfl, by decide +kernel, _, rfl, by decide +kernel, _, rfl, y, p, rfl, qi.same s5, g1, g2, by omega, fun H7 s7 => .inl ⟨S (wr p), rfl, by rw [len_S]; exact m6 (by omega), _, rfl, ?_, ?_⟩⟩
      · rw [S_step, S_sp, apE, apS, apS]
        refine lenS6 ?_
        simp only [List.length_append, wStep, List.length_cons, List.length_nil]
        omega
      rw [S_step, S_sp, apE, apS, apS, show wStep ++ [32] ++ wr p = lnS p by simp [lnS]]
      refine ⟨_, s7 _ _ hdd, ?_, fun b o z => ?_, ?_⟩
      · rw [List.length_map, List.length_take]
        exact Nat.lt_of_le_of_lt (show min i (ss).length ≤ 1000000 by omega) (by decide)
      · rw [upd_ne (ne_of_none z nD2)]
        exact s7 _ _ (s5 _ _ z)
      · rw [upd_same, tk_snoc hp, List.map_append]
        rfl
    rintro H8 ⟨s8, e8⟩
    rw [List.take_of_length_le (by rw [o5b.len, List.length_map]; exact Nat.le_refl _)] at e8
    refine ⟨⟨_, rfl⟩, _, rfl, _, rfl, D, D2, _, _, rfl, rfl, s8 _ _ e5, e8, ?_, fun p np => ?_⟩
    · rw [List.length_map, List.length_map]
      exact m6 (by omega)
    have bE : ∀ l ∈ es.map lnE ++ ss.map lnS, l.length ≤ 1010 := fun l hl => by
      rcases List.mem_append.mp hl with h | h
      · obtain ⟨t, ht, rfl⟩ := List.mem_map.mp h
        have := okE t ht
        simp only [lnE, wEnd, List.length_append, List.length_cons, List.length_nil]
        omega
      · obtain ⟨t, ht, rfl⟩ := List.mem_map.mp h
        have := okS t ht
        simp only [lnS, wStep, List.length_append, List.length_cons, List.length_nil]
        omega
    have sb := sum_le List.length 1010 _ bE
    have lb : (es.map lnE ++ ss.map lnS).length ≤ 6 := by
      rw [List.length_append, List.length_map, List.length_map]
      omega
    refine ⟨"\n", p, (es.map lnE ++ ss.map lnS).map S, rfl, rfl, .inl (SqL.of ?_), ?_, ?_⟩
    · rw [upd_same, List.map_map, List.map_append, List.map_map, List.map_map]
      rfl
    · rw [List.map_map, List.length_map, show ("\n" : Str).length = 1 by decide +kernel, show (Str.length ∘ S) = List.length from funext fun l => len_S l]
      have : 1010 * (es.map lnE ++ ss.map lnS).length ≤ 1010 * 6 := Nat.mul_le_mul_left _ lb
      omega
    · rw [S_nl, join_one, List.map_map, show (lS ∘ S) = id from funext fun l => lS_S l, List.map_id]
      exact kk _ (same_trans s5 (same_trans s8 (same_new np)))
end
end X48
set_option Elab.async false
set_option linter.all false
set_option maxRecDepth 100000
set_option maxHeartbeats 4000000
/-! what read_rules rests on -/
namespace X48
open PySem L2 L2H DQ K01
open XH hiding same_refl same_trans same_new
open RU (RulesAt RCl lk_e lk_s Rw spRI dueR firstBad isRow itemsD REq)
mutual
theorem tup_toD : ∀ t : Nd, tupO (toD t) = true
  | .mk ms bs c => by
    have b1 := tup_toB bs
    have m1 : tupA (msD ms) = true := tupA_iff.mpr fun d hd => by
      obtain ⟨x, _, rfl⟩ := List.mem_map.mp hd
      rfl
    cases c with
    | true => simp only [toD, if_pos, tupO, tupA, m1, b1, Bool.and_self]
    | false => simp only [toD, tupO, tupA, m1, b1, Bool.and_self, Bool.false_eq_true, if_false]
theorem tup_toB : ∀ b : Bs, tupA (toB b) = true
  | .nil => rfl
  | .cons w t r => by simp only [toB, tupO, tupA, tup_toD t, tup_toB r, Bool.and_self]
end
theorem tup_toDs (ts : List Nd) : tupA (ts.map toD) = true := tupA_iff.mpr fun d hd => by
  obtain ⟨x, _, rfl⟩ := List.mem_map.mp hd
  exact tup_toD x
theorem make_any {K : PySem.W.Frag} {C CB : Addr} {ve vs' : V} {de ds : PyData} {es ss : List PyData} {H : Hp} {Q2 : VK} {E : XK} {x dx : Addr} (he : Rw K H ve de) (hs : Rw K H vs' ds) (hx : H x = none) (hdx : H dx = none) (ne : dx ≠ x) (due : dueR de ds = .inr (es, ss))
    (ok : ∀ H', Same H H' → RulesAt K H' x C es ss → Q2 .non H') : spRI K C CB [.ref x, ve, vs'] (upd (upd H dx (.own x)) x (.ins C dx [])) Q2 E := by
  have sA : Same H (upd (upd H dx (.own x)) x (.ins C dx [])) := same_trans (same_new hdx) (same_new (by rw [upd_ne (Ne.symm ne)]; exact hx))
  refine ⟨x, dx, ve, vs', de, ds, rfl, upd_same, he.same sA, hs.same sA, fun pl (h : dueR de ds = .inl pl) => (by rw [due] at h; cases h), fun es' ss' h H' k o r => ?_⟩
  rw [due] at h
  obtain ⟨rfl, rfl⟩ := Prod.mk.inj (Sum.inr.inj h)
  refine ok H' (fun b u e => ?_) r
  have nb : b ≠ x := fun z => by rw [z, hx] at e; cases e
  exact o b u nb (sA b u e)
theorem due_nd {es ss : List Nd} (h : EsOk es ss) (n : es ≠ []) : dueR (.list (es.map toD)) (.list (ss.map toD)) = .inr (es.map toD, ss.map toD) := by
  have l1 : 1 ≤ es.length := List.length_pos_iff.mpr n
  have a1 : isRow (.list (es.map toD)) 1 3 = true := by
    unfold isRow
    have := h.l
    exact Bool.and_eq_true_iff.mpr ⟨rfl, Bool.and_eq_true_iff.mpr ⟨decide_eq_true (by simp only [itemsD, List.length_map]; omega), decide_eq_true (by simp only [itemsD, List.length_map]; omega)⟩⟩
  have a2 : isRow (.list (ss.map toD)) 0 3 = true := by
    unfold isRow
    have := h.m
    exact Bool.and_eq_true_iff.mpr ⟨rfl, Bool.and_eq_true_iff.mpr ⟨decide_eq_true (by simp only [itemsD, List.length_map]; omega), decide_eq_true (by simp only [itemsD, List.length_map]; omega)⟩⟩
  have b1 : firstBad 0 (es.map toD) = none := RU.bad_none fun k e he => by
    obtain ⟨t, ht, rfl⟩ := List.mem_map.mp (List.mem_of_getElem? he)
    obtain ⟨g, tb, c⟩ := h.e t ht
    rw [(shape_nC tb).1]
    exact decide_eq_true c
  have b2 : firstBad 1 (ss.map toD) = none := RU.bad_none fun k e he => by
    obtain ⟨t, ht, rfl⟩ := List.mem_map.mp (List.mem_of_getElem? he)
    obtain ⟨g, tb, c⟩ := h.s t ht
    rw [(shape_nC tb).2]
    exact decide_eq_true c
  unfold dueR
  rw [a1, a2]
  simp only [itemsD, Bool.and_self, if_true, b1, b2]
theorem part_eq (l : List Nat) : (Txt.partition (S l) (" " : Str)).1 = S (wd l) ∧ (Txt.partition (S l) (" " : Str)).2.2 = S (rs l) := by
  rw [S_sp]
  have et : TL.tl (S [32]) = 32 :: [] := rfl
  by_cases h : 32 ∈ l
  · obtain ⟨w, r, rfl, hw⟩ := split_at h
    have e : S (w ++ 32 :: r) = S w ++ S [32] ++ S r := by
      rw [apS, apS]
      simp
    have z := TL.partition_app et (a := S w) (b := S r) hw
    rw [← e] at z
    have n : ∀ c ∈ w, n32 c = true := fun c hc => by
      unfold n32
      have : c ≠ 32 := fun y => hw (y ▸ hc)
      simpa using this
    obtain ⟨t1, t2⟩ := tw_app (p := n32) (w := w) (r := 32 :: r) n fun c hc => by
      obtain rfl := Option.some.inj hc
      rfl
    unfold wd rs
    rw [z, t1, t2]
    exact ⟨rfl, rfl⟩
  · have z := TL.partition_none et (a := S l) h
    have n : ∀ c ∈ l, n32 c = true := fun c hc => by
      unfold n32
      have : c ≠ 32 := fun y => h (y ▸ hc)
      simpa using this
    obtain ⟨t1, t2⟩ := tw_app (p := n32) (w := l) (r := []) n fun c hc => by cases hc
    rw [List.append_nil] at t1 t2
    unfold wd rs
    rw [z, t1, t2]
    exact ⟨rfl, rfl⟩
theorem wd_le (l : List Nat) : (wd l).length ≤ l.length := (List.takeWhile_sublist n32).length_le
theorem rs_ok {l : List Nat} (h : okL l) : okL (rs l) := okL_sub h (by
  unfold rs
  rw [List.length_drop]
  have := (List.dropWhile_suffix n32 (l := l)).length_le
  omega) fun c hc => (List.dropWhile_suffix n32).subset (List.mem_of_mem_drop hc)
/-- a text, some other data, an instance -/
def spNe9 (C CX : Addr) : Sp := fun vs H Q E => ∃ v, vs = [v] ∧ ((∃ d, Dq H v d ∧ (isS d = true → ∀ H', Same H H' → Q .non H') ∧ (isS d = false → OutB H E CX "line" .none)) ∨ (∃ a dx fs, v = .ref a ∧ H a = some (.ins C dx fs) ∧ OutB H E CX "line" .none))
section
variable {P : Program} {w : World} {K : PySem.W.Frag} {mg : Str → Option Value} {base : Heap}
theorem ok_need9 {f C CX g : Addr} {fd : FuncData} (F : Fun K "_need_text" "_need_text" sNT f fd) (T : TP mg) (X : ExF P K mg "BadText" "line" CX) (cl : Cls K C) (Z : REq K C g) (kt : PySem.W.kitOne K (.ref C) (.type "str") = some false) : FnOk P w K mg base (L2.CX P w) 1 f fd ["thing"] (spNe9 C CX) := by
  obtain ⟨fE, fdE, qn, B, newId, initId, bmB, XT⟩ := X.ex
  refine F.okX (k := 0) scNe (fun vs H Q E h => ?_) (fun cdv A outer s H vs Q E hr h => ?_)
  · obtain ⟨v, rfl, _⟩ := h
    rfl
  · obtain ⟨v, rfl, h⟩ := h
    have dp : (A.deeper (PyProof.Rows.envOfC "_need_text" (defScope sNT) s.heap.objs.size f cdv)).depth + 1 < recursionLimit := by have := hr.dp; omega
    refine ⟨_, pss_one (ps_if (pt_not (pt_val (pe_callB call_isi (by rfl) T.isi bisi (pa_cons (pv 0) (pa_cons (pe_bltn (v := .ty "str") (by rfl) T.str bstr rfl) pa_nil))))) (pss_one (ps_raise rfl (takes_of rfl rfl rfl rfl) (pmk_xp XT X.r dp X.g X.k (by rfl) pe_non))) pss_nil), ?_⟩
    rcases h with ⟨d, hd, hy, hn⟩ | ⟨a, dx, fs, rfl, r1, hn⟩
    · refine ⟨_, rfl, _, .ty "str", _, _, _, rfl, .ty _, hd.ty, kit_ty (ks d), _, rfl, ?_⟩
      cases hd with
      | str x hx => exact iteF (hy rfl H same_refl)
      | _ => exact iteT ((hn rfl).raise .non)
    · exact ⟨_, rfl, .ref a, .ty "str", .ref C, .type "str", false, rfl, .ty _, .base (.ins r1 cl Z.i.ha Z.i.hn Z.i.htk Z.i.hm), kt, _, rfl, iteT (hn.raise .non)⟩
end
end X48
set_option Elab.async false
set_option linter.all false
set_option maxRecDepth 100000
set_option maxHeartbeats 8000000
/-! read_rules -/
namespace X48
open PySem PySem.Spec PyProof.Rows L2 L2H DQ K01
open XH hiding same_refl same_trans same_new
open RU (RulesAt RCl lk_e lk_s Rw spRI dueR firstBad isRow itemsD REq)
/-- a test, with a cut behind it -/
theorem pt_cut {X : Cx} {a : Expr} {t : TT} (h : PT X a t) : PT X a (fun σ H Q => ∃ Mid : Bool → Hp → Prop, t σ H Mid ∧ ∀ b H', Mid b H' → Q b H') := ⟨fun pins s σ H Q I hh => by
  obtain ⟨Mid, h1, h2⟩ := hh
  exact thn (h.run pins s σ H Mid I h1) fun c s1 ⟨H1, I1, q⟩ => ⟨H1, I1, h2 _ _ q⟩⟩
/-- what a line's third part tells, as data -/
def oD : Option Nd → PyData
  | none => .none
  | some t => toD t
theorem shape_non (c : Int) : shape c .none = false := rfl
def c1 (l : List Nat) (d : PyData) (xs ys : List V) : Bool := decide (wd l = wEnd) && (shape 0 d && (ys.isEmpty && decide (xs.length < 3)))
def c2 (l : List Nat) (d : PyData) (xs ys : List V) : Bool := decide (wd l = wStep) && (shape 1 d && ((!xs.isEmpty) && decide (ys.length < 3)))
theorem isEmpty_eq {α β : Type} {xs : List α} {es : List β} (h : xs.length = es.length) : xs.isEmpty = decide (es = []) := by
  cases xs with
  | nil =>
    cases es with
    | nil => simp
    | cons a b => cases h
  | cons a b =>
    cases es with
    | nil => cases h
    | cons a b => simp
theorem stepR_c {es ss : List Nd} {l : List Nat} {xs ys : List V} (lx : xs.length = es.length) (ly : ys.length = ss.length) :
    (c1 l (oD (toldP (rs l))) xs ys = true → ∃ t, toldP (rs l) = some t ∧ stepR es ss l = some (es ++ [t], ss)) ∧
    (c1 l (oD (toldP (rs l))) xs ys = false → c2 l (oD (toldP (rs l))) xs ys = true → ∃ t, toldP (rs l) = some t ∧ stepR es ss l = some (es, ss ++ [t])) ∧
    (c1 l (oD (toldP (rs l))) xs ys = false → c2 l (oD (toldP (rs l))) xs ys = false → stepR es ss l = none) := by
  unfold stepR c1 c2
  cases ht : toldP (rs l) with
  | none =>
    simp [oD, shape_non]
  | some t =>
    obtain ⟨g, _, tb, _⟩ := told_ok ht
    obtain ⟨s0, s1⟩ := shape_nC tb
    simp only [oD]
    rw [s0, s1, isEmpty_eq lx, isEmpty_eq ly, lx, ly]
    have e1 : (decide (wd l = wEnd) && (decide (nC t = 0) && (decide (ss = []) && decide (es.length < 3)))) = decide (wd l = wEnd ∧ nC t = 0 ∧ ss = [] ∧ es.length < 3) := by simp [Bool.decide_and]
    have e2 : (decide (wd l = wStep) && (decide (nC t ≠ 0) && ((!decide (es = [])) && decide (ss.length < 3)))) = decide (wd l = wStep ∧ nC t ≠ 0 ∧ es ≠ [] ∧ ss.length < 3) := by simp [Bool.decide_and]
    rw [e1, e2]
    refine ⟨fun h => ⟨t, rfl, if_pos (of_decide_eq_true h)⟩, fun h h' => ⟨t, rfl, ?_⟩, fun h h' => ?_⟩
    · rw [if_neg (of_decide_eq_false h), if_pos (of_decide_eq_true h')]
    · rw [if_neg (of_decide_eq_false h), if_neg (of_decide_eq_false h')]
/-- the two lists, so far -/
structure RR (H0 : Hp) (x : Str) (L D1 D2 : Addr) (i : Nat) (es ss : List Nd) (xs ys : List V) (H : Hp) : Prop where
  sm : Same H0 H
  hl : H L = some (.lst (((sp 10 (lS x)).map S).map V.str))
  h1 : H D1 = some (.lst xs)
  a1 : DqAll H xs (es.map toD)
  h2 : H D2 = some (.lst ys)
  a2 : DqAll H ys (ss.map toD)
  ok : EsOk es ss
  ne : 0 < i → es ≠ []
  due : dueT (lS x) = goR i es ss ((sp 10 (lS x)).drop i)
section
variable {H0 H H' : Hp} {x : Str} {L D1 D2 : Addr} {i : Nat} {es ss : List Nd} {xs ys : List V}
theorem RR.same (r : RR H0 x L D1 D2 i es ss xs ys H) (s : Same H H') : RR H0 x L D1 D2 i es ss xs ys H' :=
  ⟨same_trans r.sm s, s _ _ r.hl, s _ _ r.h1, r.a1.same s, s _ _ r.h2, r.a2.same s, r.ok, r.ne, r.due⟩
theorem keep_tup {p : Addr} {zs : List V} {o : HO} (hp : H p = some (.lst zs)) : ∀ b us, H b = some (.tup us) → upd H p o b = some (.tup us) := fun b us e => by
  have nb : b ≠ p := fun z => by rw [z, hp] at e; cases e
  rw [upd_ne nb]
  exact e
theorem put_same {p : Addr} {o : HO} (s : Same H0 H) (n : H0 p = none) : Same H0 (upd H p o) := fun b u e => by
  rw [upd_ne (ne_of_none e n)]
  exact s b u e
theorem RR.put1 {t : Nd} {v : V} {l : List Nat} (r : RR H0 x L D1 D2 i es ss xs ys H) (n1 : H0 D1 = none) (d12 : D1 ≠ D2) (d1L : D1 ≠ L) (q : Dq H v (toD t)) (hl : (sp 10 (lS x))[i]? = some l) (hs : stepR es ss l = some (es ++ [t], ss)) : RR H0 x L D1 D2 (i + 1) (es ++ [t]) ss (xs ++ [v]) ys (upd H D1 (.lst (xs ++ [v]))) := by
  obtain ⟨ok', ne'⟩ := r.ok.step hs
  refine ⟨put_same r.sm n1, by rw [upd_ne d1L.symm]; exact r.hl, upd_same, ?_, by rw [upd_ne d12.symm]; exact r.h2, r.a2.tups (keep_tup r.h1) (tup_toDs ss), ok', fun _ => ne', ?_⟩
  · rw [List.map_append]
    exact (r.a1.tups (keep_tup r.h1) (tup_toDs es)).app (.cons (q.tups (keep_tup r.h1) (tup_toD t)) .nil)
  · rw [r.due, List.drop_eq_getElem_cons (List.getElem?_eq_some_iff.mp hl).1, (List.getElem?_eq_some_iff.mp hl).2]
    simp only [goR, hs]
theorem RR.put2 {t : Nd} {v : V} {l : List Nat} (r : RR H0 x L D1 D2 i es ss xs ys H) (n2 : H0 D2 = none) (d12 : D1 ≠ D2) (d2L : D2 ≠ L) (q : Dq H v (toD t)) (hl : (sp 10 (lS x))[i]? = some l) (hs : stepR es ss l = some (es, ss ++ [t])) : RR H0 x L D1 D2 (i + 1) es (ss ++ [t]) xs (ys ++ [v]) (upd H D2 (.lst (ys ++ [v]))) := by
  obtain ⟨ok', ne'⟩ := r.ok.step hs
  refine ⟨put_same r.sm n2, by rw [upd_ne d2L.symm]; exact r.hl, by rw [upd_ne d12]; exact r.h1, r.a1.tups (keep_tup r.h2) (tup_toDs es), upd_same, ?_, ok', fun _ => ne', ?_⟩
  · rw [List.map_append]
    exact (r.a2.tups (keep_tup r.h2) (tup_toDs ss)).app (.cons (q.tups (keep_tup r.h2) (tup_toD t)) .nil)
  · rw [r.due, List.drop_eq_getElem_cons (List.getElem?_eq_some_iff.mp hl).1, (List.getElem?_eq_some_iff.mp hl).2]
    simp only [goR, hs]
theorem RR.bad {l : List Nat} (r : RR H0 x L D1 D2 i es ss xs ys H) (hl : (sp 10 (lS x))[i]? = some l) (hs : stepR es ss l = none) : dueT (lS x) = .inl (i + 1) := by
  rw [r.due, List.drop_eq_getElem_cons (List.getElem?_eq_some_iff.mp hl).1, (List.getElem?_eq_some_iff.mp hl).2]
  simp only [goR, hs]
end
def spRR (K : PySem.W.Frag) (C CX : Addr) : Sp := fun vs H Q E => ∃ v, vs = [v] ∧
  ((∃ x, v = .str x ∧ okL (lS x) ∧ (∀ k, dueT (lS x) = .inl k → OutB H E CX "line" (.int (k : Int))) ∧ (∀ es ss, dueT (lS x) = .inr (es, ss) → EsOk es ss → ∀ b H', Same H H' → RulesAt K H' b C (es.map toD) (ss.map toD) → Q (.ref b) H')) ∨
   (∃ d, Dq H v d ∧ isS d = false ∧ OutB H E CX "line" .none) ∨ (∃ a dx fs, v = .ref a ∧ H a = some (.ins C dx fs) ∧ OutB H E CX "line" .none))
abbrev nRR : List Str := ["text", "ends", "steps", "number", "line", "word", "_", "told", "tree"]
theorem scRR : FnScope nRR ["text"] (defScope sRRu) := ⟨rfl, rfl, rfl, by decide +kernel, rfl, by decide +kernel, by decide +kernel⟩
section
variable {P : Program} {w : World} {K : PySem.W.Frag} {mg : Str → Option Value} {base : Heap}
theorem ok_rr {f fN fT fTr fBo fI C CB CX : Addr} {fd dN dT dTr dBo dI : FuncData} (F : Fun K "read_rules" "read_rules" sRRu f fd) (X : ExF P K mg "BadText" "line" CX) (R : RCl K mg C fI) (GI : FnOk P w K mg base (L2.CX P w) 12 fI dI ["self", "ends", "steps"] (spRI K C CB)) (bI : Binds K dI ["self", "ends", "steps"] [])
    (gE : ∃ t, mg "END_WORD" = some (.str "end" t)) (gS : ∃ t, mg "STEP_WORD" = some (.str "step" t)) (g3 : ∃ t, mg "MOST_ENDS" = some (.int 3 t)) (g4 : ∃ t, mg "MOST_STEPS" = some (.int 3 t)) (tE : mg "enumerate" = none) (tL : mg "len" = none)
    (FN : Fun K "_need_text" "_need_text" sNT fN dN) (bN : Binds K dN ["thing"] []) (gN : mg "_need_text" = some (.ref fN)) (GN : FnOk P w K mg base (L2.CX P w) 1 fN dN ["thing"] (spNe9 C CX))
    (FT : Fun K "_told_tree" "_told_tree" sToT fT dT) (bT : Binds K dT ["text"] []) (gT : mg "_told_tree" = some (.ref fT)) (GT : FnOk P w K mg base CX0 12 fT dT ["text"] spTold)
    (FTr : Fun K "is_tree" "is_tree" sTr fTr dTr) (bTr : Binds K dTr ["thing"] []) (gTr : mg "is_tree" = some (.ref fTr)) (GTr : FnOk P w K mg base CX0 11 fTr dTr ["thing"] (spB (shape 0)))
    (FBo : Fun K "is_body" "is_body" sBo fBo dBo) (bBo : Binds K dBo ["thing"] []) (gBo : mg "is_body" = some (.ref fBo)) (GBo : FnOk P w K mg base CX0 11 fBo dBo ["thing"] (spB (shape 1))) :
    FnOk P w K mg base (L2.CX P w) 14 f fd ["text"] (spRR K C CX) := by
  obtain ⟨fE, fdE, qn, B, newId, initId, bmB, XT⟩ := X.ex
  obtain ⟨tE', gE⟩ := gE
  obtain ⟨tS', gS⟩ := gS
  obtain ⟨t3, g3⟩ := g3
  obtain ⟨t4, g4⟩ := g4
  refine F.okX (k := 13) scRR (fun vs H Q E h => ?_) (fun cdv A outer s H vs Q E hr h => ?_)
  · obtain ⟨v, rfl, _⟩ := h
    rfl
  · obtain ⟨v, rfl, h⟩ := h
    have dp : (A.deeper (PyProof.Rows.envOfC "read_rules" (defScope sRRu) s.heap.objs.size f cdv)).depth + 1 < recursionLimit := by have := hr.dp; omega
    refine ⟨_, pss_cons (ps_expr (pe_call GN (hr.mono (by decide)) (by rfl) gN FN.kp bN .nil (passes_call (takes_of rfl rfl rfl rfl) fun _ _ _ _ h => h) (pa_cons (pv 0) pa_nil)))
      (pss_cons (ps_par rfl scRR.nd (i := 1) (j := 2) rfl rfl (by decide) rfl rfl (pa_cons (pe_lst pa_nil) (pa_cons (pe_lst pa_nil) pa_nil)) rfl)
      (pss_cons (ps_for (passes_of rfl) rfl (EnS.pi_enumS (by rfl) tE (pa_cons (pe_split (pv 0) pe_str) pa_nil) (pk_cons pe_int pk_nil)) (pg_tup (n := 2) rfl (pgs_cons (pg_name (i := 3) scRR.nd rfl (Or.inl rfl)) (pgs_cons (pg_name (i := 4) scRR.nd rfl (Or.inl rfl)) pgs_nil)))
        (pss_cons (ps_asg (pe_partition (pv 4) pe_str) (pg_tup (n := 3) rfl (pgs_cons (pg_name (i := 5) scRR.nd rfl (Or.inl rfl)) (pgs_cons (pg_name (i := 6) scRR.nd rfl (Or.inl rfl)) (pgs_cons (pg_name (i := 7) scRR.nd rfl (Or.inl rfl)) pgs_nil)))))
        (pss_cons (ps_set (i := 8) scRR.nd rfl (Or.inl rfl) (pe_call GT (hr.mono (by decide)) (by rfl) gT FT.kp bT .nil pass0 (pa_cons (pv 7) pa_nil)))
        (pss_one (ps_if (pt_cut (PW.pt (pw_and (pt_cmpR op_eq (pv 5) (pe_glob (v := .str "end") (by rfl) gE ⟨_, rfl⟩) (nomark _)) (pw_and (pt_val (pe_call GTr (hr.mono (by decide)) (by rfl) gTr FTr.kp bTr .nil pass0 (pa_cons (pv 8) pa_nil))) (pw_and (pt_not (pt_truth (pv 2) (by intro _; rfl))) (pw_and1 (pt_cmpR op_lt (pe_callB call_len_seq (by rfl) tL PySem.boot_len (pa_cons (pv 1) pa_nil)) (pe_glob (v := .int 3) (by rfl) g3 ⟨_, rfl⟩) (by rfl))))))))
            (pss_one (ps_expr (pe_bm PySem.F.plainAttrs_list PySem.F.slot_list_append PySem.F.type_list_append mt_append (pv 1) (pa_cons (pv 8) pa_nil))))
            (pss_one (ps_if (pt_cut (PW.pt (pw_and (pt_cmpR op_eq (pv 5) (pe_glob (v := .str "step") (by rfl) gS ⟨_, rfl⟩) (nomark _)) (pw_and (pt_val (pe_call GBo (hr.mono (by decide)) (by rfl) gBo FBo.kp bBo .nil pass0 (pa_cons (pv 8) pa_nil))) (pw_and (pt_truth (pv 1) (by intro _; rfl)) (pw_and1 (pt_cmpR op_lt (pe_callB call_len_seq (by rfl) tL PySem.boot_len (pa_cons (pv 2) pa_nil)) (pe_glob (v := .int 3) (by rfl) g4 ⟨_, rfl⟩) (by rfl))))))))
              (pss_one (ps_expr (pe_bm PySem.F.plainAttrs_list PySem.F.slot_list_append PySem.F.type_list_append mt_append (pv 2) (pa_cons (pv 8) pa_nil))))
              (pss_one (ps_raise rfl (takes_of rfl rfl rfl rfl) (pmk_xp XT X.r dp X.g X.k (by rfl) (pv 3)))))))))))
      (pss_one (ps_ret (pe_make R.mkc GI (hr.mono (by decide)) (by rfl) R.g bI .nil (passes_call (takes_of rfl rfl rfl rfl) fun _ _ _ _ h => h) (pa_cons (pv 1) (pa_cons (pv 2) pa_nil))))))), ?_⟩
    rcases h with ⟨x, rfl, okx, bad, good⟩ | ⟨d, hd, hs, out⟩ | ⟨a, dx, fs, rfl, ha, out⟩
    rotate_left
    · exact ⟨_, rfl, v, rfl, .inl ⟨d, hd, fun z => (by rw [hs] at z; cases z), fun _ => out⟩⟩
    · exact ⟨_, rfl, _, rfl, .inr ⟨a, dx, fs, rfl, ha, out⟩⟩
    refine ⟨_, rfl, _, rfl, .inl ⟨.str x, .str x ⟨m6 (by rw [len_lS]; exact okx.1), by rw [← S_lS x]; exact ok_str okx⟩, fun _ H1 s1 => ?_, fun z => by cases z⟩⟩
    refine ⟨Nat.zero_le _, fun D1 n1 => ⟨Nat.zero_le _, fun D2 n2 => ⟨_, _, rfl, ?_⟩⟩⟩
    refine ⟨_, rfl, ⟨_, rfl⟩, x, _, rfl, rfl, by decide +kernel, m62 (by rw [len_lS]; exact okx.1), fun L nL => ?_⟩
    rw [S_nl, split_one x (by decide)]
    refine ⟨L, _, 1, rfl, rfl, by decide, by decide, SqL.of upd_same, ?_⟩
    have d12 : D1 ≠ D2 := ne_of_none upd_same n2
    have d1L : D1 ≠ L := ne_of_none (same_new (o := .lst []) n2 _ _ upd_same) nL
    have d2L : D2 ≠ L := ne_of_none upd_same nL
    have r0 : RR H1 x L D1 D2 0 [] [] [] [] (upd (upd (upd H1 D1 (.lst [])) D2 (.lst [])) L (.lst (((sp 10 (lS x)).map S).map V.str))) :=
      ⟨same_trans (same_new n1) (same_trans (same_new n2) (same_new nL)), upd_same, same_new nL _ _ (same_new n2 _ _ upd_same), .nil, same_new nL _ _ upd_same, .nil, EsOk.nil, fun z => absurd z (Nat.lt_irrefl _), rfl⟩
    have n2' : H1 D2 = none := by
      rw [upd_ne d12.symm] at n2
      exact n2
    generalize upd (upd (upd H1 D1 (.lst [])) D2 (.lst [])) L (.lst (((sp 10 (lS x)).map S).map V.str)) = H3 at r0
    clear n2 nL
    refine for_it (EnS.walk_enumS (xs := ((sp 10 (lS x)).map S).map V.str)) (fun i σ' H' => ∃ (es ss : List Nd) (xs ys : List V) (w3 w4 w5 w6 w7 w8 : Option V), σ' = [some (.str x), some (.ref D1), some (.ref D2), w3, w4, w5, w6, w7, w8] ∧ RR H1 x L D1 D2 i es ss xs ys H')
      ⟨_, _, _, _, _, _, _, _, _, _, rfl, r0⟩ (fun i σ' H' _ ⟨_, _, _, _, _, _, _, _, _, _, _, r⟩ => SqL.of r.hl) ?_ ?_
    · rintro i y σ' H4 H5 hi ⟨es, ss, xs, ys, w3, w4, w5, w6, w7, w8, rfl, r⟩ ⟨Tt, u, z, rfl, nT, rfl, hu, hz⟩
      obtain rfl : u = V.int (1 + (i : Nat)) := (Option.some.inj hu).symm
      have hil : i < (sp 10 (lS x)).length := by
        rw [List.length_map, List.length_map] at hi
        exact hi
      have hl := List.getElem?_eq_getElem hil
      have hmem := List.getElem_mem hil
      generalize (sp 10 (lS x))[i] = l at hl hmem
      have okl := okL_sp okx l hmem
      obtain rfl : z = .str (S l) := by
        have y : (((sp 10 (lS x)).map S).map V.str)[i]? = some z := hz
        rw [List.getElem?_map, List.getElem?_map, hl] at y
        exact (Option.some.inj y).symm
      refine ⟨Tt, _, rfl, SqT.of upd_same, rfl, _, _, rfl, _, _, rfl, rfl, ?_⟩
      refine ⟨_, rfl, ⟨_, rfl⟩, S l, _, rfl, rfl, by decide +kernel, m6 (by rw [len_S]; exact okl.1), fun p np => ?_⟩
      refine ⟨p, _, rfl, SqT.of upd_same, rfl, _, _, rfl, _, _, rfl, _, _, rfl, rfl, ?_⟩
      obtain ⟨e1, e2⟩ := part_eq l
      rw [e1, e2]
      refine ⟨_, rfl, S (rs l), rfl, rs_ok okl, fun v' H7 s7 tv => ?_⟩
      have r7 := r.same (same_trans (same_new nT) (same_trans (same_new np) s7))
      have qd : Dq H7 v' (oD (toldP (rs l))) := by
        have tv : ToldV H7 v' (toldP (rs l)) := tv
        cases ho : toldP (rs l) with
        | none =>
          rw [ho] at tv
          obtain rfl : v' = .non := tv
          exact .non
        | some t =>
          rw [ho] at tv
          exact tv
      have lx : xs.length = es.length := by rw [r.a1.len, List.length_map]
      have ly : ys.length = ss.length := by rw [r.a2.len, List.length_map]
      obtain ⟨st1, st2, st3⟩ := stepR_c (l := l) lx ly
      refine ⟨fun b H' => Same H7 H' ∧ b = c1 l (oD (toldP (rs l))) xs ys, ?_, ?_⟩
      · unfold c1
        refine ⟨_, rfl, rfl, _, rfl, ?_⟩
        rw [S_end, str_eqL, lS_S]
        cases decide (wd l = wEnd) with
        | false => exact iteF ⟨same_refl, rfl⟩
        | true =>
          refine iteT ⟨_, rfl, v', _, rfl, qd, fun H8 s8 => ⟨_, rfl, ?_⟩⟩
          cases shape 0 (oD (toldP (rs l))) with
          | false => exact iteF ⟨s8, rfl⟩
          | true =>
            refine iteT ⟨_, rfl, _, .inl ⟨ys, SqL.of (s8 _ _ r7.h2), rfl⟩, ?_⟩
            cases ys.isEmpty with
            | false => exact iteF ⟨s8, rfl⟩
            | true => exact iteT ⟨_, rfl, D1, xs, rfl, .inl (SqL.of (s8 _ _ r7.h1)), _, _, rfl, rfl, _, rfl, s8, by
                simp only [Bool.true_and]
                exact decide_eq_decide.mpr (by omega)⟩
      rintro b H8 ⟨s8, hb⟩
      have r8 := r7.same s8
      have qd8 := qd.same s8
      cases hc1 : c1 l (oD (toldP (rs l))) xs ys with
      | true =>
        rw [hb, hc1]
        obtain ⟨t, ht, hst⟩ := st1 hc1
        rw [ht] at qd8
        have l3 := r8.ok.l
        exact iteT ⟨_, rfl, .inl ⟨rfl, _, SqL.of r8.h1⟩, _, rfl, D1, xs, v', rfl, rfl, r8.h1, Nat.lt_of_le_of_lt (show xs.length ≤ 3 by omega) (by decide), _, _, _, _, _, _, _, _, _, _, rfl, r8.put1 n1 d12 d1L qd8 hl hst⟩
      | false =>
        rw [hb, hc1]
        refine iteF ?_
        refine ⟨fun b H' => Same H8 H' ∧ b = c2 l (oD (toldP (rs l))) xs ys, ?_, ?_⟩
        · unfold c2
          refine ⟨_, rfl, rfl, _, rfl, ?_⟩
          rw [S_step, str_eqL, lS_S]
          cases decide (wd l = wStep) with
          | false => exact iteF ⟨same_refl, rfl⟩
          | true =>
            refine iteT ⟨_, rfl, v', _, rfl, qd8, fun H9 s9 => ⟨_, rfl, ?_⟩⟩
            cases shape 1 (oD (toldP (rs l))) with
            | false => exact iteF ⟨s9, rfl⟩
            | true =>
              refine iteT ⟨_, rfl, _, .inl ⟨xs, SqL.of (s9 _ _ r8.h1), rfl⟩, ?_⟩
              cases xs.isEmpty with
              | true => exact iteF ⟨s9, rfl⟩
              | false => exact iteT ⟨_, rfl, D2, ys, rfl, .inl (SqL.of (s9 _ _ r8.h2)), _, _, rfl, rfl, _, rfl, s9, by
                  simp only [Bool.true_and, Bool.not_false]
                  exact decide_eq_decide.mpr (by omega)⟩
        rintro b H9 ⟨s9, hb2⟩
        have r9 := r8.same s9
        have qd9 := qd8.same s9
        cases hc2 : c2 l (oD (toldP (rs l))) xs ys with
        | true =>
          rw [hb2, hc2]
          obtain ⟨t, ht, hst⟩ := st2 hc1 hc2
          rw [ht] at qd9
          have l3 := r9.ok.m
          exact iteT ⟨_, rfl, .inl ⟨rfl, _, SqL.of r9.h2⟩, _, rfl, D2, ys, v', rfl, rfl, r9.h2, Nat.lt_of_le_of_lt (show ys.length ≤ 3 by omega) (by decide), _, _, _, _, _, _, _, _, _, _, rfl, r9.put2 n2' d12 d2L qd9 hl hst⟩
        | false =>
          rw [hb2, hc2]
          have hbad := r9.bad hl (st3 hc1 hc2)
          refine iteF ⟨_, rfl, ?_⟩
          have e : (1 + (i : Int)) = ((i + 1 : Nat) : Int) := by omega
          rw [e]
          exact ((bad _ hbad).same (same_trans s1 r9.sm)).raise (.int _)
    rintro σ' H4 ⟨es, ss, xs, ys, w3, w4, w5, w6, w7, w8, rfl, r⟩
    have hn : (((sp 10 (lS x)).map S).map V.str).length = (sp 10 (lS x)).length := by rw [List.length_map, List.length_map]
    rw [hn] at r
    have hdue := r.due
    rw [List.drop_length] at hdue
    have hpos : 0 < (sp 10 (lS x)).length := by
      have z := sp_head 10 (lS x)
      exact (List.getElem?_eq_some_iff.mp z).1
    refine ⟨_, rfl, _, rfl, fun rl dx nrl ndx ned => ?_⟩
    exact make_any (.inl (.lst r.h1 r.a1)) (.inl (.lst r.h2 r.a2)) nrl ndx ned (due_nd r.ok (r.ne hpos)) fun H5 s5 ra => ⟨rfl, good es ss hdue r.ok rl H5 (same_trans s1 (same_trans r.sm s5)) ra⟩
end
end X48
set_option Elab.async false
set_option linter.all false
set_option maxRecDepth 100000
set_option maxHeartbeats 4000000
/-! _law_call_level -/
namespace X48
open PySem L2 L2H DQ K01
open XH hiding same_refl same_trans same_new
def lvV : Option Nat → V
  | none => .non
  | some j => .int (j : Int)
def some_ (os : List (Option Nat)) : List V := os.filterMap fun o => o.map fun j => V.int (j : Int)
theorem some_snoc (os : List (Option Nat)) (o : Option Nat) : some_ (os ++ [o]) = some_ os ++ (match o with | none => [] | some j => [V.int (j : Int)]) := by
  unfold some_
  rw [List.filterMap_append]
  cases o <;> rfl
theorem some_len (os : List (Option Nat)) : (some_ os).length ≤ os.length := List.length_filterMap_le ..
theorem some_head : ∀ os : List (Option Nat), (some_ os)[0]? = (os.findSome? id).map fun j => V.int (j : Int)
  | [] => rfl
  | none :: os => some_head os
  | some j :: os => rfl
theorem same_put {H H' : Hp} {a : Addr} {o : HO} (s : Same H H') (n : H a = none) : Same H (upd H' a o) := fun b u e => by
  rw [upd_ne (ne_of_none e n)]
  exact s b u e
theorem lvB_find : ∀ b : Bs, lvB b = ((lB b).map fun p => lvN p.2).findSome? id
  | .nil => rfl
  | .cons w t r => by
    simp only [lvB, lB, List.map_cons, List.findSome?_cons, id]
    cases lvN t with
    | none => exact lvB_find r
    | some j => rfl
theorem take_snoc {α β : Type} {f : α → β} {l : List α} {i : Nat} {x : α} (h : l[i]? = some x) : (l.take (i + 1)).map f = (l.take i).map f ++ [f x] := by
  rw [List.take_add_one, h, List.map_append]
  rfl
def spCL (n : Nat) : Sp := fun vs H Q _ => ∃ (v : V) (t : Nd), vs = [v] ∧ Dq H v (toD t) ∧ Gd t ∧ hd t ≤ n ∧ (wr t).length ≤ 240 ∧ ∀ H', Same H H' → Q (lvV (lvN t)) H'
abbrev nLC : List Str := ["body", "found", "word", "below", "one"]
section
variable {P : Program} {w : World} {K : PySem.W.Frag} {mg : Str → Option Value} {base : Heap}
theorem scLC : FnScope nLC ["body"] (defScope sLCL) := ⟨rfl, rfl, rfl, by decide +kernel, rfl, by decide +kernel, by decide +kernel⟩
theorem ok_lcl {f : Addr} {fd : FuncData} (F : Fun K "_law_call_level" "_law_call_level" sLCL f fd) (bF : Binds K fd ["body"] []) (gF : mg "_law_call_level" = some (.ref f)) (tL : mg "len" = none) : ∀ n, FnOk P w K mg base CX0 (1 + n) f fd ["body"] (spCL n) := by
  intro n
  induction n with
  | zero =>
    refine fn_never.imp fun vs H Q E h => ?_
    obtain ⟨v, t, _, _, _, hn, _⟩ := h
    cases t with
    | mk ms bs c => exact absurd hn (by simp [hd])
  | succ n ih =>
    refine F.ok (k := 1 + n) scLC (fun vs H Q E h => ?_) (fun cdv A outer s H vs Q E hr h => ?_)
    · obtain ⟨v, t, rfl, _⟩ := h
      rfl
    · obtain ⟨v, t, rfl, hv, hg, hn, hl, kk⟩ := h
      have hu1 : (A.deeper (PyProof.Rows.envOfC "_law_call_level" (defScope sLCL) s.heap.objs.size f cdv)).units < cLine := by have := hr.un; omega
      refine ⟨_, pss_cons (ps_if (pt_cmpR op_eq (pe_callB call_len_seq (by rfl) tL PySem.boot_len (pa_cons (pv 0) pa_nil)) pe_int (by rfl)) (pss_one (ps_ret pe_int)) pss_nil)
        (pss_cons (ps_setLc (i := 1) (own := [("word", 2), ("below", 3)]) (g := gTup K 2 (gCons (gName 2) (gCons (gName 3) gNil))) (by rfl) scLC.nd rfl rfl (sw_true rfl rfl rfl (by decide +kernel)) (pi_tup (pe_ix ix_tup (pv 0) pe_int (fun _ _ => rfl))) (blkOk_by (own := [("word", 2), ("below", 3)]) (N := nLC) (sc := defScope sLCL) (by decide +kernel))
          (fun _ _ _ _ _ => pg_tup (n := 2) rfl (pgs_cons (pg_name (i := 2) scLC.nd rfl (Or.inl rfl)) (pgs_cons (pg_name (i := 3) scLC.nd rfl (Or.inl rfl)) pgs_nil))) (fun _ _ _ _ _ => pts_nil) (tt := tYes) (fun _ _ _ _ _ => pe_call ih hr (by rfl) gF F.kp bF .nil pass0 (pa_cons (pv 3) pa_nil)))
        (pss_cons (ps_setLc (i := 1) (own := [("one", 4)]) (g := gName 4) (by rfl) scLC.nd rfl rfl (sw_true rfl rfl rfl (by decide +kernel)) (pi_list (pv 1)) (blkOk_by (own := [("one", 4)]) (N := nLC) (sc := defScope sLCL) (by decide +kernel)) (fun _ _ _ _ _ => pg_name (i := 4) scLC.nd rfl (Or.inl rfl))
          (fun _ _ _ _ _ => pts_one (pt_cmpR op_notN (pv 4) pe_non (nomark _))) (fun _ _ _ _ _ => pv 4))
        (pss_one (ps_ret (pe_ifExp (pt_cmpR (NI.op_neNil hu1) (pv 1) (pe_lst pa_nil) (nomark _)) (pe_op op_add (pe_ix ix_list (pv 1) pe_int (fun _ _ => rfl)) pe_int) pe_non))))), ?_⟩
      cases t with
      | mk ms bs c =>
      obtain ⟨gm, gb⟩ := hg
      have hk' : hdB bs ≤ n := by
        have : hdB bs + 1 ≤ n + 1 := hn
        omega
      have ew : wr (.mk ms bs c) = wC c ++ (wM ms ++ wrB 40 bs) := by simp [wr]
      rw [ew, List.length_append, List.length_append] at hl
      obtain ⟨pd, xd, rfl, d1, da⟩ := dq_tup hv
      obtain ⟨pm, pb, xb, xr, rfl, eb, ab, hr3⟩ : ∃ (pm : V) (pb : Addr) (xb xr : List V), xd = pm :: .ref pb :: xr ∧ H pb = some (.tup xb) ∧ DqAll H xb (toB bs) ∧ xr.length = (if c = true then 1 else 0) := by
        cases da with
        | cons qm da =>
        cases da with
        | cons qb da =>
        obtain ⟨pb, xb, rfl, eb, ab⟩ := dq_tup qb
        refine ⟨_, pb, xb, _, rfl, eb, ab, ?_⟩
        rw [da.len]
        cases c <;> rfl
      have ec : decide (V.int (((pm :: V.ref pb :: xr).length : Nat) : Int) = V.int 3) = c := by
        rw [List.length_cons, List.length_cons, hr3]
        cases c <;> decide
      refine ⟨_, rfl, pd, _, rfl, .inr (SqT.of d1), rfl, _, rfl, ?_⟩
      rw [ec]
      cases c with
      | true => exact iteT (kk H same_refl)
      | false =>
      refine iteF ?_
      refine ⟨_, rfl, pd, _, 1, .ref pb, rfl, rfl, SqT.of d1, atI_nat (j := 1) rfl, pb, rfl, ⟨_, SqT.of eb⟩, fun D nD => ?_⟩
      have lx : xb.length = (lB bs).length := by
        rw [ab.len, toB_lB]
        exact List.length_map ..
      have lfew : (lB bs).length ≤ 240 := by
        have a := sum_prts bs
        rw [lB_len]
        cases bs with
        | nil => exact Nat.zero_le _
        | cons w0 t0 r0 =>
          rw [wrB_len] at hl
          omega
      refine lc_it (walk_tup (xs := xb)) (fun i H' => Same H H' ∧ H' D = some (.lst (((lB bs).take i).map fun p => lvV (lvN p.2))))
        ⟨same_new nD, upd_same⟩ (fun i H' _ ⟨s, _⟩ => SqT.of (s _ _ eb)) ?_ ?_
      · rintro i y H5 H6 hi ⟨s5, hdd⟩ ⟨rfl, hx⟩
        have hil : i < (lB bs).length := by omega
        have hp := List.getElem?_eq_getElem hil
        have hmem := List.getElem_mem hil
        generalize (lB bs)[i] = p at hp hmem
        obtain ⟨g1, g2, g3, g4⟩ := of_lB hmem gb
        have hdat : (toB bs)[i]? = some (.tuple [.str (S p.1), toD p.2]) := by
          rw [toB_lB]
          unfold brD
          rw [List.getElem?_map, hp]
          rfl
        obtain ⟨vi, hvi, qi⟩ := ab.at hdat
        rw [hx] at hvi
        obtain rfl : y = vi := Option.some.inj hvi
        obtain ⟨pi, vu, vtt, rfl, epi, qu, qtt⟩ := dq_pr qi
        have lw : (wr p.2).length ≤ 240 := by
          have : (part p.1 p.2).length = p.1.length + ((wr p.2).length + 1) := by
            unfold part
            rw [List.length_append, List.length_cons]
          cases bs with
          | nil => exact absurd hmem List.not_mem_nil
          | cons w0 t0 r0 =>
            rw [wrB_len] at hl
            omega
        refine ⟨pi, _, rfl, SqT.of (s5 _ _ epi), rfl, _, _, rfl, _, _, rfl, rfl, rfl, ?_⟩
        unfold tYes
        refine iteT ?_
        refine ⟨_, rfl, vtt, p.2, rfl, qtt.same s5, g2, by omega, lw, fun H7 s7 => ⟨_, s7 _ _ hdd, small1000 (by rw [List.length_map, List.length_take]; omega), ?_, ?_⟩⟩
        · exact same_put (same_trans s5 s7) nD
        · rw [upd_same, take_snoc hp]
      · rintro H5 ⟨s5, hdd⟩
        rw [List.take_of_length_le (by omega)] at hdd
        have eo : ((lB bs).map fun p => lvV (lvN p.2)) = ((lB bs).map fun p => lvN p.2).map lvV := by rw [List.map_map]; rfl
        have fin := fun H' s' => kk H' s'
        have elv : lvN (.mk ms bs false) = (((lB bs).map fun p => lvN p.2).findSome? id).map (· + 1) := by
          rw [← lvB_find]
          simp [lvN]
        rw [elv] at kk
        obtain ⟨os, hos⟩ : ∃ os, os = (lB bs).map fun p => lvN p.2 := ⟨_, rfl⟩
        rw [eo, ← hos] at hdd
        rw [← hos] at kk
        have lo : os.length ≤ 240 := by rw [hos, List.length_map]; exact lfew
        refine ⟨_, rfl, D, rfl, ⟨_, SqL.of hdd⟩, fun D2 nD2 => ?_⟩
        refine lc_list (K := K) (a := D) (xs := os.map lvV) (fun i H' => Same H5 H' ∧ H' D2 = some (.lst (some_ (os.take i)))) ⟨same_new nD2, upd_same⟩ (fun i H' _ ⟨s, _⟩ => SqL.of (s _ _ hdd)) ?_ ?_
        · rintro i y H6 hi ⟨s6, hd2⟩
          obtain ⟨o, ho, rfl⟩ : ∃ o, os[i]? = some o ∧ lvV o = y := by
            rw [List.getElem?_map] at hi
            exact Option.map_eq_some_iff.mp hi
          have hil := (List.getElem?_eq_some_iff.mp ho).1
          have tk2 : os.take (i + 1) = os.take i ++ [o] := by rw [List.take_add_one, ho]; rfl
          refine ⟨rfl, _, rfl, rfl, _, rfl, ?_⟩
          cases o with
          | none =>
            refine iteF ⟨s6, ?_⟩
            rw [tk2, some_snoc, List.append_nil]
            exact hd2
          | some j =>
            refine iteT ⟨_, rfl, _, hd2, small1000 (by have := some_len (os.take i); rw [List.length_take] at this; omega), same_put s6 nD2, ?_⟩
            rw [upd_same, tk2, some_snoc]
            rfl
        · rintro H6 ⟨s6, hd2⟩
          rw [List.take_of_length_le (by rw [List.length_map]; exact Nat.le_refl _)] at hd2
          have sA := same_trans s5 s6
          refine ⟨_, rfl, by decide, fun p3 np3 => ⟨D2, p3, _, rfl, rfl, SqL.of (same_new np3 _ _ hd2), SqL.of upd_same, _, rfl, ?_⟩⟩
          have sB := same_trans sA (same_new (o := .lst []) np3)
          have hd3 := same_new (o := .lst []) np3 _ _ hd2
          have fin := kk _ sB
          have hh := some_head os
          cases e : os.findSome? id with
          | none =>
            rw [e] at hh fin
            have : some_ os = [] := by
              cases hu : some_ os with
              | nil => rfl
              | cons a l => rw [hu] at hh; cases hh
            rw [this]
            exact iteF fin
          | some j =>
            rw [e] at hh fin
            cases hu : some_ os with
            | nil => rw [hu] at hh; cases hh
            | cons a l =>
              rw [hu] at hh hd3
              obtain rfl : a = V.int (j : Int) := Option.some.inj hh
              refine iteT ⟨_, rfl, D2, _, 0, _, rfl, rfl, SqL.of hd3, atI_nat (j := 0) rfl, _, _, rfl, rfl, ?_⟩
              have ej : lvV (Option.map (· + 1) (some j)) = V.int ((j : Int) + 1) := by
                show V.int ((j + 1 : Nat) : Int) = _
                rw [Int.natCast_add]
                rfl
              rw [ej] at fin
              exact fin
end
end X48
set_option Elab.async false
set_option linter.all false
set_option maxRecDepth 100000
set_option maxHeartbeats 8000000
/-! _law_due -/
namespace X48
open PySem PySem.Spec PyProof.Rows L2 L2H DQ K01
open XH hiding same_refl same_trans same_new
open RU (RulesAt RCl lk_e lk_s Rw spRI dueR firstBad isRow itemsD REq)
def DueV (K : PySem.W.Frag) (C : Addr) (H : Hp) (r : V) : Nat ⊕ (List Nd × List Nd) → Prop
  | .inl k => ∃ p, r = .ref p ∧ H p = some (.tup [.str "text", .int (k : Int)])
  | .inr q => EsOk q.1 q.2 ∧ ∃ p b, r = .ref p ∧ H p = some (.lst [.ref b]) ∧ RulesAt K H b C (q.1.map toD) (q.2.map toD)
def spDue (K : PySem.W.Frag) (C : Addr) : Sp := fun vs H Q _ => ∃ x : Str, vs = [.str x] ∧ Sys H ∧ okL (lS x) ∧ ∀ r H', Same H H' → DueV K C H' r (dueT (lS x)) → Q r H'
abbrev nDu : List Str := ["text", "ends", "steps", "k", "line", "word", "found", "level"]
theorem scDu : FnScope nDu ["text"] (defScope sDue) := ⟨rfl, rfl, rfl, by decide +kernel, rfl, by decide +kernel, by decide +kernel⟩
theorem drop_wd (l : List Nat) : l.drop (wd l).length = l.dropWhile n32 := by
  have e : l = wd l ++ l.dropWhile n32 := (List.takeWhile_append_dropWhile (p := n32) (l := l)).symm
  calc l.drop (wd l).length = (wd l ++ l.dropWhile n32).drop (wd l).length := by rw [← e]
    _ = l.dropWhile n32 := List.drop_left
theorem drop_rs (l : List Nat) : l.drop ((wd l).length + 1) = rs l := by
  unfold rs
  rw [← drop_wd, List.drop_drop]
theorem space_or (l : List Nat) : (l.dropWhile n32).take 1 = [32] ∨ ((l.dropWhile n32).take 1 ≠ [32] ∧ rs l = []) := by
  unfold rs
  cases h : l.dropWhile n32 with
  | nil => exact .inr ⟨by decide, rfl⟩
  | cons c r =>
    have z := List.head?_dropWhile_not n32 l
    rw [h] at z
    have z : n32 c = false := by simpa using z
    have : c = 32 := by
      unfold n32 at z
      simpa using z
    rw [this]
    exact .inl rfl
theorem lv_non {t : Nd} : decide (lvV (lvN t) = V.non) = decide (nC t = 0) := by
  refine decide_eq_decide.mpr ?_
  rw [← lv_none]
  cases lvN t with
  | none => exact ⟨fun _ => rfl, fun _ => rfl⟩
  | some j => exact ⟨fun h => (by cases h), fun h => (by cases h)⟩
section
variable {P : Program} {w : World} {K : PySem.W.Frag} {mg : Str → Option Value} {base : Heap}
theorem ok_due {f fR fC fI C CB : Addr} {fd dR dC dI : FuncData} (F : Fun K "_law_due" "_law_due" sDue f fd) (R : RCl K mg C fI) (GI : FnOk P w K mg base (L2.CX P w) 12 fI dI ["self", "ends", "steps"] (spRI K C CB)) (bI : Binds K dI ["self", "ends", "steps"] [])
    (tE : mg "enumerate" = none) (tL : mg "len" = none)
    (FR : Fun K "_law_read" "_law_read" sRead fR dR) (bR : Binds K dR ["text"] []) (gR : mg "_law_read" = some (.ref fR)) (GR : FnG P w K mg base 7 fR dR "text" spRd)
    (FC : Fun K "_law_call_level" "_law_call_level" sLCL fC dC) (bC : Binds K dC ["body"] []) (gC : mg "_law_call_level" = some (.ref fC)) (GC : FnOk P w K mg base CX0 5 fC dC ["body"] (spCL 4)) :
    FnG P w K mg base 14 f fd "text" (spDue K C) := by
  refine fnG_of F scDu fun cdv A outer s H v Q E hr hg h => ?_
  have hgd : (A.deeper (PyProof.Rows.envOfC "_law_due" (defScope sDue) s.heap.objs.size f cdv)).guards = some [] := hg
  have hu : (A.deeper (PyProof.Rows.envOfC "_law_due" (defScope sDue) s.heap.objs.size f cdv)).units < cLine := by have := hr.un; omega
  refine ⟨_, pss_cons (ps_par rfl scDu.nd (i := 1) (j := 2) rfl rfl (by decide) rfl rfl (pa_cons (pe_lst pa_nil) (pa_cons (pe_lst pa_nil) pa_nil)) rfl)
    (pss_cons (ps_for PassesOwn.never rfl (pi_enum (by rfl) tE (pa_cons (pe_split (pv 0) pe_str) pa_nil)) (pg_tup (n := 2) rfl (pgs_cons (pg_name (i := 3) scDu.nd rfl (Or.inl rfl)) (pgs_cons (pg_name (i := 4) scDu.nd rfl (Or.inl rfl)) pgs_nil)))
      (pss_cons (ps_set (i := 5) scDu.nd rfl (Or.inl rfl) (pe_ix ix_list (pe_split (pv 4) pe_str) pe_int (fun _ _ => rfl)))
      (C8.pss_cut (ps_set (i := 6) scDu.nd rfl (Or.inl rfl) (pe_ifExp (pt_cmpR op_eq (pe_slice sl_str (pv 4) (po_some (pe_callB call_len_str (by rfl) tL PySem.boot_len (pa_cons (pv 5) pa_nil))) (po_some (pe_op op_add (pe_callB call_len_str (by rfl) tL PySem.boot_len (pa_cons (pv 5) pa_nil)) pe_int))) pe_str (by rfl))
          (pe_callG GR (hr.mono (by decide)) hgd (by rfl) gR FR.kp bR pass0 (pa_cons (pe_slice sl_str (pv 4) (po_some (pe_op op_add (pe_callB call_len_str (by rfl) tL PySem.boot_len (pa_cons (pv 5) pa_nil)) pe_int)) po_none) pa_nil)) pe_non))
      (C8.pss_cut (ps_set (i := 7) scDu.nd rfl (Or.inl rfl) (pe_ifExp (pt_cmpR op_notN (pv 6) pe_non (nomark _)) (pe_call GC (hr.mono (by decide)) (by rfl) gC FC.kp bC .nil pass0 (pa_cons (pv 6) pa_nil)) pe_non))
      (pss_one (ps_if (pt_cut (PW.pt (pw_and (pt_cmpR op_eq (pv 5) pe_str (by rfl)) (pw_and (pt_cmpR op_notN (pv 6) pe_non (nomark _)) (pw_and (pt_cmpR op_isN (pv 7) pe_non (nomark _)) (pw_and (pt_cmpR (NI.op_eqNil hu) (pv 2) (pe_lst pa_nil) (by rfl)) (pw_and1 (pt_cmpR op_lt (pe_callB call_len_seq (by rfl) tL PySem.boot_len (pa_cons (pv 1) pa_nil)) pe_int (by rfl)))))))))
          (pss_one (ps_expr (pe_bm PySem.F.plainAttrs_list PySem.F.slot_list_append PySem.F.type_list_append mt_append (pv 1) (pa_cons (pv 6) pa_nil))))
          (pss_one (ps_if (pt_cut (PW.pt (pw_and (pt_cmpR op_eq (pv 5) pe_str (by rfl)) (pw_and (pt_cmpR op_notN (pv 6) pe_non (nomark _)) (pw_and (pt_cmpR op_notN (pv 7) pe_non (nomark _)) (pw_and (pt_cmpR (NI.op_neNil hu) (pv 1) (pe_lst pa_nil) (by rfl)) (pw_and1 (pt_cmpR op_lt (pe_callB call_len_seq (by rfl) tL PySem.boot_len (pa_cons (pv 2) pa_nil)) pe_int (by rfl)))))))))
            (pss_one (ps_expr (pe_bm PySem.F.plainAttrs_list PySem.F.slot_list_append PySem.F.type_list_append mt_append (pv 2) (pa_cons (pv 6) pa_nil))))
            (pss_one (ps_ret (pe_tup (pa_cons pe_str (pa_cons (pe_op op_add (pv 3) pe_int) pa_nil)))))))))))))
    (pss_one (ps_ret (pe_lst (pa_cons (pe_make R.mkc GI (hr.mono (by decide)) (by rfl) R.g bI .nil (passes_call LamX.takes0 fun _ _ _ _ h => h) (pa_cons (pv 1) (pa_cons (pv 2) pa_nil))) pa_nil))))), ?_⟩
  obtain ⟨x, ev, sy, okx, k⟩ := h
  obtain rfl : v = .str x := List.head_eq_of_cons_eq ev
  refine ⟨Nat.zero_le _, fun D1 n1 => ⟨Nat.zero_le _, fun D2 n2 => ⟨_, _, rfl, ?_⟩⟩⟩
  refine ⟨_, rfl, ⟨_, rfl⟩, x, _, rfl, rfl, by decide +kernel, m62 (by rw [len_lS]; exact okx.1), fun L nL => ?_⟩
  rw [S_nl, split_one x (by decide)]
  refine ⟨L, _, rfl, SqL.of upd_same, ?_⟩
  have d12 : D1 ≠ D2 := ne_of_none upd_same n2
  have d1L : D1 ≠ L := ne_of_none (same_new (o := .lst []) n2 _ _ upd_same) nL
  have d2L : D2 ≠ L := ne_of_none upd_same nL
  have r0 : RR H x L D1 D2 0 [] [] [] [] (upd (upd (upd H D1 (.lst [])) D2 (.lst [])) L (.lst (((sp 10 (lS x)).map S).map V.str))) :=
    ⟨same_trans (same_new n1) (same_trans (same_new n2) (same_new nL)), upd_same, same_new nL _ _ (same_new n2 _ _ upd_same), .nil, same_new nL _ _ upd_same, .nil, EsOk.nil, fun z => absurd z (Nat.lt_irrefl _), rfl⟩
  have n2' : H D2 = none := by
    rw [upd_ne d12.symm] at n2
    exact n2
  generalize upd (upd (upd H D1 (.lst [])) D2 (.lst [])) L (.lst (((sp 10 (lS x)).map S).map V.str)) = H3 at r0
  clear n2 nL
  refine for_it (walk_enum (xs := ((sp 10 (lS x)).map S).map V.str)) (fun i σ' H' => ∃ (es ss : List Nd) (xs ys : List V) (w3 w4 w5 w6 w7 : Option V), σ' = [some (.str x), some (.ref D1), some (.ref D2), w3, w4, w5, w6, w7] ∧ RR H x L D1 D2 i es ss xs ys H')
    ⟨_, _, _, _, _, _, _, _, _, rfl, r0⟩ (fun i σ' H' _ ⟨_, _, _, _, _, _, _, _, _, _, r⟩ => SqL.of r.hl) ?_ ?_
  · rintro i y σ' H4 H5 hi ⟨es, ss, xs, ys, w3, w4, w5, w6, w7, rfl, r⟩ ⟨Tt, u, z, rfl, nT, rfl, hu', hz⟩
    obtain rfl : u = V.int (i : Nat) := (Option.some.inj hu').symm
    have hil : i < (sp 10 (lS x)).length := by
      rw [List.length_map, List.length_map] at hi
      exact hi
    have hl := List.getElem?_eq_getElem hil
    have hmem := List.getElem_mem hil
    generalize (sp 10 (lS x))[i] = l at hl hmem
    have okl := okL_sp okx l hmem
    obtain rfl : z = .str (S l) := by
      have y : (((sp 10 (lS x)).map S).map V.str)[i]? = some z := hz
      rw [List.getElem?_map, List.getElem?_map, hl] at y
      exact (Option.some.inj y).symm
    refine ⟨Tt, _, rfl, SqT.of upd_same, rfl, _, _, rfl, _, _, rfl, rfl, ?_⟩
    refine ⟨_, rfl, ⟨_, rfl⟩, S l, _, rfl, rfl, by decide +kernel, m62 (by rw [len_S]; exact okl.1), fun q nq => ?_⟩
    rw [S_sp, split_one (S l) (by decide), lS_S]
    have hh : (((sp 32 l).map S).map V.str)[0]? = some (V.str (S (wd l))) := by
      rw [List.getElem?_map, List.getElem?_map, sp_head]
      rfl
    refine ⟨q, _, 0, _, rfl, rfl, SqL.of upd_same, atI_nat (j := 0) hh, ?_⟩
    have r6 := r.same (same_trans (same_new nT) (same_new (o := .lst (((sp 32 l).map S).map V.str)) nq))
    generalize upd (upd H4 Tt (.tup [.int (i : Nat), .str (S l)])) q (.lst (((sp 32 l).map S).map V.str)) = H6 at r6
    have sy6 := sy.same r6.sm
    have lw := wd_le l
    have lenl : (S l).length ≤ sizeLine := by rw [len_S]; exact m6 okl.1
    have lenw : (S (wd l)).length ≤ sizeLine := by rw [len_S]; exact m6 (Nat.le_trans lw okl.1)
    -- found
    refine ⟨fun σ' H7 => ∃ vf, Same H6 H7 ∧ ToldV H7 vf (toldP (rs l)) ∧ σ' = [some (.str x), some (.ref D1), some (.ref D2), some (.int (i : Nat)), some (.str (S l)), some (.str (S (wd l))), some vf, w7], ?_, ?_⟩
    · refine ⟨_, rfl, _, rfl, _, rfl, lenw, ((wd l).length : Int), by rw [len_S], _, rfl, _, rfl, lenw, _, _, rfl, rfl, (((wd l).length + 1 : Nat) : Int), by rw [len_S]; rfl, S l, rfl, lenl, rfl, _, rfl, ?_⟩
      rw [cut_mid, lS_S, drop_wd, show (wd l).length + 1 - (wd l).length = 1 by omega, str_eqL, lS_S]
      rcases space_or l with hs | ⟨hs, hr0⟩
      · rw [decide_eq_true hs]
        refine iteT ⟨_, rfl, _, rfl, _, rfl, lenw, _, _, rfl, rfl, (((wd l).length + 1 : Nat) : Int), by rw [len_S]; rfl, S l, rfl, lenl, _, rfl, S (rs l), ?_, sy6, rs_ok okl, fun r' H7 s7 t7 => ⟨r', s7, t7, rfl⟩⟩
        rw [cut_from, lS_S, drop_rs]
      · rw [decide_eq_false hs]
        refine iteF ⟨.non, same_refl, ?_, rfl⟩
        rw [hr0, told_nil]
        rfl
    rintro σ' H7 ⟨vf, s7, tv, rfl⟩
    have r7 := r6.same s7
    -- level
    refine ⟨fun σ' H8 => ∃ vl, Same H7 H8 ∧ (vl = match toldP (rs l) with | none => V.non | some t => lvV (lvN t)) ∧ σ' = [some (.str x), some (.ref D1), some (.ref D2), some (.int (i : Nat)), some (.str (S l)), some (.str (S (wd l))), some vf, some vl], ?_, ?_⟩
    · refine ⟨_, rfl, rfl, _, rfl, ?_⟩
      cases ho : toldP (rs l) with
      | none =>
        rw [ho] at tv
        obtain rfl : vf = .non := tv
        exact iteF ⟨.non, same_refl, rfl, rfl⟩
      | some t =>
        rw [ho] at tv
        have tv : Dq H7 vf (toD t) := tv
        obtain ⟨g, h4, tb, l2⟩ := told_ok ho
        have nr : decide (vf = V.non) = false := decide_eq_false fun z => by
          rw [z] at tv
          cases t
          cases tv
        rw [nr]
        exact iteT ⟨_, rfl, vf, t, rfl, tv, g, h4, l2, fun H8 s8 => ⟨_, s8, rfl, rfl⟩⟩
    rintro σ' H8 ⟨vl, s8, hvl, rfl⟩
    have r8 := r7.same s8
    have tv8 : ToldV H8 vf (toldP (rs l)) := by
      cases ho : toldP (rs l) with
      | none =>
        rw [ho] at tv
        exact tv
      | some t =>
        rw [ho] at tv
        have tv : Dq H7 vf (toD t) := tv
        exact tv.same s8
    have lx : xs.length = es.length := by rw [r.a1.len, List.length_map]
    have ly : ys.length = ss.length := by rw [r.a2.len, List.length_map]
    obtain ⟨st1, st2, st3⟩ := stepR_c (l := l) lx ly
    refine ⟨fun b H' => Same H8 H' ∧ b = c1 l (oD (toldP (rs l))) xs ys, ?_, ?_⟩
    · unfold c1
      refine ⟨_, rfl, rfl, _, rfl, ?_⟩
      rw [S_end, str_eqL, lS_S]
      cases decide (wd l = wEnd) with
      | false => exact iteF ⟨same_refl, rfl⟩
      | true =>
        refine iteT ⟨_, rfl, rfl, _, rfl, ?_⟩
        cases ho : toldP (rs l) with
        | none =>
          rw [ho] at tv8
          obtain rfl : vf = .non := tv8
          exact iteF ⟨same_refl, rfl⟩
        | some t =>
          rw [ho] at tv8 hvl
          have tv8 : Dq H8 vf (toD t) := tv8
          obtain rfl : vl = lvV (lvN t) := hvl
          have nr : decide (vf = V.non) = false := decide_eq_false fun z => by
            rw [z] at tv8
            cases t
            cases tv8
          rw [nr]
          refine iteT ⟨_, rfl, rfl, _, rfl, ?_⟩
          rw [lv_non]
          have e0 : shape 0 (oD (some t)) = decide (nC t = 0) := (shape_nC (told_ok ho).2.2.1).1
          rw [e0]
          cases decide (nC t = 0) with
          | false => exact iteF ⟨same_refl, rfl⟩
          | true =>
            refine iteT ⟨_, rfl, by decide, fun p3 np3 => ⟨D2, p3, ys, rfl, rfl, SqL.of (same_new np3 _ _ r8.h2), SqL.of upd_same, _, rfl, ?_⟩⟩
            have s9 := same_new (o := .lst []) np3
            cases ys.isEmpty with
            | false => exact iteF ⟨s9, rfl⟩
            | true => exact iteT ⟨_, rfl, D1, xs, rfl, .inl (SqL.of (s9 _ _ r8.h1)), _, _, rfl, rfl, _, rfl, s9, by
                simp only [Bool.true_and]
                exact decide_eq_decide.mpr (by omega)⟩
    rintro b H9 ⟨s9, hb⟩
    have r9 := r8.same s9
    have qd9 : Dq H9 vf (oD (toldP (rs l))) := by
      cases ho : toldP (rs l) with
      | none =>
        rw [ho] at tv8
        obtain rfl : vf = .non := tv8
        exact .non
      | some t =>
        rw [ho] at tv8
        have tv8 : Dq H8 vf (toD t) := tv8
        exact tv8.same s9
    cases hc1 : c1 l (oD (toldP (rs l))) xs ys with
    | true =>
      rw [hb, hc1]
      obtain ⟨t, ht, hst⟩ := st1 hc1
      rw [ht] at qd9
      have l3 := r9.ok.l
      exact iteT ⟨_, rfl, .inl ⟨rfl, _, SqL.of r9.h1⟩, _, rfl, D1, xs, vf, rfl, rfl, r9.h1, Nat.lt_of_le_of_lt (show xs.length ≤ 3 by omega) (by decide), _, _, _, _, _, _, _, _, _, rfl, r9.put1 n1 d12 d1L qd9 hl hst⟩
    | false =>
      rw [hb, hc1]
      refine iteF ?_
      refine ⟨fun b H' => Same H9 H' ∧ b = c2 l (oD (toldP (rs l))) xs ys, ?_, ?_⟩
      · unfold c2
        refine ⟨_, rfl, rfl, _, rfl, ?_⟩
        rw [S_step, str_eqL, lS_S]
        cases decide (wd l = wStep) with
        | false => exact iteF ⟨same_refl, rfl⟩
        | true =>
          refine iteT ⟨_, rfl, rfl, _, rfl, ?_⟩
          cases ho : toldP (rs l) with
          | none =>
            rw [ho] at tv8
            obtain rfl : vf = .non := tv8
            exact iteF ⟨same_refl, rfl⟩
          | some t =>
            rw [ho] at tv8 hvl
            have tv8 : Dq H8 vf (toD t) := tv8
            obtain rfl : vl = lvV (lvN t) := hvl
            have nr : decide (vf = V.non) = false := decide_eq_false fun z => by
              rw [z] at tv8
              cases t
              cases tv8
            rw [nr]
            refine iteT ⟨_, rfl, rfl, _, rfl, ?_⟩
            rw [lv_non]
            have e1 : shape 1 (oD (some t)) = !decide (nC t = 0) := by
              rw [show shape 1 (oD (some t)) = decide (nC t ≠ 0) from (shape_nC (told_ok ho).2.2.1).2]
              simp
            rw [e1]
            cases decide (nC t = 0) with
            | true => exact iteF ⟨same_refl, rfl⟩
            | false =>
              refine iteT ⟨_, rfl, by decide, fun p3 np3 => ⟨D1, p3, xs, rfl, rfl, SqL.of (same_new np3 _ _ r9.h1), SqL.of upd_same, _, rfl, ?_⟩⟩
              have s10 := same_new (o := .lst []) np3
              cases xs.isEmpty with
              | true => exact iteF ⟨s10, rfl⟩
              | false => exact iteT ⟨_, rfl, D2, ys, rfl, .inl (SqL.of (s10 _ _ r9.h2)), _, _, rfl, rfl, _, rfl, s10, by
                  simp only [Bool.true_and, Bool.not_false]
                  exact decide_eq_decide.mpr (by omega)⟩
      rintro b H10 ⟨s10, hb2⟩
      have r10 := r9.same s10
      have qd10 := qd9.same s10
      cases hc2 : c2 l (oD (toldP (rs l))) xs ys with
      | true =>
        rw [hb2, hc2]
        obtain ⟨t, ht, hst⟩ := st2 hc1 hc2
        rw [ht] at qd10
        have l3 := r10.ok.m
        exact iteT ⟨_, rfl, .inl ⟨rfl, _, SqL.of r10.h2⟩, _, rfl, D2, ys, vf, rfl, rfl, r10.h2, Nat.lt_of_le_of_lt (show ys.length ≤ 3 by omega) (by decide), _, _, _, _, _, _, _, _, _, rfl, r10.put2 n2' d12 d2L qd10 hl hst⟩
      | false =>
        rw [hb2, hc2]
        have hbad := r10.bad hl (st3 hc1 hc2)
        refine iteF ⟨_, rfl, _, _, rfl, rfl, by show 2 ≤ sizeLine; decide, fun p np => k _ _ (same_trans r10.sm (same_new np)) ?_⟩
        rw [hbad]
        refine ⟨p, rfl, ?_⟩
        rw [show (((i + 1 : Nat) : Int)) = (i : Int) + 1 by omega]
        exact upd_same
  rintro σ' H4 ⟨es, ss, xs, ys, w3, w4, w5, w6, w7, rfl, r⟩
  have hn : (((sp 10 (lS x)).map S).map V.str).length = (sp 10 (lS x)).length := by rw [List.length_map, List.length_map]
  rw [hn] at r
  have hdue := r.due
  rw [List.drop_length] at hdue
  have hpos : 0 < (sp 10 (lS x)).length := by
    have z := sp_head 10 (lS x)
    exact (List.getElem?_eq_some_iff.mp z).1
  refine ⟨_, rfl, _, rfl, fun rl dx nrl ndx ned => ?_⟩
  refine make_any (.inl (.lst r.h1 r.a1)) (.inl (.lst r.h2 r.a2)) nrl ndx ned (due_nd r.ok (r.ne hpos)) fun H5 s5 ra => ⟨rfl, by show 1 ≤ sizeLine; decide, fun p np => k _ _ (same_trans r.sm (same_trans s5 (same_new np))) ?_⟩
  rw [hdue]
  exact ⟨r.ok, p, rl, rfl, upd_same, ra.same (same_new np)⟩
end
end X48
set_option Elab.async false
set_option linter.all false
set_option maxRecDepth 100000
set_option maxHeartbeats 8000000
/-! _law_lines_near -/
namespace X48
open PySem PySem.Spec PyProof.Rows L2 L2H DQ K01 RZ
open XH hiding same_refl same_trans same_new
def vS (l : List Nat) : V := .str (S l)
/-- te gives a list of these texts -/
def LsX (Hb : Hp) (te : TE) (σ : L2.St) (R : List (List Nat)) : Prop := ∀ H, Same Hb H → ∀ Q : VK, (∀ p H', Same H H' → H' p = some (.lst (R.map vS)) → Q (.ref p) H') → te σ H Q
section
variable {K : PySem.W.Frag} {Hb : Hp} {σ : L2.St} {R A B : List (List Nat)} {a b : TE} {pR : Addr} {i j : Nat} {k : Nat}
theorem ls_var (h : σ[i]? = some (some (.ref pR))) (e : Hb pR = some (.lst (R.map vS))) : LsX Hb (tVar i) σ R := fun H s Q q => ⟨_, h, q pR H same_refl (s _ _ e)⟩
theorem ls_cat (ha : LsX Hb a σ A) (hb : LsX Hb b σ B) (l : A.length + B.length ≤ 1000000) : LsX Hb (tOp rCat a b) σ (A ++ B) := fun H s Q q => ha H s _ fun p H1 s1 e1 => hb H1 (same_trans s s1) _ fun p2 H2 s2 e2 =>
  ⟨p, p2, _, _, rfl, rfl, s2 _ _ e1, e2, by
    rw [List.length_map, List.length_map]
    exact m6 l, fun r nr => q r _ (same_trans s1 (same_trans s2 (same_new nr))) (by rw [List.map_append]; exact upd_same)⟩
theorem ls_one {x : List Nat} (h : σ[i]? = some (some (.str (S x)))) : LsX Hb (tLst (tCons (tVar i) tNil)) σ [x] := fun H s Q q => ⟨_, h, by show 1 ≤ sizeLine; decide, fun p np => q p _ (same_new np) upd_same⟩
theorem ls_to (h : σ[i]? = some (some (.ref pR))) (e : Hb pR = some (.lst (R.map vS))) (hk : σ[j]? = some (some (.int (k : Int)))) : LsX Hb (tSl (rSlL K) (tVar i) tNoPart (tPart (tVar j))) σ (R.take k) := fun H s Q q =>
  ⟨_, h, _, hk, _, rfl, pR, _, rfl, SqL.of (s _ _ e), fun p np => q p _ (same_new np) (by rw [List.map_take, ← K01.cut_to (R.map vS) (j := k)]; exact upd_same)⟩
theorem ls_from (h : σ[i]? = some (some (.ref pR))) (e : Hb pR = some (.lst (R.map vS))) (hk : σ[j]? = some (some (.int (k : Int)))) : LsX Hb (tSl (rSlL K) (tVar i) (tPart (tVar j)) tNoPart) σ (R.drop k) := fun H s Q q =>
  ⟨_, h, _, hk, _, rfl, pR, _, rfl, SqL.of (s _ _ e), fun p np => q p _ (same_new np) (by rw [List.map_drop, ← K01.cut_from (R.map vS) (j := k)]; exact upd_same)⟩
theorem ls_from1 (h : σ[i]? = some (some (.ref pR))) (e : Hb pR = some (.lst (R.map vS))) (hk : σ[j]? = some (some (.int (k : Int)))) : LsX Hb (tSl (rSlL K) (tVar i) (tPart (tOp (rI0 fun i j => .int (i + j)) (tVar j) (tC (.int 1)))) tNoPart) σ (R.drop (k + 1)) := fun H s Q q =>
  ⟨_, h, _, hk, _, _, rfl, rfl, ((k + 1 : Nat) : Int), rfl, pR, _, rfl, SqL.of (s _ _ e), fun p np => q p _ (same_new np) (by rw [List.map_drop, ← K01.cut_from (R.map vS) (j := k + 1)]; exact upd_same)⟩
theorem ls_at (h : σ[i]? = some (some (.ref pR))) (e : Hb pR = some (.lst (R.map vS))) (hk : σ[j]? = some (some (.int (k : Int)))) (hl : k < R.length) : LsX Hb (tSl (rSlL K) (tVar i) (tPart (tVar j)) (tPart (tOp (rI0 fun i j => .int (i + j)) (tVar j) (tC (.int 1))))) σ ((R.drop k).take 1) := fun H s Q q =>
  ⟨_, h, _, hk, _, rfl, _, hk, _, _, rfl, rfl, ((k : Int) + 1), rfl, pR, _, rfl, SqL.of (s _ _ e), fun p np => q p _ (same_new np) (by rw [List.map_take, List.map_drop, ← K01.cut_at (R.map vS) (j := k) (by rw [List.length_map]; exact hl)]; exact upd_same)⟩
theorem ls_rev (h : σ[i]? = some (some (.ref pR))) (e : Hb pR = some (.lst (R.map vS))) : LsX Hb (tRevL K (tVar i)) σ R.reverse := fun H s Q q =>
  ⟨_, h, pR, _, rfl, SqL.of (s _ _ e), fun p np => q p _ (same_new np) (by rw [List.map_reverse]; exact upd_same)⟩
end
/-- lists of texts at some addresses -/
inductive RwAt (H : Hp) : List V → List (List (List Nat)) → Prop
  | nil : RwAt H [] []
  | cons {p : Addr} {vs : List V} {R : List (List Nat)} {Rs : List (List (List Nat))} : H p = some (.lst (R.map vS)) → RwAt H vs Rs → RwAt H (.ref p :: vs) (R :: Rs)
theorem RwAt.same {H H' : Hp} (s : Same H H') : ∀ {vs : List V} {Rs : List (List (List Nat))}, RwAt H vs Rs → RwAt H' vs Rs
  | _, _, .nil => .nil
  | _, _, .cons h r => .cons (s _ _ h) (r.same s)
theorem RwAt.app {H : Hp} : ∀ {vs ws : List V} {Rs Ss : List (List (List Nat))}, RwAt H vs Rs → RwAt H ws Ss → RwAt H (vs ++ ws) (Rs ++ Ss)
  | _, _, _, _, .nil, h => h
  | _, _, _, _, .cons a r, h => .cons a (r.app h)
theorem RwAt.len {H : Hp} : ∀ {vs : List V} {Rs : List (List (List Nat))}, RwAt H vs Rs → vs.length = Rs.length
  | _, _, .nil => rfl
  | _, _, .cons _ r => congrArg (· + 1) r.len
theorem RwAt.at {H : Hp} : ∀ {vs : List V} {Rs : List (List (List Nat))} {i : Nat} {v : V}, RwAt H vs Rs → vs[i]? = some v → ∃ p R, v = .ref p ∧ Rs[i]? = some R ∧ H p = some (.lst (R.map vS))
  | _, _, 0, _, .cons a _, h => by
    cases h
    exact ⟨_, _, rfl, rfl, a⟩
  | _, _, i + 1, _, .cons _ r, h => r.at (i := i) h
def LsA (Hb : Hp) (ta : TA) (σ : L2.St) (Rs : List (List (List Nat))) : Prop := ∀ H, Same Hb H → ∀ Q : List V → Hp → Prop, (∀ vs H', Same H H' → RwAt H' vs Rs → Q vs H') → ta σ H Q
theorem lsa_nil {Hb : Hp} {σ : L2.St} : LsA Hb tNil σ [] := fun H s Q q => q [] H same_refl .nil
theorem lsa_cons {Hb : Hp} {σ : L2.St} {te : TE} {ta : TA} {R : List (List Nat)} {Rs : List (List (List Nat))} (a : LsX Hb te σ R) (b : LsA Hb ta σ Rs) : LsA Hb (tCons te ta) σ (R :: Rs) := fun H s Q q => a H s _ fun p H1 s1 e1 => b H1 (same_trans s s1) _ fun vs H2 s2 r2 => q _ H2 (same_trans s1 s2) (.cons (s2 _ _ e1) r2)
/-! ### how long -/
def wt (R : List (List Nat)) : Nat := (R.map List.length).sum + R.length
theorem wt_app (A B : List (List Nat)) : wt (A ++ B) = wt A + wt B := by
  unfold wt
  rw [List.map_append, List.sum_append, List.length_append]
  omega
theorem wt_split (R : List (List Nat)) (j : Nat) : wt (R.take j) + wt (R.drop j) = wt R := by rw [← wt_app, List.take_append_drop]
theorem wt_rev (R : List (List Nat)) : wt R.reverse = wt R := by
  induction R with
  | nil => rfl
  | cons x R ih =>
    rw [List.reverse_cons, wt_app, ih]
    simp [wt]
    omega
theorem wt_sp (c : Nat) : ∀ l : List Nat, wt (sp c l) = l.length + 1
  | [] => rfl
  | x :: r => by
    have ih := wt_sp c r
    simp only [sp]
    split
    · simp only [wt, List.map_cons, List.sum_cons, List.length_cons, List.length_nil] at ih ⊢
      omega
    · cases h : sp c r with
      | nil =>
        rw [h] at ih
        simp [wt] at ih
      | cons a t =>
        rw [h] at ih
        simp only [wt, List.map_cons, List.sum_cons, List.length_cons] at ih ⊢
        omega
theorem len_wt (R : List (List Nat)) : R.length ≤ wt R := Nat.le_add_left _ _
/-- rows of signs -/
def chs (R : List (List Nat)) : Prop := ∀ m ∈ R, ∀ c ∈ m, c < 1114112
theorem chs.app {A B : List (List Nat)} (a : chs A) (b : chs B) : chs (A ++ B) := fun m hm => (List.mem_append.mp hm).elim (a m) (b m)
theorem chs.sub {A B : List (List Nat)} (a : chs A) (h : ∀ m ∈ B, m ∈ A) : chs B := fun m hm => a m (h m hm)
theorem chs_jn : ∀ {R : List (List Nat)}, chs R → ∀ c ∈ jn 10 R, c < 1114112
  | [], _, c, hc => absurd hc List.not_mem_nil
  | [m], h, c, hc => h m (List.mem_cons_self ..) c hc
  | m :: m' :: R, h, c, hc => by
    simp only [jn] at hc
    rcases List.mem_append.mp hc with z | z
    · exact h m (List.mem_cons_self ..) c z
    · rcases List.mem_cons.mp z with rfl | z
      · decide
      · exact chs_jn (R := m' :: R) (fun x hx => h x (List.mem_cons_of_mem _ hx)) c z
theorem okB_jn {R : List (List Nat)} {b : Nat} (h : chs R) (l : wt R ≤ b) : okB b (S (jn 10 R)) := ⟨by
  rw [lS_S]
  exact Nat.le_trans (jn_len10 10 R) l, fun c hc => chs_jn h c hc⟩
/-- the eight variants -/
def near8 (R : List (List Nat)) (x : List Nat) (k : Nat) : List (List (List Nat)) :=
  [R.take k ++ R.drop (k + 1), R.take k ++ (R.drop k).take 1 ++ R.drop k, R.reverse, R ++ [x]] ++ [R.take k ++ [x], R.take k ++ [x] ++ R.drop k, R ++ R, R.drop k]
theorem near8_ok {R : List (List Nat)} {x : List Nat} {k b : Nat} (h : chs R) (hx : ∀ c ∈ x, c < 1114112) (lx : x.length ≤ 20) (hw : wt R ≤ b) : ∀ A ∈ near8 R x k, chs A ∧ wt A ≤ 2 * b + 21 := fun A hA => by
  have w1 : wt [x] ≤ 21 := by
    simp only [wt, List.map_cons, List.map_nil, List.sum_cons, List.sum_nil, List.length_cons, List.length_nil]
    omega
  have sp1 := wt_split R k
  have sp2 := wt_split R (k + 1)
  have sp3 := wt_split (R.drop k) 1
  have cT : chs (R.take k) := h.sub fun m hm => List.mem_of_mem_take hm
  have cD : chs (R.drop k) := h.sub fun m hm => List.mem_of_mem_drop hm
  have cD1 : chs (R.drop (k + 1)) := h.sub fun m hm => List.mem_of_mem_drop hm
  have cX : chs [x] := fun m hm => by
    rw [List.mem_singleton.mp hm]
    exact hx
  have cR : chs R.reverse := h.sub fun m hm => List.mem_reverse.mp hm
  have c1 : chs ((R.drop k).take 1) := cD.sub fun m hm => List.mem_of_mem_take hm
  have dd : R.drop (k + 1) = (R.drop k).drop 1 := by rw [List.drop_drop]
  rw [dd] at sp2
  simp only [near8, List.cons_append, List.nil_append, List.mem_cons, List.not_mem_nil, or_false] at hA
  rcases hA with rfl | rfl | rfl | rfl | rfl | rfl | rfl | rfl
  · exact ⟨cT.app cD1, by rw [wt_app, dd]; omega⟩
  · exact ⟨(cT.app c1).app cD, by rw [wt_app, wt_app]; omega⟩
  · exact ⟨cR, by rw [wt_rev]; omega⟩
  · exact ⟨h.app cX, by rw [wt_app]; omega⟩
  · exact ⟨cT.app cX, by rw [wt_app]; omega⟩
  · exact ⟨(cT.app cX).app cD, by rw [wt_app, wt_app]; omega⟩
  · exact ⟨h.app h, by rw [wt_app]; omega⟩
  · exact ⟨cD, by omega⟩
theorem chs_sp {l : List Nat} (h : ∀ c ∈ l, c < 1114112) (c : Nat) : chs (sp c l) := fun m hm x hx => h x ((sp_sub m hm).2 x hx)
end X48
set_option Elab.async false
set_option linter.all false
set_option maxRecDepth 100000
set_option maxHeartbeats 8000000
namespace X48
open PySem PySem.Spec PyProof.Rows L2 L2H DQ K01 RZ
open XH hiding same_refl same_trans same_new
theorem tasg_of {te : TE} {g : TG} {D : Ends} {σ : L2.St} {H : Hp} (h : te σ H fun v H1 => g v σ H1 D.nx) : tAsg te g D σ H := h
theorem pe_joinK {X : Cx} {K : PySem.W.Frag} {o e : Expr} {to te : TE} {apos pos : Pos} (hK : X.K = K) (ho : PE X o to) (he : PE X e te) (hs : starEach [e] X.env = [(false, eval e X.env)] := by rfl) (hbase : attributeBase o "join" X.env (eval o X.env) = eval o X.env := by rfl) (hline : (apos.endLine == pos.line) = true := by rfl) :
    PE X (.Call (.Attribute o "join" apos) [e] [] pos) (tM1 (fun x xs H Q => ∃ a p, ∃ ys : List Str, x = .str a ∧ xs = [.ref p] ∧ (SqL K H p (ys.map V.str) ∨ SqT K H p (ys.map V.str)) ∧
      (ys.map (·.length)).sum + ys.length * a.length ≤ 16777216 ∧ Q (.str (Txt.join a ys)) H) to te) := by
  subst hK
  exact pe_join ho he hs hbase hline
def partsL : List Str := ["end -", "step -(e>!-)", "end !a", "step a", "", "end", "step -", "End a"]
theorem parts_at {k : Nat} (h : k < 8) : ∃ u : Str, (partsL.map V.str)[k]? = some (.str u) ∧ (lS u).length ≤ 20 ∧ ∀ c ∈ lS u, c < 1114112 := by
  have z : ∀ u ∈ partsL, (lS u).length ≤ 20 ∧ ∀ c ∈ lS u, c < 1114112 := fun u hu => by
    have y := List.all_eq_true.mp (show (partsL.all fun u => decide ((lS u).length ≤ 20) && (lS u).all fun c => decide (c < 1114112)) = true by decide +kernel) u hu
    obtain ⟨a, b⟩ := Bool.and_eq_true_iff.mp y
    exact ⟨of_decide_eq_true a, fun c hc => of_decide_eq_true (List.all_eq_true.mp b c hc)⟩
  have hk : k < partsL.length := h
  refine ⟨partsL[k], by rw [List.getElem?_map, List.getElem?_eq_getElem hk]; rfl, z _ (List.getElem_mem hk)⟩
abbrev nLi : List Str := ["m", "text", "rows", "part", "at", "some", "row"]
theorem scLi : FnScope nLi ["m", "text"] (defScope sLin) := ⟨rfl, rfl, rfl, by decide +kernel, rfl, by decide +kernel, by decide +kernel⟩
def spLin : Sp := fun vs H Q _ => ∃ (m c l : Addr) (cs ls : List Int) (n : Int) (x : Str) (b : Nat), vs = [.ref m, .str x] ∧ MAt H m c l cs ls n ∧ n + 2 ≤ 1000000000 ∧ okB b x ∧ b ≤ 100000 ∧
  ∀ (p : Addr) (ts : List Str) (H' : Hp) (l' : Addr) (ls' : List Int) (n' : Int), MAt H' m c l' cs ls' n' → n' ≤ n + 2 → Fs H m l H' l' → fr H' m l' p = some (.lst (ts.map V.str)) → ts.length = 8 → (∀ t ∈ ts, okB (2 * b + 30) t) → Q (.ref p) H'
section
variable {P : Program} {w : World} {K : PySem.W.Frag} {mg : Str → Option Value} {base : Heap}
theorem ok_lin {f fN : Addr} {fd dN : FuncData} (F : Fun K "_law_lines_near" "_law_lines_near" sLin f fd) (tL : mg "len" = none)
    (FN : Fun K "_law_next" "_law_next" sNext fN dN) (bN : Binds K dN ["m", "many"] []) (gN : mg "_law_next" = some (.ref fN)) (GN : FnOk P w K mg base CX0 1 fN dN ["m", "many"] spNx) :
    FnOk P w K mg base CX0 2 f fd ["m", "text"] spLin := by
  refine F.ok (k := 1) scLi (fun vs H Q E h => ?_) (fun cdv A outer s H vs Q E hr h => ?_)
  · obtain ⟨m, c, l, cs, ls, n, x, b, rfl, _⟩ := h
    rfl
  · obtain ⟨m, c, l, cs, ls, n, x, b, rfl, M, hn, hx, hb, kk⟩ := h
    refine ⟨_, pss_cons (ps_set (i := 2) scLi.nd rfl (Or.inl rfl) (pe_split (pv 1) pe_str))
      (pss_cons (ps_set (i := 3) scLi.nd rfl (Or.inl rfl) (pe_ix (ix_listK (K := K) rfl) (pe_lst (pa_cons pe_str (pa_cons pe_str (pa_cons pe_str (pa_cons pe_str (pa_cons pe_str (pa_cons pe_str (pa_cons pe_str (pa_cons pe_str pa_nil))))))))) (pe_call GN hr (by rfl) gN FN.kp bN .nil pass0 (pa_cons (pv 0) (pa_cons pe_int pa_nil))) (fun _ _ => rfl)))
      (pss_cons (ps_set (i := 4) scLi.nd rfl (Or.inl rfl) (pe_call GN hr (by rfl) gN FN.kp bN .nil pass0 (pa_cons (pv 0) (pa_cons (pe_callB call_len_seq (by rfl) tL PySem.boot_len (pa_cons (pv 2) pa_nil)) pa_nil))))
      (pss_cons (ps_set (i := 5) scLi.nd rfl (Or.inl rfl) (pe_lst (pa_cons (pe_op op_cat (pe_slice sl_list (pv 2) po_none (po_some (pv 4))) (pe_slice sl_list (pv 2) (po_some (pe_op op_add (pv 4) pe_int)) po_none))
          (pa_cons (pe_op op_cat (pe_op op_cat (pe_slice sl_list (pv 2) po_none (po_some (pv 4))) (pe_slice sl_list (pv 2) (po_some (pv 4)) (po_some (pe_op op_add (pv 4) pe_int)))) (pe_slice sl_list (pv 2) (po_some (pv 4)) po_none))
          (pa_cons (pe_revL (pv 2)) (pa_cons (pe_op op_cat (pv 2) (pe_lst (pa_cons (pv 3) pa_nil))) pa_nil))))))
      (pss_cons (ps_set (i := 5) scLi.nd rfl (Or.inl rfl) (pe_op op_cat (pv 5) (pe_lst (pa_cons (pe_op op_cat (pe_slice sl_list (pv 2) po_none (po_some (pv 4))) (pe_lst (pa_cons (pv 3) pa_nil)))
          (pa_cons (pe_op op_cat (pe_op op_cat (pe_slice sl_list (pv 2) po_none (po_some (pv 4))) (pe_lst (pa_cons (pv 3) pa_nil))) (pe_slice sl_list (pv 2) (po_some (pv 4)) po_none))
          (pa_cons (pe_op op_cat (pv 2) (pv 2)) (pa_cons (pe_slice sl_list (pv 2) (po_some (pv 4)) po_none) pa_nil)))))))
      (pss_one (ps_ret (pe_lc (own := [("row", 6)]) (g := gName 6) (tt := tYes) rfl scLi.nd (pi_list (pv 5)) (blkOk_by (own := [("row", 6)]) (N := nLi) (sc := defScope sLin) (by decide +kernel))
        (fun _ _ _ _ _ => pg_name (i := 6) scLi.nd rfl (Or.inl rfl)) (fun _ _ _ _ _ => pts_nil) (fun _ _ _ _ _ => pe_joinK (K := K) rfl pe_str (pv 6))))))))), ?_⟩
    have lx : x.length ≤ 1000000 := by
      rw [len_lS]
      exact Nat.le_trans hx.1 (by omega)
    refine ⟨_, rfl, ⟨_, rfl⟩, x, _, rfl, rfl, by decide +kernel, m62 lx, fun pR nR => ?_⟩
    rw [S_nl, split_one x (by decide)]
    have G0 : Gw m c l cs ls n H H := ⟨M, .refl⟩
    have eR : ((sp 10 (lS x)).map S).map V.str = (sp 10 (lS x)).map vS := List.map_map
    rw [eR]
    obtain ⟨G1, t1, e1⟩ := G0.new (o := .lst ((sp 10 (lS x)).map vS)) nR
    have wR : wt (sp 10 (lS x)) ≤ b + 1 := by
      rw [wt_sp]
      exact Nat.succ_le_succ hx.1
    have lR := len_wt (sp 10 (lS x))
    have cR := chs_sp hx.2 10
    have lR0 : 0 < (sp 10 (lS x)).length := (List.getElem?_eq_some_iff.mp (sp_head 10 (lS x))).1
    generalize sp 10 (lS x) = R at *
    refine ⟨by show 8 ≤ sizeLine; decide, fun pL nL => ?_⟩
    obtain ⟨G2, t2, e2⟩ := G1.new (o := .lst (partsL.map V.str)) nL
    refine ⟨_, rfl, m, c, l, 8, cs, ls, n, rfl, G2.mat, by decide, by decide, by omega, fun r3 H3 l3 ls3 n3 r30 r31 M3 nn3 s3 => ?_⟩
    obtain ⟨k3, rfl⟩ : ∃ k : Nat, r3 = (k : Int) := ⟨r3.toNat, by omega⟩
    obtain ⟨u, hu, lu, cu⟩ := parts_at (k := k3) (by omega)
    refine ⟨pL, _, (k3 : Int), .str u, rfl, rfl, SqL.of (fr_of (s3.1 _ _ e2)).2.2, atI_nat hu, ?_⟩
    have F3 : Fs H m l H3 l3 := G2.sm.trans s3
    have e3 : fr H3 m l3 pR = some (.lst (R.map vS)) := s3.1 _ _ (t2 _ _ e1)
    refine ⟨_, rfl, _, rfl, pR, _, rfl, .inl (SqL.of (fr_of e3).2.2), m, c, l3, _, cs, ls3, n3, rfl, M3, ?_, ?_, by omega, fun r4 H4 l4 ls4 n4 r40 r41 M4 nn4 s4 => ?_⟩
    · rw [List.length_map]; omega
    · rw [List.length_map]; omega
    obtain ⟨k, rfl⟩ : ∃ k : Nat, r4 = (k : Int) := ⟨r4.toNat, by omega⟩
    rw [List.length_map] at r41
    have F4 : Fs H m l H4 l4 := F3.trans s4
    have e4 : H4 pR = some (.lst (R.map vS)) := (fr_of (s4.1 _ _ e3)).2.2
    have hk : k < R.length := by omega
    obtain ⟨ul, rfl⟩ : ∃ ul, u = S ul := ⟨lS u, (S_lS u).symm⟩
    rw [lS_S] at lu cu
    have hlen : ∀ A ∈ near8 R ul k, A.length ≤ 1000000 := fun A hA => by
      have := (near8_ok (b := b + 1) cR cu lu wR A hA).2
      have := len_wt A
      omega
    have ch : ∀ A ∈ near8 R ul k, chs A ∧ wt A ≤ 2 * (b + 1) + 21 := near8_ok cR cu lu wR
    have lA : ∀ i, (R.take i).length ≤ R.length := fun i => by rw [List.length_take]; omega
    have lB' : ∀ i, (R.drop i).length ≤ R.length := fun i => by rw [List.length_drop]; omega
    have lC : ((R.drop k).take 1).length ≤ 1 := by rw [List.length_take]; omega
    have a1 := lA k
    have a2 := lB' k
    have a3 := lB' (k + 1)
    have A1 : LsA H4 (tCons (tOp rCat (tSl (rSlL K) (tVar 2) tNoPart (tPart (tVar 4))) (tSl (rSlL K) (tVar 2) (tPart (tOp (rI0 fun i j => .int (i + j)) (tVar 4) (tC (.int 1)))) tNoPart))
        (tCons (tOp rCat (tOp rCat (tSl (rSlL K) (tVar 2) tNoPart (tPart (tVar 4))) (tSl (rSlL K) (tVar 2) (tPart (tVar 4)) (tPart (tOp (rI0 fun i j => .int (i + j)) (tVar 4) (tC (.int 1)))))) (tSl (rSlL K) (tVar 2) (tPart (tVar 4)) tNoPart))
        (tCons (tRevL K (tVar 2)) (tCons (tOp rCat (tVar 2) (tLst (tCons (tVar 3) tNil))) tNil)))) [some (.ref m), some (.str x), some (.ref pR), some (.str (S ul)), some (.int (k : Int)), none, none]
        [R.take k ++ R.drop (k + 1), R.take k ++ (R.drop k).take 1 ++ R.drop k, R.reverse, R ++ [ul]] :=
      lsa_cons (ls_cat (ls_to rfl e4 rfl) (ls_from1 rfl e4 rfl) (by omega)) (lsa_cons (ls_cat (ls_cat (ls_to rfl e4 rfl) (ls_at rfl e4 rfl hk) (by omega)) (ls_from rfl e4 rfl) (by rw [List.length_append]; omega)) (lsa_cons (ls_rev rfl e4) (lsa_cons (ls_cat (ls_var rfl e4) (ls_one rfl) (by rw [List.length_singleton]; omega)) lsa_nil)))
    have A2 : ∀ v5 : Option V, LsA H4 (tCons (tOp rCat (tSl (rSlL K) (tVar 2) tNoPart (tPart (tVar 4))) (tLst (tCons (tVar 3) tNil)))
        (tCons (tOp rCat (tOp rCat (tSl (rSlL K) (tVar 2) tNoPart (tPart (tVar 4))) (tLst (tCons (tVar 3) tNil))) (tSl (rSlL K) (tVar 2) (tPart (tVar 4)) tNoPart))
        (tCons (tOp rCat (tVar 2) (tVar 2)) (tCons (tSl (rSlL K) (tVar 2) (tPart (tVar 4)) tNoPart) tNil)))) [some (.ref m), some (.str x), some (.ref pR), some (.str (S ul)), some (.int (k : Int)), v5, none]
        [R.take k ++ [ul], R.take k ++ [ul] ++ R.drop k, R ++ R, R.drop k] := fun v5 =>
      lsa_cons (ls_cat (ls_to rfl e4 rfl) (ls_one rfl) (by rw [List.length_singleton]; omega)) (lsa_cons (ls_cat (ls_cat (ls_to rfl e4 rfl) (ls_one rfl) (by rw [List.length_singleton]; omega)) (ls_from rfl e4 rfl) (by rw [List.length_append, List.length_singleton]; omega)) (lsa_cons (ls_cat (ls_var rfl e4) (ls_var rfl e4) (by omega)) (lsa_cons (ls_from rfl e4 rfl) lsa_nil)))
    dsimp only [gName]
    refine tseq_of (tasg_of ?_)
    refine A1 H4 same_refl _ fun vs H5 s5 r5 => ⟨by rw [r5.len]; show 4 ≤ sizeLine; decide, fun p5 np5 => ?_⟩
    have s6 := same_trans s5 (same_new (o := .lst vs) np5)
    dsimp only [gName]
    refine tseq_of (tasg_of ⟨_, rfl, ?_⟩)
    refine A2 _ _ s6 _ fun ws H7 s7 r7 => ⟨by rw [r7.len]; show 4 ≤ sizeLine; decide, fun p7 np7 => ⟨p5, p7, vs, ws, rfl, rfl, same_new np7 _ _ (s7 _ _ upd_same), upd_same, ?_, fun p8 np8 => ?_⟩⟩
    · rw [r5.len, r7.len]
      show 4 + 4 ≤ sizeLine
      decide
    have s78 := same_trans (same_new (o := .lst ws) np7) (same_new (o := .lst (vs ++ ws)) np8)
    have s8 := same_trans s6 (same_trans s7 s78)
    have rr := (r5.same (same_trans (same_new (o := .lst vs) np5) (same_trans s7 s78))).app (r7.same s78)
    have e8 := upd_same (H := upd H7 p7 (.lst ws)) (a := p8) (o := .lst (vs ++ ws))
    generalize upd (upd H7 p7 (.lst ws)) p8 (.lst (vs ++ ws)) = H8 at s8 rr e8 ⊢
    generalize vs ++ ws = us at rr e8 ⊢
    have rr : RwAt H8 us (near8 R ul k) := rr
    clear s78 s6 s7 s5 r5 r7 np5 np7 np8 A1 A2
    refine ⟨_, rfl, p8, rfl, ⟨_, SqL.of e8⟩, fun D nD => ?_⟩
    have nD4 : H4 D = none := same_out s8 nD
    refine lc_list (K := K) (a := p8) (xs := us) (fun i H' => Same H8 H' ∧ H' D = some (.lst (((near8 R ul k).take i).map fun A => V.str (S (jn 10 A))))) ⟨same_new nD, upd_same⟩ (fun i H' _ ⟨s, _⟩ => SqL.of (s _ _ e8)) ?_ ?_
    · rintro i y H9 hi ⟨s9, hd⟩
      obtain ⟨p, A, rfl, hA, eA⟩ := rr.at hi
      have hmem := List.mem_of_getElem? hA
      obtain ⟨cA, wA⟩ := ch A hmem
      have lnA := hlen A hmem
      have lAw := len_wt A
      refine ⟨rfl, ?_⟩
      unfold tYes
      refine iteT ⟨⟨_, rfl⟩, _, rfl, "\n", p, A.map S, rfl, rfl, .inl (SqL.of ?_), ?_, ?_⟩
      · rw [List.map_map]
        exact s9 _ _ eA
      · rw [List.map_map, List.length_map, show ("\n" : Str).length = 1 by decide +kernel, show (Str.length ∘ S) = List.length from funext fun l => len_S l]
        have : (A.map List.length).sum + A.length ≤ 2 * (b + 1) + 21 := wA
        omega
      · rw [S_nl, join_one, List.map_map, show (lS ∘ S) = id from funext fun l => lS_S l, List.map_id]
        refine ⟨_, hd, small1000 ?_, fun bb o z => ?_, ?_⟩
        · rw [List.length_map, List.length_take]
          exact Nat.le_trans (Nat.min_le_right _ _) (show 8 ≤ 1000 by decide)
        · rw [upd_ne (ne_of_none z nD)]
          exact s9 _ _ z
        · rw [upd_same, List.take_add_one, hA, List.map_append]
          rfl
    · rintro H9 ⟨s9, hd⟩
      have hl : us.length = 8 := by rw [rr.len]; rfl
      rw [hl, List.take_of_length_le (show (near8 R ul k).length ≤ 8 from Nat.le_refl _)] at hd
      have s49 := same_trans s8 s9
      obtain ⟨G9, k9⟩ := (Gw.mk (H := H4) M4 .refl).grow s49
      refine kk D ((near8 R ul k).map fun A => S (jn 10 A)) H9 l4 ls4 n4 G9.mat (by omega) (F4.trans G9.sm) (fr_some (by rw [List.map_map]; exact hd) (ne_of_none M4.hm nD4).symm (ne_of_none M4.hl nD4).symm) (by rw [List.length_map]; rfl) fun t ht => ?_
      obtain ⟨A, hA, rfl⟩ := List.mem_map.mp ht
      obtain ⟨cA, wA⟩ := ch A hA
      exact okB_jn cA (by omega)
end
end X48
set_option Elab.async false
set_option linter.all false
set_option maxRecDepth 100000
set_option maxHeartbeats 4000000
/-! what the law's own def asks: told calls, the state through lambdas -/
namespace X48
open PySem PySem.Spec PyProof.Rows L2 L2H DQ K01 RZ LamX LamD TrA XT
open XH hiding same_refl same_trans same_new
open RU (RulesAt RCl lk_e lk_s Rw spRI dueR firstBad isRow itemsD REq)
mutual
theorem _root_.DQ.Dq.extN {H H' : Hp} (s : ExtN H H') : ∀ {v : V} {d : PyData}, Dq H v d → Dq H' v d
  | _, _, .non => .non
  | _, _, .bl b => .bl b
  | _, _, .int i => .int i
  | _, _, .str x hx => .str x hx
  | _, _, .lst e a => .lst (s _ _ e (fun _ z => by cases z)) (a.extN s)
  | _, _, .tup e a => .tup (s _ _ e (fun _ z => by cases z)) (a.extN s)
  | _, _, .dic e => .dic (s _ _ e (fun _ z => by cases z))
theorem _root_.DQ.DqAll.extN {H H' : Hp} (s : ExtN H H') : ∀ {vs : List V} {ds : List PyData}, DqAll H vs ds → DqAll H' vs ds
  | _, _, .nil => .nil
  | _, _, .cons a b => .cons (a.extN s) (b.extN s)
end
theorem sqT_extN {K : PySem.W.Frag} {H H' : Hp} {a : Addr} {xs : List V} (h : SqT K H a xs) (s : ExtN H H') : SqT K H' a xs := by
  rcases h with h | h
  · refine .inl ?_
    rcases h with h | ⟨o, h⟩
    · exact .inl (s _ _ h fun _ z => by cases z)
    · exact .inr ⟨o, s _ _ h fun _ z => by cases z⟩
  · exact .inr h
theorem _root_.RU.RulesAt.extN {K : PySem.W.Frag} {H H' : Hp} {a C : Addr} {es ss : List PyData} (r : RulesAt K H a C es ss) (s : ExtN H H') : RulesAt K H' a C es ss := by
  obtain ⟨dx, pe, ps, xs, ys, h1, h2, h3, h4, h5⟩ := r
  exact ⟨dx, pe, ps, xs, ys, s _ _ h1 (fun _ z => by cases z), sqT_extN h2 s, h3.extN s, sqT_extN h4 s, h5.extN s⟩
theorem sys_extN {H H' : Hp} (x : Sys H) (s : ExtN H H') : Sys H' := let ⟨o, u, e⟩ := x; ⟨o, u, s _ _ e fun _ z => by cases z⟩
theorem extN_same {H H' : Hp} (s : Same H H') : ExtN H H' := fun b o e _ => s _ _ e
theorem extN_trans {H H1 H2 : Hp} (a : ExtN H H1) (b : ExtN H1 H2) : ExtN H H2 := fun c o h n => b c o (a c o h n) n
theorem fr_sm {H H' : Hp} {m l : Addr} (s : Same H H') : Same (fr H m l) (fr H' m l) := fun b o e => by
  obtain ⟨h1, h2, h3⟩ := fr_of e
  exact fr_some (s _ _ h3) h1 h2
theorem fr_en {H H' : Hp} {m l : Addr} (s : ExtN H H') : ExtN (fr H m l) (fr H' m l) := fun b o e n => by
  obtain ⟨h1, h2, h3⟩ := fr_of e
  exact fr_some (s _ _ h3 n) h1 h2
theorem _root_.K01.MAt.en {H H' : Hp} {m c l : Addr} {cs ls : List Int} {n : Int} (M : MAt H m c l cs ls n) (s : ExtN H H') : MAt H' m c l cs ls n :=
  ⟨s _ _ M.hm (fun _ z => by cases z), s _ _ M.hc (fun _ z => by cases z), s _ _ M.hl (fun _ z => by cases z), M.ne, M.n0, M.nb, M.cb, M.lb⟩
theorem off_fr {H : Hp} {m c l : Addr} {cs ls : List Int} {n : Int} (M : MAt H m c l cs ls n) {b : Addr} {o : HO} (e : H b = some o) (n1 : ∀ kv, o ≠ .dK kv) (n2 : ∀ xs, o ≠ .lst xs) : fr H m l b = some o :=
  fr_some e (fun z => n1 _ (Option.some.inj (e.symm.trans (z ▸ M.hm)))) fun z => n2 _ (Option.some.inj (e.symm.trans (z ▸ M.hl)))
theorem tabs_fr {T : List (Addr × Str)} {H : Hp} {m c l : Addr} {cs ls : List Int} {n : Int} (M : MAt H m c l cs ls n) (t : Tabs T H) : Tabs T (fr H m l) := fun p hp => by
  obtain ⟨ps, h1, h2, h3⟩ := t p hp
  refine ⟨ps, off_fr M h1 (fun _ z => by cases z) (fun _ z => by cases z), h2, fun pos cv hc => ?_⟩
  obtain ⟨c0, e1, e2⟩ := h3 pos cv hc
  exact ⟨c0, e1, off_fr M e2 (fun _ z => by unfold CodeO at z; cases z) (fun _ z => by unfold CodeO at z; cases z)⟩
theorem _root_.RU.RulesAt.fr {K : PySem.W.Frag} {H : Hp} {a C m c l : Addr} {cs ls : List Int} {n : Int} {es ss : List PyData} (r : RulesAt K H a C es ss) (M : MAt H m c l cs ls n) (te : tupA es = true) (ts : tupA ss = true) : RulesAt K (K01.fr H m l) a C es ss := by
  obtain ⟨dx, pe, ps, xs, ys, h1, h2, h3, h4, h5⟩ := r
  have sq : ∀ {q : Addr} {zs : List V}, SqT K H q zs → SqT K (K01.fr H m l) q zs := fun {q zs} h => by
    rcases h with h | h
    · refine .inl ?_
      rcases h with h | ⟨u, h⟩
      · exact .inl (off_fr M h (fun _ z => by cases z) fun _ z => by cases z)
      · exact .inr ⟨u, off_fr M h (fun _ z => by cases z) fun _ z => by cases z⟩
    · exact .inr h
  have keep : ∀ b us, H b = some (.tup us) → K01.fr H m l b = some (.tup us) := fun b us e => off_fr M e (fun _ z => by cases z) fun _ z => by cases z
  exact ⟨dx, pe, ps, xs, ys, off_fr M h1 (fun _ z => by cases z) (fun _ z => by cases z), sq h2, h3.tups keep te, sq h4, h5.tups keep ts⟩
/-- the state of the draws, the table of modules, the tables of code objects -/
structure Wk (T : List (Addr × Str)) (m c l : Addr) (cs ls : List Int) (n : Int) (H : Hp) : Prop where
  mat : MAt H m c l cs ls n
  sy : Sys (fr H m l)
  tb : Tabs T (fr H m l)
section
variable {T : List (Addr × Str)} {m c l : Addr} {cs ls : List Int} {n : Int} {H H' : Hp}
theorem Wk.same (W : Wk T m c l cs ls n H) (s : Same H H') : Wk T m c l cs ls n H' := ⟨W.mat.same s, W.sy.same (fr_sm s), W.tb.ext (fr_sm s)⟩
theorem Wk.lam (W : Wk T m c l cs ls n H) (e : ExtN H H') (t : Tabs T H') : Wk T m c l cs ls n H' := ⟨W.mat.en e, sys_extN W.sy (fr_en e), tabs_fr (W.mat.en e) t⟩
theorem Wk.step {l' : Addr} {ls' : List Int} {n' : Int} (W : Wk T m c l cs ls n H) (M : MAt H' m c l' cs ls' n') (s : Fs H m l H' l') : Wk T m c l' cs ls' n' H' := ⟨M, W.sy.same s.1, W.tb.ext s.1⟩
theorem Wk.sys (W : Wk T m c l cs ls n H) : Sys H := W.sy.same fr_same
theorem Wk.tbs (W : Wk T m c l cs ls n H) : Tabs T H := W.tb.ext fr_same
end
theorem tcons_of {t : TE} {u : TA} {σ : L2.St} {H : Hp} {Q : List V → Hp → Prop} (h : t σ H fun v H1 => u σ H1 fun vs H2 => Q (v :: vs) H2) : tCons t u σ H Q := h
theorem ttr_of {r : R2} {ta tb : TE} {σ : L2.St} {H : Hp} {Q : Bool → Hp → Prop} (h : ta σ H fun x H1 => tb σ H1 fun y H2 => r x y H2 fun z H3 => ∃ k, z = .bl k ∧ Q k H3) : tTest (tOp r ta tb) σ H Q := h
theorem ifr_of {r : R2} {ta tb : TE} {t e : TS} {D : Ends} {σ : L2.St} {H : Hp} (h : ta σ H fun x H1 => tb σ H1 fun y H2 => r x y H2 fun z H3 => ∃ k, z = .bl k ∧ (if k = true then t D σ H3 else e D σ H3)) : tIfS (tTest (tOp r ta tb)) t e D σ H := h
/-- x != y of data of any kind, at most so deep -/
def rNeP (K : PySem.W.Frag) (B : Nat) : R2 := fun x y H Q => ∃ d e, Dp K H x d ∧ Dp K H y e ∧ d.canLay0 = true ∧ e.canLay0 = true ∧ d.depth ≤ B ∧ Q (.bl (!PyData.eqv d e)) H
theorem op_neP {X : Cx} {B : Nat} (hu : X.A.units + B < cLine) : OpR X (compareOp .NotEq) (rNeP X.K B) := by
  intro pins s σ H x y v u Q I rx ry h
  obtain ⟨d, e, hd, he, cd, ce, db, q⟩ := h
  obtain ⟨as, r1⟩ := Dp.reads I d x v hd rx
  obtain ⟨bs, r2⟩ := Dp.reads I e y u he ry
  exact SeqAt.compareNe_reads r1 r2 cd ce (by omega) ⟨.bl _, H, I, rfl, q⟩
theorem neP_self {K : PySem.W.Frag} {B : Nat} {x y : V} {d : PyData} {H : Hp} {Q : VK} (hx : Dq H x d) (hy : Dq H y d) (c : d.canLay0 = true) (b : d.depth ≤ B) (q : Q (.bl false) H) : rNeP K B x y H Q :=
  ⟨d, d, hx.dp c, hy.dp c, c, c, b, by rw [SeqAt.eqv_refl d c]; exact q⟩
/-! ### _law_told -/
theorem takes_len {X : Cx} {W : WX} (t : Takes X W) : Takes X (fun cls d σ H => σ.length = X.N.length → W cls d σ H) := fun u s' ⟨a, B, sI, pins, σ, H, cls, d, e, I, nb, up, sky, na, os, ag, w⟩ => t u s' ⟨a, B, sI, pins, σ, H, cls, d, e, I, nb, up, sky, na, os, ag, w I.len⟩
def toldE (CX : Addr) (Q : VK) : XK := fun cls d H' => ∃ (dd : Addr) (v : V) (pl : PyData), d = some dd ∧ cls = .ref CX ∧ Dq H' v pl ∧ H' dd = some (.xd [("line", v)]) ∧ ∀ p v' H'', Same H' H'' → H'' p = some (.tup [.str "text", v']) → Dq H'' v' pl → Q (.ref p) H''
def TTo (CX : Addr) : (XK → Hp → VK → Prop) → Hp → VK → Prop := fun tl H Q => ∀ Q' : VK, (∀ v H', (∀ p, H' p = none → Q (.ref p) (upd H' p (.lst [v]))) → Q' v H') → tl (toldE CX Q) H Q'
def rIsX (K : PySem.W.Frag) (a : Addr) (cls : Value) (d : Option Addr) : List V → Hp → VK → Prop := fun xs H Q => ∃ (c : V) (u : Value) (b : Bool) (C dd : Addr) (f : Str) (v : V), xs = [.ref a, c] ∧ ClsV c u ∧ cls = .ref C ∧ d = some dd ∧ H dd = some (.xd [(f, v)]) ∧ ExQ K C ∧ PySem.W.kitOne K (.ref C) u = some b ∧ Q (.bl b) H
/-- isinstance(e, c), e the exception that the suite holds, with a field of its own -/
theorem call_isX {X : Cx} {a : Addr} {oe : Obj} {cls : Value} {d : Option Addr} {pn : List (Addr × Obj)} (hz : Zc cls d oe) (hf : ∃ vs, oe.data = .fields vs) : CallR (X.suite a ((a, oe) :: pn)) (.builtin "isinstance") (rIsX X.K a cls d) := by
  intro pins s σ H xs us Q I r h
  obtain ⟨c, u, b, C, dd, f, v, rfl, kc, rfl, rfl, ea, T, e, q⟩ := h
  obtain ⟨u1, u2, rfl, r1, r2⟩ := vals2 r
  have e2 := kc.eq r2
  subst e2
  obtain rfl : u1 = Value.ref a := r1
  obtain ⟨ha, _⟩ := I.pin (a, oe) (List.mem_append_left _ List.mem_cons_self)
  obtain ⟨vs, hd⟩ := hf
  obtain ⟨mA, hns, hr⟩ : ∃ mA, s.heap.Ns1 dd mA ∧ ∀ g, RelO (List.lookup g [(f, v)]) (mA g) := I.hok dd _ ea
  obtain ⟨od, ho, hl⟩ := lookIn_ns hns
  have J : PySem.W.InstAt s.heap a oe C (some od) := ⟨ha, hz.1, by unfold PySem.W.notCls; rw [hd] <;> rfl, by rw [hz.2]; exact ho⟩
  exact PySem.W.kia_one (PySem.W.kitx_exc T.cl T.ga T.gt T.sb T.hc T.hn T.tk T.hm) I.kIn J e (fun z => nomatch z) fun tk => ⟨.bl b, H, I.tok tk, rfl, q⟩
structure TErr (K : PySem.W.Frag) (mg : Str → Option Value) (CJ CX : Addr) : Prop where
  gJ : mg "JoinError" = some (.ref CJ)
  gX : mg "BadText" = some (.ref CX)
  qX : ExQ K CX
  rX : ExR K CX "line"
  xj : PySem.W.exmOne K (.ref CX) (.ref CJ) = some true
  kxx : PySem.W.kitOne K (.ref CX) (.ref CX) = some true
abbrev nTd : List Str := ["call", "e"]
theorem scTd : FnScope nTd ["call"] (defScope sTold) := ⟨rfl, rfl, rfl, by decide +kernel, rfl, by decide +kernel, by decide +kernel⟩
theorem told_gives {X : Cx} {g CJ CX : Addr} {cdg : Value} {q : Str} (T : TErr X.K X.mg CJ CX) (tI : X.mg "isinstance" = none) :
    GivesTo X nTd "_law_told" (defScope sTold) g cdg (defBody sTold) "call" q (TTo CX) := by
  intro f c' s H Q tl act hco h
  have gl : Gl (cxOf C8.CX0 X.prog X.w X.K X.mg X.base nTd "_law_told" (defScope sTold) g cdg X.A X.stack s H C8.E0).nox "JoinError" := rfl
  refine ⟨_, pss_one (ps_tries (X := (cxOf C8.CX0 X.prog X.w X.K X.mg X.base nTd "_law_told" (defScope sTold) g cdg X.A X.stack s H C8.E0).nox) (n := "e") (i := 1)
      (tb := fun W D σ H => ∃ Ech : XK, (∀ cls d σ' H', Ech cls d H' → σ'.length = 2 → W cls d σ' H') ∧ tRet (tLst (tCons (fun σZ HZ Q => σZ[0]? = some (some (.ref f)) ∧ HZ c' = some (CodeO c' q) ∧ tl Ech HZ Q) tNil)) D σ H)
      rfl rfl scTd.nd rfl rfl LamX.takes0 (fun W pn xe tk _ => ⟨fun pins s' σ H' D I h' => ?_⟩)
      (.cons ⟨gl, by decide, .inl T.gJ⟩ (fun a oe cls d pn hz hf => pss_one (ps_ret (pe_ifExp (pt_val (pe_callB (X := ((cxOf C8.CX0 X.prog X.w X.K X.mg X.base nTd "_law_told" (defScope sTold) g cdg X.A X.stack s H C8.E0).nox.suite a ((a, oe) :: pn))) (show CallR ((cxOf C8.CX0 X.prog X.w X.K X.mg X.base nTd "_law_told" (defScope sTold) g cdg X.A X.stack s H C8.E0).nox.suite a ((a, oe) :: pn)) (.builtin "isinstance") (rIsX X.K a cls d) from call_isX hz hf) (by rfl) tI bisi (pa_cons (pv (X := ((cxOf C8.CX0 X.prog X.w X.K X.mg X.base nTd "_law_told" (defScope sTold) g cdg X.A X.stack s H C8.E0).nox.suite a ((a, oe) :: pn))) 1) (pa_cons (pe_glob (v := .ref CX) (by rfl) T.gX rfl) pa_nil)))) (pe_tup (pa_cons pe_str (pa_cons (pe_byX T.rX hz hf (pv (X := ((cxOf C8.CX0 X.prog X.w X.K X.mg X.base nTd "_law_told" (defScope sTold) g cdg X.A X.stack s H C8.E0).nox.suite a ((a, oe) :: pn))) 1)) pa_nil))) pe_str))) .nil)), ?_⟩
  · obtain ⟨Ech, hW, h1⟩ := h'
    exact (pss_one (ps_ret (pe_lst (pa_cons (act _ pn xe Ech _ _ (takes_len tk) hW) pa_nil)))).run pins s' σ H' D I h1
  · refine ⟨toldE CX Q, fun cls d σ' H' hE l3 => ?_, rfl, hco, ?_⟩
    · obtain ⟨dd, v, pl, rfl, rfl, hv, hd, kk⟩ := hE
      refine ⟨true, T.xj, fun _ a na => ?_, fun z => nomatch z⟩
      have e2 : (σ'.set 1 (some (V.ref a)))[1]? = some (some (.ref a)) := List.getElem?_set_self (by omega)
      refine ⟨_, e2, .ref CX, _, true, CX, dd, "line", v, rfl, .own _, rfl, rfl, hd, T.qX, T.kxx, _, rfl, iteT ⟨_, e2, rfl, rfl, dd, v, rfl, hd, by show 2 ≤ sizeLine; decide, fun p np => ?_⟩⟩
      exact kk p v _ (same_new np) upd_same (hv.same (same_new np))
    · exact h _ fun v H' hv => ⟨by show 1 ≤ sizeLine; decide, hv⟩
section
variable {X : Cx}
/-- _law_told(lambda: e) -/
theorem pe_told {T : List (Addr × Str)} {g CJ CX c P : Addr} {fd : FuncData} {k : Nat} {params : Arguments} {body : Expr} {scope : Scope} {t : XK → TE} {p lpos pos : Pos} (F : Fun X.K "_law_told" "_law_told" sTold g fd) (b : Binds X.K fd ["call"] []) (gl : Gl X "_law_told") (mg : X.mg "_law_told" = some (.ref g))
    (TE : TErr X.K X.mg CJ CX) (tI : X.mg "isinstance" = none)
    (TB : TabB X.base X.mg c P) (hcode : X.env.code = .ref c) (hmT : (P, lq X) ∈ T) (hu : ∀ p ∈ T, p.1 = P → p.2 = lq X) (hr : Room (k + 2) X.A) (L : LamS X.env.scope scope) (hdef : defaultsOf params X.env = ([], []))
    (hbind : ∀ (q : Str) (cl : List (Str × Addr)) (pm cv ctv : Value), bindArgs (PySem.W.kla_fn "<lambda>" q params body scope cl pm cv ctv) ⟨[], []⟩ = pure [])
    (hbody : ∀ (A : Around) (outer : List Env) (s : Shared) (H : Hp) (E : XK) (f c' : Addr), Room k (A.deeper (lamEnv X scope s.heap.objs.size f c')) → PE (lamCx X A outer s H E scope f c') body (t E)) :
    PE X (.Call (.Name "_law_told" p) [.Lambda params body scope lpos] [] pos) (tLam T (TTo CX) t) := by
  obtain ⟨oc, od, kV, doc, pm, an, cdv, ct, osl, rfl, lk, hcd⟩ := F.ex
  exact pe_lamcall (Ng := nTd) (a := "call") gl mg F.kp lk hcd b scTd rfl (Or.inl rfl) (told_gives TE tI) TB hcode hmT hu hr L hdef hbind hbody
end
section
variable {K : PySem.W.Frag} {T : List (Addr × Str)} {C CX : Addr} {i : Nat} {σ : L2.St} {H : Hp} {v : V} {Q : VK}
theorem told_rules {x : Str} (hi : σ[i]? = some (some (.str x))) (ok : okL (lS x)) (tb : Tabs T H)
    (kn : ∀ k, dueT (lS x) = .inl k → ∀ p H1, ExtN H H1 → Tabs T H1 → H1 p = some (.tup [.str "text", .int (k : Int)]) → Q (.ref p) H1)
    (ky : ∀ es ss, dueT (lS x) = .inr (es, ss) → EsOk es ss → ∀ b p H1, ExtN H H1 → Tabs T H1 → H1 p = some (.lst [.ref b]) → RulesAt K H1 b C (es.map toD) (ss.map toD) → Q (.ref p) H1) :
    tLam T (TTo CX) (fun E => tCall (spRR K C CX) [] E (tCons (tVar i) tNil)) σ H Q := by
  refine ⟨tb, fun H1 e1 t1 Q' hQ => ?_⟩
  refine ⟨_, hi, _, rfl, .inl ⟨x, rfl, ok, fun k hk dd v' H2 s2 e2 q2 => ?_, fun es ss hd hok b H2 s2 ra => hQ _ _ fun p np => ky es ss hd hok b p _ (extN_trans e1 (extN_same (same_trans s2 (same_new np)))) (t1.ext (same_trans s2 (same_new np))) upd_same (ra.same (same_new np))⟩⟩
  refine ⟨dd, v', .int (k : Int), rfl, rfl, q2, e2, fun p v'' H3 s3 e3 q3 => ?_⟩
  have ev : v'' = .int (k : Int) := by
    cases q3
    rfl
  rw [ev] at e3
  exact kn k hk p H3 (extN_trans e1 (extN_same (same_trans s2 s3))) (t1.ext (same_trans s2 s3)) e3
theorem told_none (hi : σ[i]? = some (some v)) (hv : (∃ d, Dq H v d ∧ isS d = false) ∨ ∃ a dx fs, v = .ref a ∧ H a = some (.ins C dx fs)) (tb : Tabs T H)
    (kn : ∀ p H1, ExtN H H1 → Tabs T H1 → H1 p = some (.tup [.str "text", .non]) → Q (.ref p) H1) :
    tLam T (TTo CX) (fun E => tCall (spRR K C CX) [] E (tCons (tVar i) tNil)) σ H Q := by
  refine ⟨tb, fun H1 e1 t1 Q' hQ => ?_⟩
  have out : OutB H1 (toldE CX Q) CX "line" .none := fun dd v' H2 s2 e2 q2 => ⟨dd, v', .none, rfl, rfl, q2, e2, fun p v'' H3 s3 e3 q3 => by
    have ev : v'' = .non := by
      cases q3
      rfl
    rw [ev] at e3
    exact kn p H3 (extN_trans e1 (extN_same (same_trans s2 s3))) (t1.ext (same_trans s2 s3)) e3⟩
  rcases hv with ⟨d, hd, hs⟩ | ⟨a, dx, fs, rfl, ha⟩
  · exact ⟨_, hi, v, rfl, .inr (.inl ⟨d, hd.extN e1, hs, out⟩)⟩
  · exact ⟨_, hi, _, rfl, .inr (.inr ⟨a, dx, fs, rfl, e1 _ _ ha (fun _ z => by cases z), out⟩)⟩
end
end X48
set_option Elab.async false
set_option linter.all false
set_option maxRecDepth 100000
set_option maxHeartbeats 4000000
/-! drawn rules: their text, and the way back -/
namespace X48
open PySem L2 L2H DQ K01
mutual
theorem wr_gt : ∀ {t : Nd}, Gd t → ∀ c ∈ wr t, 33 ≤ c
  | .mk ms bs c, g, x, hx => by
    simp only [wr] at hx
    rcases List.mem_append.mp hx with h | h
    · cases c with
      | true =>
        rw [List.mem_singleton.mp (show x ∈ [33] from h)]
        decide
      | false => exact absurd (show x ∈ [] from h) List.not_mem_nil
    · rcases List.mem_append.mp h with h | h
      · rcases wM_mem g.1 x h with h | h | h
        · omega
        · omega
        · omega
      · exact wrB_gt (by decide) g.2 x h
theorem wrB_gt : ∀ {b : Bs} {a : Nat}, 33 ≤ a → GdB b → ∀ c ∈ wrB a b, 33 ≤ c
  | .nil, a, ha, g, x, hx => by
    simp only [wrB] at hx
    split at hx
    · exact absurd hx List.not_mem_nil
    · rw [List.mem_singleton.mp hx]
      decide
  | .cons w t r, a, ha, g, x, hx => by
    simp only [wrB] at hx
    rcases List.mem_cons.mp hx with rfl | hx
    · exact ha
    · rcases List.mem_append.mp hx with h | h
      · have := (g.1.2 x h).1
        omega
      · rcases List.mem_cons.mp h with rfl | h
        · decide
        · rcases List.mem_append.mp h with h | h
          · exact wr_gt g.2.1 x h
          · exact wrB_gt (by decide) g.2.2 x h
end
theorem ln_cut {w l : List Nat} (h : 32 ∉ w) : wd (w ++ 32 :: l) = w ∧ rs (w ++ 32 :: l) = l := by
  have n : ∀ c ∈ w, n32 c = true := fun c hc => by
    unfold n32
    have : c ≠ 32 := fun y => h (y ▸ hc)
    simpa using this
  obtain ⟨t1, t2⟩ := tw_app (p := n32) (w := w) (r := 32 :: l) n fun c hc => by
    obtain rfl := Option.some.inj hc
    rfl
  unfold wd rs
  rw [t1, t2]
  exact ⟨rfl, rfl⟩
theorem step_e {es : List Nd} {t : Nd} (g : Gd t) (h4 : hd t ≤ 4) (tb : tob (toD t) = true) (n : nC t = 0) (l : es.length < 3) : stepR es [] (lnE t) = some (es ++ [t], []) := by
  obtain ⟨e1, e2⟩ := ln_cut (w := wEnd) (l := wr t) (by decide)
  unfold stepR lnE
  rw [e1, e2, told_wr g h4 tb]
  exact if_pos ⟨rfl, n, rfl, l⟩
theorem step_s {es ss : List Nd} {t : Nd} (g : Gd t) (h4 : hd t ≤ 4) (tb : tob (toD t) = true) (n : nC t ≠ 0) (ne : es ≠ []) (l : ss.length < 3) : stepR es ss (lnS t) = some (es, ss ++ [t]) := by
  obtain ⟨e1, e2⟩ := ln_cut (w := wStep) (l := wr t) (by decide)
  unfold stepR lnS
  rw [e1, e2, told_wr g h4 tb]
  show (if wStep = wEnd ∧ nC t = 0 ∧ ss = [] ∧ es.length < 3 then _ else _) = _
  rw [if_neg (fun h => by have := h.1; revert this; decide)]
  exact if_pos ⟨rfl, n, ne, l⟩
theorem go_e : ∀ (ts : List Nd) (k : Nat) (es : List Nd) (rest : List (List Nat)), (∀ t ∈ ts, Gd t ∧ hd t ≤ 4 ∧ tob (toD t) = true ∧ nC t = 0) → es.length + ts.length ≤ 3 → goR k es [] (ts.map lnE ++ rest) = goR (k + ts.length) (es ++ ts) [] rest
  | [], k, es, rest, _, _ => by simp
  | t :: ts, k, es, rest, h, l => by
    obtain ⟨g, h4, tb, n⟩ := h t (List.mem_cons_self ..)
    simp only [List.length_cons] at l
    simp only [List.map_cons, List.cons_append, goR, step_e g h4 tb n (show es.length < 3 by omega)]
    rw [go_e ts (k + 1) (es ++ [t]) rest (fun u hu => h u (List.mem_cons_of_mem _ hu)) (by rw [List.length_append, List.length_singleton]; omega), List.append_assoc, List.length_cons, Nat.add_assoc, Nat.add_comm 1]
    rfl
theorem go_s : ∀ (ts : List Nd) (k : Nat) (es ss : List Nd), (∀ t ∈ ts, Gd t ∧ hd t ≤ 4 ∧ tob (toD t) = true ∧ nC t ≠ 0) → es ≠ [] → ss.length + ts.length ≤ 3 → goR k es ss (ts.map lnS) = .inr (es, ss ++ ts)
  | [], k, es, ss, _, _, _ => by simp [goR]
  | t :: ts, k, es, ss, h, ne, l => by
    obtain ⟨g, h4, tb, n⟩ := h t (List.mem_cons_self ..)
    simp only [List.length_cons] at l
    simp only [List.map_cons, goR, step_s g h4 tb n ne (show ss.length < 3 by omega)]
    rw [go_s ts (k + 1) es (ss ++ [t]) (fun u hu => h u (List.mem_cons_of_mem _ hu)) ne (by rw [List.length_append, List.length_singleton]; omega), List.append_assoc]
    rfl
/-- drawn rules -/
structure Rl (es ss : List Nd) : Prop where
  e : ∀ t ∈ es, Gd t ∧ hd t ≤ 4 ∧ tob (toD t) = true ∧ nC t = 0
  s : ∀ t ∈ ss, Gd t ∧ hd t ≤ 4 ∧ tob (toD t) = true ∧ nC t ≠ 0
  le : ∀ t ∈ es, (wr t).length ≤ 190
  ls : ∀ t ∈ ss, (wr t).length ≤ 190
  l1 : es ≠ []
  l3 : es.length ≤ 3
  m3 : ss.length ≤ 3
theorem Rl.ok {es ss : List Nd} (h : Rl es ss) : EsOk es ss := ⟨fun t ht => ⟨(h.e t ht).1, (h.e t ht).2.2⟩, fun t ht => ⟨(h.s t ht).1, (h.s t ht).2.2⟩, h.l3, h.m3, fun _ => h.l1⟩
theorem Rl.ge {es ss : List Nd} (h : Rl es ss) : GsOk es := fun t ht => ⟨(h.e t ht).1, (h.e t ht).2.1, by have := h.le t ht; omega⟩
theorem Rl.gs {es ss : List Nd} (h : Rl es ss) : GsOk ss := fun t ht => ⟨(h.s t ht).1, (h.s t ht).2.1, by have := h.ls t ht; omega⟩
theorem Rl.rows {es ss : List Nd} (h : Rl es ss) : (∀ l ∈ es.map lnE ++ ss.map lnS, l.length ≤ 195 ∧ ∀ c ∈ l, c ≠ 10 ∧ c < 1114112) ∧ (es.map lnE ++ ss.map lnS) ≠ [] ∧ (es.map lnE ++ ss.map lnS).length ≤ 6 := by
  refine ⟨fun l hl => ?_, ?_, ?_⟩
  · rcases List.mem_append.mp hl with z | z
    · obtain ⟨t, ht, rfl⟩ := List.mem_map.mp z
      have g := (h.e t ht).1
      have lw := h.le t ht
      refine ⟨by simp only [lnE, wEnd, List.length_append, List.length_cons, List.length_nil]; omega, fun c hc => ?_⟩
      unfold lnE at hc
      rcases List.mem_append.mp hc with y | y
      · have : ∀ c ∈ wEnd, c ≠ 10 ∧ c < 1114112 := by decide
        exact this c y
      · rcases List.mem_cons.mp y with rfl | y
        · decide
        · have a := wr_gt g c y
          have b := wr_lt g c y
          omega
    · obtain ⟨t, ht, rfl⟩ := List.mem_map.mp z
      have g := (h.s t ht).1
      have lw := h.ls t ht
      refine ⟨by simp only [lnS, wStep, List.length_append, List.length_cons, List.length_nil]; omega, fun c hc => ?_⟩
      unfold lnS at hc
      rcases List.mem_append.mp hc with y | y
      · have : ∀ c ∈ wStep, c ≠ 10 ∧ c < 1114112 := by decide
        exact this c y
      · rcases List.mem_cons.mp y with rfl | y
        · decide
        · have a := wr_gt g c y
          have b := wr_lt g c y
          omega
  · intro z
    obtain ⟨z1, _⟩ := List.append_eq_nil_iff.mp z
    exact h.l1 (List.map_eq_nil_iff.mp z1)
  · rw [List.length_append, List.length_map, List.length_map]
    have := h.l3
    have := h.m3
    omega
theorem Rl.due {es ss : List Nd} (h : Rl es ss) : dueT (txR es ss) = .inr (es, ss) := by
  obtain ⟨r1, r2, _⟩ := h.rows
  unfold dueT txR
  rw [sp_jn r2 fun m hm hc => ((r1 m hm).2 10 hc).1 rfl]
  rw [go_e es 0 [] (ss.map lnS) h.e (by have := h.l3; simpa using this), List.nil_append]
  rw [go_s ss _ es [] h.s h.l1 (by have := h.m3; simpa using this), List.nil_append]
theorem Rl.txt {es ss : List Nd} (h : Rl es ss) : okB 1300 (S (txR es ss)) := by
  obtain ⟨r1, _, r3⟩ := h.rows
  unfold txR
  refine okB_jn (fun m hm c hc => ((r1 m hm).2 c hc).2) ?_
  unfold wt
  have := sum_le List.length 195 _ fun l hl => (r1 l hl).1
  have : 195 * (es.map lnE ++ ss.map lnS).length ≤ 195 * 6 := Nat.mul_le_mul_left _ r3
  omega
theorem end_nd {d : PyData} (h : EndD d) : ∃ t, d = toD t ∧ (Gd t ∧ hd t ≤ 4 ∧ tob (toD t) = true ∧ nC t = 0) ∧ (wr t).length ≤ 190 := by
  obtain ⟨q, tc, hq⟩ := h
  have s0 := tree_shape tc (by decide) (by omega)
  obtain ⟨t, rfl, g, h3, l⟩ := Tc_nd tc
  have tb : tob (toD t) = true := by
    unfold tob
    rw [s0]
    rfl
  rw [(shape_nC tb).1] at s0
  exact ⟨t, rfl, ⟨g, by omega, tb, of_decide_eq_true s0⟩, by omega⟩
theorem step_nd {d : PyData} (h : StepD d) : ∃ t, d = toD t ∧ (Gd t ∧ hd t ≤ 4 ∧ tob (toD t) = true ∧ nC t ≠ 0) ∧ (wr t).length ≤ 190 := by
  obtain ⟨q, tp, hq⟩ := h
  have hp : isPair d = true := by
    obtain ⟨ms, bs, n0, rfl, _⟩ := tp
    rfl
  have s1 := body_shape tp.tc hp hq
  obtain ⟨t, rfl, g, h3, l⟩ := Tc_nd tp.tc
  have tb : tob (toD t) = true := by
    unfold tob
    rw [s1, Bool.or_true]
  rw [(shape_nC tb).2] at s1
  exact ⟨t, rfl, ⟨g, h3, tb, of_decide_eq_true s1⟩, by omega⟩
theorem all_nd {Φ : Nd → Prop} : ∀ {ds : List PyData}, (∀ d ∈ ds, ∃ t, d = toD t ∧ Φ t) → ∃ ts : List Nd, ds = ts.map toD ∧ ∀ t ∈ ts, Φ t
  | [], _ => ⟨[], rfl, fun t h => absurd h List.not_mem_nil⟩
  | d :: ds, h => by
    obtain ⟨t, rfl, ht⟩ := h d (List.mem_cons_self ..)
    obtain ⟨ts, rfl, hts⟩ := all_nd fun e he => h e (List.mem_cons_of_mem _ he)
    exact ⟨t :: ts, rfl, fun u hu => (List.mem_cons.mp hu).elim (fun z => by rw [z]; exact ht) (hts u)⟩
theorem rl_of {es ss : List PyData} (h : ESd es ss) : ∃ ne ns, es = ne.map toD ∧ ss = ns.map toD ∧ Rl ne ns := by
  obtain ⟨l1, l3, m3, he, hs⟩ := h
  obtain ⟨ne, rfl, h1⟩ := all_nd fun d hd => end_nd (he d hd)
  obtain ⟨ns, rfl, h2⟩ := all_nd fun d hd => step_nd (hs d hd)
  rw [List.length_map] at l1 l3 m3
  exact ⟨ne, ns, rfl, rfl, fun t ht => (h1 t ht).1, fun t ht => (h2 t ht).1, fun t ht => (h1 t ht).2, fun t ht => (h2 t ht).2, List.length_pos_iff.mp l1, l3, m3⟩
end X48
set_option Elab.async false
set_option linter.all false
set_option maxRecDepth 100000
set_option maxHeartbeats 16000000
/-! the law's own def -/
namespace X48
open PySem PySem.Spec L2 L2H DQ K01 RZ LamX LamD TrA XT
open XH hiding same_refl same_trans same_new
open RU (RulesAt RCl lk_e lk_s Rw spRI dueR firstBad isRow itemsD REq spEqR eqR)
abbrev nLw : List Str := ["script", "m", "step", "hand", "turn", "ends", "steps", "own", "lines", "due", "twice", "told_so", "text", "sheet", "odd", "tree", "body"]
theorem scLw : FnScope nLw ["script"] (defScope sLaw) := ⟨rfl, rfl, rfl, by decide +kernel, rfl, by decide +kernel, by decide +kernel⟩
abbrev qLw : Str := (("law" : Str) ++ ".<locals>.") ++ "<lambda>"
def spLaw (T : List (Addr × Str)) (K : PySem.W.Frag) : Sp := fun vs H Q _ => ∃ (a : Addr) (ns : List Int), vs = [.ref a] ∧ SqL K H a (ns.map V.int) ∧ ns.length ≤ 63 ∧ Sys H ∧ Tabs T H ∧ ∀ H', Q (.bl true) H'
theorem tasg_of' {te : TE} {g : TG} {D : Ends} {σ : L2.St} {H : Hp} (h : te σ H fun v H1 => g v σ H1 D.nx) : tAsg te g D σ H := h
theorem okB_of {b : Nat} {u : Str} (h : (decide ((lS u).length ≤ b) && (lS u).all fun c => decide (c < 1114112)) = true) : okB b u := by
  obtain ⟨a, b⟩ := Bool.and_eq_true_iff.mp h
  exact ⟨of_decide_eq_true a, fun c hc => of_decide_eq_true (List.all_eq_true.mp b c hc)⟩
theorem okBs {b : Nat} {ts : List Str} (h : (ts.all fun u => decide ((lS u).length ≤ b) && (lS u).all fun c => decide (c < 1114112)) = true) : ∀ t ∈ ts, okB b t := fun t ht => okB_of (List.all_eq_true.mp h t ht)
theorem okB.L {b : Nat} {t : Str} (h : okB b t) (hb : b ≤ 1000000) : okL (lS t) := ⟨Nat.le_trans h.1 hb, h.2⟩
def stp : Str := "\nstep -(e>!-)"
def h0 : List Str := ["", "end", "end ", "end -", "step -(e>!-)", "end -\n", "end -" ++ stp, "end -\nend a\nend b\nend c"]
def h1 (y3 y4 : Str) : List Str := ["end -" ++ y3, "end -" ++ y4, "end -" ++ stp ++ "\nend a", "end  -", "end - ", "END -", "-"]
def h2 : List Str := ["end -\nstep -", "end -(e>!-)", "end -\nstep !-", "step -(e>!-)\nend -", "end\n-"]
theorem eE' (t : Nd) : ("end " : Str) ++ S (wr t) = S (lnE t) := by
  rw [show ("end " : Str) = S (wEnd ++ [32]) by decide +kernel, apS, show wEnd ++ [32] ++ wr t = lnE t by simp [lnE]]
theorem eS' (t : Nd) : ("step " : Str) ++ S (wr t) = S (lnS t) := by
  rw [show ("step " : Str) = S (wStep ++ [32]) by decide +kernel, apS, show wStep ++ [32] ++ wr t = lnS t by simp [lnS]]
/-- the same rules at both places -/
def RRel (K : PySem.W.Frag) (C : Addr) : Addr → Addr → Hp → Prop := fun a b H => ∃ es ss : List Nd, RulesAt K H a C (es.map toD) (ss.map toD) ∧ RulesAt K H b C (es.map toD) (ss.map toD) ∧ EsOk es ss
theorem shaped_nd {ts : List Nd} (h : ∀ t ∈ ts, tob (toD t) = true) : SeqAt.shaped (.tuple (ts.map toD)) = true := by
  have p := plain_tup (n := 12) (ds := ts.map toD) fun d hd => by
    obtain ⟨t, ht, rfl⟩ := List.mem_map.mp hd
    rcases Bool.or_eq_true_iff.mp (h t ht) with z | z
    · exact shape_plain z
    · exact shape_plain z
  unfold SeqAt.shaped
  rw [p.1]
  exact decide_eq_true (by have := p.2; omega)
theorem eq_of {K : PySem.W.Frag} {C : Addr} {vs : List V} {H : Hp} {Q : VK} {E : XK} (h : spEq (RRel K C) vs H Q E) : spEqR K C vs H Q E := by
  obtain ⟨a, b, rfl, ⟨es, ss, ra, rb, ok⟩, q⟩ := h
  have s1 := shaped_nd fun t ht => (ok.e t ht).2.1
  have s2 := shaped_nd fun t ht => (ok.s t ht).2.1
  refine ⟨a, .ref b, _, _, rfl, ra, s1, s2, .inl ⟨b, _, _, rfl, rb, s1, s2, ?_⟩⟩
  have e : eqR (es.map toD) (ss.map toD) (es.map toD) (ss.map toD) = true := by
    unfold eqR
    rw [SeqAt.eqv_refl _ (SeqAt.canLay_of_shaped s1), SeqAt.eqv_refl _ (SeqAt.canLay_of_shaped s2)]
    rfl
  rw [e]
  exact q H fun _ _ z => z
theorem cl_text (k : Int) : (PyData.tuple [.str "text", .int k]).canLay0 = true := by
  have z : PyData.strOk ("text" : Str) = true := by decide +kernel
  simp only [PyData.canLay0, PyData.canLayAll0, z, Bool.and_self]
theorem dins_of {K : PySem.W.Frag} {C a b : Addr} {H : Hp} {es ss : List Nd} (ra : RulesAt K H a C (es.map toD) (ss.map toD)) (rb : RulesAt K H b C (es.map toD) (ss.map toD)) (ok : EsOk es ss) : DIns C (RRel K C) (.ref a) (.ref b) H := by
  obtain ⟨dx, fs, h1⟩ := ra.inst
  obtain ⟨dy, gs, h2⟩ := rb.inst
  exact ⟨a, b, dx, dy, fs, gs, rfl, rfl, h1, h2, es, ss, ra, rb, ok⟩
theorem kit_ll {K : PySem.W.Frag} : PySem.W.kitOne K (.type "list") (.type "list") = some true := kit_ty (RU.kl (.list []))
theorem kit_tl {K : PySem.W.Frag} : PySem.W.kitOne K (.type "tuple") (.type "list") = some false := kit_ty (RU.kl (.tuple []))
theorem rrel_mon {K : PySem.W.Frag} {C : Addr} : Mon (DIns C (RRel K C)) := mon_ins fun a b H H' e ⟨es, ss, ra, rb, ok⟩ => ⟨es, ss, ra.same e, rb.same e, ok⟩
section
variable {P : Program} {w : World} {K : PySem.W.Frag} {mg : Str → Option Value} {base : Heap}
theorem ok_law {f fB fS fLT fDu fNr fLi fRX fRR fI fTd fEq C CB CJ CX cc PP : Addr} {fd dB dS dLT dDu dNr dLi dRX dRR dI dTd dEq : FuncData} {T : List (Addr × Str)} (F : Fun K "law" "law" sLaw f fd) (hcd : fd.code = .ref cc) (TB : TabB base mg cc PP) (hmT : (PP, qLw) ∈ T) (huT : ∀ p ∈ T, p.1 = PP → p.2 = qLw)
    (TE : TErr K mg CJ CX) (tI : mg "isinstance" = none)
    (R : RCl K mg C fI) (GI : FnOk P w K mg base (L2.CX P w) 12 fI dI ["self", "ends", "steps"] (spRI K C CB)) (bI : Binds K dI ["self", "ends", "steps"] [])
    (Z : REq K C fEq) (GEq : FnOk P w K mg base CX0 1 fEq dEq ["self", "other"] (spEqR K C)) (bEq : Binds K dEq ["self", "other"] [])
    (FTd : Fun K "_law_told" "_law_told" sTold fTd dTd) (bTd : Binds K dTd ["call"] []) (gTd : mg "_law_told" = some (.ref fTd))
    (FB : Fun K "_law_begun" "_law_begun" sBeg fB dB) (bB : Binds K dB ["script"] []) (gB : mg "_law_begun" = some (.ref fB)) (GB : FnOk P w K mg base CX0 1 fB dB ["script"] (spBeg K))
    (FS : Fun K "_law_ends_and_steps" "_law_ends_and_steps" sEas fS dS) (bS : Binds K dS ["m", "sizes"] []) (gS : mg "_law_ends_and_steps" = some (.ref fS)) (GS : FnOk P w K mg base CX0 8 fS dS ["m", "sizes"] spEas)
    (FLT : Fun K "_law_text_of" "_law_text_of" sTextOf fLT dLT) (bLT : Binds K dLT ["tree"] []) (gLT : mg "_law_text_of" = some (.ref fLT)) (GLT : FnOk P w K mg base CX0 5 fLT dLT ["tree"] (spNT 4))
    (FDu : Fun K "_law_due" "_law_due" sDue fDu dDu) (bDu : Binds K dDu ["text"] []) (gDu : mg "_law_due" = some (.ref fDu)) (GDu : FnG P w K mg base 14 fDu dDu "text" (spDue K C))
    (FNr : Fun K "_law_texts_near" "_law_texts_near" sNear fNr dNr) (bNr : Binds K dNr ["m", "text"] []) (gNr : mg "_law_texts_near" = some (.ref fNr)) (GNr : FnOk P w K mg base CX0 2 fNr dNr ["m", "text"] spNear)
    (FLi : Fun K "_law_lines_near" "_law_lines_near" sLin fLi dLi) (bLi : Binds K dLi ["m", "text"] []) (gLi : mg "_law_lines_near" = some (.ref fLi)) (GLi : FnOk P w K mg base CX0 2 fLi dLi ["m", "text"] spLin)
    (FRX : Fun K "rules_text" "rules_text" sRTx fRX dRX) (bRX : Binds K dRX ["rules"] []) (gRX : mg "rules_text" = some (.ref fRX)) (GRX : FnOk P w K mg base CX0 6 fRX dRX ["rules"] (spRX K C))
    (FRR : Fun K "read_rules" "read_rules" sRRu fRR dRR) (bRR : Binds K dRR ["text"] []) (gRR : mg "read_rules" = some (.ref fRR)) (GRR : FnOk P w K mg base (L2.CX P w) 14 fRR dRR ["text"] (spRR K C CX))
    (tR : mg "range" = none) (tM : mg "min" = none) (tLn : mg "len" = none) (tLs : mg "list" = none) :
    FnGs P w K mg base 141 f fd ["script"] (spLaw T K) := by
  refine fnGs_of (k := 140) F scLw (fun A outer s H vs Q E hr hg h => ?_)
  obtain ⟨sc, ns, rfl, hsc, hlen, sy, tb, kk⟩ := h
  have hu2 : (A.deeper (PyProof.Rows.envOfC "law" (defScope sLaw) s.heap.objs.size f fd.code)).units + 64 < cLine := by have := hr.un; omega
  have hg' : (A.deeper (PyProof.Rows.envOfC "law" (defScope sLaw) s.heap.objs.size f fd.code)).guards = some [] := hg
  have GE := GEq.imp (sp' := spEq (RRel K C)) fun _ _ _ _ => eq_of
  refine ⟨_, pss_cons (ps_set (i := 1) scLw.nd rfl (Or.inl rfl) (pe_call GB (hr.mono (by decide)) (by rfl) gB FB.kp bB .nil pass0 (pa_cons (pv 0) pa_nil)))
    (pss_cons (ps_set (i := 2) scLw.nd rfl (Or.inl rfl) pe_str)
    (pss_cons (ps_set (i := 3) scLw.nd rfl (Or.inl rfl) (pe_lst (pa_cons pe_str (pa_cons pe_str (pa_cons pe_str (pa_cons pe_str (pa_cons pe_str (pa_cons pe_str (pa_cons (pe_op op_add_str pe_str (pv 2)) (pa_cons pe_str pa_nil))))))))))
    (pss_cons (ps_set (i := 3) scLw.nd rfl (Or.inl rfl) (pe_op op_cat (pv 3) (pe_lst (pa_cons (pe_op op_add_str pe_str (pe_op op_mulK (pv 2) pe_int)) (pa_cons (pe_op op_add_str pe_str (pe_op op_mulK (pv 2) pe_int)) (pa_cons (pe_op op_add_str (pe_op op_add_str pe_str (pv 2)) pe_str) (pa_cons pe_str (pa_cons pe_str (pa_cons pe_str (pa_cons pe_str pa_nil))))))))))
    (pss_cons (ps_set (i := 3) scLw.nd rfl (Or.inl rfl) (pe_op op_cat (pv 3) (pe_lst (pa_cons pe_str (pa_cons pe_str (pa_cons pe_str (pa_cons pe_str (pa_cons pe_str pa_nil))))))))
    (pss_cons (ps_for PassesOwn.never rfl (pi_range1 rfl tR (pa_cons (pe_op op_add pe_int (pe_callB (call_min2 rfl) (by rfl) tM bmin (pa_cons (pe_callB call_len_seq (by rfl) tLn PySem.boot_len (pa_cons (pv 0) pa_nil)) (pa_cons pe_int pa_nil)))) pa_nil)) (pg_name (i := 4) scLw.nd rfl (Or.inl rfl))
      (pss_cons (ps_asg (pe_call GS (hr.mono (by decide)) (by rfl) gS FS.kp bS .nil pass0 (pa_cons (pv 1) (pa_cons (pe_tup (pa_cons pe_int (pa_cons pe_int (pa_cons pe_int pa_nil)))) pa_nil))) (pg_tup (n := 2) rfl (pgs_cons (pg_name (i := 5) scLw.nd rfl (Or.inl rfl)) (pgs_cons (pg_name (i := 6) scLw.nd rfl (Or.inl rfl)) pgs_nil))))
      (pss_cons (ps_par rfl scLw.nd (i := 7) (j := 8) rfl rfl (by decide) rfl rfl (pa_cons (pe_make R.mkc GI (hr.mono (by decide)) (by rfl) R.g bI .nil (passes_call LamX.takes0 fun _ _ _ _ h => h) (pa_cons (pv 5) (pa_cons (pv 6) pa_nil)))
          (pa_cons (pe_lc (own := [("tree", 15)]) (g := gName 15) (tt := tYes) rfl scLw.nd (pi_list (pv 5)) (blkOk_by (own := [("tree", 15)]) (N := nLw) (sc := defScope sLaw) (by decide +kernel)) (fun _ _ _ _ _ => pg_name (i := 15) scLw.nd rfl (Or.inl rfl)) (fun _ _ _ _ _ => pts_nil)
            (fun _ _ _ _ _ => pe_op op_add_str pe_str (pe_call GLT (hr.mono (by decide)) (by rfl) gLT FLT.kp bLT .nil pass0 (pa_cons (pv 15) pa_nil)))) pa_nil)) rfl)
      (pss_cons (ps_set (i := 12) scLw.nd rfl (Or.inr rfl) (pe_join pe_str (pe_op op_cat (pv 8) (pe_lc (own := [("body", 16)]) (g := gName 16) (tt := tYes) rfl scLw.nd (pi_list (pv 6)) (blkOk_by (own := [("body", 16)]) (N := nLw) (sc := defScope sLaw) (by decide +kernel)) (fun _ _ _ _ _ => pg_name (i := 16) scLw.nd rfl (Or.inl rfl)) (fun _ _ _ _ _ => pts_nil)
            (fun _ _ _ _ _ => pe_op op_add_str pe_str (pe_call GLT (hr.mono (by decide)) (by rfl) gLT FLT.kp bLT .nil pass0 (pa_cons (pv 16) pa_nil)))))))
      (pss_cons (ps_if (PW.pt (pw_or (pt_cmpR (op_neP hu2) (pe_lst (pa_cons (pe_call GRX (hr.mono (by decide)) (by rfl) gRX FRX.kp bRX .nil pass0 (pa_cons (pv 7) pa_nil)) (pa_cons (pe_call GRX (hr.mono (by decide)) (by rfl) gRX FRX.kp bRX .nil pass0 (pa_cons (pv 7) pa_nil)) pa_nil))) (pe_op op_rep (pe_lst (pa_cons (pv 12) pa_nil)) pe_int) (by rfl))
          (pw_or1 (pt_cmpR (EqL.op_neL rrel_mon (eqG_ins GE Z.e.eq Z.e.fn bEq (E := E0) pass0) (hr.mono (by decide))) (pe_told (T := T) (k := 15) FTd bTd rfl gTd TE tI TB hcd hmT huT (hr.mono (by decide)) (lamS_by (sc := defScope sLaw) (by decide +kernel)) rfl (fun _ _ _ _ _ => rfl) (fun A2 o2 s2 H2 E2 f2 c2 hr2 => pe_call GRR (hr2.mono (by decide)) (by rfl) gRR FRR.kp bRR .nil (passes_call (takes_of rfl rfl rfl rfl) fun _ _ _ _ h => h) (pa_cons (pv 12) pa_nil)))
            (pe_lst (pa_cons (pv 7) pa_nil)) (by rfl))))) (pss_one (ps_ret pe_bl)) pss_nil)
      (pss_cons (ps_for PassesOwn.never rfl (pi_list (pe_op op_cat (pe_op op_cat (pe_call GNr (hr.mono (by decide)) (by rfl) gNr FNr.kp bNr .nil pass0 (pa_cons (pv 1) (pa_cons (pv 12) pa_nil))) (pe_call GLi (hr.mono (by decide)) (by rfl) gLi FLi.kp bLi .nil pass0 (pa_cons (pv 1) (pa_cons (pv 12) pa_nil)))) (pv 3))) (pg_name (i := 13) scLw.nd rfl (Or.inr rfl))
          (pss_cons (ps_set (i := 9) scLw.nd rfl (Or.inl rfl) (pe_callG GDu (hr.mono (by decide)) hg' (by rfl) gDu FDu.kp bDu pass0 (pa_cons (pv 13) pa_nil)))
          (pss_one (ps_for PassesOwn.never rfl (pi_range1 rfl tR (pa_cons pe_int pa_nil)) (pg_name (i := 10) scLw.nd rfl (Or.inl rfl))
            (pss_cons (ps_set (i := 11) scLw.nd rfl (Or.inl rfl) (pe_told (T := T) (k := 15) FTd bTd rfl gTd TE tI TB hcd hmT huT (hr.mono (by decide)) (lamS_by (sc := defScope sLaw) (by decide +kernel)) rfl (fun _ _ _ _ _ => rfl) (fun A2 o2 s2 H2 E2 f2 c2 hr2 => pe_call GRR (hr2.mono (by decide)) (by rfl) gRR FRR.kp bRR .nil (passes_call (takes_of rfl rfl rfl rfl) fun _ _ _ _ h => h) (pa_cons (pv 13) pa_nil))))
            (pss_one (ps_if (PW.pt (pw_or (pt_cmpR op_ne (pe_callB call_isi (by rfl) tI bisi (pa_cons (pv 11) (pa_cons (pe_bltn (v := .ty "list") (by rfl) tLs blist rfl) pa_nil))) (pe_callB call_isi (by rfl) tI bisi (pa_cons (pv 9) (pa_cons (pe_bltn (v := .ty "list") (by rfl) tLs blist rfl) pa_nil))) (by rfl))
                (pw_or1 (pt_cmpR (OpR.or (op_neP hu2) (EqL.op_neL rrel_mon (eqG_ins GE Z.e.eq Z.e.fn bEq (E := E0) pass0) (hr.mono (by decide)))) (pv 11) (pv 9) (by rfl))))) (pss_one (ps_ret pe_bl)) pss_nil)))))))
      (pss_one (ps_for PassesOwn.never rfl (pi_tup (pe_tup (pa_cons pe_non (pa_cons pe_int (pa_cons (pe_tup pa_nil) (pa_cons (pe_lst (pa_cons (pv 12) pa_nil)) (pa_cons pe_dnewK (pa_cons pe_bl (pa_cons (pv 7) pa_nil))))))))) (pg_name (i := 14) scLw.nd rfl (Or.inr rfl))
          (pss_one (ps_if (pt_cmpR (op_neP hu2) (pe_told (T := T) (k := 15) FTd bTd rfl gTd TE tI TB hcd hmT huT (hr.mono (by decide)) (lamS_by (sc := defScope sLaw) (by decide +kernel)) rfl (fun _ _ _ _ _ => rfl) (fun A2 o2 s2 H2 E2 f2 c2 hr2 => pe_call GRR (hr2.mono (by decide)) (by rfl) gRR FRR.kp bRR .nil (passes_call (takes_of rfl rfl rfl rfl) fun _ _ _ _ h => h) (pa_cons (pv 14) pa_nil)))
              (pe_tup (pa_cons pe_str (pa_cons pe_non pa_nil))) (by rfl)) (pss_one (ps_ret pe_bl)) pss_nil))))))))))
    (pss_one (ps_ret pe_bl))))))), ?_⟩
  refine ⟨_, rfl, sc, ns, rfl, hsc, hlen, fun H1 m c l cs ls sm1 M1 => ?_⟩
  have sys1 : Sys (fr H1 m l) := by
    obtain ⟨o, u, e⟩ := sy
    have e1 := sm1 _ _ e
    exact ⟨o, u, fr_some e1 (ne_of e1 M1.hm (by intro z; cases z)) (ne_of e1 M1.hl (by intro z; cases z))⟩
  have W1 : Wk T m c l cs ls 0 H1 := ⟨M1, sys1, tabs_fr M1 (tb.ext sm1)⟩
  -- hand
  refine ⟨_, rfl, _, _, rfl, rfl, by decide +kernel, by show 8 ≤ sizeLine; decide, fun p0 np0 => ?_⟩
  obtain ⟨G2, t2, e2⟩ := (Gw.mk (H := H1) M1 .refl).new (o := .lst (h0.map V.str)) np0
  have W2 := W1.same (same_new (o := .lst (h0.map V.str)) np0)
  have lstp : stp.length = 13 := by decide +kernel
  refine ⟨_, rfl, _, rfl, _, _, rfl, rfl, by decide, by decide, by decide +kernel, fun y3 ly3 hy3 => ⟨_, _, rfl, rfl, ?l3, _, rfl, _, _, rfl, rfl, by decide, by decide, by decide +kernel, fun y4 ly4 hy4 => ⟨_, _, rfl, rfl, ?l4, _, rfl, _, _, rfl, rfl, by decide +kernel, _, _, rfl, rfl, by decide +kernel, by show 7 ≤ sizeLine; decide, fun p1 np1 => ⟨p0, p1, h0.map V.str, (h1 y3 y4).map V.str, rfl, rfl, same_new np1 _ _ upd_same, upd_same, by show 8 + 7 ≤ sizeLine; decide, fun p2 np2 => ?main⟩⟩⟩⟩
  case l3 =>
    have : (y3.length : Int) ≤ 3 * ((stp.length : Nat) : Int) := ly3
    have l5 : ("end -" : Str).length = 5 := by decide +kernel
    rw [lstp] at this
    exact m6 (by omega)
  case l4 =>
    have : (y4.length : Int) ≤ 4 * ((stp.length : Nat) : Int) := ly4
    have l5 : ("end -" : Str).length = 5 := by decide +kernel
    rw [lstp] at this
    exact m6 (by omega)
  case main =>
  have okst : okB 13 stp := okB_of (by decide +kernel)
  have k3 : okB 39 y3 := ⟨by
    have : (y3.length : Int) ≤ 3 * ((stp.length : Nat) : Int) := ly3
    rw [lstp, len_lS] at this
    omega, fun x hx => okst.2 x (hy3 x hx)⟩
  have k4 : okB 52 y4 := ⟨by
    have : (y4.length : Int) ≤ 4 * ((stp.length : Nat) : Int) := ly4
    rw [lstp, len_lS] at this
    omega, fun x hx => okst.2 x (hy4 x hx)⟩
  have oke : okB 5 "end -" := okB_of (by decide +kernel)
  have ok1 : ∀ t ∈ h1 y3 y4, okB 100 t := fun t ht => by
    simp only [h1, List.mem_cons, List.not_mem_nil, or_false] at ht
    rcases ht with rfl | rfl | rfl | rfl | rfl | rfl | rfl
    · exact (oke.app k3).mono (by decide)
    · exact (oke.app k4).mono (by decide)
    · exact okB_of (by decide +kernel)
    · exact okB_of (by decide +kernel)
    · exact okB_of (by decide +kernel)
    · exact okB_of (by decide +kernel)
    · exact okB_of (by decide +kernel)
  have ok0 : ∀ t ∈ h0, okB 100 t := okBs (by decide +kernel)
  have ok2 : ∀ t ∈ h2, okB 100 t := okBs (by decide +kernel)
  have W3 := (W2.same (same_new (o := .lst ((h1 y3 y4).map V.str)) np1)).same (same_new (o := .lst (h0.map V.str ++ (h1 y3 y4).map V.str)) np2)
  have e3 := upd_same (H := upd (upd H1 p0 (.lst (h0.map V.str))) p1 (.lst ((h1 y3 y4).map V.str))) (a := p2) (o := .lst (h0.map V.str ++ (h1 y3 y4).map V.str))
  refine ⟨_, rfl, by show 5 ≤ sizeLine; decide, fun p3 np3 => ⟨p2, p3, _, h2.map V.str, rfl, rfl, same_new np3 _ _ e3, upd_same, by show 15 + 5 ≤ sizeLine; decide, fun pH npH => ?_⟩⟩
  have W4 := W3.same (same_new (o := .lst (h2.map V.str)) np3)
  obtain ⟨G5, t5, e5⟩ := (Gw.mk W4.mat .refl).new (o := .lst ((h0.map V.str ++ (h1 y3 y4).map V.str) ++ h2.map V.str)) npH
  have W5 := W4.same (same_new (o := .lst ((h0.map V.str ++ (h1 y3 y4).map V.str) ++ h2.map V.str)) npH)
  obtain ⟨hs, hhs, okH, lH⟩ : ∃ hs : List Str, (h0.map V.str ++ (h1 y3 y4).map V.str) ++ h2.map V.str = hs.map V.str ∧ (∀ t ∈ hs, okB 100 t) ∧ hs.length = 20 := by
    refine ⟨h0 ++ h1 y3 y4 ++ h2, by rw [List.map_append, List.map_append], fun t ht => ?_, rfl⟩
    rcases List.mem_append.mp ht with z | z
    · rcases List.mem_append.mp z with z | z
      · exact ok0 t z
      · exact ok1 t z
    · exact ok2 t z
  have sAll := same_trans (same_new (o := .lst (h0.map V.str)) np0) (same_trans (same_new (o := .lst ((h1 y3 y4).map V.str)) np1) (same_trans (same_new (o := .lst (h0.map V.str ++ (h1 y3 y4).map V.str)) np2) (same_trans (same_new (o := .lst (h2.map V.str)) np3) (same_new (o := .lst ((h0.map V.str ++ (h1 y3 y4).map V.str) ++ h2.map V.str)) npH))))
  have sqH := sAll.seq (sm1.seq hsc)
  have e5' := e5.trans (congrArg (fun z => some (HO.lst z)) hhs)
  refine ⟨_, rfl, sc, ns.map V.int, rfl, .inl sqH, _, _, rfl, _, _, rfl, rfl, _, rfl, ?b1, ?b2, ?main2⟩
  case b1 => split <;> omega
  case b2 => split <;> omega
  case main2 =>
  refine for_range (lo := 0) (fun i σ' H' => ∃ (l' : Addr) (ls' : List Int) (n' : Int) (v4 v5 v6 v7 v8 v9 v10 v11 v12 v13 v14 v15 v16 : Option V), σ' = [some (V.ref sc), some (V.ref m), some (.str stp), some (.ref pH), v4, v5, v6, v7, v8, v9, v10, v11, v12, v13, v14, v15, v16] ∧ Wk T m c l' cs ls' n' H' ∧ n' ≤ 20000 * (i : Int) ∧ fr H' m l' pH = some (.lst (hs.map V.str)))
    ⟨l, ls, 0, none, none, none, none, none, none, none, none, none, none, none, none, none, rfl, W5, by omega, e5'⟩ ?_ ?_
  rotate_left
  · rintro σ' H' ⟨l', ls', n', v4, v5, v6, v7, v8, v9, v10, v11, v12, v13, v14, v15, v16, rfl, _, _, _⟩
    exact kk H'
  rintro i σ' H' hi ⟨l', ls', n', v4, v5, v6, v7, v8, v9, v10, v11, v12, v13, v14, v15, v16, rfl, W', hn', eH⟩
  have hi15 : i < 15 := by
    refine Nat.lt_of_lt_of_le hi ?_
    split <;> omega
  clear hsc hlen sy tb W5 e5 e5' sqH sAll W1 W2 W3 W4 G2 G5 t2 t5 e2 e3 np0 np1 np2 np3 npH ok0 ok1 ok2 k3 k4 hy3 hy4 ly3 ly4 sys1 M1 hhs
  -- ends, steps
  refine ⟨_, rfl, by show 3 ≤ sizeLine; decide, fun z0 nz0 => ?_⟩
  obtain ⟨G0, k0, e0⟩ := (Gw.mk (H := H') W'.mat .refl).new (o := .tup [.int 3, .int 3, .int 4]) nz0
  refine ⟨m, c, l', z0, cs, ls', n', rfl, G0.mat, by omega, e0, fun p eL sL xs ys es ss H2 l2 ls2 n2 M2 nn2 s2 ep eE qE eS qS ES nES => ?_⟩
  refine ⟨p, _, rfl, SqT.of (fr_of ep).2.2, rfl, _, _, rfl, _, _, rfl, rfl, ?_⟩
  obtain ⟨ne, nss, rfl, rfl, rl⟩ := rl_of ES
  have W2 := (W'.same (same_new (o := .tup [.int 3, .int 3, .int 4]) nz0)).step M2 s2
  have eH2 := s2.1 _ _ (k0 _ _ eH)
  have n2b : n2 ≤ 20000 * (i : Int) + 3000 := by omega
  clear W' eH k0 G0 e0 s2 nz0
  -- own
  refine ⟨_, rfl, _, rfl, fun rb dxo nrb ndx ned => ?_⟩
  refine make_any (.inl (.lst (fr_of eE).2.2 (qE.same fr_same))) (.inl (.lst (fr_of eS).2.2 (qS.same fr_same))) nrb ndx ned (due_nd rl.ok rl.l1) fun H3 s3 r3 => ⟨rfl, ?_⟩
  have W3 := W2.same s3
  have eH3 := fr_sm (m := m) (l := l2) s3 _ _ eH2
  have eE3 := s3 _ _ (fr_of eE).2.2
  have eS3 := s3 _ _ (fr_of eS).2.2
  have qE3 := (qE.same fr_same).same s3
  have qS3 := (qS.same fr_same).same s3
  clear W2 eH2 eE eS qE qS ep s3 nrb ndx ned M2
  refine ⟨_, rfl, eL, rfl, ⟨_, SqL.of eE3⟩, fun D nD => ?_⟩
  refine lc_list (K := K) (a := eL) (xs := xs) (fun j H' => Same H3 H' ∧ H' D = some (.lst (((ne).take j).map fun t => V.str (S (lnE t))))) ⟨same_new nD, upd_same⟩ (fun j H' _ ⟨s, _⟩ => SqL.of (s _ _ eE3)) ?_ ?_
  · rintro j y H8 hj ⟨s8, hdd⟩
    have hil : j < (ne).length := by
      have := (List.getElem?_eq_some_iff.mp hj).1
      rw [qE3.len, List.length_map] at this
      exact this
    have hp := List.getElem?_eq_getElem hil
    have hmem := List.getElem_mem hil
    generalize (ne)[j] = t at hp hmem
    obtain ⟨g1, g2, g3⟩ := rl.ge t hmem
    obtain ⟨vi, hvi, qi⟩ := qE3.at (i := j) (d := toD t) (by rw [List.getElem?_map, hp]; rfl)
    rw [hj] at hvi
    obtain rfl : y = vi := Option.some.inj hvi
    refine ⟨rfl, ?_⟩
    unfold tYes
    refine iteT ⟨_, rfl, y, t, rfl, qi.same s8, g1, g2, by omega, fun H9 s9 => ⟨_, _, rfl, rfl, ?_, _, s9 _ _ hdd, small1000 ?_, fun b o z => ?_, ?_⟩⟩
    · rw [len_S, show (("end " : Str)).length = 4 by decide +kernel]
      exact m6 (by omega)
    · rw [List.length_map, List.length_take]
      have := rl.l3
      have := rl.m3
      omega
    · rw [upd_ne (ne_of_none z nD)]
      exact s9 _ _ (s8 _ _ z)
    · rw [upd_same, List.take_add_one, hp, List.map_append]
      show some (HO.lst (_ ++ [V.str (("end " : Str) ++ S (wr t))])) = _
      rw [eE']
      rfl
  rintro H5 ⟨s5, e5⟩
  rw [List.take_of_length_le (by rw [qE3.len, List.length_map]; exact Nat.le_refl _)] at e5
  refine ⟨_, _, rfl, ?_⟩
  have eS5 := s5 _ _ eS3
  have qS5 := qS3.same s5
  refine ⟨⟨_, rfl⟩, _, rfl, _, rfl, sL, rfl, ⟨_, SqL.of eS5⟩, fun D2 nD2 => ?_⟩
  refine lc_list (K := K) (a := sL) (xs := ys) (fun j H' => Same H5 H' ∧ H' D2 = some (.lst (((nss).take j).map fun t => V.str (S (lnS t))))) ⟨same_new nD2, upd_same⟩ (fun j H' _ ⟨s, _⟩ => SqL.of (s _ _ eS5)) ?_ ?_
  · rintro j y H8 hj ⟨s8, hdd⟩
    have hil : j < (nss).length := by
      have := (List.getElem?_eq_some_iff.mp hj).1
      rw [qS5.len, List.length_map] at this
      exact this
    have hp := List.getElem?_eq_getElem hil
    have hmem := List.getElem_mem hil
    generalize (nss)[j] = t at hp hmem
    obtain ⟨g1, g2, g3⟩ := rl.gs t hmem
    obtain ⟨vi, hvi, qi⟩ := qS5.at (i := j) (d := toD t) (by rw [List.getElem?_map, hp]; rfl)
    rw [hj] at hvi
    obtain rfl : y = vi := Option.some.inj hvi
    refine ⟨rfl, ?_⟩
    unfold tYes
    refine iteT ⟨_, rfl, y, t, rfl, qi.same s8, g1, g2, by omega, fun H9 s9 => ⟨_, _, rfl, rfl, ?_, _, s9 _ _ hdd, small1000 ?_, fun b o z => ?_, ?_⟩⟩
    · rw [len_S, show (("step " : Str)).length = 5 by decide +kernel]
      exact m6 (by omega)
    · rw [List.length_map, List.length_take]
      have := rl.l3
      have := rl.m3
      omega
    · rw [upd_ne (ne_of_none z nD2)]
      exact s9 _ _ (s8 _ _ z)
    · rw [upd_same, List.take_add_one, hp, List.map_append]
      show some (HO.lst (_ ++ [V.str (("step " : Str) ++ S (wr t))])) = _
      rw [eS']
      rfl
  rintro H6 ⟨s6, e6⟩
  rw [List.take_of_length_le (by rw [qS5.len, List.length_map]; exact Nat.le_refl _)] at e6
  refine ⟨D, D2, _, _, rfl, rfl, s6 _ _ e5, e6, ?_, fun pJ npJ => ?_⟩
  · rw [List.length_map, List.length_map]
    have := rl.l3
    have := rl.m3
    exact m6 (by omega)
  obtain ⟨rw1, rw2, rw3⟩ := rl.rows
  have sb := sum_le List.length 195 _ fun l hl => (rw1 l hl).1
  refine ⟨"\n", pJ, (ne.map lnE ++ nss.map lnS).map S, rfl, rfl, .inl (SqL.of ?_), ?_, ?_⟩
  · rw [upd_same, List.map_map, List.map_append, List.map_map, List.map_map]
    rfl
  · rw [List.map_map, List.length_map, show ("\n" : Str).length = 1 by decide +kernel, show (Str.length ∘ S) = List.length from funext fun l => len_S l]
    have : 195 * (ne.map lnE ++ nss.map lnS).length ≤ 195 * 6 := Nat.mul_le_mul_left _ rw3
    omega
  rw [S_nl, join_one, List.map_map, show (lS ∘ S) = id from funext fun l => lS_S l, List.map_id]
  have s7 := same_trans s5 (same_trans s6 (same_new (o := .lst ((ne.map fun t => V.str (S (lnE t))) ++ nss.map fun t => V.str (S (lnS t)))) npJ))
  have W7 := W3.same s7
  have eH7 := fr_sm (m := m) (l := l2) s7 _ _ eH3
  have r7 := r3.same s7
  generalize upd H6 pJ (.lst ((ne.map fun t => V.str (S (lnE t))) ++ nss.map fun t => V.str (S (lnS t)))) = H7 at W7 eH7 r7 ⊢
  clear W3 eH3 r3 s7 s5 s6 e5 e6 eE3 eS3 eS5 qE3 qS3 qS5 nD nD2 npJ rw1 rw2 rw3 sb
  have okT : okL (txR ne nss) := rl.txt.L (by decide)
  have tx : ∀ H, Dq H (.str (S (txR ne nss))) (.str (S (txR ne nss))) := fun H => dq_S okT
  have okD : PyData.strOk (S (txR ne nss)) = true := ok_str okT
  refine ⟨_, rfl, rb, ne, nss, rfl, r7, rl.ge, rl.gs, rl.l3, rl.m3, fun H8 s8 => ⟨_, rfl, rb, ne, nss, rfl, r7.same s8, rl.ge, rl.gs, rl.l3, rl.m3, fun H9 s9 => ⟨by show 2 ≤ sizeLine; decide, fun pa npa => ⟨_, rfl, by show 1 ≤ sizeLine; decide, fun pb npb => ⟨pb, 2, _, rfl, rfl, upd_same, by decide, by decide, by show 1 * 2 ≤ sizeLine; decide, fun pc npc => ?_⟩⟩⟩⟩⟩
  have sA := same_trans s8 (same_trans s9 (same_trans (same_new (o := .lst [V.str (S (txR ne nss)), V.str (S (txR ne nss))]) npa) (same_trans (same_new (o := .lst [V.str (S (txR ne nss))]) npb) (same_new (o := .lst (List.replicate (Int.toNat 2) [V.str (S (txR ne nss))]).flatten) npc))))
  have ea := same_new (o := .lst (List.replicate (Int.toNat 2) [V.str (S (txR ne nss))]).flatten) npc _ _ (same_new (o := .lst [V.str (S (txR ne nss))]) npb _ _ (upd_same (H := H9) (a := pa) (o := .lst [V.str (S (txR ne nss)), V.str (S (txR ne nss))])))
  refine neP_self (d := .list [.str (S (txR ne nss)), .str (S (txR ne nss))]) (.lst ea (.cons (tx _) (.cons (tx _) .nil))) (.lst upd_same (.cons (tx _) (.cons (tx _) .nil))) ?_ ?_ ⟨false, rfl, ?_⟩
  · simp only [PyData.canLay0, PyData.canLayAll0, okD, Bool.and_self]
  · simp only [PyData.depth, PyData.depthAll]
    omega
  have W10 := W7.same sA
  refine iteF (ttr_of (told_rules rfl okT W10.tbs (fun k hk => ?_) (fun es' ss' hd hok b p H11 e11 t11 hp hr => ?_)))
  · have hk : dueT (txR ne nss) = .inl k := hk
    rw [rl.due] at hk
    cases hk
  have z : (Sum.inr (ne, nss) : Nat ⊕ (List Nd × List Nd)) = .inr (es', ss') := rl.due.symm.trans hd
  obtain ⟨rfl, rfl⟩ := Prod.mk.inj (Sum.inr.inj z)
  refine ⟨_, rfl, by show 1 ≤ sizeLine; decide, fun pd npd => ⟨⟨p, pd, [.ref b], [.ref rb], rfl, rfl, same_new npd _ _ hp, upd_same, Prs.cons (dins_of (hr.same (same_new npd)) (((r7.same sA).extN e11).same (same_new npd)) rl.ok) Prs.nil⟩, fun H12 e12 => ⟨false, rfl, ?_⟩⟩⟩
  refine iteF (nx_go ?_)
  have e12 : Same _ H12 := fun b o h => e12 b o h
  have s1112 := same_trans (same_new (o := .lst [V.ref rb]) npd) e12
  have E12 := extN_trans (extN_same sA) (extN_trans e11 (extN_same s1112))
  have W12 := W7.lam E12 (t11.ext s1112)
  have eH12 := fr_en (m := m) (l := l2) E12 _ _ eH7 fun _ z => by cases z
  have rF12 := (r7.extN E12).fr W12.mat (tup_toDs _) (tup_toDs _)
  clear W7 eH7 r7 sA ea W10 z hd hok hp hr s1112 E12 e12 e11 t11 npa npb npc npd s8 s9
  dsimp only
  -- sheets
  refine tseq_of ?_
  refine ⟨_, rfl, _, rfl, m, c, l2, cs, ls2, n2, S (txR ne nss), 1300, rfl, W12.mat, by omega, rl.txt, by decide, fun pN ts1 H13 l13 ls13 n13 M13 nn13 s13 eN lts okN => ?_⟩
  have W13 := W12.step M13 s13
  have rF13 := rF12.same s13.1
  have eH13 := s13.1 _ _ eH12
  refine ⟨_, rfl, _, rfl, m, c, l13, cs, ls13, n13, S (txR ne nss), 1300, rfl, M13, by omega, rl.txt, by decide, fun pL ts2 H14 l14 ls14 n14 M14 nn14 s14 eL2 lts2 okL2 => ?_⟩
  have W14 := W13.step M14 s14
  have rF14 := rF13.same s14.1
  have eH14 := s14.1 _ _ eH13
  have eN14 := s14.1 _ _ eN
  refine ⟨pN, pL, ts1.map V.str, ts2.map V.str, rfl, rfl, (fr_of eN14).2.2, (fr_of eL2).2.2, ?_, fun pS npS => ⟨_, rfl, pS, pH, _, hs.map V.str, rfl, rfl, upd_same, same_new npS _ _ (fr_of eH14).2.2, ?_, fun pT npT => ⟨pT, rfl, ⟨_, SqL.of upd_same⟩, ?_⟩⟩⟩
  · rw [List.length_map, List.length_map, lts, lts2]
    decide
  · rw [List.length_append, List.length_map, List.length_map, List.length_map, lts, lts2, lH]
    decide
  have sB := same_trans (same_new (o := .lst (ts1.map V.str ++ ts2.map V.str)) npS) (same_new (o := .lst ((ts1.map V.str ++ ts2.map V.str) ++ hs.map V.str)) npT)
  have e15 := upd_same (H := upd H14 pS (.lst (ts1.map V.str ++ ts2.map V.str))) (a := pT) (o := .lst ((ts1.map V.str ++ ts2.map V.str) ++ hs.map V.str))
  have W15 := W14.same sB
  have rF15 := rF14.same (fr_sm (m := m) (l := l14) sB)
  have eH15 := fr_sm (m := m) (l := l14) sB _ _ eH14
  have n14b : n14 ≤ 20000 * (i : Int) + 4000 := by omega
  have okS : ∀ x ∈ (ts1.map V.str ++ ts2.map V.str) ++ hs.map V.str, ∃ z, x = .str z ∧ okL (lS z) := fun x hx => by
    rcases List.mem_append.mp hx with h | h
    · rcases List.mem_append.mp h with h | h
      · obtain ⟨z, hz, rfl⟩ := List.mem_map.mp h
        exact ⟨z, rfl, (okN z hz).L (by decide)⟩
      · obtain ⟨z, hz, rfl⟩ := List.mem_map.mp h
        exact ⟨z, rfl, (okL2 z hz).L (by decide)⟩
    · obtain ⟨z, hz, rfl⟩ := List.mem_map.mp h
      exact ⟨z, rfl, (okH z hz).L (by decide)⟩
  generalize upd (upd H14 pS (.lst (ts1.map V.str ++ ts2.map V.str))) pT (.lst ((ts1.map V.str ++ ts2.map V.str) ++ hs.map V.str)) = H15 at W15 rF15 eH15 e15 ⊢
  generalize (ts1.map V.str ++ ts2.map V.str) ++ hs.map V.str = xs' at okS e15 ⊢
  clear W12 W13 W14 rF12 rF13 rF14 eH12 eH13 eH14 eN eN14 eL2 sB npS npT okN okL2 M13 M14 s13 s14 nn13 nn14
  refine for_list (xs := xs') (fun j σ' H' => ∃ (w9 w10 w11 w13 : Option V), σ' = [some (V.ref sc), some (V.ref m), some (.str stp), some (.ref pH), some (V.int (0 + (i : Int))), some (.ref eL), some (.ref sL), some (.ref rb), some (.ref D), w9, w10, w11, some (.str (S (txR ne nss))), w13, v14, v15, v16] ∧ ExtN H15 H' ∧ Tabs T H')
    ⟨_, _, _, _, rfl, ExtN.refl _, W15.tbs⟩ (fun j σ H _ ⟨_, _, _, _, _, s, _⟩ => SqL.of (s _ _ e15 fun _ z => by cases z)) ?_ ?_
  · rintro j x σ' H16 hj ⟨w9, w10, w11, w13, rfl, x16, t16⟩
    obtain ⟨z, rfl, okz⟩ := okS x (List.mem_of_getElem? hj)
    have W16 := W15.lam x16 t16
    refine ⟨_, rfl, _, rfl, z, rfl, W16.sys, okz, fun r H17 s17 dv => ?_⟩
    have x17 := extN_trans x16 (extN_same s17)
    have t17 := t16.ext s17
    refine ⟨2, rfl, by decide, by decide, for_range (lo := 0) (n := 2) (fun k σ' H' => ∃ (w10 w11 : Option V), σ' = [some (V.ref sc), some (V.ref m), some (.str stp), some (.ref pH), some (V.int (0 + (i : Int))), some (.ref eL), some (.ref sL), some (.ref rb), some (.ref D), some r, w10, w11, some (.str (S (txR ne nss))), some (.str z), v14, v15, v16] ∧ ExtN H17 H' ∧ Tabs T H')
      ⟨_, _, rfl, ExtN.refl _, t17⟩ ?_ ?_⟩
    · rintro k' σ' H18 hk ⟨w10', w11', rfl, x18, t18⟩
      refine tseq_of (tasg_of' (told_rules rfl okz t18 (fun kk1 hk1 p1 H19 e19 t19 hp => ?_) (fun es' ss' hd hok b p1 H19 e19 t19 hp hr => ?_)))
      · have dv : DueV K C H17 r (dueT (lS z)) := dv
        rw [hk1] at dv
        obtain ⟨p, rfl, ep⟩ := dv
        have ep19 := e19 _ _ (x18 _ _ ep fun _ z => by cases z) fun _ z => by cases z
        have q : ∀ {a : Addr}, H19 a = some (.tup [.str "text", .int (kk1 : Int)]) → Dq H19 (.ref a) (.tuple [.str "text", .int (kk1 : Int)]) := fun h => .tup h (.cons (dq_str (by decide +kernel) (by decide +kernel)) (.cons (.int _) .nil))
        refine ⟨_, rfl, .ref p1, .ty "list", .type "tuple", .type "list", false, rfl, .ty _, .base (.tup hp), kit_tl, _, rfl, .ref p, .ty "list", .type "tuple", .type "list", false, rfl, .ty _, .base (.tup ep19), kit_tl, rfl, _, rfl, iteNS rfl ?_⟩
        exact ⟨_, rfl, _, rfl, .inl (neP_self (q hp) (q ep19) (cl_text _) (by simp only [PyData.depth, PyData.depthAll]; omega) ⟨false, rfl, iteF (nx_go ⟨_, _, rfl, extN_trans x18 e19, t19⟩)⟩)⟩
      · have dv : DueV K C H17 r (dueT (lS z)) := dv
        rw [hd] at dv
        obtain ⟨_, p, b', rfl, ep, rb'⟩ := dv
        have ep19 := e19 _ _ (x18 _ _ ep fun _ z => by cases z) fun _ z => by cases z
        have rb19 := (rb'.extN x18).extN e19
        refine ⟨_, rfl, .ref p1, .ty "list", .type "list", .type "list", true, rfl, .ty _, .base (.lst hp), kit_ll, _, rfl, .ref p, .ty "list", .type "list", .type "list", true, rfl, .ty _, .base (.lst ep19), kit_ll, rfl, _, rfl, iteNS rfl ?_⟩
        refine ⟨_, rfl, _, rfl, .inr ⟨⟨p1, p, [.ref b], [.ref b'], rfl, rfl, hp, ep19, Prs.cons (dins_of hr rb19 hok) Prs.nil⟩, fun H20 e20 => ⟨false, rfl, iteF (nx_go ?_)⟩⟩⟩
        have e20 : Same _ H20 := fun b o h => e20 b o h
        exact ⟨_, _, rfl, extN_trans x18 (extN_trans e19 (extN_same e20)), t19.ext e20⟩
    · rintro σ' H18 ⟨w10', w11', rfl, x18, t18⟩
      exact ⟨_, _, _, _, rfl, extN_trans x17 x18, t18⟩
  rintro σ' H16 ⟨w9, w10, w11, w13, rfl, x16, t16⟩
  have W16 := W15.lam x16 t16
  have rF16 := rF15.extN (fr_en (m := m) (l := l14) x16)
  have eH16 := fr_en (m := m) (l := l14) x16 _ _ eH15 fun _ z => by cases z
  clear W15 rF15 eH15 x16 t16 okS e15
  dsimp only
  -- what is none
  refine ⟨Nat.zero_le _, fun p1 np1 => ⟨_, rfl, by show 1 ≤ sizeLine; decide, fun p2 np2 => fun p3 np3 => ⟨_, rfl, by show 7 ≤ sizeLine; decide, fun p4 np4 => ⟨p4, rfl, ⟨_, SqT.of upd_same⟩, ?_⟩⟩⟩⟩
  have f1 := same_new (o := .lst [V.str (S (txR ne nss))]) np2
  have f2 := same_new (o := .dK []) np3
  have f3 := same_new (o := .tup [.non, .int 5, .ref p1, .ref p2, .ref p3, .bl true, .ref rb]) np4
  have sB := same_trans (same_new (o := .tup []) np1) (same_trans f1 (same_trans f2 f3))
  have e1 := f3 _ _ (f2 _ _ (f1 _ _ (upd_same (H := H16) (a := p1) (o := .tup []))))
  have e2 := f3 _ _ (f2 _ _ (upd_same (H := upd H16 p1 (.tup [])) (a := p2) (o := .lst [V.str (S (txR ne nss))])))
  have e3 := f3 _ _ (upd_same (H := upd (upd H16 p1 (.tup [])) p2 (.lst [V.str (S (txR ne nss))])) (a := p3) (o := .dK []))
  have e4 := upd_same (H := upd (upd (upd H16 p1 (.tup [])) p2 (.lst [V.str (S (txR ne nss))])) p3 (.dK [])) (a := p4) (o := .tup [.non, .int 5, .ref p1, .ref p2, .ref p3, .bl true, .ref rb])
  have W17 := W16.same sB
  have rF17 := rF16.same (fr_sm (m := m) (l := l14) sB)
  have eH17 := fr_sm (m := m) (l := l14) sB _ _ eH16
  generalize upd (upd (upd (upd H16 p1 (.tup [])) p2 (.lst [V.str (S (txR ne nss))])) p3 (.dK [])) p4 (.tup [.non, .int 5, .ref p1, .ref p2, .ref p3, .bl true, .ref rb]) = H17 at *
  have no : ∀ x ∈ [V.non, .int 5, .ref p1, .ref p2, .ref p3, .bl true, .ref rb], ∀ H', ExtN H17 H' → (∃ d, Dq H' x d ∧ isS d = false) ∨ ∃ a dx fs, x = .ref a ∧ H' a = some (.ins C dx fs) := fun x hx H' e => by
    simp only [List.mem_cons, List.not_mem_nil, or_false] at hx
    rcases hx with rfl | rfl | rfl | rfl | rfl | rfl | rfl
    · exact .inl ⟨_, .non, rfl⟩
    · exact .inl ⟨_, .int 5, rfl⟩
    · exact .inl ⟨_, .tup (e _ _ e1 fun _ z => by cases z) .nil, rfl⟩
    · exact .inl ⟨_, .lst (e _ _ e2 fun _ z => by cases z) (.cons (tx _) .nil), rfl⟩
    · exact .inl ⟨_, .dic (e _ _ e3 fun _ z => by cases z), rfl⟩
    · exact .inl ⟨_, .bl true, rfl⟩
    · obtain ⟨dx, fs, h⟩ := (rF17.same fr_same).inst
      exact .inr ⟨rb, dx, fs, rfl, e _ _ h fun _ z => by cases z⟩
  clear W16 rF16 eH16 f1 f2 f3 sB np1 np2 np3 np4
  generalize [V.non, .int 5, .ref p1, .ref p2, .ref p3, .bl true, .ref rb] = xs' at no e4
  refine for_tup (xs := xs') (fun j σ' H' => ∃ (w14 : Option V), σ' = [some (V.ref sc), some (V.ref m), some (.str stp), some (.ref pH), some (V.int (0 + (i : Int))), some (.ref eL), some (.ref sL), some (.ref rb), some (.ref D), w9, w10, w11, some (.str (S (txR ne nss))), w13, w14, v15, v16] ∧ ExtN H17 H' ∧ Tabs T H')
    ⟨_, rfl, ExtN.refl _, W17.tbs⟩ (fun j σ H _ ⟨_, _, s, _⟩ => SqT.of (s _ _ e4 fun _ z => by cases z)) ?_ ?_
  · rintro j x σ' H18 hj ⟨w14, rfl, x18, t18⟩
    have W18 := W17.lam x18 t18
    refine ifr_of (told_none rfl (no x (List.mem_of_getElem? hj) H18 x18) W18.tbs (fun p1' H19 e19 t19 hp => ?_))
    refine ⟨by show 2 ≤ sizeLine; decide, fun p2' np2 => neP_self (d := .tuple [.str "text", .none]) (.tup (same_new np2 _ _ hp) (.cons (dq_str (by decide +kernel) (by decide +kernel)) (.cons .non .nil))) (.tup upd_same (.cons (dq_str (by decide +kernel) (by decide +kernel)) (.cons .non .nil))) (by decide +kernel) (by decide +kernel) ⟨false, rfl, ?_⟩⟩
    exact iteF (nx_go ⟨_, rfl, extN_trans x18 (extN_trans e19 (extN_same (same_new np2))), t19.ext (same_new np2)⟩)
  rintro σ' H18 ⟨w14, rfl, x18, t18⟩
  exact ⟨l14, ls14, n14, _, _, _, _, _, _, _, _, _, _, _, _, _, rfl, W17.lam x18 t18, by push_cast; omega, fr_en (m := m) (l := l14) x18 _ _ eH17 fun _ z => by cases z⟩
end
end X48
set_option Elab.async false
set_option linter.all false
set_option maxRecDepth 100000
set_option maxHeartbeats 4000000
/-! what is asked of the classes of k49, in one look each -/
namespace X48
open PySem L2 L2H DQ K01 LamX LamD RZ PySem.W
open XH hiding same_refl same_trans same_new
abbrev pK9 : Program := PySem.Challenge.pw_onlyjoins_k49_whole_rules_texts
abbrev mro (B : String) : List Value := [.type B, .type "Exception", .type "BaseException", .type "object"]
/-- what is asked of an error's class and its maker, in one look -/
def exB (K : Frag) (C fI cda : Addr) (f qn : Str) (B newId initId : String) (bmB : List Value) : Bool :=
  excInitIn K C bmB newId && (excOver K C bmB && (hasDictIn K C && (decide (findIn K (.ref C) "__init__" = some (some (.ref fI))) && (isFn K (.ref fI) && (codeIn K (.ref cda) qn &&
  (decide (ks_superIn K C C "__init__" = some (some (.builtin initId))) && (decide (subIn K (.ref C) (.type B) = some true) && (decide (mroIn K C (.ref C) = some true) && (decide (nsIn K cStatics "thirdparty.any" = some none) &&
  (decide (findIn K (.ref C) "__setattr__" = some (some (.builtin "object.__setattr__"))) && decide (findIn K (.ref C) f = some none)))))))))))
theorem nf_of {K : Frag} {C fI cda : Addr} {f qn : Str} {B newId initId : String} {bmB : List Value} (b : exB K C fI cda f qn B newId initId bmB = true) : findIn K (.ref C) f = some none := by
  simp only [exB, Bool.and_eq_true, decide_eq_true_eq] at b
  exact b.2.2.2.2.2.2.2.2.2.2.2
/-- what is asked of an error's class, so that it is raised and read -/
def exR (K : Frag) (C : Addr) : Bool :=
  decide (findIn K (.ref C) "__getattribute__" = some (some (.builtin "BaseException.__getattribute__"))) && (decide (findIn K (.ref C) "__getattr__" = some none) &&
  (decide (subIn K (.ref C) (.type "BaseException") = some true) && (decide (typeIn K (.ref C) = some (.type "type")) && (hasDictIn K C && keepIn K (.ref C)))))
theorem exR_ok {K : Frag} {C : Addr} {f : Str} (h : exR K C = true) (n : findIn K (.ref C) f = some none) : ExR K C f ∧ keepIn K (.ref C) = true := by
  simp only [exR, Bool.and_eq_true, decide_eq_true_eq] at h
  obtain ⟨h1, h2, h3, h4, h5, h6⟩ := h
  exact ⟨⟨h1, h2, n, h3, h4, h5⟩, h6⟩
def exQ (K : Frag) (C : Addr) : Bool :=
  (clsIn K C).isSome && (hasDictIn K C && (decide (findIn K (.ref C) "__getattribute__" = some (some (.builtin "BaseException.__getattribute__"))) && (decide (findIn K (.ref C) "__getattr__" = some none) &&
  (decide (subIn K (.ref C) (.type "BaseException") = some true) && (decide (findIn K (.ref C) "__class__" = some (some (.builtin "object.__class__"))) &&
  (decide (specialIn K (.builtin "object.__class__") "__get__" = some (some (.builtin "getset_descriptor.__get__"))) && (decide (takesIn K (.builtin "object.__class__") = some true) && decide (mroIn K C (.type "object") = some true))))))))
theorem exQ_ok {K : Frag} {C : Addr} (h : exQ K C = true) : ExQ K C := by
  simp only [exQ, Bool.and_eq_true, decide_eq_true_eq] at h
  obtain ⟨h1, h2, h3, h4, h5, h6, h7, h8, h9⟩ := h
  exact ⟨h1, h2, h3, h4, h5, h6, h7, h8, h9⟩
/-- which of the classes are of which -/
def kits (K : Frag) (CJ CX : Addr) : Bool := decide (exmOne K (.ref CX) (.ref CJ) = some true) && decide (kitOne K (.ref CX) (.ref CX) = some true)
theorem terr {K : Frag} {mg : Str → Option Value} {CJ CX : Addr} (gJ : mg "JoinError" = some (.ref CJ)) (gX : mg "BadText" = some (.ref CX)) (qX : exQ K CX = true) (rX : ExR K CX "line")
    (nX : findIn K (.ref CX) "line" = some none) (k : kits K CJ CX = true) : TErr K mg CJ CX := by
  simp only [kits, Bool.and_eq_true, decide_eq_true_eq] at k
  exact ⟨gJ, gX, exQ_ok qX, rX, k.1, k.2⟩
theorem scopeOk : ∀ f ∈ (["place", "line"] : List Str), (iScope f).names.lookup ("self" : Str) = some .local ∧ (iScope f).names.lookup f = some .local ∧ (iScope f).names.lookup ("__class__" : Str) = some .free ∧
    (iScope f).names.lookup ("super" : Str) = some .globalImplicit ∧ (∀ x ∈ (iScope f).names, x.2 ≠ .cell) ∧ (f == ("__debug__" : Str)) = false ∧ ¬ ("self" : Str) = f := by decide +kernel
theorem ext_br {K : Frag} {mg : Str → Option Value} {C fI cda cc : Addr} {oc doc pm ct ccl cl : Value} {od an cdd cld : Option Addr} {osl ccs csl : Array (Option Value)} {vs : Array Value} {file : Str} {tf : Tok}
    (l1 : K.lookup fI = some ⟨oc, od, .func (ksFn "__init__" "BadRules.__init__" (defArgs (inClass (top 3) 0)) (defBody (inClass (top 3) 0)) (defScope (inClass (top 3) 0)) .none .none doc pm an (.ref cda) ct cc), osl⟩) (l2 : K.lookup cda = some ⟨ccl, cdd, .fields vs, ccs⟩) (h2 : vs[2]? = some (.str file tf)) (hf : ((pK9.main.file : Str) == file) = true)
    (l3 : K.lookup cc = some ⟨cl, cld, .cell (some (.ref C)), csl⟩) (b : exB K C fI cda "place" "BadRules.__init__" "ValueError" "ValueError.__new__" "ValueError.__init__" (mro "ValueError") = true) (gs : mg "super" = none) :
    ∃ fI fd qn B newId initId bmB, ExT pK9 K mg C fI fd "place" qn B newId initId bmB := by
  simp only [exB, Bool.and_eq_true, decide_eq_true_eq] at b
  obtain ⟨b1, b2, b3, b4, b5, b6, b7, b8, b9, b10, b11, b12⟩ := b
  obtain ⟨s0, s1, s2, s3, s4, s5, s6⟩ := scopeOk "place" (by decide +kernel)
  exact ⟨fI, ksFn "__init__" "BadRules.__init__" (defArgs (inClass (top 3) 0)) (defBody (inClass (top 3) 0)) (defScope (inClass (top 3) 0)) .none .none doc pm an (.ref cda) ct cc, "BadRules.__init__", "ValueError", "ValueError.__new__", "ValueError.__init__", mro "ValueError",
    { FB := PySem.F.excBase_ValueError, KF := kxs_ValueError, SF := PySem.F.store_ValueError, q := b1, ov := b2, hd := b3, iC := b4, isf := b5, sup := b7, sB := b8, sC := b9, op := b10, sa := b11, nf := b12, mgS := gs,
      fn := ⟨oc, doc, pm, ct, od, an, cda, cc, osl, _, _, _, _, _, _, _, _, _, _, _, _, _, by exact rfl, rfl, l1, b6, ⟨ccl, cdd, vs, ccs, file, tf, l2, h2, hf⟩, cl, cld, csl, l3⟩,
      tp := by decide +kernel, l0 := s0, l1 := s1, l2 := s2, l3 := s3, lc := s4, ld := s5, lf := s6,
      bp := fun s x v => .of_eq rfl, bk := fun s x v => .of_eq rfl }⟩
theorem ext_bx {K : Frag} {mg : Str → Option Value} {C fI cda cc : Addr} {oc doc pm ct ccl cl : Value} {od an cdd cld : Option Addr} {osl ccs csl : Array (Option Value)} {vs : Array Value} {file : Str} {tf : Tok}
    (l1 : K.lookup fI = some ⟨oc, od, .func (ksFn "__init__" "BadText.__init__" (defArgs (inClass (top 4) 0)) (defBody (inClass (top 4) 0)) (defScope (inClass (top 4) 0)) .none .none doc pm an (.ref cda) ct cc), osl⟩) (l2 : K.lookup cda = some ⟨ccl, cdd, .fields vs, ccs⟩) (h2 : vs[2]? = some (.str file tf)) (hf : ((pK9.main.file : Str) == file) = true)
    (l3 : K.lookup cc = some ⟨cl, cld, .cell (some (.ref C)), csl⟩) (b : exB K C fI cda "line" "BadText.__init__" "ValueError" "ValueError.__new__" "ValueError.__init__" (mro "ValueError") = true) (gs : mg "super" = none) :
    ∃ fI fd qn B newId initId bmB, ExT pK9 K mg C fI fd "line" qn B newId initId bmB := by
  simp only [exB, Bool.and_eq_true, decide_eq_true_eq] at b
  obtain ⟨b1, b2, b3, b4, b5, b6, b7, b8, b9, b10, b11, b12⟩ := b
  obtain ⟨s0, s1, s2, s3, s4, s5, s6⟩ := scopeOk "line" (by decide +kernel)
  exact ⟨fI, ksFn "__init__" "BadText.__init__" (defArgs (inClass (top 4) 0)) (defBody (inClass (top 4) 0)) (defScope (inClass (top 4) 0)) .none .none doc pm an (.ref cda) ct cc, "BadText.__init__", "ValueError", "ValueError.__new__", "ValueError.__init__", mro "ValueError",
    { FB := PySem.F.excBase_ValueError, KF := kxs_ValueError, SF := PySem.F.store_ValueError, q := b1, ov := b2, hd := b3, iC := b4, isf := b5, sup := b7, sB := b8, sC := b9, op := b10, sa := b11, nf := b12, mgS := gs,
      fn := ⟨oc, doc, pm, ct, od, an, cda, cc, osl, _, _, _, _, _, _, _, _, _, _, _, _, _, by exact rfl, rfl, l1, b6, ⟨ccl, cdd, vs, ccs, file, tf, l2, h2, hf⟩, cl, cld, csl, l3⟩,
      tp := by decide +kernel, l0 := s0, l1 := s1, l2 := s2, l3 := s3, lc := s4, ld := s5, lf := s6,
      bp := fun s x v => .of_eq rfl, bk := fun s x v => .of_eq rfl }⟩
/-- what is asked of the class Rules -/
def rulB (K : Frag) (C fI fEq : Addr) : Bool :=
  (plainGet K C Str.empty && (hasDictIn K C && (plainOver K C && decide (findIn K (.ref C) "__setattr__" = some (some (.builtin "object.__setattr__")))))) &&
  ((decide (findIn K (.ref C) "ends" = some none) && decide (findIn K (.ref C) "steps" = some none)) &&
  ((makesIn K C && (decide (findIn K (.ref C) "__init__" = some (some (.ref fI))) && (isFn K (.ref fI) && keepIn K (.ref C)))) &&
  ((decide (findIn K (.ref C) "__class__" = some (some (.builtin "object.__class__"))) && (decide (specialIn K (.builtin "object.__class__") "__get__" = some (some (.builtin "getset_descriptor.__get__"))) && (decide (takesIn K (.builtin "object.__class__") = some true) &&
   (decide (mroIn K C (.type "object") = some true) && decide (kitOne K (.ref C) (.ref C) = some true))))) &&
  ((decide (kitOne K (.type "tuple") (.ref C) = some false) && ((decide (findIn K (.ref C) "__eq__" = some (some (.ref fEq))) && (isFn K (.ref fEq) && decide (findIn K (.ref C) "__ne__" = some (some (.builtin "object.__ne__"))))) &&
   (notFirst K C (.ref C) && notFirst K C (.type "tuple")))) && decide (kitOne K (.ref C) (.type "str") = some false)))))
theorem rulB_ok {K : Frag} {C fI fEq : Addr} (h : rulB K C fI fEq = true) : Cls K C ∧ NoAttr K C "ends" ∧ NoAttr K C "steps" ∧ Mk K C fI ∧ RU.REq K C fEq ∧ kitOne K (.ref C) (.type "str") = some false := by
  simp only [rulB, Bool.and_eq_true, decide_eq_true_eq] at h
  obtain ⟨⟨a1, a2, a3, a4⟩, ⟨b1, b2⟩, ⟨c1, c2, c3, c4⟩, ⟨d1, d2, d3, d4, d5⟩, ⟨e1, ⟨f1, f2, f3⟩, g1, g2⟩, i1⟩ := h
  have cl : Cls K C := ⟨a1, a2, a3, a4⟩
  exact ⟨cl, b1, b2, ⟨c1, c2, c3, c4⟩, ⟨⟨cl, d1, d2, d3, d4, d5⟩, e1, ⟨f1, f2, f3, d4⟩, g1, g2⟩, i1⟩
theorem bI_0 {K : Frag} {f p0 : Addr} {fd : FuncData} (F : FunD K "__init__" "Rules.__init__" (defArgs RU.sRI) (defBody RU.sRI) (defScope RU.sRI) [V.ref p0] [] f fd) : Binds K fd ["self", "ends", "steps"] [] := by
  obtain ⟨ds, v, b⟩ := F.binds1 (ps := ["self", "ends", "steps"]) 3 1 (by simp) rfl fun T kV doc pm an cdv ct us its hu hi => match us, hu, its, hi with
    | [_, _, _], _, [_], _ => ⟨_, rfl, rfl⟩
  cases v
  exact b
end X48
set_option Elab.async false
set_option linter.all false
set_option maxRecDepth 100000
set_option maxHeartbeats 4000000
namespace Z49
open PySem L2 L2H DQ K01 LamX LamD RZ X48
open XH hiding same_refl same_trans same_new
abbrev pK : Program := PySem.Challenge.pw_onlyjoins_k49_whole_rules_texts
theorem all_mk {l : PySem.W.OpenLaw} {w : World} {K : PySem.W.Frag} {h : Heap} {mg : Str → Option Value} {fa PL cJ C p0 T0 fI fEq : Addr} (hp : l.prog = pK) (X : K.In h) (G : h.Ns mainGlobals mg) (hfa : mg "law" = some (.ref fa)) (km : K.lookup sysModules = none)
    (tL : h.get? PL = some { cls := .none, data := .fields #[] }) (nL : K.lookup PL = none)
    {fW : Addr} {odW anW : Option Addr} {slW : Array (Option Value)} {ocW kVW dcW pmW cdW ctW : Value}
    {fM : Addr} {odM anM : Option Addr} {slM : Array (Option Value)} {ocM kVM dcM pmM cdM ctM : Value}
    {fTr : Addr} {odTr anTr : Option Addr} {slTr : Array (Option Value)} {ocTr kVTr dcTr pmTr cdTr ctTr : Value}
    {fBo : Addr} {odBo anBo : Option Addr} {slBo : Array (Option Value)} {ocBo kVBo dcBo pmBo cdBo ctBo : Value}
    {fSh : Addr} {odSh anSh : Option Addr} {slSh : Array (Option Value)} {ocSh kVSh dcSh pmSh cdSh ctSh : Value}
    {fCt : Addr} {odCt anCt : Option Addr} {slCt : Array (Option Value)} {ocCt kVCt dcCt pmCt cdCt ctCt : Value}
    {fNd : Addr} {odNd anNd : Option Addr} {slNd : Array (Option Value)} {ocNd kVNd dcNd pmNd cdNd ctNd : Value}
    {fP : Addr} {odP anP : Option Addr} {slP : Array (Option Value)} {ocP kVP dcP pmP cdP ctP : Value}
    {fCl : Addr} {odCl anCl : Option Addr} {slCl : Array (Option Value)} {ocCl kVCl dcCl pmCl cdCl ctCl : Value}
    {fRo : Addr} {odRo anRo : Option Addr} {slRo : Array (Option Value)} {ocRo kVRo dcRo pmRo cdRo ctRo : Value}
    {fRX : Addr} {odRX anRX : Option Addr} {slRX : Array (Option Value)} {ocRX kVRX dcRX pmRX cdRX ctRX : Value}
    {fRR : Addr} {odRR anRR : Option Addr} {slRR : Array (Option Value)} {ocRR kVRR dcRR pmRR cdRR ctRR : Value}
    {fNT : Addr} {odNT anNT : Option Addr} {slNT : Array (Option Value)} {ocNT kVNT dcNT pmNT cdNT ctNT : Value}
    {fNo : Addr} {odNo anNo : Option Addr} {slNo : Array (Option Value)} {ocNo kVNo dcNo pmNo cdNo ctNo : Value}
    {fTo : Addr} {odTo anTo : Option Addr} {slTo : Array (Option Value)} {ocTo kVTo dcTo pmTo cdTo ctTo : Value}
    {fSe : Addr} {odSe anSe : Option Addr} {slSe : Array (Option Value)} {ocSe kVSe dcSe pmSe cdSe ctSe : Value}
    {fSM : Addr} {odSM anSM : Option Addr} {slSM : Array (Option Value)} {ocSM kVSM dcSM pmSM cdSM ctSM : Value}
    {fNB : Addr} {odNB anNB : Option Addr} {slNB : Array (Option Value)} {ocNB kVNB dcNB pmNB cdNB ctNB : Value}
    {fB : Addr} {odB anB : Option Addr} {slB : Array (Option Value)} {ocB kVB dcB pmB cdB ctB : Value}
    {fN : Addr} {odN anN : Option Addr} {slN : Array (Option Value)} {ocN kVN dcN pmN cdN ctN : Value}
    {fNm : Addr} {odNm anNm : Option Addr} {slNm : Array (Option Value)} {ocNm kVNm dcNm pmNm cdNm ctNm : Value}
    {fT : Addr} {odT anT : Option Addr} {slT : Array (Option Value)} {ocT kVT dcT pmT cdT ctT : Value}
    {fY : Addr} {odY anY : Option Addr} {slY : Array (Option Value)} {ocY kVY dcY pmY cdY ctY : Value}
    {fS : Addr} {odS anS : Option Addr} {slS : Array (Option Value)} {ocS kVS dcS pmS cdS ctS : Value}
    {fLC : Addr} {odLC anLC : Option Addr} {slLC : Array (Option Value)} {ocLC kVLC dcLC pmLC cdLC ctLC : Value}
    {fTx : Addr} {odTx anTx : Option Addr} {slTx : Array (Option Value)} {ocTx kVTx dcTx pmTx cdTx ctTx : Value}
    {fSl : Addr} {odSl anSl : Option Addr} {slSl : Array (Option Value)} {ocSl kVSl dcSl pmSl cdSl ctSl : Value}
    {fLN : Addr} {odLN anLN : Option Addr} {slLN : Array (Option Value)} {ocLN kVLN dcLN pmLN cdLN ctLN : Value}
    {fPa : Addr} {odPa anPa : Option Addr} {slPa : Array (Option Value)} {ocPa kVPa dcPa pmPa cdPa ctPa : Value}
    {fRd : Addr} {odRd anRd : Option Addr} {slRd : Array (Option Value)} {ocRd kVRd dcRd pmRd cdRd ctRd : Value}
    {fRn : Addr} {odRn anRn : Option Addr} {slRn : Array (Option Value)} {ocRn kVRn dcRn pmRn cdRn ctRn : Value}
    {fNr : Addr} {odNr anNr : Option Addr} {slNr : Array (Option Value)} {ocNr kVNr dcNr pmNr cdNr ctNr : Value}
    {fTd : Addr} {odTd anTd : Option Addr} {slTd : Array (Option Value)} {ocTd kVTd dcTd pmTd cdTd ctTd : Value}
    {fDu : Addr} {odDu anDu : Option Addr} {slDu : Array (Option Value)} {ocDu kVDu dcDu pmDu cdDu ctDu : Value}
    {fLi : Addr} {odLi anLi : Option Addr} {slLi : Array (Option Value)} {ocLi kVLi dcLi pmLi cdLi ctLi : Value}
    {fL : Addr} {odL anL : Option Addr} {slL : Array (Option Value)} {ocL kVL dcL pmL ctL : Value} {cdL : Addr}
    {odI anI odp odt odEq anEq : Option Addr} {slI slp slt slEq : Array (Option Value)} {ocI kVI dcI pmI cdI ctI oct ocEq kVEq dcEq pmEq cdEq ctEq : Value} {np nt : Nat}
    {c1 f1 d1 e1 : Addr} {oc1 doc1 pm1 ct1 ccl1 cl1 : Value} {od1 an1 cdd1 cld1 : Option Addr} {osl1 ccs1 csl1 : Array (Option Value)} {vs1 : Array Value} {fil1 : Str} {tf1 : Tok}
    {c2 f2 d2 e2 : Addr} {oc2 doc2 pm2 ct2 ccl2 cl2 : Value} {od2 an2 cdd2 cld2 : Option Addr} {osl2 ccs2 csl2 : Array (Option Value)} {vs2 : Array Value} {fil2 : Str} {tf2 : Tok}
    {t8 tm3 tb3 tn6 tl3 tca te3 ts3 tew tsw : Tok}
    (aW : PySem.W.nsIn K mainGlobals "is_word" = some (some (.ref fW)))
    (lW : K.lookup fW = some ⟨ocW, odW, .func (PySem.W.fnOf "is_word" "is_word" (defArgs sWord) (defBody sWord) (defScope sWord) .none kVW dcW pmW anW cdW ctW), slW⟩)
    (cW : PySem.W.codeIn K cdW "is_word" = true)
    (kW : PySem.W.keepIn K (.ref fW) = true)
    (aM : PySem.W.nsIn K mainGlobals "are_words" = some (some (.ref fM)))
    (lM : K.lookup fM = some ⟨ocM, odM, .func (PySem.W.fnOf "are_words" "are_words" (defArgs sMarks) (defBody sMarks) (defScope sMarks) .none kVM dcM pmM anM cdM ctM), slM⟩)
    (cM : PySem.W.codeIn K cdM "are_words" = true)
    (kM : PySem.W.keepIn K (.ref fM) = true)
    (aTr : PySem.W.nsIn K mainGlobals "is_tree" = some (some (.ref fTr)))
    (lTr : K.lookup fTr = some ⟨ocTr, odTr, .func (PySem.W.fnOf "is_tree" "is_tree" (defArgs sTr) (defBody sTr) (defScope sTr) .none kVTr dcTr pmTr anTr cdTr ctTr), slTr⟩)
    (cTr : PySem.W.codeIn K cdTr "is_tree" = true)
    (kTr : PySem.W.keepIn K (.ref fTr) = true)
    (aBo : PySem.W.nsIn K mainGlobals "is_body" = some (some (.ref fBo)))
    (lBo : K.lookup fBo = some ⟨ocBo, odBo, .func (PySem.W.fnOf "is_body" "is_body" (defArgs sBo) (defBody sBo) (defScope sBo) .none kVBo dcBo pmBo anBo cdBo ctBo), slBo⟩)
    (cBo : PySem.W.codeIn K cdBo "is_body" = true)
    (kBo : PySem.W.keepIn K (.ref fBo) = true)
    (aSh : PySem.W.nsIn K mainGlobals "_is_shape" = some (some (.ref fSh)))
    (lSh : K.lookup fSh = some ⟨ocSh, odSh, .func (PySem.W.fnOf "_is_shape" "_is_shape" (defArgs sShape) (defBody sShape) (defScope sShape) .none kVSh dcSh pmSh anSh cdSh ctSh), slSh⟩)
    (cSh : PySem.W.codeIn K cdSh "_is_shape" = true)
    (kSh : PySem.W.keepIn K (.ref fSh) = true)
    (aCt : PySem.W.nsIn K mainGlobals "_counts" = some (some (.ref fCt)))
    (lCt : K.lookup fCt = some ⟨ocCt, odCt, .func (PySem.W.fnOf "_counts" "_counts" (defArgs sCount) (defBody sCount) (defScope sCount) .none kVCt dcCt pmCt anCt cdCt ctCt), slCt⟩)
    (cCt : PySem.W.codeIn K cdCt "_counts" = true)
    (kCt : PySem.W.keepIn K (.ref fCt) = true)
    (aNd : PySem.W.nsIn K mainGlobals "_is_node" = some (some (.ref fNd)))
    (lNd : K.lookup fNd = some ⟨ocNd, odNd, .func (PySem.W.fnOf "_is_node" "_is_node" (defArgs sNode) (defBody sNode) (defScope sNode) .none kVNd dcNd pmNd anNd cdNd ctNd), slNd⟩)
    (cNd : PySem.W.codeIn K cdNd "_is_node" = true)
    (kNd : PySem.W.keepIn K (.ref fNd) = true)
    (aP : PySem.W.nsIn K mainGlobals "_is_pair" = some (some (.ref fP)))
    (lP : K.lookup fP = some ⟨ocP, odP, .func (PySem.W.fnOf "_is_pair" "_is_pair" (defArgs sPair) (defBody sPair) (defScope sPair) .none kVP dcP pmP anP cdP ctP), slP⟩)
    (cP : PySem.W.codeIn K cdP "_is_pair" = true)
    (kP : PySem.W.keepIn K (.ref fP) = true)
    (aCl : PySem.W.nsIn K mainGlobals "_is_call" = some (some (.ref fCl)))
    (lCl : K.lookup fCl = some ⟨ocCl, odCl, .func (PySem.W.fnOf "_is_call" "_is_call" (defArgs sCall) (defBody sCall) (defScope sCall) .none kVCl dcCl pmCl anCl cdCl ctCl), slCl⟩)
    (cCl : PySem.W.codeIn K cdCl "_is_call" = true)
    (kCl : PySem.W.keepIn K (.ref fCl) = true)
    (aRo : PySem.W.nsIn K mainGlobals "_is_row" = some (some (.ref fRo)))
    (lRo : K.lookup fRo = some ⟨ocRo, odRo, .func (PySem.W.fnOf "_is_row" "_is_row" (defArgs sRow) (defBody sRow) (defScope sRow) .none kVRo dcRo pmRo anRo cdRo ctRo), slRo⟩)
    (cRo : PySem.W.codeIn K cdRo "_is_row" = true)
    (kRo : PySem.W.keepIn K (.ref fRo) = true)
    (aRX : PySem.W.nsIn K mainGlobals "rules_text" = some (some (.ref fRX)))
    (lRX : K.lookup fRX = some ⟨ocRX, odRX, .func (PySem.W.fnOf "rules_text" "rules_text" (defArgs sRTx) (defBody sRTx) (defScope sRTx) .none kVRX dcRX pmRX anRX cdRX ctRX), slRX⟩)
    (cRX : PySem.W.codeIn K cdRX "rules_text" = true)
    (kRX : PySem.W.keepIn K (.ref fRX) = true)
    (aRR : PySem.W.nsIn K mainGlobals "read_rules" = some (some (.ref fRR)))
    (lRR : K.lookup fRR = some ⟨ocRR, odRR, .func (PySem.W.fnOf "read_rules" "read_rules" (defArgs sRRu) (defBody sRRu) (defScope sRRu) .none kVRR dcRR pmRR anRR cdRR ctRR), slRR⟩)
    (cRR : PySem.W.codeIn K cdRR "read_rules" = true)
    (kRR : PySem.W.keepIn K (.ref fRR) = true)
    (aNT : PySem.W.nsIn K mainGlobals "_need_text" = some (some (.ref fNT)))
    (lNT : K.lookup fNT = some ⟨ocNT, odNT, .func (PySem.W.fnOf "_need_text" "_need_text" (defArgs sNT) (defBody sNT) (defScope sNT) .none kVNT dcNT pmNT anNT cdNT ctNT), slNT⟩)
    (cNT : PySem.W.codeIn K cdNT "_need_text" = true)
    (kNT : PySem.W.keepIn K (.ref fNT) = true)
    (aNo : PySem.W.nsIn K mainGlobals "_node_text" = some (some (.ref fNo)))
    (lNo : K.lookup fNo = some ⟨ocNo, odNo, .func (PySem.W.fnOf "_node_text" "_node_text" (defArgs sNoT) (defBody sNoT) (defScope sNoT) .none kVNo dcNo pmNo anNo cdNo ctNo), slNo⟩)
    (cNo : PySem.W.codeIn K cdNo "_node_text" = true)
    (kNo : PySem.W.keepIn K (.ref fNo) = true)
    (aTo : PySem.W.nsIn K mainGlobals "_told_tree" = some (some (.ref fTo)))
    (lTo : K.lookup fTo = some ⟨ocTo, odTo, .func (PySem.W.fnOf "_told_tree" "_told_tree" (defArgs sToT) (defBody sToT) (defScope sToT) .none kVTo dcTo pmTo anTo cdTo ctTo), slTo⟩)
    (cTo : PySem.W.codeIn K cdTo "_told_tree" = true)
    (kTo : PySem.W.keepIn K (.ref fTo) = true)
    (aSe : PySem.W.nsIn K mainGlobals "_seeming_node" = some (some (.ref fSe)))
    (lSe : K.lookup fSe = some ⟨ocSe, odSe, .func (PySem.W.fnOf "_seeming_node" "_seeming_node" (defArgs sSeN) (defBody sSeN) (defScope sSeN) .none kVSe dcSe pmSe anSe cdSe ctSe), slSe⟩)
    (cSe : PySem.W.codeIn K cdSe "_seeming_node" = true)
    (kSe : PySem.W.keepIn K (.ref fSe) = true)
    (aSM : PySem.W.nsIn K mainGlobals "_seeming_marks" = some (some (.ref fSM)))
    (lSM : K.lookup fSM = some ⟨ocSM, odSM, .func (PySem.W.fnOf "_seeming_marks" "_seeming_marks" (defArgs sSeM) (defBody sSeM) (defScope sSeM) .none kVSM dcSM pmSM anSM cdSM ctSM), slSM⟩)
    (cSM : PySem.W.codeIn K cdSM "_seeming_marks" = true)
    (kSM : PySem.W.keepIn K (.ref fSM) = true)
    (aNB : PySem.W.nsIn K mainGlobals "_next_bound" = some (some (.ref fNB)))
    (lNB : K.lookup fNB = some ⟨ocNB, odNB, .func (PySem.W.fnOf "_next_bound" "_next_bound" (defArgs sNB) (defBody sNB) (defScope sNB) .none kVNB dcNB pmNB anNB cdNB ctNB), slNB⟩)
    (cNB : PySem.W.codeIn K cdNB "_next_bound" = true)
    (kNB : PySem.W.keepIn K (.ref fNB) = true)
    (aB : PySem.W.nsIn K mainGlobals "_law_begun" = some (some (.ref fB)))
    (lB : K.lookup fB = some ⟨ocB, odB, .func (PySem.W.fnOf "_law_begun" "_law_begun" (defArgs sBeg) (defBody sBeg) (defScope sBeg) .none kVB dcB pmB anB cdB ctB), slB⟩)
    (cB : PySem.W.codeIn K cdB "_law_begun" = true)
    (kB : PySem.W.keepIn K (.ref fB) = true)
    (aN : PySem.W.nsIn K mainGlobals "_law_next" = some (some (.ref fN)))
    (lN : K.lookup fN = some ⟨ocN, odN, .func (PySem.W.fnOf "_law_next" "_law_next" (defArgs sNext) (defBody sNext) (defScope sNext) .none kVN dcN pmN anN cdN ctN), slN⟩)
    (cN : PySem.W.codeIn K cdN "_law_next" = true)
    (kN : PySem.W.keepIn K (.ref fN) = true)
    (aNm : PySem.W.nsIn K mainGlobals "_law_is_name" = some (some (.ref fNm)))
    (lNm : K.lookup fNm = some ⟨ocNm, odNm, .func (PySem.W.fnOf "_law_is_name" "_law_is_name" (defArgs sName) (defBody sName) (defScope sName) .none kVNm dcNm pmNm anNm cdNm ctNm), slNm⟩)
    (cNm : PySem.W.codeIn K cdNm "_law_is_name" = true)
    (kNm : PySem.W.keepIn K (.ref fNm) = true)
    (aT : PySem.W.nsIn K mainGlobals "_law_tree" = some (some (.ref fT)))
    (lT : K.lookup fT = some ⟨ocT, odT, .func (PySem.W.fnOf "_law_tree" "_law_tree" (defArgs sTree) (defBody sTree) (defScope sTree) .none kVT dcT pmT anT cdT ctT), slT⟩)
    (cT : PySem.W.codeIn K cdT "_law_tree" = true)
    (kT : PySem.W.keepIn K (.ref fT) = true)
    (aY : PySem.W.nsIn K mainGlobals "_law_body" = some (some (.ref fY)))
    (lY : K.lookup fY = some ⟨ocY, odY, .func (PySem.W.fnOf "_law_body" "_law_body" (defArgs sBody) (defBody sBody) (defScope sBody) .none kVY dcY pmY anY cdY ctY), slY⟩)
    (cY : PySem.W.codeIn K cdY "_law_body" = true)
    (kY : PySem.W.keepIn K (.ref fY) = true)
    (aS : PySem.W.nsIn K mainGlobals "_law_ends_and_steps" = some (some (.ref fS)))
    (lS : K.lookup fS = some ⟨ocS, odS, .func (PySem.W.fnOf "_law_ends_and_steps" "_law_ends_and_steps" (defArgs sEas) (defBody sEas) (defScope sEas) .none kVS dcS pmS anS cdS ctS), slS⟩)
    (cS : PySem.W.codeIn K cdS "_law_ends_and_steps" = true)
    (kS : PySem.W.keepIn K (.ref fS) = true)
    (aLC : PySem.W.nsIn K mainGlobals "_law_call_level" = some (some (.ref fLC)))
    (lLC : K.lookup fLC = some ⟨ocLC, odLC, .func (PySem.W.fnOf "_law_call_level" "_law_call_level" (defArgs sLCL) (defBody sLCL) (defScope sLCL) .none kVLC dcLC pmLC anLC cdLC ctLC), slLC⟩)
    (cLC : PySem.W.codeIn K cdLC "_law_call_level" = true)
    (kLC : PySem.W.keepIn K (.ref fLC) = true)
    (aTx : PySem.W.nsIn K mainGlobals "_law_text_of" = some (some (.ref fTx)))
    (lTx : K.lookup fTx = some ⟨ocTx, odTx, .func (PySem.W.fnOf "_law_text_of" "_law_text_of" (defArgs sTextOf) (defBody sTextOf) (defScope sTextOf) .none kVTx dcTx pmTx anTx cdTx ctTx), slTx⟩)
    (cTx : PySem.W.codeIn K cdTx "_law_text_of" = true)
    (kTx : PySem.W.keepIn K (.ref fTx) = true)
    (aSl : PySem.W.nsIn K mainGlobals "_law_is_small" = some (some (.ref fSl)))
    (lSl : K.lookup fSl = some ⟨ocSl, odSl, .func (PySem.W.fnOf "_law_is_small" "_law_is_small" (defArgs sSmall) (defBody sSmall) (defScope sSmall) .none kVSl dcSl pmSl anSl cdSl ctSl), slSl⟩)
    (cSl : PySem.W.codeIn K cdSl "_law_is_small" = true)
    (kSl : PySem.W.keepIn K (.ref fSl) = true)
    (aLN : PySem.W.nsIn K mainGlobals "_law_is_node" = some (some (.ref fLN)))
    (lLN : K.lookup fLN = some ⟨ocLN, odLN, .func (PySem.W.fnOf "_law_is_node" "_law_is_node" (defArgs sLNode) (defBody sLNode) (defScope sLNode) .none kVLN dcLN pmLN anLN cdLN ctLN), slLN⟩)
    (cLN : PySem.W.codeIn K cdLN "_law_is_node" = true)
    (kLN : PySem.W.keepIn K (.ref fLN) = true)
    (aPa : PySem.W.nsIn K mainGlobals "_law_parts" = some (some (.ref fPa)))
    (lPa : K.lookup fPa = some ⟨ocPa, odPa, .func (PySem.W.fnOf "_law_parts" "_law_parts" (defArgs sParts) (defBody sParts) (defScope sParts) .none kVPa dcPa pmPa anPa cdPa ctPa), slPa⟩)
    (cPa : PySem.W.codeIn K cdPa "_law_parts" = true)
    (kPa : PySem.W.keepIn K (.ref fPa) = true)
    (aRd : PySem.W.nsIn K mainGlobals "_law_read" = some (some (.ref fRd)))
    (lRd : K.lookup fRd = some ⟨ocRd, odRd, .func (PySem.W.fnOf "_law_read" "_law_read" (defArgs sRead) (defBody sRead) (defScope sRead) .none kVRd dcRd pmRd anRd cdRd ctRd), slRd⟩)
    (cRd : PySem.W.codeIn K cdRd "_law_read" = true)
    (kRd : PySem.W.keepIn K (.ref fRd) = true)
    (aRn : PySem.W.nsIn K mainGlobals "_law_read_node" = some (some (.ref fRn)))
    (lRn : K.lookup fRn = some ⟨ocRn, odRn, .func (PySem.W.fnOf "_law_read_node" "_law_read_node" (defArgs sRNode) (defBody sRNode) (defScope sRNode) .none kVRn dcRn pmRn anRn cdRn ctRn), slRn⟩)
    (cRn : PySem.W.codeIn K cdRn "_law_read_node" = true)
    (kRn : PySem.W.keepIn K (.ref fRn) = true)
    (aNr : PySem.W.nsIn K mainGlobals "_law_texts_near" = some (some (.ref fNr)))
    (lNr : K.lookup fNr = some ⟨ocNr, odNr, .func (PySem.W.fnOf "_law_texts_near" "_law_texts_near" (defArgs sNear) (defBody sNear) (defScope sNear) .none kVNr dcNr pmNr anNr cdNr ctNr), slNr⟩)
    (cNr : PySem.W.codeIn K cdNr "_law_texts_near" = true)
    (kNr : PySem.W.keepIn K (.ref fNr) = true)
    (aTd : PySem.W.nsIn K mainGlobals "_law_told" = some (some (.ref fTd)))
    (lTd : K.lookup fTd = some ⟨ocTd, odTd, .func (PySem.W.fnOf "_law_told" "_law_told" (defArgs sTold) (defBody sTold) (defScope sTold) .none kVTd dcTd pmTd anTd cdTd ctTd), slTd⟩)
    (cTd : PySem.W.codeIn K cdTd "_law_told" = true)
    (kTd : PySem.W.keepIn K (.ref fTd) = true)
    (aDu : PySem.W.nsIn K mainGlobals "_law_due" = some (some (.ref fDu)))
    (lDu : K.lookup fDu = some ⟨ocDu, odDu, .func (PySem.W.fnOf "_law_due" "_law_due" (defArgs sDue) (defBody sDue) (defScope sDue) .none kVDu dcDu pmDu anDu cdDu ctDu), slDu⟩)
    (cDu : PySem.W.codeIn K cdDu "_law_due" = true)
    (kDu : PySem.W.keepIn K (.ref fDu) = true)
    (aLi : PySem.W.nsIn K mainGlobals "_law_lines_near" = some (some (.ref fLi)))
    (lLi : K.lookup fLi = some ⟨ocLi, odLi, .func (PySem.W.fnOf "_law_lines_near" "_law_lines_near" (defArgs sLin) (defBody sLin) (defScope sLin) .none kVLi dcLi pmLi anLi cdLi ctLi), slLi⟩)
    (cLi : PySem.W.codeIn K cdLi "_law_lines_near" = true)
    (kLi : PySem.W.keepIn K (.ref fLi) = true)
    (aL : PySem.W.nsIn K mainGlobals "law" = some (some (.ref fL)))
    (lL : K.lookup fL = some ⟨ocL, odL, .func (PySem.W.fnOf "law" "law" (defArgs sLaw) (defBody sLaw) (defScope sLaw) .none kVL dcL pmL anL (.ref cdL) ctL), slL⟩)
    (cL : PySem.W.codeIn K (.ref cdL) "law" = true)
    (kL : PySem.W.keepIn K (.ref fL) = true)
    (hC : PySem.W.nsIn K mainGlobals "Rules" = some (some (.ref C)))
    (aI : PySem.W.findIn K (.ref C) "__init__" = some (some (.ref fI)))
    (lI : K.lookup fI = some ⟨ocI, odI, .func (PySem.W.fnOf "__init__" "Rules.__init__" (defArgs RU.sRI) (defBody RU.sRI) (defScope RU.sRI) (.ref T0) kVI dcI pmI anI cdI ctI), slI⟩)
    (cI : PySem.W.codeIn K cdI "Rules.__init__" = true)
    (kI : PySem.W.keepIn K (.ref fI) = true)
    (lT0d : K.lookup T0 = some ⟨oct, odt, .seq #[.ref p0] nt, slt⟩)
    (lpd : K.lookup p0 = some ⟨.type "tuple", odp, .seq #[] np, slp⟩)
    (aEq : PySem.W.findIn K (.ref C) "__eq__" = some (some (.ref fEq)))
    (lEq : K.lookup fEq = some ⟨ocEq, odEq, .func (PySem.W.fnOf "__eq__" "Rules.__eq__" (defArgs RU.sREq) (defBody RU.sREq) (defScope RU.sREq) .none kVEq dcEq pmEq anEq cdEq ctEq), slEq⟩)
    (cEq : PySem.W.codeIn K cdEq "Rules.__eq__" = true)
    (kEq : PySem.W.keepIn K (.ref fEq) = true)
    (bC : rulB K C fI fEq = true)
    (a1 : PySem.W.nsIn K mainGlobals "BadRules" = some (some (.ref c1)))
    (i1 : PySem.W.findIn K (.ref c1) "__init__" = some (some (.ref f1)))
    (l1 : K.lookup f1 = some ⟨oc1, od1, .func (PySem.W.ksFn "__init__" "BadRules.__init__" (defArgs (inClass (top 3) 0)) (defBody (inClass (top 3) 0)) (defScope (inClass (top 3) 0)) .none .none doc1 pm1 an1 (.ref d1) ct1 e1), osl1⟩)
    (m1 : K.lookup d1 = some ⟨ccl1, cdd1, .fields vs1, ccs1⟩)
    (v1 : vs1[2]? = some (.str fil1 tf1))
    (h1 : ((pK.main.file : Str) == fil1) = true)
    (n1 : K.lookup e1 = some ⟨cl1, cld1, .cell (some (.ref c1)), csl1⟩)
    (b1 : exB K c1 f1 d1 "place" "BadRules.__init__" "ValueError" "ValueError.__new__" "ValueError.__init__" (mro "ValueError") = true)
    (q1 : exR K c1 = true)
    (x1 : exQ K c1 = true)
    (a2 : PySem.W.nsIn K mainGlobals "BadText" = some (some (.ref c2)))
    (i2 : PySem.W.findIn K (.ref c2) "__init__" = some (some (.ref f2)))
    (l2 : K.lookup f2 = some ⟨oc2, od2, .func (PySem.W.ksFn "__init__" "BadText.__init__" (defArgs (inClass (top 4) 0)) (defBody (inClass (top 4) 0)) (defScope (inClass (top 4) 0)) .none .none doc2 pm2 an2 (.ref d2) ct2 e2), osl2⟩)
    (m2 : K.lookup d2 = some ⟨ccl2, cdd2, .fields vs2, ccs2⟩)
    (v2 : vs2[2]? = some (.str fil2 tf2))
    (h2 : ((pK.main.file : Str) == fil2) = true)
    (n2 : K.lookup e2 = some ⟨cl2, cld2, .cell (some (.ref c2)), csl2⟩)
    (b2 : exB K c2 f2 d2 "line" "BadText.__init__" "ValueError" "ValueError.__new__" "ValueError.__init__" (mro "ValueError") = true)
    (q2 : exR K c2 = true)
    (x2 : exQ K c2 = true)
    (aJ : PySem.W.nsIn K mainGlobals "JoinError" = some (some (.ref cJ)))
    (kk : kits K cJ c2 = true)
    (hL : PySem.W.codeHdIn K cdL PL = true)
    (y8 : PySem.W.nsIn K mainGlobals "LONGEST_WORD" = some (some (.int 8 t8)))
    (ym3 : PySem.W.nsIn K mainGlobals "MOST_MARKS" = some (some (.int 3 tm3)))
    (yb3 : PySem.W.nsIn K mainGlobals "MOST_BRANCHES" = some (some (.int 3 tb3)))
    (yn6 : PySem.W.nsIn K mainGlobals "MOST_NODES" = some (some (.int 6 tn6)))
    (yl3 : PySem.W.nsIn K mainGlobals "MOST_LEVEL" = some (some (.int 3 tl3)))
    (yca : PySem.W.nsIn K mainGlobals "CALL" = some (some (.str "call" tca)))
    (ye3 : PySem.W.nsIn K mainGlobals "MOST_ENDS" = some (some (.int 3 te3)))
    (ys3 : PySem.W.nsIn K mainGlobals "MOST_STEPS" = some (some (.int 3 ts3)))
    (yew : PySem.W.nsIn K mainGlobals "END_WORD" = some (some (.str "end" tew)))
    (ysw : PySem.W.nsIn K mainGlobals "STEP_WORD" = some (some (.str "step" tsw)))
    (z0 : PySem.W.nsIn K mainGlobals "isinstance" = some none)
    (z1 : PySem.W.nsIn K mainGlobals "str" = some none)
    (z2 : PySem.W.nsIn K mainGlobals "tuple" = some none)
    (z3 : PySem.W.nsIn K mainGlobals "len" = some none)
    (z4 : PySem.W.nsIn K mainGlobals "all" = some none)
    (z5 : PySem.W.nsIn K mainGlobals "zip" = some none)
    (z6 : PySem.W.nsIn K mainGlobals "list" = some none)
    (z7 : PySem.W.nsIn K mainGlobals "int" = some none)
    (z8 : PySem.W.nsIn K mainGlobals "bool" = some none)
    (z9 : PySem.W.nsIn K mainGlobals "range" = some none)
    (z10 : PySem.W.nsIn K mainGlobals "min" = some none)
    (z11 : PySem.W.nsIn K mainGlobals "repr" = some none)
    (z12 : PySem.W.nsIn K mainGlobals "super" = some none)
    (z13 : PySem.W.nsIn K mainGlobals "sorted" = some none)
    (z14 : PySem.W.nsIn K mainGlobals "set" = some none)
    (z15 : PySem.W.nsIn K mainGlobals "enumerate" = some none) :
    LawAtT l w 141 63 "script" mg fa h := by
  have e := hfa.symm.trans (PySem.W.mg_of X G aL)
  cases e
  have no : ∀ {n : Str}, PySem.W.nsIn K mainGlobals n = some none → mg n = none := fun {n} z => PySem.W.mg_none_of X G z
  have FW := fun_mk (st := sWord) lW cW kW
  have BW := FW.binds (ps := ["thing"]) fun _ _ _ _ _ _ us hl => match us, hl with | [_], _ => rfl
  have gW : mg "is_word" = some (.ref fW) := PySem.W.mg_of X G aW
  have FM := fun_mk (st := sMarks) lM cM kM
  have BM := FM.binds (ps := ["thing", "least", "most"]) fun _ _ _ _ _ _ us hl => match us, hl with | [_, _, _], _ => rfl
  have gM : mg "are_words" = some (.ref fM) := PySem.W.mg_of X G aM
  have FTr := fun_mk (st := sTr) lTr cTr kTr
  have BTr := FTr.binds (ps := ["thing"]) fun _ _ _ _ _ _ us hl => match us, hl with | [_], _ => rfl
  have gTr : mg "is_tree" = some (.ref fTr) := PySem.W.mg_of X G aTr
  have FBo := fun_mk (st := sBo) lBo cBo kBo
  have BBo := FBo.binds (ps := ["thing"]) fun _ _ _ _ _ _ us hl => match us, hl with | [_], _ => rfl
  have gBo : mg "is_body" = some (.ref fBo) := PySem.W.mg_of X G aBo
  have FSh := fun_mk (st := sShape) lSh cSh kSh
  have BSh := FSh.binds (ps := ["thing", "calls"]) fun _ _ _ _ _ _ us hl => match us, hl with | [_, _], _ => rfl
  have gSh : mg "_is_shape" = some (.ref fSh) := PySem.W.mg_of X G aSh
  have FCt := fun_mk (st := sCount) lCt cCt kCt
  have BCt := FCt.binds (ps := ["thing", "level"]) fun _ _ _ _ _ _ us hl => match us, hl with | [_, _], _ => rfl
  have gCt : mg "_counts" = some (.ref fCt) := PySem.W.mg_of X G aCt
  have FNd := fun_mk (st := sNode) lNd cNd kNd
  have BNd := FNd.binds (ps := ["thing", "level"]) fun _ _ _ _ _ _ us hl => match us, hl with | [_, _], _ => rfl
  have gNd : mg "_is_node" = some (.ref fNd) := PySem.W.mg_of X G aNd
  have FP := fun_mk (st := sPair) lP cP kP
  have BP := FP.binds (ps := ["thing"]) fun _ _ _ _ _ _ us hl => match us, hl with | [_], _ => rfl
  have gP : mg "_is_pair" = some (.ref fP) := PySem.W.mg_of X G aP
  have FCl := fun_mk (st := sCall) lCl cCl kCl
  have BCl := FCl.binds (ps := ["thing"]) fun _ _ _ _ _ _ us hl => match us, hl with | [_], _ => rfl
  have gCl : mg "_is_call" = some (.ref fCl) := PySem.W.mg_of X G aCl
  have FRo := fun_mk (st := sRow) lRo cRo kRo
  have BRo := FRo.binds (ps := ["thing", "least", "most"]) fun _ _ _ _ _ _ us hl => match us, hl with | [_, _, _], _ => rfl
  have gRo : mg "_is_row" = some (.ref fRo) := PySem.W.mg_of X G aRo
  have FRX := fun_mk (st := sRTx) lRX cRX kRX
  have BRX := FRX.binds (ps := ["rules"]) fun _ _ _ _ _ _ us hl => match us, hl with | [_], _ => rfl
  have gRX : mg "rules_text" = some (.ref fRX) := PySem.W.mg_of X G aRX
  have FRR := fun_mk (st := sRRu) lRR cRR kRR
  have BRR := FRR.binds (ps := ["text"]) fun _ _ _ _ _ _ us hl => match us, hl with | [_], _ => rfl
  have gRR : mg "read_rules" = some (.ref fRR) := PySem.W.mg_of X G aRR
  have FNT := fun_mk (st := sNT) lNT cNT kNT
  have BNT := FNT.binds (ps := ["thing"]) fun _ _ _ _ _ _ us hl => match us, hl with | [_], _ => rfl
  have gNT : mg "_need_text" = some (.ref fNT) := PySem.W.mg_of X G aNT
  have FNo := fun_mk (st := sNoT) lNo cNo kNo
  have BNo := FNo.binds (ps := ["node"]) fun _ _ _ _ _ _ us hl => match us, hl with | [_], _ => rfl
  have gNo : mg "_node_text" = some (.ref fNo) := PySem.W.mg_of X G aNo
  have FTo := fun_mk (st := sToT) lTo cTo kTo
  have BTo := FTo.binds (ps := ["text"]) fun _ _ _ _ _ _ us hl => match us, hl with | [_], _ => rfl
  have gTo : mg "_told_tree" = some (.ref fTo) := PySem.W.mg_of X G aTo
  have FSe := fun_mk (st := sSeN) lSe cSe kSe
  have BSe := FSe.binds (ps := ["text", "start"]) fun _ _ _ _ _ _ us hl => match us, hl with | [_, _], _ => rfl
  have gSe : mg "_seeming_node" = some (.ref fSe) := PySem.W.mg_of X G aSe
  have FSM := fun_mk (st := sSeM) lSM cSM kSM
  have BSM := FSM.binds (ps := ["text"]) fun _ _ _ _ _ _ us hl => match us, hl with | [_], _ => rfl
  have gSM : mg "_seeming_marks" = some (.ref fSM) := PySem.W.mg_of X G aSM
  have FNB := fun_mk (st := sNB) lNB cNB kNB
  have BNB := FNB.binds (ps := ["text", "start"]) fun _ _ _ _ _ _ us hl => match us, hl with | [_, _], _ => rfl
  have gNB : mg "_next_bound" = some (.ref fNB) := PySem.W.mg_of X G aNB
  have FB := fun_mk (st := sBeg) lB cB kB
  have BB := FB.binds (ps := ["script"]) fun _ _ _ _ _ _ us hl => match us, hl with | [_], _ => rfl
  have gB : mg "_law_begun" = some (.ref fB) := PySem.W.mg_of X G aB
  have FN := fun_mk (st := sNext) lN cN kN
  have BN := FN.binds (ps := ["m", "many"]) fun _ _ _ _ _ _ us hl => match us, hl with | [_, _], _ => rfl
  have gN : mg "_law_next" = some (.ref fN) := PySem.W.mg_of X G aN
  have FNm := fun_mk (st := sName) lNm cNm kNm
  have BNm := FNm.binds (ps := ["thing"]) fun _ _ _ _ _ _ us hl => match us, hl with | [_], _ => rfl
  have gNm : mg "_law_is_name" = some (.ref fNm) := PySem.W.mg_of X G aNm
  have FT := fun_mk (st := sTree) lT cT kT
  have BT := FT.binds (ps := ["m", "size", "deep"]) fun _ _ _ _ _ _ us hl => match us, hl with | [_, _, _], _ => rfl
  have gT : mg "_law_tree" = some (.ref fT) := PySem.W.mg_of X G aT
  have FY := fun_mk (st := sBody) lY cY kY
  have BY := FY.binds (ps := ["m", "size"]) fun _ _ _ _ _ _ us hl => match us, hl with | [_, _], _ => rfl
  have gY : mg "_law_body" = some (.ref fY) := PySem.W.mg_of X G aY
  have FS := fun_mk (st := sEas) lS cS kS
  have BS := FS.binds (ps := ["m", "sizes"]) fun _ _ _ _ _ _ us hl => match us, hl with | [_, _], _ => rfl
  have gS : mg "_law_ends_and_steps" = some (.ref fS) := PySem.W.mg_of X G aS
  have FLC := fun_mk (st := sLCL) lLC cLC kLC
  have BLC := FLC.binds (ps := ["body"]) fun _ _ _ _ _ _ us hl => match us, hl with | [_], _ => rfl
  have gLC : mg "_law_call_level" = some (.ref fLC) := PySem.W.mg_of X G aLC
  have FTx := fun_mk (st := sTextOf) lTx cTx kTx
  have BTx := FTx.binds (ps := ["tree"]) fun _ _ _ _ _ _ us hl => match us, hl with | [_], _ => rfl
  have gTx : mg "_law_text_of" = some (.ref fTx) := PySem.W.mg_of X G aTx
  have FSl := fun_mk (st := sSmall) lSl cSl kSl
  have BSl := FSl.binds (ps := ["thing"]) fun _ _ _ _ _ _ us hl => match us, hl with | [_], _ => rfl
  have gSl : mg "_law_is_small" = some (.ref fSl) := PySem.W.mg_of X G aSl
  have FLN := fun_mk (st := sLNode) lLN cLN kLN
  have BLN := FLN.binds (ps := ["node"]) fun _ _ _ _ _ _ us hl => match us, hl with | [_], _ => rfl
  have gLN : mg "_law_is_node" = some (.ref fLN) := PySem.W.mg_of X G aLN
  have FPa := fun_mk (st := sParts) lPa cPa kPa
  have BPa := FPa.binds (ps := ["text"]) fun _ _ _ _ _ _ us hl => match us, hl with | [_], _ => rfl
  have gPa : mg "_law_parts" = some (.ref fPa) := PySem.W.mg_of X G aPa
  have FRd := fun_mk (st := sRead) lRd cRd kRd
  have BRd := FRd.binds (ps := ["text"]) fun _ _ _ _ _ _ us hl => match us, hl with | [_], _ => rfl
  have gRd : mg "_law_read" = some (.ref fRd) := PySem.W.mg_of X G aRd
  have FRn := fun_mk (st := sRNode) lRn cRn kRn
  have BRn := FRn.binds (ps := ["text", "level"]) fun _ _ _ _ _ _ us hl => match us, hl with | [_, _], _ => rfl
  have gRn : mg "_law_read_node" = some (.ref fRn) := PySem.W.mg_of X G aRn
  have FNr := fun_mk (st := sNear) lNr cNr kNr
  have BNr := FNr.binds (ps := ["m", "text"]) fun _ _ _ _ _ _ us hl => match us, hl with | [_, _], _ => rfl
  have gNr : mg "_law_texts_near" = some (.ref fNr) := PySem.W.mg_of X G aNr
  have FTd := fun_mk (st := sTold) lTd cTd kTd
  have BTd := FTd.binds (ps := ["call"]) fun _ _ _ _ _ _ us hl => match us, hl with | [_], _ => rfl
  have gTd : mg "_law_told" = some (.ref fTd) := PySem.W.mg_of X G aTd
  have FDu := fun_mk (st := sDue) lDu cDu kDu
  have BDu := FDu.binds (ps := ["text"]) fun _ _ _ _ _ _ us hl => match us, hl with | [_], _ => rfl
  have gDu : mg "_law_due" = some (.ref fDu) := PySem.W.mg_of X G aDu
  have FLi := fun_mk (st := sLin) lLi cLi kLi
  have BLi := FLi.binds (ps := ["m", "text"]) fun _ _ _ _ _ _ us hl => match us, hl with | [_, _], _ => rfl
  have gLi : mg "_law_lines_near" = some (.ref fLi) := PySem.W.mg_of X G aLi
  have FL := fun_mk (st := sLaw) lL cL kL
  have TPm : K01.TP mg := { isi := (no z0), str := (no z1), tuple := (no z2), len := (no z3), all := (no z4), zip := (no z5), w8 := ⟨_, PySem.W.mg_of X G y8⟩, m3 := ⟨_, PySem.W.mg_of X G ym3⟩, b3 := ⟨_, PySem.W.mg_of X G yb3⟩, n6 := ⟨_, PySem.W.mg_of X G yn6⟩, l3 := ⟨_, PySem.W.mg_of X G yl3⟩, ca := ⟨_, PySem.W.mg_of X G yca⟩ }
  have TBm : TxtB mg := ⟨(no z6), (no z7), (no z3)⟩
  have PFm : K01.PF K mg fW fP fCl fM _ _ _ _ := { W := FW, bW := BW, gW := gW, P := FP, bP := BP, gP := gP, C := FCl, bC := BCl, gC := gCl, M := FM, bM := BM, gM := gM }
  obtain ⟨cl, nE, nS, mkc, req, kstr⟩ := rulB_ok bC
  have FI : FunD K "__init__" "Rules.__init__" (defArgs RU.sRI) (defBody RU.sRI) (defScope RU.sRI) [V.ref p0] [] fI _ := ⟨⟨_, _, _, _, _, _, _, _, _, _, rfl, lI, cI, .inr ⟨by simp, T0, _, [.ref p0], nt, rfl, lT0d, rfl, .cons rfl .nil⟩, .inl rfl⟩, kI⟩
  have BI0 : Binds K _ ["self", "ends", "steps"] [] := bI_0 FI
  have FEq := fun_mk (st := RU.sREq) lEq cEq kEq
  have BEq := FEq.binds (ps := ["self", "other"]) fun _ _ _ _ _ _ us hl => match us, hl with | [_, _], _ => rfl
  have TRm : RU.TR mg := { isi := (no z0), len := (no z3), list := (no z6), tuple := (no z2), int := (no z7), bool := (no z8), enum := (no z15) }
  have TI : RU.TI3 mg := { tr := TRm, e3 := ⟨_, PySem.W.mg_of X G ye3⟩, s3 := ⟨_, PySem.W.mg_of X G ys3⟩ }
  have w1 := ext_br l1 m1 v1 h1 n1 b1 (no z12)
  have w2 := ext_bx l2 m2 v2 h2 n2 b2 (no z12)
  obtain ⟨r1, kp1⟩ := exR_ok q1 (nf_of b1)
  obtain ⟨r2, kp2⟩ := exR_ok q2 (nf_of b2)
  have gB' : mg "BadRules" = some (.ref c1) := PySem.W.mg_of X G a1
  have gX' : mg "BadText" = some (.ref c2) := PySem.W.mg_of X G a2
  have gJ' : mg "JoinError" = some (.ref cJ) := PySem.W.mg_of X G aJ
  have gC' : mg "Rules" = some (.ref C) := PySem.W.mg_of X G hC
  have E1 : RU.ExF pK K mg "BadRules" "place" c1 := ⟨w1, r1, gB', kp1⟩
  have E2 : X48.ExF pK K mg "BadText" "line" c2 := ⟨w2, r2, gX', kp2⟩
  have RCm : RU.RCl K mg C fI := { g := gC', cl := cl, mkc := mkc, n1 := nE, n2 := nS }
  have TEm : TErr K mg cJ c2 := terr gJ' gX' x2 r2 (nf_of b2) kk
  have GCt := fun base : Heap => ok_counts (P := pK) (w := w) (base := base) FCt BCt gCt FNd BNd gNd PFm TPm 4 (by decide)
  have GSh := fun base : Heap => ok_shape (P := pK) (w := w) (base := base) FSh FCt BCt gCt (GCt base) TPm
  have GTr := fun base : Heap => ok_tr (P := pK) (w := w) (base := base) FTr FSh BSh gSh (GSh base)
  have GBo := fun base : Heap => ok_bo (P := pK) (w := w) (base := base) FBo FSh BSh gSh (GSh base)
  have GN := fun base : Heap => (ok_next (P := pK) (w := w) (base := base) FN TBm).imp fun _ _ _ _ => nx_of
  have GT := fun base : Heap => K01.ok_tree (P := pK) (w := w) (base := base) FT BT gT FN BN gN TBm (no z2) 2 (by decide)
  have GY := fun base : Heap => ok_body (P := pK) (w := w) (base := base) FY FN BN gN FT BT gT TBm (no z2)
  have GS := fun base : Heap => ok_eas (P := pK) (w := w) (base := base) FS FN BN gN (GN base) FT BT gT (GT base) FY BY gY (GY base) (no z9)
  have GI := fun base : Heap => RU.ok_ri (P := pK) (w := w) (base := base) FI FRo BRo gRo FTr BTr gTr (GTr base) FBo BBo gBo (GBo base) TI E1 cl nE nS
  have GEq := fun base : Heap => RU.ok_req (P := pK) (w := w) (base := base) FEq RCm TI req
  have GNB := fun base : Heap => ok_nb (P := pK) (w := w) (base := base) FNB ⟨(no z10), (no z3)⟩
  have GSM := fun base : Heap => ok_sm (P := pK) (w := w) (base := base) FSM (no z2)
  have GSe := fun base : Heap => ok_sn (P := pK) (w := w) (base := base) FSe BSe gSe FNB BNB gNB (GNB base) FSM BSM gSM (GSM base) ⟨(no z2), ⟨_, PySem.W.mg_of X G yca⟩⟩ 6
  have GNo := fun base : Heap => ok_nt (P := pK) (w := w) (base := base) FNo BNo gNo (no z3) 4
  have GTo := fun base : Heap => ok_told (P := pK) (w := w) (base := base) FTo FSe BSe gSe (GSe base) FTr BTr gTr (GTr base) FBo BBo gBo (GBo base) FNo BNo gNo (GNo base) TPm
  have GNT := fun base : Heap => ok_need9 (P := pK) (w := w) (base := base) FNT TPm E2 cl req kstr
  have GRX := fun base : Heap => ok_rx (P := pK) (w := w) (base := base) FRX RCm ⟨_, PySem.W.mg_of X G yew⟩ ⟨_, PySem.W.mg_of X G ysw⟩ FNo BNo gNo (GNo base)
  have GRR := fun base : Heap => ok_rr (P := pK) (w := w) (base := base) FRR E2 RCm (GI base) BI0 ⟨_, PySem.W.mg_of X G yew⟩ ⟨_, PySem.W.mg_of X G ysw⟩ ⟨_, PySem.W.mg_of X G ye3⟩ ⟨_, PySem.W.mg_of X G ys3⟩ (no z15) (no z3) FNT BNT gNT (GNT base) FTo BTo gTo (GTo base) FTr BTr gTr (GTr base) FBo BBo gBo (GBo base)
  have GTx := fun base : Heap => ok_lt (P := pK) (w := w) (base := base) FTx BTx gTx (no z3) 4
  have GLC := fun base : Heap => ok_lcl (P := pK) (w := w) (base := base) FLC BLC gLC (no z3) 4
  have GLN := fun base : Heap => ok_ln (P := pK) (w := w) (base := base) FLN FNm BNm gNm ⟨TPm, (no z6), (no z14), (no z13), (no z11)⟩
  have GSl := fun base : Heap => ok_small (P := pK) (w := w) (base := base) FSl FLN BLN gLN (GLN base) ⟨(no z9), (no z3)⟩
  have GPa := fun base : Heap => ok_parts (P := pK) (w := w) (base := base) FPa (no z7)
  have GRn := fun base : Heap => ok_lr (P := pK) (w := w) (base := base) FRn BRn gRn FPa BPa gPa (GPa base) ⟨(no z3), (no z2)⟩ 4
  have GRd := fun base : Heap => ok_rd (P := pK) (w := w) (base := base) FRd FRn BRn gRn (GRn base) FSl BSl gSl (GSl base) FTx BTx gTx (GTx base)
  have GNr := fun base : Heap => ok_near (P := pK) (w := w) (base := base) FNr FN BN gN (GN base) ⟨(no z3), (no z9)⟩
  have GLi := fun base : Heap => ok_lin (P := pK) (w := w) (base := base) FLi (no z3) FN BN gN (GN base)
  have GDu := fun base : Heap => ok_due (P := pK) (w := w) (base := base) FDu RCm (GI base) BI0 (no z15) (no z3) FRd BRd gRd (GRd base) FLC BLC gLC (GLC base)
  have huL : ∀ p ∈ [(PL, qLw)], p.1 = PL → p.2 = qLw := fun p hp' e => by
    obtain rfl := List.mem_singleton.mp hp'
    rfl
  have key := fun (base : Heap) (tb2 : TabB base mg cdL PL) => ok_law (P := pK) (w := w) (base := base) (T := [(PL, qLw)]) FL rfl tb2 (List.mem_cons_self ..) huL TEm (no z0) RCm (GI base) BI0 req (GEq base) BEq FTd BTd gTd
    FB BB gB (ok_beg FB TBm) FS BS gS (GS base) FTx BTx gTx (GTx base) FDu BDu gDu (GDu base) FNr BNr gNr (GNr base) FLi BLi gLi (GLi base) FRX BRX gRX (GRX base) FRR BRR gRR (GRR base)
    (no z9) (no z10) (no z3) (no z6)
  refine ⟨K, ?fd, [(cdL, PL)], spLaw [(PL, qLw)] K, X, km, ?t1, ?t2, ?t3, ?b, ?wish, ?last⟩
  case last =>
    intro base Kb Nb tb
    rw [hp]
    exact key base (tb (cdL, PL) (List.mem_cons_self ..))
  case b => exact fun s v => .of_eq rfl
  case t1 =>
    intro p hp'
    obtain rfl := List.mem_singleton.mp hp'
    exact tL
  case t2 =>
    intro p hp'
    obtain rfl := List.mem_singleton.mp hp'
    exact nL
  case t3 =>
    intro p hp'
    obtain rfl := List.mem_singleton.mp hp'
    exact PySem.W.codeHd_of_K X hL
  case wish =>
    intro H a ns hl sy tb sq
    refine ⟨a, ns, rfl, sq, hl, sy, fun p hp' => ?_, fun _ => rfl⟩
    obtain rfl := List.mem_singleton.mp hp'
    exact .nil (tb (cdL, PL) (List.mem_cons_self ..))
end Z49
set_option Elab.async false
open PySem PySem.W PyProof.Rows
theorem Z49.room141 : L2.Room 141 callerA := ⟨rfl, by decide, by decide⟩
set_option maxRecDepth 100000 in
set_option maxHeartbeats 0 in
theorem PySem.Challenge.cw_onlyjoins_k49_whole_rules_texts_holds : PySem.Challenge.rw_onlyjoins_k49_whole_rules_texts.Holds := by
  w_on; o_law; k_head; (case hw => w_witness2)
  k_fill
  refine L2H.walk_topT (l := PySem.Challenge.rw_onlyjoins_k49_whole_rules_texts) (n := 63) (k := 141) (x := "script") rfl (by decide) rfl (by decide +kernel) Z49.room141 ?F
  case F =>
    intro w mg fa h Y G hmg
    have KX := PySem.W.km_in_of Y
    have tabs := PySem.W.km_tabs_of Y
    refine' Z49.all_mk (PL := 353) rfl KX G hmg rfl (tabs 353 (by decide)) rfl ?aW ?lW ?cW ?kW ?aM ?lM ?cM ?kM ?aTr ?lTr ?cTr ?kTr ?aBo ?lBo ?cBo ?kBo ?aSh ?lSh ?cSh ?kSh ?aCt ?lCt ?cCt ?kCt ?aNd ?lNd ?cNd ?kNd ?aP ?lP ?cP ?kP ?aCl ?lCl ?cCl ?kCl ?aRo ?lRo ?cRo ?kRo ?aRX ?lRX ?cRX ?kRX ?aRR ?lRR ?cRR ?kRR ?aNT ?lNT ?cNT ?kNT ?aNo ?lNo ?cNo ?kNo ?aTo ?lTo ?cTo ?kTo ?aSe ?lSe ?cSe ?kSe ?aSM ?lSM ?cSM ?kSM ?aNB ?lNB ?cNB ?kNB ?aB ?lB ?cB ?kB ?aN ?lN ?cN ?kN ?aNm ?lNm ?cNm ?kNm ?aT ?lT ?cT ?kT ?aY ?lY ?cY ?kY ?aS ?lS ?cS ?kS ?aLC ?lLC ?cLC ?kLC ?aTx ?lTx ?cTx ?kTx ?aSl ?lSl ?cSl ?kSl ?aLN ?lLN ?cLN ?kLN ?aPa ?lPa ?cPa ?kPa ?aRd ?lRd ?cRd ?kRd ?aRn ?lRn ?cRn ?kRn ?aNr ?lNr ?cNr ?kNr ?aTd ?lTd ?cTd ?kTd ?aDu ?lDu ?cDu ?kDu ?aLi ?lLi ?cLi ?kLi ?aL ?lL ?cL ?kL ?hC ?aI ?lI ?cI ?kI ?lT0d ?lpd ?aEq ?lEq ?cEq ?kEq ?bC ?a1 ?i1 ?l1 ?m1 ?v1 ?h1 ?n1 ?b1 ?q1 ?x1 ?a2 ?i2 ?l2 ?m2 ?v2 ?h2 ?n2 ?b2 ?q2 ?x2 ?aJ ?kk ?hL ?y8 ?ym3 ?yb3 ?yn6 ?yl3 ?yca ?ye3 ?ys3 ?yew ?ysw ?z0 ?z1 ?z2 ?z3 ?z4 ?z5 ?z6 ?z7 ?z8 ?z9 ?z10 ?z11 ?z12 ?z13 ?z14 ?z15
    (case aW => k_is)
    (case lW => k_is)
    (case cW => k_is)
    (case kW => k_is)
    (case aM => k_is)
    (case lM => k_is)
    (case cM => k_is)
    (case kM => k_is)
    (case aTr => k_is)
    (case lTr => k_is)
    (case cTr => k_is)
    (case kTr => k_is)
    (case aBo => k_is)
    (case lBo => k_is)
    (case cBo => k_is)
    (case kBo => k_is)
    (case aSh => k_is)
    (case lSh => k_is)
    (case cSh => k_is)
    (case kSh => k_is)
    (case aCt => k_is)
    (case lCt => k_is)
    (case cCt => k_is)
    (case kCt => k_is)
    (case aNd => k_is)
    (case lNd => k_is)
    (case cNd => k_is)
    (case kNd => k_is)
    (case aP => k_is)
    (case lP => k_is)
    (case cP => k_is)
    (case kP => k_is)
    (case aCl => k_is)
    (case lCl => k_is)
    (case cCl => k_is)
    (case kCl => k_is)
    (case aRo => k_is)
    (case lRo => k_is)
    (case cRo => k_is)
    (case kRo => k_is)
    (case aRX => k_is)
    (case lRX => k_is)
    (case cRX => k_is)
    (case kRX => k_is)
    (case aRR => k_is)
    (case lRR => k_is)
    (case cRR => k_is)
    (case kRR => k_is)
    (case aNT => k_is)
    (case lNT => k_is)
    (case cNT => k_is)
    (case kNT => k_is)
    (case aNo => k_is)
    (case lNo => k_is)
    (case cNo => k_is)
    (case kNo => k_is)
    (case aTo => k_is)
    (case lTo => k_is)
    (case cTo => k_is)
    (case kTo => k_is)
    (case aSe => k_is)
    (case lSe => k_is)
    (case cSe => k_is)
    (case kSe => k_is)
    (case aSM => k_is)
    (case lSM => k_is)
    (case cSM => k_is)
    (case kSM => k_is)
    (case aNB => k_is)
    (case lNB => k_is)
    (case cNB => k_is)
    (case kNB => k_is)
    (case aB => k_is)
    (case lB => k_is)
    (case cB => k_is)
    (case kB => k_is)
    (case aN => k_is)
    (case lN => k_is)
    (case cN => k_is)
    (case kN => k_is)
    (case aNm => k_is)
    (case lNm => k_is)
    (case cNm => k_is)
    (case kNm => k_is)
    (case aT => k_is)
    (case lT => k_is)
    (case cT => k_is)
    (case kT => k_is)
    (case aY => k_is)
    (case lY => k_is)
    (case cY => k_is)
    (case kY => k_is)
    (case aS => k_is)
    (case lS => k_is)
    (case cS => k_is)
    (case kS => k_is)
    (case aLC => k_is)
    (case lLC => k_is)
    (case cLC => k_is)
    (case kLC => k_is)
    (case aTx => k_is)
    (case lTx => k_is)
    (case cTx => k_is)
    (case kTx => k_is)
    (case aSl => k_is)
    (case lSl => k_is)
    (case cSl => k_is)
    (case kSl => k_is)
    (case aLN => k_is)
    (case lLN => k_is)
    (case cLN => k_is)
    (case kLN => k_is)
    (case aPa => k_is)
    (case lPa => k_is)
    (case cPa => k_is)
    (case kPa => k_is)
    (case aRd => k_is)
    (case lRd => k_is)
    (case cRd => k_is)
    (case kRd => k_is)
    (case aRn => k_is)
    (case lRn => k_is)
    (case cRn => k_is)
    (case kRn => k_is)
    (case aNr => k_is)
    (case lNr => k_is)
    (case cNr => k_is)
    (case kNr => k_is)
    (case aTd => k_is)
    (case lTd => k_is)
    (case cTd => k_is)
    (case kTd => k_is)
    (case aDu => k_is)
    (case lDu => k_is)
    (case cDu => k_is)
    (case kDu => k_is)
    (case aLi => k_is)
    (case lLi => k_is)
    (case cLi => k_is)
    (case kLi => k_is)
    (case aL => k_is)
    (case lL => k_is)
    (case cL => k_is)
    (case kL => k_is)
    (case hC => k_is)
    (case aI => k_is)
    (case lI => k_is)
    (case cI => k_is)
    (case kI => k_is)
    (case lT0d => k_is)
    (case lpd => k_is)
    (case aEq => k_is)
    (case lEq => k_is)
    (case cEq => k_is)
    (case kEq => k_is)
    (case bC => kernel_rfl)
    (case a1 => k_is)
    (case i1 => k_is)
    (case l1 => k_is)
    (case m1 => k_is)
    (case v1 => exact rfl)
    (case h1 => decide +kernel)
    (case n1 => k_is)
    (case b1 => kernel_rfl)
    (case q1 => kernel_rfl)
    (case x1 => kernel_rfl)
    (case a2 => k_is)
    (case i2 => k_is)
    (case l2 => k_is)
    (case m2 => k_is)
    (case v2 => exact rfl)
    (case h2 => decide +kernel)
    (case n2 => k_is)
    (case b2 => kernel_rfl)
    (case q2 => kernel_rfl)
    (case x2 => kernel_rfl)
    (case aJ => k_is)
    (case kk => kernel_rfl)
    (case hL => kernel_rfl)
    (case y8 => k_is)
    (case ym3 => k_is)
    (case yb3 => k_is)
    (case yn6 => k_is)
    (case yl3 => k_is)
    (case yca => k_is)
    (case ye3 => k_is)
    (case ys3 => k_is)
    (case yew => k_is)
    (case ysw => k_is)
    (case z0 => k_is)
    (case z1 => k_is)
    (case z2 => k_is)
    (case z3 => k_is)
    (case z4 => k_is)
    (case z5 => k_is)
    (case z6 => k_is)
    (case z7 => k_is)
    (case z8 => k_is)
    (case z9 => k_is)
    (case z10 => k_is)
    (case z11 => k_is)
    (case z12 => k_is)
    (case z13 => k_is)
    (case z14 => k_is)
    (case z15 => k_is)
