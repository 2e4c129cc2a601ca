import PyProof.Rows.All
import Wide.All
import OpenK.AllK
import Wide.FinOn
import HandS.ForMost
import HandS.Spec
import HandS.IsInst
import HandS.RaiseMore
import PyProof.ReprRoads
import PyProof.EqAt
import PyProof.EqKinds
import PyProof.NeKinds
import HandS.Base
import HandS.Call
import HandS.List
import HandS.Set
import HandS.SetFor
import HandS.SetTxt0
import PyProof.Rows.SortStr
import PyProof.Rows.SortKeyStr
import PyProof.Rows.SortShellK
import HandS.Strs
import PyProof.MeetsSeq2
import KE.GoesSet
import PyProof.FactsAll.set_2
import PyProof.StrOps2
import HandS.Defaults
import HandS.Walk
import HandS.Style
import HandS.Zip
import HandS.TupAny
import HandS.Flow
import HandS.TryOnly
import HandS.TupLe
import HandS.TupMul
import PySem.Challenge.RW_onlyjoins_k02_whole_roots_that_fit
set_option Elab.async false
set_option linter.all false
set_option maxRecDepth 100000
set_option maxHeartbeats 4000000
/-! The law's own def, called from the very top: its surroundings are known (no repr is under way). -/
namespace L2H
open PySem PySem.Spec PyProof.Rows L2
/-- a promise kept when called from the top -/
def AtTop (P : Program) (w : World) (K : PySem.W.Frag) (mg : Str → Option Value) (base : Heap) (f : Addr) (fd : FuncData) (x : Str) (sp : Sp) : Prop :=
  ∀ (s : Shared) (H : Hp) (u : Value) (v : V) (Q : VK) (E : XK), Env0 P w K mg base callerA [] s H → BindsTo s fd ⟨[u], []⟩ [(x, u)] → RelV v u → sp [v] H Q E →
    codeAny (model P w) callerA (.call (.ref f) ⟨[u], []⟩) (CR CX0 [] P w H s Q E) s
section
variable {P : Program} {w : World} {K : PySem.W.Frag} {mg : Str → Option Value} {base : Heap} {x name : Str} {st : Stmt} {f : Addr} {fd : FuncData} {N : List Str} {k : Nat} {sp : Sp}
theorem atTop_of (F : Fun K name name st f fd) (S : FnScope N [x] (defScope st)) (hr : Room (k + 1) callerA)
    (body : ∀ (cdv : Value) (s : Shared) (H : Hp) (v : V) (Q : VK) (E : XK), Room k (callerA.deeper (envOfC name (defScope st) s.heap.objs.size f cdv)) → sp [v] H Q E →
      ∃ t, PSs (cxOf CX0 P w K mg base N name (defScope st) f cdv callerA [] s H E).nox (defBody st) t ∧ t { nx := fun _ H' => Q .non H', rt := Q } (start N [v]) H) :
    AtTop P w K mg base f fd x sp := by
  obtain ⟨oc, od, kV, doc, pm, an, cdv, ct, osl, rfl, lk, hcd⟩ := F.ex
  intro s H u v Q E e0 hb ru hsp
  have KX : K.In s.heap := e0.mod.kin.keeps fun b o z => (e0.bs b o z).1
  have lim : s.heap.NoLimit := e0.mod.nolimit.keeps fun b o z => (e0.bs b o z).1
  have kinds : ∀ y ∈ [(x, u)], (defScope st).names.lookup y.1 = some .local ∨ ((defScope st).names.lookup y.1 = some .cell ∧ ((cellsFrom (s.heap.objs.size + 1) (defScope st).names []).lookup y.1).isSome = true) := fun y hy => by
    rcases List.mem_cons.mp hy with rfl | z
    · rcases S.par x (List.mem_cons_self ..) with q | q
      · exact .inl q
      · exact .inr ⟨q, PySem.W.cellsFrom_some _ _ _ (.inl q)⟩
    · cases z
  refine codeAny_call_function hr.depth (KX _ _ lk) rfl S.co S.gen rfl (PySem.W.codeRec_of KX hcd) (hb _ _ _ _ ?_)
  refine wpAny_newFunctionEnv_cells S.kind kinds fun env he s1 y => ?_
  subst he
  refine ⟨lim.keeps y.toInCall.keep, codeAny_func ?_⟩
  obtain ⟨t, ht, hq⟩ := body cdv s H v Q E (hr.deeper _) hsp
  have I : Inv (cxOf CX0 P w K mg base N name (defScope st) f cdv callerA [] s H E) [] (start N [v]) H s1 := inv_start (ps := [x]) (us := [u]) S hr.hd e0 rfl (.cons ru .nil) y
  refine wpAny_mono (ht.nox.run [] s1 (start N [v]) H _ I hq) (fun fl s' hs => ?_) fun _ _ z => z
  cases fl with
  | ret u' =>
    obtain ⟨v', σ', H', J, rv, q⟩ := hs
    exact ⟨v', H', J.os, J.bare, J.base, J.hok, rv, q⟩
  | next =>
    obtain ⟨σ', H', J, q⟩ := hs
    exact ⟨V.non, H', J.os, J.bare, J.base, J.hok, rfl, q⟩
  | brk =>
    obtain ⟨_, _, _, q⟩ := hs
    exact q.elim
  | cont =>
    obtain ⟨_, _, _, q⟩ := hs
    exact q.elim
end
section
variable {P : Program} {w : World} {K : PySem.W.Frag} {mg mb : Str → Option Value} {fa a : Addr} {fd : FuncData} {x : Str} {sp : Sp} {t : Shared} {vs : List Value} {ns : List Int}
/-- what the law's row asks of the call -/
abbrev Good (t : Shared) : Result → Shared → Prop := fun r t' => r = .ok (.ret (.bool true)) ∧ OldK t.heap t'.heap ∧ t'.os = t.os ∧ AllBare t'.gens
theorem from_top (KX : K.In t.heap) (gn : t.heap.Ns mainGlobals mg) (bn : t.heap.Ns builtinsNs mb) (bb : ∀ y : Str, y ≠ "__name__" → mb y = bootBuiltins y) (lim : t.heap.NoLimit) (g0 : t.gens = #[])
    (at_a : t.heap.get? a = some { cls := .type "list", data := .seq vs.toArray }) (allInt : IntsAre vs ns) (short : ns.length ≤ sizeLine)
    (F : ∀ base : Heap, K.In base → base.Ns mainGlobals mg → AtTop P w K mg base fa fd x sp) (bind : ∀ (s : Shared) (u : Value), BindsTo s fd ⟨[u], []⟩ [(x, u)])
    (wish : ∀ H : Hp, Only H → SqL K H a (ns.map V.int) → sp [.ref a] H (fun v _ => v = .bl true) fun _ _ _ => False) :
    codeAny (model P w) callerA (.call (.ref fa) ⟨[.ref a], []⟩) (Good t) t := by
  have rvs := vals_ints allInt
  have inner : ∀ H : Hp, Only H → SqL K H a (ns.map V.int) → HOk P w H t.heap → (∀ b, H b ≠ none → b = a) → (H a ≠ none → K.lookup a = none) →
      codeAny (model P w) callerA (.call (.ref fa) ⟨[.ref a], []⟩) (Good t) t := fun H hO hS hok one out => by
    have pass : ∀ {b : Addr} {o : Obj}, t.heap.get? b = some o → H b = none → (hidT t.heap H).get? b = some o := fun z n => hidT_get z n
    have dicts : ∀ {b : Addr} {o : Obj} {es : Array DictEntry} {ep : Nat}, t.heap.get? b = some o → o.data = .dict es ep → H b = none := fun {b o es ep} z dz => by
      cases q : H b with
      | none => rfl
      | some u =>
        obtain rfl : b = a := one b (by rw [q]; simp)
        rw [at_a] at z
        cases z
        have y : Data.seq vs.toArray _ = Data.dict es ep := dz
        cases y
    have nsp : ∀ {b : Addr} {m : Str → Option Value}, t.heap.Ns b m → (hidT t.heap H).Ns b m := fun {b m} ⟨o, es, ep, z, dz, r⟩ => ⟨o, es, ep, pass z (dicts z dz), dz, r⟩
    have Kb : K.In (hidT t.heap H) := fun b o z => pass (KX b o z) (by
      cases q : H b with
      | none => rfl
      | some u =>
        obtain rfl : b = a := one b (by rw [q]; simp)
        rw [out (by rw [q]; simp)] at z
        cases z)
    have md : Mod K mg (hidT t.heap H) := ⟨Kb, nsp gn, ⟨mb, nsp bn, bb⟩, let ⟨mc, q1, q2⟩ := lim; ⟨mc, nsp q1, q2⟩⟩
    have env : Env0 P w K mg (hidT t.heap H) callerA [] t H :=
      ⟨rfl, md, fun b o z => of_hidT z, Nat.le_of_eq (hidT_size _ _), trivial, fun b hb => absurd (show b ∈ ([] : List Addr) from hb) (by simp), hok, .of_eq g0⟩
    refine codeAny_mono (F _ Kb (nsp gn) t H (.ref a) (.ref a) _ _ env (bind t (.ref a)) rfl (wish H hO hS)) fun r t' h => ?_
    cases r with
    | error e => exact False.elim h
    | ok fl =>
     cases fl with
     | next => exact False.elim h
     | brk => exact False.elim h
     | cont => exact False.elim h
     | ret u =>
      obtain ⟨v, H', os, bare, un, hok', r', q⟩ := h
      obtain rfl : v = V.bl true := q
      obtain rfl : u = Value.bool true := r'
      refine ⟨rfl, OldK.of_keep fun b o z => ?_, os, bare⟩
      cases q : H b with
      | none => exact un.keep b o z q (by intro y; exact absurd (show b ∈ ([] : List Addr) from y) (by simp)) (by simp)
      | some u =>
        rcases hO b with y | ⟨ob, xs, y⟩
        · rw [q] at y
          cases y
        · obtain ⟨e1, _⟩ := hok b _ y
          obtain ⟨e2, _⟩ := hok' b _ (un.frzs b ob _ y)
          rw [z] at e1
          cases e1
          exact e2
  cases hk : K.lookup a with
  | some o =>
    have z := KX a o hk
    rw [at_a] at z
    cases z
    have sq : SqL K (fun _ => none) a (ns.map V.int) := .inr ⟨_, vs.toArray, _, hk, rfl, rfl, rfl, by rw [List.size_toArray, allInt.length]; exact short, by simpa using rvs⟩
    exact inner (fun _ => none) (fun _ => .inl rfl) sq (fun b u y => by cases (show (none : Option HO) = some u from y)) (fun b y => absurd rfl y) fun y => absurd rfl y
  | none =>
    let Hs : Hp := fun b => if b = a then some (.frz { cls := .type "list", data := .seq vs.toArray } (.lst (ns.map V.int))) else none
    have on : Hs a = some (.frz { cls := .type "list", data := .seq vs.toArray } (.lst (ns.map V.int))) := if_pos rfl
    have off : ∀ b, b ≠ a → Hs b = none := fun b hb => if_neg hb
    refine inner Hs (fun b => ?_) (.inl (.inr ⟨_, on⟩)) (fun b u z => ?_) (fun b z => ?_) fun _ => hk
    · by_cases hb : b = a
      · subst hb
        exact .inr ⟨_, _, on⟩
      · exact .inl (off b hb)
    · by_cases hb : b = a
      · subst hb
        rw [on] at z
        cases z
        exact ⟨at_a, by rw [List.length_map]; exact short, vs, _, rvs, at_a⟩
      · rw [off b hb] at z
        cases z
    · by_cases hb : b = a
      · exact hb
      · exact absurd (off b hb) z
end
/-- the law's row, from the promise of its def called from the top -/
theorem walk_top {l : PySem.W.OpenLaw} {n : Nat} {q : Program} {loose : List Str} {XP : (Str → Option Value) → Heap → Prop} {YP : World → Heap → Prop} {d : DefRec} {K : Params → PySem.W.Frag} {sp : World → Sp} {x : Str}
    (hn : l.most = some n) (few : n ≤ sizeLine) (hdf : d.params.defaults = []) (hY : ∀ (w : World) (h : Heap), YP w h → (K w.params).In h)
    (F : ∀ (w : World) (mg : Str → Option Value) (fa : Addr) (h : Heap), (K w.params).In h → h.Ns mainGlobals mg → mg d.name = some (.ref fa) →
      ∃ fd : FuncData, (∀ (s : Shared) (u : Value), BindsTo s fd ⟨[u], []⟩ [(x, u)]) ∧
        ∀ base : Heap, (K w.params).In base → base.Ns mainGlobals mg → AtTop l.prog w (K w.params) mg base fa fd x (sp w))
    (wish : ∀ (w : World) (H : Hp) (a : Addr) (ns : List Int), ns.length ≤ n → Only H → SqL (K w.params) H a (ns.map V.int) → sp w [.ref a] H (fun v _ => v = .bl true) fun _ _ _ => False) :
    PySem.W.WalkO q loose XP YP l.row.toRowW d [] (fun f vs => PySem.call f vs) := by
  refine Att.attach_call hn hdf fun w s₀ t mg mb fa o pm cd doc a vs ns G Y ho hd hcd hmg hobj hints hlen g0 => ?_
  have KX := hY w _ Y
  obtain ⟨fd, hb, hF⟩ := F w mg fa _ KX G.T.g hmg
  exact from_top KX G.T.g G.T.b G.T.builtins G.T.nolimit g0 hobj hints (Nat.le_trans hlen few) hF hb fun H hO hS => wish w H a ns hlen hO hS
end L2H
set_option Elab.async false
set_option linter.all false
set_option maxRecDepth 100000
set_option maxHeartbeats 4000000
/-! The law's own def, called from the very top: the table of modules stands apart, too. -/
namespace L2H
open PySem PySem.Spec PyProof.Rows L2
/-- the table of modules is tracked, and locked -/
def SysF (H : Hp) : Prop := ∃ o u, H sysModules = some (.frz o u)
section
variable {P : Program} {w : World} {K : PySem.W.Frag} {mg mb : Str → Option Value} {fa a : Addr} {fd : FuncData} {x : Str} {sp : Sp} {t : Shared} {vs : List Value} {ns : List Int}
theorem from_topB (KX : K.In t.heap) (gn : t.heap.Ns mainGlobals mg) (bn : t.heap.Ns builtinsNs mb) (bb : ∀ y : Str, y ≠ "__name__" → mb y = bootBuiltins y) (lim : t.heap.NoLimit) (g0 : t.gens = #[])
    (sm : ∃ m, t.heap.Ns sysModules m) (km : K.lookup sysModules = none)
    (at_a : t.heap.get? a = some { cls := .type "list", data := .seq vs.toArray }) (allInt : IntsAre vs ns) (short : ns.length ≤ sizeLine)
    (F : ∀ base : Heap, K.In base → base.Ns mainGlobals mg → AtTop P w K mg base fa fd x sp) (bind : ∀ (s : Shared) (u : Value), BindsTo s fd ⟨[u], []⟩ [(x, u)])
    (wish : ∀ H : Hp, SysF H → SqL K H a (ns.map V.int) → sp [.ref a] H (fun v _ => v = .bl true) fun _ _ _ => False) :
    codeAny (model P w) callerA (.call (.ref fa) ⟨[.ref a], []⟩) (Good t) t := by
  have rvs := vals_ints allInt
  obtain ⟨mm, om, esm, epm, hom, hdm, _⟩ := sm
  have na : a ≠ sysModules := fun z => by
    rw [z, hom] at at_a
    cases at_a
    have y : Data.seq vs.toArray _ = Data.dict esm epm := hdm
    cases y
  have inner : ∀ H : Hp, OnlyF H → SysF H → SqL K H a (ns.map V.int) → HOk P w H t.heap → (∀ b, H b ≠ none → b = a ∨ b = sysModules) → (H a ≠ none → K.lookup a = none) →
      codeAny (model P w) callerA (.call (.ref fa) ⟨[.ref a], []⟩) (Good t) t := fun H hO hY hS hok one out => by
    have pass : ∀ {b : Addr} {o : Obj}, t.heap.get? b = some o → H b = none → (hidT t.heap H).get? b = some o := fun z n => hidT_get z n
    have dicts : ∀ {b : Addr} {o : Obj} {es : Array DictEntry} {ep : Nat}, b ≠ sysModules → t.heap.get? b = some o → o.data = .dict es ep → H b = none := fun {b o es ep} nb z dz => by
      cases q : H b with
      | none => rfl
      | some u =>
        rcases one b (by rw [q]; simp) with rfl | y
        · rw [at_a] at z
          cases z
          have y : Data.seq vs.toArray _ = Data.dict es ep := dz
          cases y
        · exact absurd y nb
    have nsp : ∀ {b : Addr} {m : Str → Option Value}, b ≠ sysModules → t.heap.Ns b m → (hidT t.heap H).Ns b m := fun {b m} nb ⟨o, es, ep, z, dz, r⟩ => ⟨o, es, ep, pass z (dicts nb z dz), dz, r⟩
    have Kb : K.In (hidT t.heap H) := fun b o z => pass (KX b o z) (by
      cases q : H b with
      | none => rfl
      | some u =>
        rcases one b (by rw [q]; simp) with rfl | y
        · rw [out (by rw [q]; simp)] at z
          cases z
        · rw [y, km] at z
          cases z)
    have md : Mod K mg (hidT t.heap H) := ⟨Kb, nsp (by decide) gn, ⟨mb, nsp (by decide) bn, bb⟩, let ⟨mc, q1, q2⟩ := lim; ⟨mc, nsp (by decide) q1, q2⟩⟩
    have env : Env0 P w K mg (hidT t.heap H) callerA [] t H :=
      ⟨rfl, md, fun b o z => of_hidT z, Nat.le_of_eq (hidT_size _ _), trivial, fun b hb => absurd (show b ∈ ([] : List Addr) from hb) (by simp), hok, .of_eq g0⟩
    refine codeAny_mono (F _ Kb (nsp (by decide) gn) t H (.ref a) (.ref a) _ _ env (bind t (.ref a)) rfl (wish H hY hS)) fun r t' h => ?_
    cases r with
    | error e => exact False.elim h
    | ok fl =>
     cases fl with
     | next => exact False.elim h
     | brk => exact False.elim h
     | cont => exact False.elim h
     | ret u =>
      obtain ⟨v, H', os, bare, un, hok', r', q⟩ := h
      obtain rfl : v = V.bl true := q
      obtain rfl : u = Value.bool true := r'
      refine ⟨rfl, OldK.of_keep fun b o z => ?_, os, bare⟩
      cases q : H b with
      | none => exact un.keep b o z q (by intro y; exact absurd (show b ∈ ([] : List Addr) from y) (by simp)) (by simp)
      | some u =>
        rcases hO b with y | ⟨ob, xs, y⟩
        · rw [q] at y
          cases y
        · obtain ⟨e1, _⟩ := hok b _ y
          obtain ⟨e2, _⟩ := hok' b _ (un.frzs b ob _ y)
          rw [z] at e1
          cases e1
          exact e2
  have hoks : ∀ {H : Hp} {u : HO}, ObjOk P w H t.heap sysModules (.frz om (.ext fun _ => True)) := fun {H u} => ⟨hom, trivial, ⟨om, hom⟩, fun _ _ _ _ => trivial⟩
  cases hk : K.lookup a with
  | some o =>
    have z := KX a o hk
    rw [at_a] at z
    cases z
    let Hs : Hp := fun b => if b = sysModules then some (.frz om (.ext fun _ => True)) else none
    have ons : Hs sysModules = some (.frz om (.ext fun _ => True)) := if_pos rfl
    have off : ∀ b, b ≠ sysModules → Hs b = none := fun b h1 => if_neg h1
    have sq : SqL K Hs a (ns.map V.int) := .inr ⟨_, vs.toArray, _, hk, rfl, rfl, rfl, by rw [List.size_toArray, allInt.length]; exact short, by simpa using rvs⟩
    refine inner Hs (fun b => ?_) ⟨_, _, ons⟩ sq (fun b u z => ?_) (fun b z => ?_) fun y => absurd (off a na) y
    · by_cases hb : b = sysModules
      · subst hb
        exact .inr ⟨_, _, ons⟩
      · exact .inl (off b hb)
    · by_cases hb : b = sysModules
      · subst hb
        rw [ons] at z
        cases z
        exact hoks (u := .lst [])
      · rw [off b hb] at z
        cases z
    · by_cases hb : b = sysModules
      · exact .inr hb
      · exact absurd (off b hb) z
  | none =>
    let Hs : Hp := fun b => if b = a then some (.frz { cls := .type "list", data := .seq vs.toArray } (.lst (ns.map V.int))) else if b = sysModules then some (.frz om (.ext fun _ => True)) else none
    have on : Hs a = some (.frz { cls := .type "list", data := .seq vs.toArray } (.lst (ns.map V.int))) := if_pos rfl
    have ons : Hs sysModules = some (.frz om (.ext fun _ => True)) := by
      show (if _ then _ else _) = _
      rw [if_neg na.symm, if_pos rfl]
    have off : ∀ b, b ≠ a → b ≠ sysModules → Hs b = none := fun b h1 h2 => by
      show (if _ then _ else _) = _
      rw [if_neg h1, if_neg h2]
    refine inner Hs (fun b => ?_) ⟨_, _, ons⟩ (.inl (.inr ⟨_, on⟩)) (fun b u z => ?_) (fun b z => ?_) fun _ => hk
    · by_cases hb : b = a
      · subst hb
        exact .inr ⟨_, _, on⟩
      · by_cases hc : b = sysModules
        · subst hc
          exact .inr ⟨_, _, ons⟩
        · exact .inl (off b hb hc)
    · by_cases hb : b = a
      · subst hb
        rw [on] at z
        cases z
        exact ⟨at_a, by rw [List.length_map]; exact short, vs, _, rvs, at_a⟩
      · by_cases hc : b = sysModules
        · subst hc
          rw [ons] at z
          cases z
          exact hoks (u := .lst [])
        · rw [off b hb hc] at z
          cases z
    · by_cases hb : b = a
      · exact .inl hb
      · by_cases hc : b = sysModules
        · exact .inr hc
        · exact absurd (off b hb hc) z
end
/-- the law's row, from the promise of its def called from the top; the table of modules is tracked -/
theorem walk_topB {l : PySem.W.OpenLaw} {n : Nat} {q : Program} {loose : List Str} {XP : (Str → Option Value) → Heap → Prop} {YP : World → Heap → Prop} {d : DefRec} {K : Params → PySem.W.Frag} {sp : World → Sp} {x : Str}
    (hn : l.most = some n) (few : n ≤ sizeLine) (hdf : d.params.defaults = []) (hi : importsNone q = true) (hY : ∀ (w : World) (h : Heap), YP w h → (K w.params).In h) (km : ∀ w : World, (K w.params).lookup sysModules = none)
    (F : ∀ (w : World) (mg : Str → Option Value) (fa : Addr) (h : Heap), (K w.params).In h → h.Ns mainGlobals mg → mg d.name = some (.ref fa) →
      ∃ fd : FuncData, (∀ (s : Shared) (u : Value), BindsTo s fd ⟨[u], []⟩ [(x, u)]) ∧
        ∀ base : Heap, (K w.params).In base → base.Ns mainGlobals mg → AtTop l.prog w (K w.params) mg base fa fd x (sp w))
    (wish : ∀ (w : World) (H : Hp) (a : Addr) (ns : List Int), ns.length ≤ n → SysF H → SqL (K w.params) H a (ns.map V.int) → sp w [.ref a] H (fun v _ => v = .bl true) fun _ _ _ => False) :
    PySem.W.WalkO q loose XP YP l.row.toRowW d [] (fun f vs => PySem.call f vs) := by
  refine Att.attach_call hn hdf fun w s₀ t mg mb fa o pm cd doc a vs ns G Y ho hd hcd hmg hobj hints hlen g0 => ?_
  have KX := hY w _ Y
  obtain ⟨fd, hb, hF⟩ := F w mg fa _ KX G.T.g hmg
  have S := G.T.seer hi
  exact from_topB KX G.T.g G.T.b G.T.builtins G.T.nolimit g0 (let ⟨mm, y, _⟩ := S.mods; ⟨mm, y⟩) (km w) hobj hints (Nat.le_trans hlen few) hF hb fun H hO hS => wish w H a ns hlen hO hS
end L2H
set_option Elab.async false
set_option linter.all false
set_option maxRecDepth 100000
set_option maxHeartbeats 4000000
/-! Data as the law passes it: None, bools, ints, texts, lists, tuples, empty dicts; all of it tracked. -/
namespace DQ
open PySem PySem.W PySem.Calls PyProof.Rows L2
theorem same_refl {H : Hp} : Same H H := fun _ _ e => e
theorem same_trans {H H' H'' : Hp} (a : Same H H') (b : Same H' H'') : Same H H'' := fun x o e => b x o (a x o e)
theorem same_new {H : Hp} {a : Addr} {o : HO} (h : H a = none) : Same H (upd H a o) := fun b u e => by
  rw [upd_ne (ne_of_none e h)]
  exact e
theorem same_out {H H' : Hp} (s : Same H H') {b : Addr} (h : H' b = none) : H b = none := by
  cases e : H b with
  | none => rfl
  | some o => rw [s _ _ e] at h; cases h
mutual
inductive Dq (H : Hp) : V → PyData → Prop
  | non : Dq H .non .none
  | bl (b : Bool) : Dq H (.bl b) (.bool b)
  | int (i : Int) : Dq H (.int i) (.int i)
  | str (x : Str) (h : x.length ≤ sizeLine ∧ PyData.strOk x = true) : Dq H (.str x) (.str x)
  | lst {a : Addr} {xs : List V} {ds : List PyData} : H a = some (.lst xs) → DqAll H xs ds → Dq H (.ref a) (.list ds)
  | tup {a : Addr} {xs : List V} {ds : List PyData} : H a = some (.tup xs) → DqAll H xs ds → Dq H (.ref a) (.tuple ds)
  | dic {a : Addr} : H a = some (.dK []) → Dq H (.ref a) (.dict [])
inductive DqAll (H : Hp) : List V → List PyData → Prop
  | nil : DqAll H [] []
  | cons {v : V} {vs : List V} {d : PyData} {ds : List PyData} : Dq H v d → DqAll H vs ds → DqAll H (v :: vs) (d :: ds)
end
mutual
theorem Dq.same {H H' : Hp} (s : Same H H') : ∀ {v : V} {d : PyData}, Dq H v d → Dq H' v d
  | _, _, .non => .non
  | _, _, .bl b => .bl b
  | _, _, .int i => .int i
  | _, _, .str x h => .str x h
  | _, _, .lst h a => .lst (s _ _ h) (a.same s)
  | _, _, .tup h a => .tup (s _ _ h) (a.same s)
  | _, _, .dic h => .dic (s _ _ h)
theorem DqAll.same {H H' : Hp} (s : Same H H') : ∀ {vs : List V} {ds : List PyData}, DqAll H vs ds → DqAll H' vs ds
  | _, _, .nil => .nil
  | _, _, .cons h t => .cons (h.same s) (t.same s)
end
theorem DqAll.len {H : Hp} : ∀ {vs : List V} {ds : List PyData}, DqAll H vs ds → vs.length = ds.length
  | _, _, .nil => rfl
  | _, _, .cons _ t => congrArg Nat.succ t.len
theorem DqAll.at {H : Hp} : ∀ {vs : List V} {ds : List PyData} {i : Nat} {d : PyData}, DqAll H vs ds → ds[i]? = some d → ∃ v, vs[i]? = some v ∧ Dq H v d
  | _, _, _, _, .nil, e => by simp at e
  | _, _, 0, _, .cons h _, e => by
    cases e
    exact ⟨_, rfl, h⟩
  | _, _, i + 1, _, .cons _ t, e => t.at (i := i) e
theorem DqAll.app {H : Hp} : ∀ {vs ws : List V} {ds es : List PyData}, DqAll H vs ds → DqAll H ws es → DqAll H (vs ++ ws) (ds ++ es)
  | _, _, _, _, .nil, b => b
  | _, _, _, _, .cons h t, b => .cons h (t.app b)
theorem DqAll.take {H : Hp} : ∀ {vs : List V} {ds : List PyData} (n : Nat), DqAll H vs ds → DqAll H (vs.take n) (ds.take n)
  | _, _, 0, _ => by simpa using DqAll.nil
  | _, _, n + 1, .nil => .nil
  | _, _, n + 1, .cons h t => .cons h (t.take n)
theorem DqAll.drop {H : Hp} : ∀ {vs : List V} {ds : List PyData} (n : Nat), DqAll H vs ds → DqAll H (vs.drop n) (ds.drop n)
  | _, _, 0, h => h
  | _, _, n + 1, .nil => .nil
  | _, _, n + 1, .cons h t => t.drop n
theorem DqAll.rev {H : Hp} : ∀ {vs : List V} {ds : List PyData}, DqAll H vs ds → DqAll H vs.reverse ds.reverse
  | _, _, .nil => .nil
  | _, _, .cons h t => by
    rw [List.reverse_cons, List.reverse_cons]
    exact t.rev.app (.cons h .nil)
theorem DqAll.strs {H : Hp} : ∀ (ws : List Str), (∀ x ∈ ws, x.length ≤ sizeLine ∧ PyData.strOk x = true) → DqAll H (ws.map V.str) (ws.map PyData.str)
  | [], _ => .nil
  | w :: ws, h => .cons (.str w (h w (List.mem_cons_self ..))) (DqAll.strs ws fun x hx => h x (List.mem_cons_of_mem _ hx))
/-- the list of modules stands apart -/
abbrev Sys (H : Hp) : Prop := L2H.SysF H
theorem _root_.L2H.SysF.same {H H' : Hp} (x : Sys H) (s : Same H H') : Sys H' := let ⟨o, u, e⟩ := x; ⟨o, u, s _ _ e⟩
section
variable {X : Cx} {pins : List (Addr × Obj)} {σ : L2.St} {H : Hp} {s : Shared}
mutual
theorem Dq.reads (I : Inv X pins σ H s) (y : Sys H) : ∀ {v : V} {d : PyData} {u : Value}, Dq H v d → RelV v u → ∃ as, Reads s.heap u d as ∧ sysModules ∉ as
  | _, _, _, .non, r => by
    cases r
    exact ⟨_, .none, by simp⟩
  | _, _, _, .bl b, r => by
    cases r
    exact ⟨_, .bool b, by simp⟩
  | _, _, _, .int i, r => by
    obtain ⟨t, rfl⟩ := r
    exact ⟨_, .int i t, by simp⟩
  | _, _, _, .str x _, r => by
    obtain ⟨t, rfl⟩ := r
    exact ⟨_, .str x t, by simp⟩
  | _, _, _, .lst (a := a) h ha, r => by
    cases r
    obtain ⟨_, its, n, rv, e⟩ := (show ObjOk X.prog X.w H s.heap a (.lst _) from I.hok a _ h)
    obtain ⟨as, ra, na⟩ := ha.reads I y rv
    refine ⟨_, .list e rfl rfl ra, fun z => ?_⟩
    rcases List.mem_cons.mp z with q | q
    · obtain ⟨o, u, ey⟩ := y
      rw [q, h] at ey
      cases ey
    · exact na q
  | _, _, _, .tup (a := a) h ha, r => by
    cases r
    obtain ⟨_, its, rv, o, ho, hc, n, hd⟩ := (show ObjOk X.prog X.w H s.heap a (.tup _) from I.hok a _ h)
    obtain ⟨as, ra, na⟩ := ha.reads I y rv
    exact ⟨_, .tuple ho hc hd ra, na⟩
  | _, _, _, .dic (a := a) h, r => by
    cases r
    obtain ⟨_, hsys, vs, kv, hd⟩ := (show ObjOk X.prog X.w H s.heap a (.dK []) from I.hok a _ h)
    cases kv
    obtain ⟨o, es, ep, h1, h2, h3, _, h4, _⟩ := hd
    have e0 : es.toList = [] := by
      cases e : es.toList with
      | nil => rfl
      | cons x r =>
        rw [e] at h4
        cases h4
    refine ⟨a :: [] ++ [], Reads.dict h1 h2.1 h3 (by rw [e0]; exact .nil) (by rw [e0]; exact .nil), fun z => ?_⟩
    rcases List.mem_cons.mp z with q | q
    · rw [← q] at hsys
      simp at hsys
    · cases q
theorem DqAll.reads (I : Inv X pins σ H s) (y : Sys H) : ∀ {vs : List V} {ds : List PyData} {us : List Value}, DqAll H vs ds → Vals vs us → ∃ as, ReadsAll s.heap us ds as ∧ sysModules ∉ as
  | _, _, _, .nil, r => by
    cases r
    exact ⟨_, .nil, by simp⟩
  | _, _, _, .cons h t, r => by
    cases r with
    | cons r1 r2 =>
      obtain ⟨as, q1, n1⟩ := h.reads I y r1
      obtain ⟨bs, q2, n2⟩ := t.reads I y r2
      exact ⟨_, .cons q1 q2, fun z => by
        rcases List.mem_append.mp z with q | q
        · exact n1 q
        · exact n2 q⟩
end
end
/-- repr of such data -/
def rReprX : List V → Hp → VK → Prop := fun xs H Q => ∃ (v : V) (d : PyData), xs = [v] ∧ Sys H ∧ Dq H v d ∧ d.showable = true ∧ d.depth ≤ 60 ∧ d.shown.length ≤ sizeLine ∧ Q (.str d.shown) H
theorem call_reprX {X : Cx} (hg : X.A.guards = some []) (hu : X.A.units + 100 < cLine) : CallR X (.builtin "repr") rReprX := by
  intro pins s σ H xs us Q I r h
  obtain ⟨v, d, rfl, y, hd, sh, dp, sz, q⟩ := h
  obtain ⟨u, rfl, ru⟩ := vals1 r
  obtain ⟨as, rd, na⟩ := hd.reads I y ru
  cases hd with
  | non =>
    cases (show u = Value.none from ru)
    exact PySem.P.repr_of_none ⟨.str _, H, I.tok _, ⟨_, rfl⟩, q⟩
  | bl b =>
    cases (show u = Value.bool b from ru)
    exact PySem.P.repr_of_bool ⟨.str _, H, I.tok _, ⟨_, rfl⟩, q⟩
  | int i =>
    obtain ⟨t, rfl⟩ := (show ∃ t, u = Value.int i t from ru)
    exact PySem.P.repr_of_int (by simpa [PyData.showable] using sh) ⟨.str _, H, I.tok _, ⟨_, rfl⟩, q⟩
  | str x hx =>
    obtain ⟨t, rfl⟩ := (show ∃ t, u = Value.str x t from ru)
    exact PySem.P.repr_of_str ⟨.str _, H, I.tok _, ⟨_, rfl⟩, q⟩ sz
  | lst hs ha =>
    cases ru
    exact repr_of_reads' rd sh (fun _ => na) hg (by omega) (fun _ _ e => e) (fun h' t tk kp => ⟨.str _, H, I.kept kp, ⟨_, rfl⟩, q⟩) sz
  | tup hs ha =>
    cases ru
    exact repr_of_reads' rd sh (fun _ => na) hg (by omega) (fun _ _ e => e) (fun h' t tk kp => ⟨.str _, H, I.kept kp, ⟨_, rfl⟩, q⟩) sz
  | dic hs =>
    cases ru
    exact repr_of_reads' rd sh (fun _ => na) hg (by omega) (fun _ _ e => e) (fun h' t tk kp => ⟨.str _, H, I.kept kp, ⟨_, rfl⟩, q⟩) sz
/-- of which built-in class data is -/
def tyN : PyData → String
  | .none => "NoneType" | .bool _ => "bool" | .int _ => "int" | .str _ => "str" | .list _ => "list" | .tuple _ => "tuple" | .dict _ => "dict"
theorem Dq.ty {K : Frag} {H : Hp} {v : V} {d : PyData} (h : Dq H v d) : TyX K H v (.type (tyN d)) := by
  cases h with
  | non => exact .base .non
  | bl b => exact .base (.bl b)
  | int i => exact .base (.int i)
  | str x _ => exact .base (.str x)
  | lst e _ => exact .base (.lst e)
  | tup e _ => exact .base (.tup e)
  | dic e => exact .base (.dK e)
def isTup : PyData → Bool | .tuple _ => true | _ => false
def isStr : PyData → Bool | .str _ => true | _ => false
def isInt : PyData → Bool | .int _ => true | .bool _ => true | _ => false
def isBool : PyData → Bool | .bool _ => true | _ => false
theorem kt (d : PyData) : kitB (tyN d) "tuple" = some (isTup d) := by
  cases d
  · exact (by decide +kernel : kitB "NoneType" "tuple" = some false)
  · exact (by decide +kernel : kitB "bool" "tuple" = some false)
  · exact (by decide +kernel : kitB "int" "tuple" = some false)
  · exact (by decide +kernel : kitB "str" "tuple" = some false)
  · exact (by decide +kernel : kitB "list" "tuple" = some false)
  · exact (by decide +kernel : kitB "tuple" "tuple" = some true)
  · exact (by decide +kernel : kitB "dict" "tuple" = some false)
theorem ks (d : PyData) : kitB (tyN d) "str" = some (isStr d) := by
  cases d
  · exact (by decide +kernel : kitB "NoneType" "str" = some false)
  · exact (by decide +kernel : kitB "bool" "str" = some false)
  · exact (by decide +kernel : kitB "int" "str" = some false)
  · exact (by decide +kernel : kitB "str" "str" = some true)
  · exact (by decide +kernel : kitB "list" "str" = some false)
  · exact (by decide +kernel : kitB "tuple" "str" = some false)
  · exact (by decide +kernel : kitB "dict" "str" = some false)
theorem ki (d : PyData) : kitB (tyN d) "int" = some (isInt d) := by
  cases d
  · exact (by decide +kernel : kitB "NoneType" "int" = some false)
  · exact (by decide +kernel : kitB "bool" "int" = some true)
  · exact (by decide +kernel : kitB "int" "int" = some true)
  · exact (by decide +kernel : kitB "str" "int" = some false)
  · exact (by decide +kernel : kitB "list" "int" = some false)
  · exact (by decide +kernel : kitB "tuple" "int" = some false)
  · exact (by decide +kernel : kitB "dict" "int" = some false)
theorem kb (d : PyData) : kitB (tyN d) "bool" = some (isBool d) := by
  cases d
  · exact (by decide +kernel : kitB "NoneType" "bool" = some false)
  · exact (by decide +kernel : kitB "bool" "bool" = some true)
  · exact (by decide +kernel : kitB "int" "bool" = some false)
  · exact (by decide +kernel : kitB "str" "bool" = some false)
  · exact (by decide +kernel : kitB "list" "bool" = some false)
  · exact (by decide +kernel : kitB "tuple" "bool" = some false)
  · exact (by decide +kernel : kitB "dict" "bool" = some false)
/-- what isinstance(x, tuple) and the like ask -/
theorem is_tup {K : Frag} {H : Hp} {v : V} {d : PyData} {Q : VK} (h : Dq H v d) (q : Q (.bl (isTup d)) H) : rIsi K [v, .ty "tuple"] H Q := ⟨v, .ty "tuple", _, _, _, rfl, .ty _, h.ty, kit_ty (kt d), q⟩
theorem is_str {K : Frag} {H : Hp} {v : V} {d : PyData} {Q : VK} (h : Dq H v d) (q : Q (.bl (isStr d)) H) : rIsi K [v, .ty "str"] H Q := ⟨v, .ty "str", _, _, _, rfl, .ty _, h.ty, kit_ty (ks d), q⟩
theorem is_int {K : Frag} {H : Hp} {v : V} {d : PyData} {Q : VK} (h : Dq H v d) (q : Q (.bl (isInt d)) H) : rIsi K [v, .ty "int"] H Q := ⟨v, .ty "int", _, _, _, rfl, .ty _, h.ty, kit_ty (ki d), q⟩
theorem is_bool {K : Frag} {H : Hp} {v : V} {d : PyData} {Q : VK} (h : Dq H v d) (q : Q (.bl (isBool d)) H) : rIsi K [v, .ty "bool"] H Q := ⟨v, .ty "bool", _, _, _, rfl, .ty _, h.ty, kit_ty (kb d), q⟩
end DQ
set_option Elab.async false
set_option linter.all false
set_option maxRecDepth 100000
set_option maxHeartbeats 4000000
/-! a list or a tuple of anything, held against the empty one -/
namespace NI
open PySem PySem.Spec PyProof.Rows L2 PySem.SeqAt
section
variable {X : Cx}
def rNilL (K : PySem.W.Frag) (f : Bool → Bool) : R2 := fun x y H Q => ∃ a b xs, x = .ref a ∧ y = .ref b ∧ SqL K H a xs ∧ SqL K H b [] ∧ Q (.bl (f xs.isEmpty)) H
def rNilT (K : PySem.W.Frag) (f : Bool → Bool) : R2 := fun x y H Q => ∃ a b xs, x = .ref a ∧ y = .ref b ∧ SqT K H a xs ∧ SqT K H b [] ∧ Q (.bl (f xs.isEmpty)) H
theorem op_eqNil (hu : X.A.units < cLine) : OpR X (compareOp .Eq) (rNilL X.K id) := by
  intro pins s σ H x y v u Q I rx ry h
  obtain ⟨a, b, xs, rfl, rfl, ha, hb, q⟩ := h
  cases rx
  cases ry
  obtain ⟨its, r, pl, hz⟩ := I.list ha
  obtain ⟨its2, r2, pl2, hz2⟩ := I.list hb
  cases r2
  cases xs with
  | nil =>
    cases r
    exact eq_listAt (e := fun _ => true) pl.isList pl2.isList rfl hu (fun j h1 _ => absurd h1 (Nat.not_lt_zero j)) ⟨.bl true, H, I, rfl, q⟩
  | cons x xs =>
    cases r with
    | cons r1 r2 => exact eq_list_lengthsAt pl.isList pl2.isList (by simp) hu ⟨.bl false, H, I, rfl, q⟩
theorem op_neNil (hu : X.A.units < cLine) : OpR X (compareOp .NotEq) (rNilL X.K not) := by
  intro pins s σ H x y v u Q I rx ry h
  obtain ⟨a, b, xs, rfl, rfl, ha, hb, q⟩ := h
  cases rx
  cases ry
  obtain ⟨its, r, pl, hz⟩ := I.list ha
  obtain ⟨its2, r2, pl2, hz2⟩ := I.list hb
  cases r2
  cases xs with
  | nil =>
    cases r
    exact RcNeAt.lists (e := fun _ => true) pl.isList pl2.isList rfl hu (fun j h1 _ => absurd h1 (Nat.not_lt_zero j)) _ _ _ _ ⟨.bl false, H, I, rfl, q⟩
  | cons x xs =>
    cases r with
    | cons r1 r2 => exact RcNeAt.lists_lengths pl.isList pl2.isList (by simp) hu _ _ _ _ ⟨.bl true, H, I, rfl, q⟩
theorem op_eqNilT (hu : X.A.units < cLine) : OpR X (compareOp .Eq) (rNilT X.K id) := by
  intro pins s σ H x y v u Q I rx ry h
  obtain ⟨a, b, xs, rfl, rfl, ha, hb, q⟩ := h
  cases rx
  cases ry
  obtain ⟨its, r, pl, hz⟩ := I.tuple ha
  obtain ⟨its2, r2, pl2, hz2⟩ := I.tuple hb
  cases r2
  cases xs with
  | nil =>
    cases r
    exact eq_tupleAt (e := fun _ => true) pl pl2 hu (fun j h1 _ => absurd h1 (Nat.not_lt_zero j)) ⟨.bl true, H, I, rfl, q⟩
  | cons x xs =>
    cases r with
    | cons r1 r2 => exact eq_tupleAt (e := fun _ => true) pl pl2 hu (fun j _ h2 => absurd h2 (Nat.not_lt_zero j)) ⟨.bl false, H, I, rfl, q⟩
end
end NI
namespace NI
open PySem PySem.Spec PyProof.Rows L2 PySem.SeqAt
section
variable {X : Cx}
theorem op_neNilT (hu : X.A.units < cLine) : OpR X (compareOp .NotEq) (rNilT X.K not) := by
  intro pins s σ H x y v u Q I rx ry h
  obtain ⟨a, b, xs, rfl, rfl, ha, hb, q⟩ := h
  cases rx
  cases ry
  obtain ⟨its, r, pl, hz⟩ := I.tuple ha
  obtain ⟨its2, r2, pl2, hz2⟩ := I.tuple hb
  cases r2
  cases xs with
  | nil =>
    cases r
    exact RcNeAt.tuples (e := fun _ => true) pl pl2 hu (fun j h1 _ => absurd h1 (Nat.not_lt_zero j)) _ _ _ _ ⟨.bl false, H, I, rfl, q⟩
  | cons x xs =>
    cases r with
    | cons r1 r2 => exact RcNeAt.tuples (e := fun _ => true) pl pl2 hu (fun j _ h2 => absurd h2 (Nat.not_lt_zero j)) _ _ _ _ ⟨.bl true, H, I, rfl, q⟩
end
end NI
set_option Elab.async false
set_option linter.all false
set_option maxRecDepth 100000
set_option maxHeartbeats 4000000
/-! sets of texts, made of a tuple, gathered, sorted -/
namespace SX
open PySem PySem.Spec PyProof.Rows PySem.Froz L2
/-- the entries' texts are l in some order; the places rise; the order is told -/
structure TP (P : Program) (w : World) (D : SD) (l : List Str) : Prop where
  ok : TxOk P w D l
  pm : (D.1.toList.map fun e => strOf e.2).Perm l
  ri : Ris D.2.2.place.toList
  le : w.params.followText "set-order" = true ∨ D.2.2.led = true
def SetT (P : Program) (w : World) (h : Heap) (a : Addr) (l : List Str) : Prop := ∃ D : SD, h.get? a = some (sObj "set" D) ∧ TP P w D l
theorem tail_keep (ep : Nat) (es1 : Array (Int × Value)) (t2 : SetTable) (wd : Bool) (r : Ris t2.place.toList) :
    (tailTx ep es1 t2 wd).1.toList.Perm es1.toList ∧ Ris (tailTx ep es1 t2 wd).2.2.place.toList ∧ (tailTx ep es1 t2 wd).2.2.led = t2.led := by
  unfold tailTx
  by_cases c : (!wd && t2.tooFull) = true
  · rw [if_pos c]
    exact ⟨relayAll_perm t2 es1 _, relayAll_ris t2 es1 _, relayAll_led t2 es1 _⟩
  · rw [if_neg c]
    exact ⟨.refl _, r, rfl⟩
theorem TP.add {P : Program} {w : World} {D : SD} {l : List Str} {k : Str} (u : Tok) (F : TP P w D l) : TP P w (addTx (hashStr w k) (.str k u) D) (k :: l) := by
  obtain ⟨es, ep, t⟩ := D
  have r1 : Ris (layNew t es (hashStr w k) (.str k u)).2.1.place.toList := layNew_ris t es _ _ F.ri
  have e1 := layNew_led t es (hashStr w k) (.str k u)
  have p1 := layNew_perm t es (hashStr w k) (.str k u)
  let t2 : SetTable := if (layNew t es (hashStr w k) (.str k u)).2.1.plain = true then { (layNew t es (hashStr w k) (.str k u)).2.1 with plain := false } else (layNew t es (hashStr w k) (.str k u)).2.1
  have r2 : Ris t2.place.toList := by
    show Ris (if _ then _ else _ : SetTable).place.toList
    split
    · exact r1
    · exact r1
  have e2 : t2.led = t.led := by
    show (if _ then _ else _ : SetTable).led = _
    split
    · exact e1
    · exact e1
  obtain ⟨q1, q2, q3⟩ := tail_keep ep (layNew t es (hashStr w k) (.str k u)).1 t2 (layNew t es (hashStr w k) (.str k u)).2.2.1 r2
  refine ⟨add_ok u F.ok, ?_, q2, ?_⟩
  · refine (q1.map _).trans ((p1.map _).trans ?_)
    rw [Array.toList_push, List.map_append]
    exact (List.perm_append_comm (l₁ := List.map _ es.toList) (l₂ := [k])).trans (List.Perm.cons k F.pm)
  · rcases F.le with z | z
    · exact .inl z
    · exact .inr (q3.trans (e2.trans z))
section
variable {P : Program} {w : World} {A : Around} {E : Value → Shared → Prop} {s : Shared}
theorem found {a : Addr} {D : SD} {l : List Str} {k : Str} {u : Tok} {Q : Bool → Shared → Prop} (ho : s.heap.get? a = some (sObj "set" D)) (F : TxOk P w D l) (hk : k ∈ l) (hb : l.length < scanBound) (h : Q false s) :
    wpAny (model P w) A (setAddHashed a (.str k u) (hashStr w k)) Q E s := by
  obtain ⟨es, ep, t⟩ := D
  have hd : (sObj "set" (es, ep, t)).data = .set es ep t := rfl
  have el : ElemsOf (PySem.strKind P w) es.toList := F.el
  have f1 : t.fits es.size = true := F.fit
  have n1 : es.size < scanBound := by
    have z : es.size = l.length := F.sz
    omega
  obtain ⟨e, he, ie⟩ := (F.mem k).mp hk
  unfold setAddHashed setAddHashedIn
  refine wpAny_holding (wpAny_bind (wpAny_setState_of ho hd f1 ?_))
  dsimp only
  rw [byScan_of rfl n1 el]
  simp only [↓reduceIte]
  unfold setAddByScan
  refine wpAny_bind (wpAny_bind (wpAny_rule (wpAny_bind (wpAny_setScan_of (knd := PySem.strKind P w) (k := k) (is_str k u) ho hd f1 el ?_))))
  cases hf : List.findIdx? (fun e => (PySem.strKind P w).is k e.2) es.toList with
  | none =>
    have c := List.findIdx?_eq_none_iff.mp hf e he
    rw [ie] at c
    cases c
  | some j =>
    dsimp only
    exact wpAny_pure (wpAny_pure h)
/-- one more text put into it -/
def plus (l : List Str) (k : Str) : List Str := if k ∈ l then l else k :: l
theorem add_one {a : Addr} {l : List Str} {k : Str} {u : Tok} {Q : Bool → Shared → Prop} (S : SetT P w s.heap a l) (hb : l.length + 1 < scanBound)
    (h : ∀ h' b, Heap.SameBut a s.heap h' → SetT P w h' a (plus l k) → Q b { s with heap := h' }) : wpAny (model P w) A (setAddHashed a (.str k u) (hashStr w k)) Q E s := by
  obtain ⟨D, ho, F⟩ := S
  by_cases hk : k ∈ l
  · refine found ho F.ok hk (by omega) (h s.heap false (Heap.SameBut.refl a s.heap) ?_)
    unfold plus
    rw [if_pos hk]
    exact ⟨D, ho, F⟩
  · refine add_x ho F.ok hk hb (h _ true (Heap.SameBut.update s.heap a _) ?_)
    unfold plus
    rw [if_neg hk]
    exact ⟨_, get_upd _ ho rfl, F.add u⟩
theorem SetT.at {h h' : Heap} {a : Addr} {l : List Str} (S : SetT P w h a l) (k : ∀ o, h.get? a = some o → h'.get? a = some o) : SetT P w h' a l := by
  obtain ⟨D, e, F⟩ := S
  exact ⟨D, k _ e, F⟩
/-- the list gathered from the first texts -/
def pack (ns : List Str) : List Str := ns.foldl plus []
theorem pack_take {ns : List Str} {i : Nat} {z : Str} (h : ns[i]? = some z) : pack (ns.take (i + 1)) = plus (pack (ns.take i)) z := by
  unfold pack
  rw [List.take_add_one, h]
  show ((ns.take i) ++ [z]).foldl plus [] = _
  rw [List.foldl_append]
  rfl
theorem plus_len (l : List Str) (k : Str) : (plus l k).length ≤ l.length + 1 := by
  unfold plus
  split
  · omega
  · exact Nat.le_refl _
theorem fold_len : ∀ (ns l : List Str), (ns.foldl plus l).length ≤ l.length + ns.length
  | [], l => Nat.le_refl _
  | n :: ns, l => by
    have a := fold_len ns (plus l n)
    have b := plus_len l n
    show ((ns.foldl plus (plus l n)).length) ≤ _
    rw [List.length_cons]
    omega
theorem pack_len (ns : List Str) : (pack ns).length ≤ ns.length := by
  have z := fold_len ns []
  rw [List.length_nil, Nat.zero_add] at z
  exact z
theorem plus_mem {l : List Str} {k x : Str} : x ∈ plus l k ↔ x ∈ l ∨ x = k := by
  unfold plus
  split
  · rename_i h
    exact ⟨.inl, fun z => z.elim id fun e => e ▸ h⟩
  · rw [List.mem_cons]
    exact Or.comm
theorem plus_nodup {l : List Str} {k : Str} (h : l.Nodup) : (plus l k).Nodup := by
  unfold plus
  split
  · exact h
  · rename_i z
    exact List.nodup_cons.mpr ⟨z, h⟩
theorem fold_mem {x : Str} : ∀ (ns l : List Str), x ∈ ns.foldl plus l ↔ x ∈ l ∨ x ∈ ns
  | [], l => by simp
  | n :: ns, l => by
    show x ∈ ns.foldl plus (plus l n) ↔ _
    rw [fold_mem ns, plus_mem, List.mem_cons, or_assoc]
theorem fold_nodup : ∀ (ns l : List Str), l.Nodup → (ns.foldl plus l).Nodup
  | [], l, h => h
  | n :: ns, l, h => fold_nodup ns _ (plus_nodup h)
theorem pack_mem {x : Str} {ns : List Str} : x ∈ pack ns ↔ x ∈ ns := by
  unfold pack
  rw [fold_mem]
  simp
theorem pack_nodup (ns : List Str) : (pack ns).Nodup := fold_nodup ns [] List.nodup_nil
theorem loop {I : Addr} {fp wr : List Addr} {G : Array GenState → Array GenState → Prop} {n : Nat} {Pv : Nat → Value → Prop} {St : Nat → Shared → Prop} {R : Result → Shared → Prop}
    (W : WalksS P w A.in1 I fp wr G n Pv St) (S : Addr) (nf : S ∉ fp) (ns : List Str) (en : n = ns.length) (hb : ns.length + 1 < scanBound) (val : ∀ i v, Pv i v → ∃ k t, ns[i]? = some k ∧ v = .str k t) :
    ∀ (k i : Nat) (s : Shared), n - i = k → i ≤ n → St i s → SetT P w s.heap S (pack (ns.take i)) →
      (∀ s', Moved (S :: wr) G s s' → SetT P w s'.heap S (pack ns) → R (.ok (.ret .none)) s') → codeAny (model P w) A (.builtin "set.update.loop" ⟨[.ref S, .ref I], []⟩) R s := by
  have nw : S ∉ wr := fun h => nf (W.sub _ h)
  have sub : ∀ b ∈ wr, b ∈ S :: wr := fun b hb => List.mem_cons_of_mem _ hb
  intro k
  induction k with
  | zero =>
    intro i s ek hi st hS fin
    obtain rfl : i = n := by omega
    refine codeAny_builtin PyProof.Rows.F.entry_set_update_loop ?_
    rw [Around.under_plainId PyProof.Rows.F.plain_set_update_loop _]
    show wpAny _ A.in1 (pyNext (Value.ref I) >>= _) _ _ s
    refine wpAny_bind (W.done s _ _ st fun s1 m1 => ?_)
    rw [List.take_of_length_le (show ns.length ≤ i by omega)] at hS
    show wpAny _ A.in1 (ret Value.none) _ _ s1
    exact wpAny_pure (fin s1 (m1.mono sub) (hS.at fun o e => m1.heap S o nw e))
  | succ k ih =>
    intro i s ek hi st hS fin
    have lt : i < n := by omega
    refine codeAny_builtin PyProof.Rows.F.entry_set_update_loop ?_
    rw [Around.under_plainId PyProof.Rows.F.plain_set_update_loop _]
    show wpAny _ A.in1 (pyNext (Value.ref I) >>= _) _ _ s
    refine wpAny_bind (W.item i s _ _ lt st fun v s1 hP st1 m1 => ?_)
    obtain ⟨z, t, hz, rfl⟩ := val i v hP
    have hS1 : SetT P w s1.heap S (pack (ns.take i)) := hS.at fun o e => m1.heap S o nw e
    show wpAny _ A.in1 (holding [Value.str z t] (setAdd S (.str z t)) >>= _) _ _ s1
    refine wpAny_bind (wpAny_holding ?_)
    unfold setAdd
    refine wpAny_holding (wpAny_bind ((PySem.strKind P w).pyHash (k := z) (is_str z t) ?_))
    have pl := pack_len (ns.take i)
    rw [List.length_take] at pl
    refine add_one (s := { s1 with toks := s1.toks + 1 }) hS1 (by omega) fun h2 bb sb S2 => ?_
    rw [← pack_take hz] at S2
    refine wpAny_pure ⟨plainId_quiet PyProof.Rows.F.plain_set_update_loop _, ih (i + 1) _ (by omega) lt (W.frame _ s1 _ _ st1 (Nat.le_succ _) fun b hb o e => ?_) S2 fun s3 m3 S3 => fin s3 (Moved.trans W.gtrans ((m1.mono sub).then_heap (Nat.le_succ _) fun b o hb e => ?_) m3) S3⟩
    · rw [sb.2 b fun z : b = S => nf (z ▸ hb)]
      exact e
    · rw [sb.2 b fun z : b = S => hb (by rw [z]; exact List.mem_cons_self)]
      exact e
end
end SX
set_option Elab.async false
set_option linter.all false
set_option maxRecDepth 100000
set_option maxHeartbeats 6400000
namespace SX
open PySem PySem.Spec PyProof.Rows PySem.Froz L2
/-- a set as it is made, in this world -/
def bare (w : World) : Obj := { cls := .type "set", dict := none, data := .set #[] 0 (.fresh 0 0 (!w.params.followText "set-order")) }
theorem bare_ok {P : Program} {w : World} {h : Heap} {a : Addr} (e : h.get? a = some (bare w)) : SetT P w h a [] := by
  refine ⟨(#[], 0, .fresh 0 0 (!w.params.followText "set-order")), e, TxOk.nil (by rfl), .refl _, List.Pairwise.nil, ?_⟩
  show _ ∨ (!w.params.followText "set-order") = true
  cases w.params.followText "set-order"
  · exact .inr rfl
  · exact .inl rfl
section
variable {P : Program} {w : World} {A : Around} {E : Value → Shared → Prop} {s : Shared}
theorem strs_get : ∀ {us : List Value} {xs : List Str}, StrsAre us xs → ∀ {i : Nat} {v : Value}, us[i]? = some v → ∃ k t, xs[i]? = some k ∧ v = .str k t
  | _, _, .nil, i, v, h => by simp at h
  | _, _, .cons n t r, 0, v, h => by
    rw [List.getElem?_cons_zero] at h
    exact ⟨n, t, rfl, (Option.some.inj h).symm⟩
  | _, _, .cons n t r, i + 1, v, h => by
    rw [List.getElem?_cons_succ] at h ⊢
    exact strs_get r h
theorem of_tuple {l : Addr} {items : Array Value} (ns : List Str) {Q : Value → Shared → Prop} (hh : A.handled = none) (hl : s.heap.IsTuple l items) (it : StrsAre items.toList ns) (hb : ns.length + 1 < scanBound)
    (fin : ∀ (h' : Heap) (tk : Nat), SetT P w h' s.heap.objs.size (pack ns) → (∀ b o, s.heap.get? b = some o → h'.get? b = some o) → Q (.ref s.heap.objs.size) { s with heap := h', toks := tk }) :
    wpAny (model P w) A (call (.type "set") [.ref l]) Q E s := by
  have n1 : items.size = ns.length := by
    have q := StrsAre.len_eq it
    rw [Array.length_toList] at q
    exact q
  have ⟨c, tl, hmro⟩ := PySem.F.called_set.mro
  have hmade := PySem.F.called_set.made
  have hsub := PySem.F.called_set.sub
  refine wpAny_call (codeAny_of_tree ?_)
  show wpAny _ _ (callAny (.type "set") _) _ _ _
  refine wpAny_pure ⟨Code.quiet_builtin _ (by decide +kernel), codeAny_builtin PySem.F.entry_type_call ?_⟩
  rw [Around.under_plain (weight_type_call_type "set" [.ref l] []) rfl]
  have x1 := PySem.F.called_set.notType
  have x2 := PySem.F.called_set.canCreate
  have x3 := PySem.F.typeCall_set_1 (.ref l)
  repeat (any_goals (first | assumption | wp_step))
  refine codeAny_mono (code_set_led1 (.ref l) (E := E) (Q₁ := fun x y => x = .ref s.heap.objs.size ∧ y = { s with heap := s.heap.push (bare w) }) ⟨rfl, rfl⟩) fun r s1 hr => ?_
  cases r with
  | error e => exact hr
  | ok fl =>
    cases fl with
    | ret x =>
      obtain ⟨rfl, rfl⟩ := hr
      have hS : (s.heap.push (bare w)).get? s.heap.objs.size = some (bare w) := Heap.get?_push_size _ rfl
      have hT : Shared.TypeIs { s with heap := s.heap.push (bare w) } (.ref s.heap.objs.size) "set" := ⟨_, hS, rfl⟩
      have y1 := PySem.F.called_set.init.lookup
      have y2 := PySem.F.called_set.init.bind (.ref s.heap.objs.size)
      repeat (any_goals (first | assumption | wp_step))
      refine codeAny_mono (codeAny_call_builtin (R := wants (fun r y => r = .none ∧ ∃ h' tk, y = { s with heap := h', toks := tk } ∧ SetT P w h' s.heap.objs.size (pack ns) ∧ (∀ b o, s.heap.get? b = some o → h'.get? b = some o)) E)
        PySem.F.called_set.init.plain PySem.F.entry_set_init (check_set_init_1 hT ?_)) fun r2 s2 hr2 => ?_
      · obtain ⟨⟨ocls, odict, odata, oslots⟩, hol, hcl, nl, hdl⟩ := hl
        simp only at hcl hdl
        subst hcl hdl
        have hol2 : (s.heap.push (bare w)).get? l = some { cls := .type "tuple", dict := odict, data := .seq items nl, slots := oslots } := Heap.get?_push_of_some _ hol
        have z1 := PySem.F.sub_tuple_set
        have z2 := PySem.F.sub_tuple_frozenset
        have z3 : (Value.type "tuple" == Value.type "dict") = false := by decide
        have hl1 : (s.heap.push (bare w)).IsTuple l items := ⟨_, hol2, rfl, nl, rfl⟩
        unfold Builtin.«set.__init__» noKeywords Builtin.Frozenset.updateFrom
        generalize hPI : pyIter = PI
        wp_walk
        subst hPI
        refine wpAny_pyIter_tuple hl1 (wpAny_bind (wpAny_runValue ?_))
        have lS : l < s.heap.objs.size := Heap.lt_size hol
        have h3 : A.in1.in1.in1.handled = none := by simp [hh]
        have nI : l ≠ (s.heap.push (bare w)).objs.size := by
          rw [Heap.size_push]
          exact Nat.ne_of_lt (Nat.lt_succ_of_lt lS)
        have nf : s.heap.objs.size ∉ [(s.heap.push (bare w)).objs.size, l] := fun z => by
          rw [Heap.size_push] at z
          rcases List.mem_cons.mp z with z | z
          · omega
          · have z := List.mem_singleton.mp z
            exact Nat.ne_of_gt lS z
        refine loop ((Walks.tuple h3 _ l nI items).toS) s.heap.objs.size nf ns n1 hb (fun i v hv => strs_get it (by rw [Array.getElem?_toList]; exact hv)) (items.size - 0) 0 _ (by omega) (Nat.zero_le _)
          ⟨⟨_, Heap.get?_push_size _ rfl, rfl, rfl⟩, hl1.push _⟩ (bare_ok (Heap.get?_push_of_some _ hS)) fun s' hm hS' => ?_
        obtain ⟨h', g', d', tk', os'⟩ := s'
        have eg : g' = s.gens := hm.gens
        have ed : d' = s.drawn := hm.drawn
        have eo : os' = s.os := hm.os
        subst eg ed eo
        show wpAny _ _ _ _ _ _
        refine wpAny_pure ?_
        show wpAny _ _ (ret Value.none) _ _ _
        refine wpAny_pure ⟨rfl, h', tk', rfl, hS', fun b o e => hm.heap b o (fun z => ?_) (Heap.get?_push_of_some _ (Heap.get?_push_of_some _ e))⟩
        have b0 : b < s.heap.objs.size := Heap.lt_size e
        rcases List.mem_cons.mp z with z | z
        · exact Nat.ne_of_lt b0 z
        · have z := List.mem_singleton.mp z
          rw [Heap.size_push] at z
          exact Nat.ne_of_lt (Nat.lt_succ_of_lt b0) z
      · cases r2 with
        | error e => exact hr2
        | ok f2 =>
          cases f2 with
          | ret r =>
            obtain ⟨rfl, h', tk, rfl, S2, k2⟩ := hr2
            repeat (any_goals (first | assumption | wp_step))
            exact fin _ _ S2 k2
          | _ => exact hr2.elim
    | _ => exact hr.elim
/-- sorted of it -/
theorem strs_rev {vs : List Value} (h : ∀ v ∈ vs, ∃ k t, v = Value.str k t) : StrsAre vs (vs.map strOf) := strsAre_map vs h
theorem sorted_of {a : Addr} {l : List Str} {Q : Value → Shared → Prop} (S : SetT P w s.heap a l) (hh : A.handled = none) (n64 : l.length < 64)
    (fin : ∀ s' p (out : Array Value) (c : Nat) (ns : List Str), (∀ b o, s.heap.get? b = some o → s'.heap.get? b = some o) → s'.gens = s.gens → s'.os = s.os → s.heap.objs.size ≤ p →
      s'.heap.get? p = some (seqObj "list" out c) → StrsAre out.toList ns → sortedS ns = true → ns.Perm l → Q (.ref p) s') : wpAny (model P w) A (call (.builtin "sorted") [.ref a]) Q E s := by
  obtain ⟨⟨es, ep, t⟩, ho, F⟩ := S
  have sz : es.size = l.length := F.ok.sz
  have b1 : es.size < scanBound := by
    show es.size < 4096
    omega
  refine Calls.call_function_entry kind_sorted plain_sorted entry_sorted (args_sorted1 _) ?_
  unfold Builtin.«sorted»
  refine wpAny_bind (m := checkCount "sorted" 1 1 _) (wpAny_pure (wpAny_bind (collect_set (A := A.in1) hh ⟨_, ho, rfl, rfl⟩ F.ok.fit b1 F.ri F.le fun s1 vs k1 z1 g1 o1 pm => ?_)))
  have vl : vs.length = l.length := by
    rw [pm.length_eq, List.length_map, Array.length_toList]
    exact sz
  have hI : StrsAre vs (vs.map strOf) := strs_rev fun v hv => by
    obtain ⟨e, he, q⟩ := List.mem_map.mp (pm.mem_iff.mp hv)
    obtain ⟨⟨k, ik, _⟩, _⟩ := F.ok.el e he
    obtain ⟨u, hu⟩ := Value.isStrOf_shape ik
    exact ⟨k, u, q.symm.trans hu⟩
  have pk : (vs.map strOf).Perm l := by
    have q := pm.map strOf
    rw [List.map_map] at q
    exact q.trans F.pm
  refine wpAny_bind (wpAny_newList ?_ (by rw [vl, sizeLine_eq]; omega))
  have hoL : (s1.heap.push (seqObj "list" vs.toArray 0)).get? s1.heap.objs.size = some (seqObj "list" vs.toArray 0) := Heap.get?_push_size _ rfl
  have k0 : KeysOf PyProof.Rows.strKind (pairsOf vs) := fun p hp => by
    rw [pairsOf_toList] at hp
    obtain ⟨x, u, e⟩ := hI.all _ (mem_zip_self hp).2
    exact ⟨x.cps.toList, by rw [e]⟩
  have kk : ∀ v1 v2 rest, vs = v1 :: v2 :: rest → keyKind' (v1 :: v2 :: rest).toArray = pure oneType' := fun v1 v2 rest e => by
    rw [e] at hI
    exact keyKind_strs hI
  refine wpAny_bind (wpAny_holding (wpAny_call_entry slot_list_sort ⟨_, hoL, rfl⟩ entry_list_sort (list_sort_treeK strKind_oneLt hoL k0 kk (by rw [vl]; exact n64) fun st' a1 a2 => ⟨_, rfl, ?_⟩) (args_list_sort _)))
  obtain ⟨c, hc⟩ := sortedHeap_at (vs := vs) (out := (arrOf st').map (·.2)) hoL
  obtain ⟨ss, q1, q2, q3⟩ := sorted_out_str hI a1 a2
  refine wpAny_pure ⟨_, rfl, fin _ s1.heap.objs.size _ c ss (fun b u e => ?_) g1 o1 z1 hc q1 q3 (q2.trans pk)⟩
  have q := k1 b u e
  have lt := Heap.lt_size q
  show (sortedHeap (s1.heap.push (seqObj "list" vs.toArray 0)) s1.heap.objs.size vs _).get? b = some u
  rw [sortedHeap_old (Nat.ne_of_lt lt) (by rw [size_push']; exact Nat.lt_succ_of_lt lt)]
  exact Heap.get?_push_of_some _ q
end
end SX
set_option Elab.async false
set_option linter.all false
set_option maxRecDepth 100000
set_option maxHeartbeats 4000000
namespace SX
open PySem PySem.Spec PyProof.Rows PySem.Froz L2
/-- the set of texts at a -/
def SetTO (P : Program) (w : World) (a : Addr) (l : List Str) : HO := .ext fun h => SetT P w h a l
theorem setTO_new {w : World} {P : Program} {H : Hp} {h : Heap} {a : Addr} {l : List Str} (R : SetT P w h a l) : ObjOk P w H h a (SetTO P w a l) := by
  have ⟨D, ho, _⟩ := R
  exact ⟨R, ⟨_, ho⟩, fun h1 h2 p k => SetT.at p k⟩
theorem vals_of_texts : ∀ {us : List Value} {xs : List Str}, StrsAre us xs → Vals (xs.map V.str) us
  | _, _, .nil => .nil
  | _, _, .cons x t r => .cons ⟨t, rfl⟩ (vals_of_texts r)
theorem texts_of : ∀ {us : List Value} {xs : List Str}, Vals (xs.map V.str) us → StrsAre us xs
  | _, [], r => by
    cases r
    exact .nil
  | _, x :: xs, r => by
    cases r with
    | cons a b =>
      obtain ⟨t, rfl⟩ := a
      exact .cons x t (texts_of b)
section
variable {X : Cx}
/-- set(t) of a tuple of texts -/
def rSetTx (P : Program) (w : World) (K : PySem.W.Frag) : List V → Hp → VK → Prop := fun xs H Q => ∃ (a : Addr) (ws : List Str), xs = [V.ref a] ∧ SqT K H a (ws.map V.str) ∧ ws.length ≤ 1000 ∧
  ∀ p, H p = none → Q (.ref p) (upd H p (SetTO P w p (pack ws)))
theorem cr_setTx (hc : X.calm = true) : CallR X (.type "set") (rSetTx X.prog X.w X.K) := by
  intro pins s σ H xs us Q I r h
  obtain ⟨a, ws, rfl, hq, hn, q⟩ := h
  rw [Vals.ref1 r]
  obtain ⟨its, rv, pl, hz⟩ := I.tuple hq
  refine of_tuple (items := its.toArray) ws (I.ok.hd hc) pl (by rw [List.toList_toArray]; exact texts_of rv) (by show _ < 4096; omega) fun h' tk S k => ?_
  have hn : H s.heap.objs.size = none := I.hok.fresh (Nat.le_refl _)
  exact ⟨.ref _, upd H s.heap.objs.size (SetTO X.prog X.w s.heap.objs.size (pack ws)), I.laid (t' := tk) k (Nat.le_refl _) (setTO_new S), rfl, q _ hn⟩
/-- sorted(s) of a set of fewer than 64 texts -/
def rSortTx (P : Program) (w : World) : List V → Hp → VK → Prop := fun xs H Q => ∃ (a : Addr) (l : List Str), xs = [V.ref a] ∧ H a = some (SetTO P w a l) ∧ l.length < 64 ∧
  ∀ (ns : List Str) (p : Addr), sortedS ns = true → ns.Perm l → H p = none → Q (.ref p) (upd H p (.lst (ns.map V.str)))
theorem cr_sortTx (hc : X.calm = true) : CallR X (.builtin "sorted") (rSortTx X.prog X.w) := by
  intro pins s σ H xs us Q I r h
  obtain ⟨a, l, rfl, ha, n64, q⟩ := h
  have R : SetT X.prog X.w s.heap a l := (I.hok a _ ha).1
  rw [Vals.ref1 r]
  refine sorted_of R (I.ok.hd hc) n64 fun s' p out c ns k g o hp hg hi hs pm => ?_
  have nl : (ns.map V.str).length ≤ sizeLine := by
    rw [List.length_map, pm.length_eq, sizeLine_eq]
    omega
  have np : H p = none := I.hok.fresh hp
  obtain ⟨h2, g2, d2, t2, o2⟩ := s'
  obtain rfl : o2 = s.os := o
  have J : Inv X pins σ (upd H p (.lst (ns.map V.str))) { s with heap := h2, gens := g2, drawn := d2, toks := t2 } :=
    I.call (ch := []) (Un.laid k hp np) (I.hok.laid k hp ⟨nl, out.toList, c, vals_of_texts hi, hg⟩) (by rw [show g2 = s.gens from g]; exact I.bare) (fun _ z => nomatch z)
  exact ⟨.ref p, _, J, rfl, q ns p hs pm np⟩
end
end SX
set_option Elab.async false
set_option linter.all false
set_option maxRecDepth 100000
set_option maxHeartbeats 4000000
/-! the difference of two sets of texts -/
namespace SX
open PySem PySem.Spec PyProof.Rows PySem.Froz L2
section
variable {P : Program} {w : World} {A : Around} {E : Value → Shared → Prop} {s : Shared}
/-- setWalk of a set of texts: its entries, in some order -/
theorem walk_at {a : Addr} {es : Array (Int × Value)} {ep : Nat} {t : SetTable} {l : List Str} {Q : Array (Int × Value) → Shared → Prop} (ho : s.heap.get? a = some (sObj "set" (es, ep, t))) (F : TP P w (es, ep, t) l)
    (h : ∀ xs d, xs.toList.Perm es.toList → Q xs { s with drawn := d }) : wpAny (model P w) A (setWalk a) Q E s := by
  have hf : t.fits es.size = true := F.ok.fit
  unfold setWalk
  refine wpAny_bind (wpAny_setState_of ho rfl hf ?_)
  dsimp only
  refine wpAny_bind (wpAny_byText ?_)
  by_cases hbt : w.params.followText "set-order" = true
  · refine wp_if_pos hbt ?_
    exact wpAny_bind (wpAny_askSetting (wpAny_pure (h _ s.drawn (pick_perm _ _))))
  · refine wp_if_neg hbt ?_
    try refine wpAny_bind (wpAny_pure ?_)
    have led : t.led = true := F.le.resolve_left hbt
    by_cases hd : (!t.plain && decide (es.size > 1)) = true
    · refine wp_if_pos hd ?_
      exact wpAny_bind (drawOrder_at _ _ _ _ (Nat.le_of_eq Array.length_toList) fun ys d p => wpAny_pure (h _ d (by rw [List.toList_toArray]; exact p)))
    · refine wp_if_neg hd ?_
      try refine wpAny_bind (wpAny_pure ?_)
      refine wpAny_bind (wpAny_of_eq (a := ()) ?_ ?_)
      · show (if (!t.led && decide (es.size > 1)) = true then unsupported "set:maker-not-led" else pure ()) = pure ()
        rw [led] <;> rfl
      · exact wpAny_pure (h es s.drawn (.refl _))
theorem quiet_at : ∀ (sets : List Addr) (s : Shared) (Q : Bool → Shared → Prop), (∀ a ∈ sets, ∃ l, SetT P w s.heap a l) → (∀ b, Q b s) → wpAny (model P w) A (setsQuiet sets) Q E s := by
  intro sets s Q hs hq
  unfold setsQuiet
  refine wpAny_bind (wpAny_forIn_list _ (fun rest (b : Option Bool × PUnit) s' => s' = s ∧ ∀ a ∈ rest, ∃ l, SetT P w s.heap a l) _ ?_ ?_ _ _ ⟨rfl, hs⟩)
  · rintro a rest b s' ⟨rfl, hr⟩
    obtain ⟨l, ⟨es, ep, t⟩, ho, F⟩ := hr a (List.mem_cons_self ..)
    have hr' : ∀ a ∈ rest, ∃ l, SetT P w s'.heap a l := fun x hx => hr x (List.mem_cons_of_mem _ hx)
    refine wpAny_bind (m := setEntries a) (wpAny_bind (wpAny_setState_of ho rfl F.ok.fit (wpAny_pure ?_)))
    have el : ∀ e ∈ es.toList, ∃ k u, e.2 = Value.str k u := fun e he => by
      obtain ⟨⟨k, ik, _⟩, _⟩ := F.ok.el e he
      obtain ⟨u, hu⟩ := Value.isStrOf_shape ik
      exact ⟨k, u, hu⟩
    refine wpAny_bind (MeetsSeq2.wpAny_forIn_array _ (fun rest (b : Option Bool × PUnit) s2 => s2 = s' ∧ b.1 = none ∧ ∀ e ∈ rest, ∃ k u, e.2 = Value.str k u) _ ?_ ?_ _ _ ⟨rfl, rfl, el⟩)
    · rintro ⟨h1, x⟩ r2 b2 s2 ⟨rfl, hb, he⟩
      obtain ⟨k, u, hx⟩ := he _ (List.mem_cons_self ..)
      obtain rfl : x = Value.str k u := hx
      exact wpAny_pure ⟨rfl, rfl, fun e h => he e (List.mem_cons_of_mem _ h)⟩
    · rintro ⟨b1, b2⟩ s2 ⟨rfl, hb, _⟩
      obtain rfl : b1 = none := hb
      exact wpAny_pure ⟨rfl, hr'⟩
  · rintro ⟨b1, b2⟩ s' ⟨rfl, _⟩
    cases b1 with
    | none => exact wpAny_pure (hq _)
    | some r => exact wpAny_pure (hq _)
/-- setWalkUnseen: the entries in some order; the one that is filled stays as it was -/
theorem unseen_at {a o r : Addr} {es : Array (Int × Value)} {ep : Nat} {t : SetTable} {l lo lr : List Str} {Q : Array (Int × Value) → Shared → Prop} (ho : s.heap.get? a = some (sObj "set" (es, ep, t))) (F : TP P w (es, ep, t) l)
    (So : SetT P w s.heap o lo) (Sr : SetT P w s.heap r lr) (hz : lr.length < scanBound)
    (h : ∀ xs h' d, xs.toList.Perm es.toList → Heap.SameBut r s.heap h' → SetT P w h' r lr → Q xs { s with heap := h', drawn := d }) : wpAny (model P w) A (setWalkUnseen a [o, r] (some r)) Q E s := by
  have hf : t.fits es.size = true := F.ok.fit
  have walk : wpAny (model P w) A (setWalk a) Q E s := walk_at ho F fun xs d p => h xs s.heap d p (Heap.SameBut.refl r s.heap) Sr
  unfold setWalkUnseen
  refine wpAny_bind (wpAny_setState_of ho rfl hf ?_)
  dsimp only
  refine wpAny_bind (wpAny_byText ?_)
  by_cases c1 : (w.params.followText "set-order" || t.led && t.plain || decide (es.size ≤ 1)) = true
  · refine wp_if_pos c1 ?_
    first
      | exact wpAny_bind (wpAny_mono walk (fun _ _ z => wpAny_pure z) fun _ _ z => z)
      | exact walk
  · refine wp_if_neg c1 ?_
    try refine wpAny_bind (wpAny_pure ?_)
    refine wpAny_bind (quiet_at _ _ _ (fun x hx => ?_) fun b => ?_)
    · rcases List.mem_cons.mp hx with rfl | hx
      · exact ⟨l, _, ho, F⟩
      · rcases List.mem_cons.mp hx with rfl | hx
        · exact ⟨lo, So⟩
        · rw [List.mem_singleton.mp hx]
          exact ⟨lr, Sr⟩
    · cases b with
      | false => exact walk
      | true =>
        obtain ⟨⟨er, epr, tr⟩, hor, Fr⟩ := Sr
        refine wp_if_neg (by simp) ?_
        refine wpAny_bind (wpAny_rule (wpAny_bind (wpAny_setState_of hor rfl Fr.ok.fit ?_)))
        dsimp only
        have nb : ¬ w.params.followText "set-order" = true := fun z => c1 (by rw [z, Bool.true_or, Bool.true_or])
        by_cases c2 : (tr.led && !t.led || tr.plain && !t.plain) = true
        · refine wp_if_pos c2 ?_
          refine wpAny_bind (wpAny_storeSet_of hor rfl ?_ (fits_of_scanBound (by have : er.size = lr.length := Fr.ok.sz; omega)))
          refine wpAny_pure (h es _ s.drawn (.refl _) (Heap.SameBut.update s.heap r _) ?_)
          refine ⟨(er, epr + 1, { tr with led := tr.led && t.led, plain := tr.plain && t.plain }), Heap.get?_update_self _ hor rfl, ⟨⟨Fr.ok.el, Fr.ok.mem, Fr.ok.sz, ?_⟩, Fr.pm, Fr.ri, .inr ?_⟩⟩
          · exact Fr.ok.fit
          · show (tr.led && t.led) = true
            rw [Fr.le.resolve_left nb, F.le.resolve_left nb]
            rfl
        · refine wp_if_neg c2 ?_
          exact wpAny_pure (h es s.heap s.drawn (.refl _) (Heap.SameBut.refl r s.heap) ⟨_, hor, Fr⟩)
theorem size_of {a : Addr} {D : SD} {l : List Str} {Q : Nat → Shared → Prop} (ho : s.heap.get? a = some (sObj "set" D)) (F : TP P w D l) (h : Q l.length s) : wpAny (model P w) A (Builtin.Frozenset.sizeOf a) Q E s := by
  obtain ⟨es, ep, t⟩ := D
  unfold Builtin.Frozenset.sizeOf
  refine wpAny_bind (m := setEntries a) (wpAny_bind (wpAny_setState_of ho rfl F.ok.fit (wpAny_pure (wpAny_pure ?_))))
  have z : es.size = l.length := F.ok.sz
  show Q es.size s
  rw [z]
  exact h
theorem epoch_of {a : Addr} {D : SD} {l : List Str} {Q : Nat → Shared → Prop} (ho : s.heap.get? a = some (sObj "set" D)) (F : TP P w D l) (h : Q D.2.1 s) : wpAny (model P w) A (setEpoch a) Q E s := by
  obtain ⟨es, ep, t⟩ := D
  unfold setEpoch
  exact wpAny_bind (wpAny_setState_of ho rfl F.ok.fit (wpAny_pure h))
theorem any_set {a : Addr} {D : SD} {Q : Bool → Shared → Prop} (ho : s.heap.get? a = some (sObj "set" D)) (h : Q true s) : wpAny (model P w) A (Builtin.Frozenset.isAnySet (.ref a)) Q E s := by
  have hT : s.TypeIs (.ref a) "set" := ⟨_, ho, rfl⟩
  unfold Builtin.Frozenset.isAnySet orM
  refine wpAny_bind (wpAny_isInstance (b := true) hT sub_set_self ?_)
  exact wpAny_pure h
theorem addr_of {M : Model} {a : Addr} {Q : Addr → Shared → Prop} (h : Q a s) : wpAny M A (Builtin.Frozenset.addrOf (.ref a)) Q E s := by
  show wpAny _ _ (pure a) _ _ _
  exact wpAny_pure h
theorem base_of {a : Addr} {D : SD} {Q : Value → Shared → Prop} (ho : s.heap.get? a = some (sObj "set" D)) (h : Q (.type "set") s) : wpAny (model P w) A (Builtin.Frozenset.baseOf a) Q E s := by
  have hT : s.TypeIs (.ref a) "set" := ⟨_, ho, rfl⟩
  unfold Builtin.Frozenset.baseOf
  refine wpAny_bind (wpAny_isInstance (b := true) hT sub_set_self ?_)
  exact wpAny_pure h
theorem diff_at {a o : Addr} {la lo : List Str} {id : String} {Q : Value → Shared → Prop} (Sa : SetT P w s.heap a la) (So : SetT P w s.heap o lo) (small : la.length / 4 ≤ lo.length) (hz : la.length + 1 < scanBound) (hzo : lo.length < scanBound)
    (fin : ∀ (h' : Heap) (d : Drawn) (tk : Nat) (lr : List Str), SetT P w h' s.heap.objs.size lr → (∀ x, x ∈ lr ↔ x ∈ la ∧ x ∉ lo) → lr.length ≤ la.length → (∀ b ob, s.heap.get? b = some ob → h'.get? b = some ob) → Q (.ref s.heap.objs.size) { s with heap := h', drawn := d, toks := tk }) :
    wpAny (model P w) A (Builtin.Frozenset.difference id a (.ref o)) Q E s := by
  obtain ⟨⟨ea, epa, ta⟩, hoa, Fa⟩ := Sa
  obtain ⟨Do, hoo, Fo⟩ := So
  unfold Builtin.Frozenset.difference
  dsimp only
  refine wpAny_bind (any_set hoo ?_)
  refine wp_if_neg (by simp) ?_
  refine wpAny_bind (addr_of ?_)
  refine wp_if_neg (by simp) ?_
  refine wp_if_pos rfl ?_
  refine wpAny_bind (size_of hoo Fo ?_)
  try refine wpAny_bind (wpAny_pure ?_)
  refine wpAny_bind (size_of hoa Fa ?_)
  refine wp_if_neg (by omega) ?_
  try refine wpAny_bind (wpAny_pure ?_)
  refine wpAny_bind (base_of hoa ?_)
  refine wpAny_bind (wpAny_newSet_raw fun led hled => ?_)
  subst hled
  have hR0 : (s.heap.push (bare w)).get? s.heap.objs.size = some (bare w) := Heap.get?_push_size _ rfl
  have SR := bare_ok (P := P) hR0
  have hoa1 : (s.heap.push (bare w)).get? a = some (sObj "set" (ea, epa, ta)) := Heap.get?_push_of_some _ hoa
  have hoo1 : (s.heap.push (bare w)).get? o = some (sObj "set" Do) := Heap.get?_push_of_some _ hoo
  have na : a ≠ s.heap.objs.size := Nat.ne_of_lt (Heap.lt_size hoa)
  have no : o ≠ s.heap.objs.size := Nat.ne_of_lt (Heap.lt_size hoo)
  refine wpAny_bind (addr_of ?_)
  refine wpAny_bind (epoch_of (s := { s with heap := s.heap.push (bare w) }) hoa1 Fa ?_)
  refine wpAny_bind (wpAny_holding ?_)
  refine wpAny_bind (wp_if_pos rfl (unseen_at (s := { s with heap := s.heap.push (bare w) }) hoa1 Fa ⟨Do, hoo1, Fo⟩ SR (by show 0 < 4096; decide) fun xs h1 d1 px sb1 S1 => ?_))
  have hb0 : w = w := rfl
  have elA : ∀ e ∈ ea.toList, ∃ k u, e = (hashStr w k, Value.str k u) ∧ k ∈ la := fun e he => by
    obtain ⟨⟨k, ik, hk⟩, _⟩ := Fa.ok.el e he
    obtain ⟨u, hu⟩ := Value.isStrOf_shape ik
    obtain ⟨e1, e2⟩ := e
    obtain rfl : e1 = hashStr w k := hk
    obtain rfl : e2 = Value.str k u := hu
    exact ⟨k, u, rfl, (Fa.ok.mem k).mpr ⟨_, he, ik⟩⟩
  have keep1 : ∀ b ob, s.heap.get? b = some ob → h1.get? b = some ob := fun b ob e => by
    rw [sb1.2 b (Nat.ne_of_lt (Heap.lt_size e))]
    exact Heap.get?_push_of_some _ e
  refine wpAny_bind (MeetsSeq2.wpAny_forIn_array _ (fun rest (b : PUnit) s2 => ∃ h2 tk lr, s2 = { s with heap := h2, drawn := d1, toks := tk } ∧ SetT P w h2 s.heap.objs.size lr ∧ lr.length + rest.length ≤ la.length ∧ (∀ b ob, s.heap.get? b = some ob → h2.get? b = some ob) ∧ (∀ e ∈ rest, e ∈ ea.toList) ∧
      (∀ x, (x ∈ lr ∨ ∃ e ∈ rest, strOf e.2 = x ∧ x ∉ lo) ↔ x ∈ la ∧ x ∉ lo)) _ ?_ ?_ _ _ ?_)
  · rintro ⟨hx, x⟩ rest b s2 ⟨h2, tk, lr, rfl, S2, ln, k2, mem, inv⟩
    obtain ⟨k, u, e, hk⟩ := elA _ (mem _ (List.mem_cons_self ..))
    cases e
    obtain ⟨eo, epo, to⟩ := Do
    have hoo2 := k2 o _ hoo
    have hoa2 := k2 a _ hoa
    have szo : eo.size = lo.length := Fo.ok.sz
    have next : ∀ h3 lr3, Heap.SameBut s.heap.objs.size h2 h3 → SetT P w h3 s.heap.objs.size lr3 → lr3.length ≤ lr.length + 1 → (∀ y, y ∈ lr3 ↔ y ∈ lr ∨ (y = k ∧ k ∉ lo)) →
        wpAny (model P w) A (Builtin.Frozenset.unchanged id a epa >>= fun _ => pure (ForInStep.yield PUnit.unit))
          (fun r s' => match r with
            | .yield b' => ∃ h2 tk lr, s' = { s with heap := h2, drawn := d1, toks := tk } ∧ SetT P w h2 s.heap.objs.size lr ∧ lr.length + rest.length ≤ la.length ∧ (∀ b ob, s.heap.get? b = some ob → h2.get? b = some ob) ∧ (∀ e ∈ rest, e ∈ ea.toList) ∧ (∀ x, (x ∈ lr ∨ ∃ e ∈ rest, strOf e.2 = x ∧ x ∉ lo) ↔ x ∈ la ∧ x ∉ lo)
            | .done b' => False) E { s with heap := h3, drawn := d1, toks := tk } := fun h3 lr3 sb3 S3 ln3 m3 => by
      have k3 : ∀ b ob, s.heap.get? b = some ob → h3.get? b = some ob := fun b ob e => by
        rw [sb3.2 b (Nat.ne_of_lt (Heap.lt_size e))]
        exact k2 b ob e
      unfold Builtin.Frozenset.unchanged
      refine wpAny_bind (wpAny_bind (epoch_of (k3 a _ hoa) Fa ?_))
      refine wp_if_neg (by simp) ?_
      refine wpAny_pure (wpAny_pure ⟨h3, tk, lr3, rfl, S3, ?_, k3, fun e he => mem e (List.mem_cons_of_mem _ he), fun y => ?_⟩)
      · rw [List.length_cons] at ln
        omega
      · rw [← inv y, m3 y]
        constructor
        · rintro ((h | ⟨rfl, h⟩) | ⟨e, he, h⟩)
          · exact .inl h
          · exact .inr ⟨_, List.mem_cons_self .., rfl, h⟩
          · exact .inr ⟨e, List.mem_cons_of_mem _ he, h⟩
        · rintro (h | ⟨e, he, h⟩)
          · exact .inl (.inl h)
          · rcases List.mem_cons.mp he with rfl | he
            · obtain ⟨h1, h2⟩ := h
              have h1' : k = y := h1
              subst h1'
              exact .inl (.inr ⟨rfl, h2⟩)
            · exact .inr ⟨e, he, h⟩
    refine wpAny_bind (wpAny_holding (wp_if_pos rfl ?_))
    refine wpAny_bind (PySem.W.setFind_any (knd := PySem.strKind P w) (k := k) (S := fun z => decide (z ∈ lo)) (is_str k u) rfl hoo2 rfl Fo.ok.el (fun z => by rw [decide_eq_true_eq]; exact Fo.ok.mem z) (by show eo.size < _; omega) Fo.ok.fit fun r hr => ?_)
    try refine wpAny_bind (wpAny_pure ?_)
    by_cases hko : k ∈ lo
    · have z : r.isSome = true := by rw [hr]; exact decide_eq_true hko
      refine wp_if_neg (by rw [z]; simp) ?_
      refine wpAny_pure ?_
      refine wpAny_mono (next h2 lr (Heap.SameBut.refl _ h2) S2 (by omega) fun y => ⟨.inl, fun h => h.elim (fun h => h) fun h => absurd hko h.2⟩) (fun r s' hq => ?_) fun _ _ z => z
      cases r with
      | yield b' => exact hq
      | done b' => exact hq.elim
    · have z : r.isSome = false := by rw [hr]; exact decide_eq_false hko
      refine wp_if_pos (by rw [z]; rfl) ?_
      rw [List.length_cons] at ln
      refine wpAny_bind (add_one (s := { s with heap := h2, drawn := d1, toks := tk }) S2 (by omega) fun h3 bb sb3 S3 => wpAny_pure ?_)
      refine wpAny_mono (next h3 _ sb3 S3 (plus_len lr k) fun y => ?_) (fun r s' hq => ?_) fun _ _ z => z
      · rw [plus_mem]
        exact ⟨fun h => h.elim .inl fun h => .inr ⟨h, hko⟩, fun h => h.elim .inl fun h => .inr h.1⟩
      · cases r with
        | yield b' => exact hq
        | done b' => exact hq.elim
  · rintro b s2 ⟨h2, tk, lr, rfl, S2, ln, k2, mem, inv⟩
    refine wpAny_pure (wpAny_pure (fin h2 d1 tk lr S2 (fun x => ?_) (by simpa using ln) k2))
    rw [← inv x]
    simp
  · refine ⟨h1, s.toks, [], rfl, S1, ?_, keep1, fun e he => px.mem_iff.mp he, fun x => ?_⟩
    · have z : ea.size = la.length := Fa.ok.sz
      rw [px.length_eq, List.length_nil, Array.length_toList]
      omega
    · constructor
      · rintro (h | ⟨e, he, h1, h2⟩)
        · cases h
        · obtain ⟨k, u, rfl, hk⟩ := elA e (px.mem_iff.mp he)
          obtain rfl : k = x := h1
          exact ⟨hk, h2⟩
      · rintro ⟨h1, h2⟩
        obtain ⟨e, he, ie⟩ := (Fa.ok.mem x).mp h1
        obtain ⟨u, hu⟩ := Value.isStrOf_shape ie
        exact .inr ⟨e, px.mem_iff.mpr he, by rw [hu]; rfl, h2⟩
end
end SX
set_option Elab.async false
set_option linter.all false
set_option maxRecDepth 100000
set_option maxHeartbeats 4000000
namespace SX
open PySem PySem.Spec PyProof.Rows PySem.Froz L2
theorem entry_set_sub : entryFor table "set.__sub__" = some Builtin.«frozenset.__sub__» := 
  entryFor_alias (id' := "frozenset.__sub__") (by kernel_rfl) rfl (by decide +kernel) (by kernel_rfl)
section
variable {P : Program} {w : World} {A : Around} {E : Value → Shared → Prop} {s : Shared}
theorem sub_call {a o : Addr} {la lo : List Str} {Q : Value → Shared → Prop} (Sa : SetT P w s.heap a la) (So : SetT P w s.heap o lo) (small : la.length / 4 ≤ lo.length) (hz : la.length + 1 < scanBound) (hzo : lo.length < scanBound)
    (fin : ∀ (h' : Heap) (d : Drawn) (tk : Nat) (lr : List Str), SetT P w h' s.heap.objs.size lr → (∀ x, x ∈ lr ↔ x ∈ la ∧ x ∉ lo) → lr.length ≤ la.length → (∀ b ob, s.heap.get? b = some ob → h'.get? b = some ob) → Q (.ref s.heap.objs.size) { s with heap := h', drawn := d, toks := tk }) :
    wpAny (model P w) A (binaryOp .Sub (.ref a) (.ref o)) Q E s := by
  obtain ⟨Da, hoa, Fa⟩ := id Sa
  obtain ⟨Do, hoo, Fo⟩ := id So
  have hTa : s.TypeIs (.ref a) "set" := ⟨_, hoa, rfl⟩
  have hTo : s.TypeIs (.ref o) "set" := ⟨_, hoo, rfl⟩
  refine wpAny_binaryOp_same hTa hTo F.fills_set_sub F.slot_set_sub ?_
  refine wpAny_call_entry F.slot_set_sub hTa entry_set_sub ?_ (F.args_set_sub_2 _ _)
  unfold Builtin.«frozenset.__sub__»
  wp_delta
  unfold Builtin.Frozenset.slot1 slotArgs
  simp only [List.isEmpty_nil, Bool.not_true, Bool.false_eq_true, ↓reduceIte, bind_assoc, List.length_nil, List.length_cons, bne_self_eq_false, Nat.zero_add]
  refine wpAny_bind (wpAny_pure ?_)
  try dsimp only
  refine wpAny_bind (wpAny_pure ?_)
  try dsimp only
  unfold andM
  refine wpAny_bind (wpAny_bind (any_set hoa ?_))
  show wpAny _ _ (Builtin.Frozenset.isAnySet (Value.ref o)) _ _ _
  refine any_set hoo ?_
  refine wp_if_neg (by simp) ?_
  refine wpAny_bind (addr_of ?_)
  refine wpAny_bind (diff_at Sa So small hz hzo fun h' d tk lr S m ln k => ?_)
  exact wpAny_pure ⟨_, rfl, by simp, fin h' d tk lr S m ln k⟩
end
section
variable {X : Cx}
/-- the difference of two sets of texts -/
def rSubTx (P : Program) (w : World) : R2 := fun x y H Q => ∃ (a o : Addr) (la lo : List Str), x = .ref a ∧ y = .ref o ∧ H a = some (SetTO P w a la) ∧ H o = some (SetTO P w o lo) ∧ la.length / 4 ≤ lo.length ∧ la.length ≤ 1000 ∧ lo.length ≤ 1000 ∧
  ∀ (p : Addr) (lr : List Str), (∀ x, x ∈ lr ↔ x ∈ la ∧ x ∉ lo) → lr.length ≤ la.length → H p = none → Q (.ref p) (upd H p (SetTO P w p lr))
theorem op_subTx : OpR X (binaryOp .Sub) (rSubTx X.prog X.w) := by
  intro pins s σ H x y v u Q I rx ry h
  obtain ⟨a, o, la, lo, rfl, rfl, ha, ho, small, n1, n2, q⟩ := h
  have Sa : SetT X.prog X.w s.heap a la := (I.hok a _ ha).1
  have So : SetT X.prog X.w s.heap o lo := (I.hok o _ ho).1
  cases rx
  cases ry
  refine sub_call Sa So small (by show _ < 4096; omega) (by show _ < 4096; omega) fun h' d tk lr S m ln k => ?_
  have hn : H s.heap.objs.size = none := I.hok.fresh (Nat.le_refl _)
  have J : Inv X pins σ (upd H s.heap.objs.size (SetTO X.prog X.w s.heap.objs.size lr)) { s with heap := h', drawn := d, toks := tk } :=
    I.call (ch := []) (Un.laid k (Nat.le_refl _) hn) (I.hok.laid k (Nat.le_refl _) (setTO_new S)) I.bare (fun _ z => nomatch z)
  exact ⟨.ref _, _, J, rfl, q _ lr m ln hn⟩
/-- len of a set of texts -/
def rLenTx (P : Program) (w : World) : List V → Hp → VK → Prop := fun xs H Q => ∃ (a : Addr) (l : List Str), xs = [V.ref a] ∧ H a = some (SetTO P w a l) ∧ l.length ≤ 1000 ∧ Q (.int (l.length : Int)) H
theorem cr_lenTx (hc : X.calm = true) : CallR X (.builtin "len") (rLenTx X.prog X.w) := by
  intro pins s σ H xs us Q I r h
  obtain ⟨a, l, rfl, ha, n, q⟩ := h
  obtain ⟨⟨es, ep, t⟩, ho, F⟩ : SetT X.prog X.w s.heap a l := (I.hok a _ ha).1
  rw [Vals.ref1 r]
  have z : es.size = l.length := F.ok.sz
  refine call_len_set ho ⟨rfl, rfl, rfl⟩ rfl F.ok.fit (by show (es.size : Int) < _; omega) ?_
  refine ⟨.int (l.length : Int), H, I.tok _, ⟨_, by rw [z]⟩, q⟩
end
end SX
set_option Elab.async false
set_option linter.all false
set_option maxRecDepth 100000
set_option maxHeartbeats 4000000
/-! text * 2 -/
namespace NI
open PySem PySem.Spec PyProof.Rows L2
section
variable {X : Cx}
def rDbl : R2 := fun a b H Q => ∃ x, a = .str x ∧ b = .int 2 ∧ x.length ≤ 1000000 ∧ ∀ y : Str, y.length ≤ 2 * x.length → (∀ c ∈ y.cps.toList, c ∈ x.cps.toList) → Q (.str y) H
theorem op_dbl : OpR X (binaryOp .Mult) rDbl := by
  intro pins s σ H a b v u Q I ra rb h
  obtain ⟨x, rfl, rfl, hx, q⟩ := h
  obtain ⟨t, rfl⟩ := ra
  obtain ⟨t', rfl⟩ := rb
  refine P.mul_str (by decide) (fun _ _ => by omega) (fun _ _ => ?_) ?_
  · show decide (x.length * (2 : Int).toNat > sizeLine) = false
    refine decide_eq_false ?_
    have e : (2 : Int).toNat = 2 := rfl
    rw [e]
    show ¬ x.length * 2 > 2 ^ 24
    omega
  · rw [if_neg (by decide)]
    split
    · exact ⟨.str x, H, I, ⟨_, rfl⟩, q x (by omega) fun c hc => hc⟩
    · have e : ((List.replicate (2 : Int).toNat x.cps).foldl (· ++ ·) #[]) = x.cps ++ x.cps := by
        show (#[] ++ x.cps) ++ x.cps = _
        rw [Array.empty_append]
      rw [e]
      have l2 : (⟨x.cps ++ x.cps⟩ : Str).length = 2 * x.length := by
        show (x.cps ++ x.cps).size = 2 * x.cps.size
        rw [Array.size_append]
        omega
      refine ⟨by rw [l2]; show _ ≤ 2 ^ 24; omega, ?_⟩
      exact ⟨.str _, H, I.tok _, ⟨_, rfl⟩, q _ (Nat.le_of_eq l2) fun c hc => by
        rw [show ((⟨x.cps ++ x.cps⟩ : Str).cps.toList) = x.cps.toList ++ x.cps.toList from Array.toList_append] at hc
        rcases List.mem_append.mp hc with h | h <;> exact h⟩
end
end NI
set_option Elab.async false
set_option linter.all false
set_option maxRecDepth 100000
set_option maxHeartbeats 4000000
namespace K01
open PySem L2 L2H DQ
def top (i : Nat) : Stmt := PySem.Challenge.pw_onlyjoins_k02_whole_roots_that_fit.main.body.getD i (.Pass ⟨0, 0, 0, 0⟩)
abbrev sFR : Stmt := top 1
abbrev sFL : Stmt := top 2
abbrev sHM : Stmt := top 3
abbrev sBeg : Stmt := top 5
abbrev sNext : Stmt := top 6
abbrev sTree : Stmt := top 7
abbrev sBody : Stmt := top 8
abbrev sEas : Stmt := top 9
abbrev sFits : Stmt := top 10
abbrev sPut : Stmt := top 11
abbrev sUnf : Stmt := top 12
abbrev sLaw : Stmt := top 15
def mkv (c l : Addr) (n : Int) : List (Key × V) := [(Sum.inr "cells", .ref c), (Sum.inr "left", .ref l), (Sum.inr "at", .int n)]
/-- the state of the draws at m: its cells, what is left, the counter -/
structure MAt (H : Hp) (m c l : Addr) (cs ls : List Int) (n : Int) : Prop where
  hm : H m = some (.dK (mkv c l n))
  hc : H c = some (.lst (cs.map V.int))
  hl : H l = some (.lst (ls.map V.int))
  ne : c ≠ l
  n0 : 0 ≤ n
  nb : n ≤ 1000000000
  cb : cs.length ≤ 63
  lb : ls.length ≤ 63
theorem MAt.mc {H : Hp} {m c l : Addr} {cs ls : List Int} {n : Int} (M : MAt H m c l cs ls n) : m ≠ c := ne_of M.hm M.hc (by intro z; cases z)
theorem MAt.ml {H : Hp} {m c l : Addr} {cs ls : List Int} {n : Int} (M : MAt H m c l cs ls n) : m ≠ l := ne_of M.hm M.hl (by intro z; cases z)
theorem MAt.same {H H' : Hp} {m c l : Addr} {cs ls : List Int} {n : Int} (M : MAt H m c l cs ls n) (s : Same H H') : MAt H' m c l cs ls n :=
  ⟨s _ _ M.hm, s _ _ M.hc, s _ _ M.hl, M.ne, M.n0, M.nb, M.cb, M.lb⟩
def spBeg (K : PySem.W.Frag) : Sp := fun vs H Q _ => ∃ (a : Addr) (ns : List Int), vs = [.ref a] ∧ SqL K H a (ns.map V.int) ∧ ns.length ≤ 63 ∧
  ∀ H' m c l cs ls, Same H H' → MAt H' m c l cs ls 0 → Q (.ref m) H'
structure TxtB (mg : Str → Option Value) : Prop where
  list : mg "list" = none
  int : mg "int" = none
  len : mg "len" = none
theorem kne1 : ¬ (("cells" : Str) = "left") := by decide +kernel
theorem kne2 : ¬ (("cells" : Str) = "at") := by decide +kernel
theorem kne3 : ¬ (("left" : Str) = "at") := by decide +kernel
theorem kne4 : ¬ (("left" : Str) = "cells") := by decide +kernel
theorem kne5 : ¬ (("at" : Str) = "cells") := by decide +kernel
theorem kne6 : ¬ (("at" : Str) = "left") := by decide +kernel
section
variable {P : Program} {w : World} {K : PySem.W.Frag} {mg : Str → Option Value} {base : Heap}
theorem scB : FnScope ["script", "cell"] ["script"] (defScope sBeg) := ⟨rfl, rfl, rfl, by decide +kernel, rfl, by decide +kernel, by decide +kernel⟩
theorem ok_beg {f : Addr} {fd : FuncData} (F : Fun K "_law_begun" "_law_begun" sBeg f fd) (T : TxtB mg) : FnOk P w K mg base CX0 1 f fd ["script"] (spBeg K) := by
  refine F.ok scB (fun vs H Q E h => ?_) (fun cdv A outer s H vs Q E hr h => ?_)
  · obtain ⟨a, ns, rfl, _⟩ := h
    rfl
  · obtain ⟨a, ns, rfl, hS, hlen, k⟩ := h
    refine ⟨_, pss_one (ps_ret (pe_disp (pps_cons pe_str (pe_callTy call_list_of (by rfl) T.list (by decide +kernel) (pa_cons (pv 0) pa_nil))
      (pps_cons pe_str (pe_lc (own := [("cell", 1)]) (g := gName 1) rfl scB.nd (pi_list (pv 0)) (blkOk_by (own := [("cell", 1)]) (N := ["script", "cell"]) (sc := defScope sBeg) (by decide +kernel))
        (fun _ _ _ _ _ => pg_name (i := 1) scB.nd rfl (Or.inl rfl)) (fun _ _ _ _ _ => pts_one (pt_cmpR op_ge (pv 1) (pe_op op_pow pe_int pe_int) (nomark _))) (fun _ _ _ _ _ => pv 1))
      (pps_cons pe_str pe_int pps_nil))) (by rfl) (by rfl) (fun z => by cases z) (by decide))), ?_⟩
    intro p hp
    refine ⟨_, rfl, a, _, rfl, .inl (same_new hp |>.seq hS), fun c hc => ?_⟩
    have s1 : Same H (upd (upd H p (.dK [])) c (.lst (ns.map V.int))) := same_trans (same_new hp) (same_new hc)
    have pc : p ≠ c := ne_of_none upd_same hc
    generalize hH1 : upd (upd H p (.dK [])) c (.lst (ns.map V.int)) = H1 at s1
    have h1p : H1 p = some (.dK []) := by rw [← hH1, upd_ne pc, upd_same]
    have h1c : H1 c = some (.lst (ns.map V.int)) := by rw [← hH1, upd_same]
    refine ⟨_, rfl, a, rfl, ⟨_, s1.seq hS⟩, fun l nl => ?_⟩
    refine lc_list (K := K) (a := a) (xs := ns.map V.int) (fun i H' => ∃ ls : List Int, ls.length ≤ i ∧ Same H1 H' ∧ H' l = some (.lst (ls.map V.int)))
      ⟨[], Nat.le_refl _, same_new nl, upd_same⟩ (fun i H' _ ⟨_, _, s2, _⟩ => s2.seq (s1.seq hS)) ?_ ?_
    · rintro i y H' hi ⟨ls, ll, s2, e2⟩
      obtain ⟨z, rfl⟩ : ∃ z, y = V.int z := by
        rw [List.getElem?_map] at hi
        cases e : ns[i]? with
        | none => rw [e] at hi; cases hi
        | some z => rw [e] at hi; exact ⟨z, (Option.some.inj hi).symm⟩
      have hil : i < (ns.map V.int).length := (List.getElem?_eq_some_iff.mp hi).1
      rw [List.length_map] at hil
      refine ⟨rfl, _, rfl, _, _, rfl, rfl, ⟨by decide, by decide, by decide⟩, _, _, rfl, rfl, _, rfl, ?_⟩
      refine ite2 (fun _ => ?_) (fun _ => ?_)
      · refine ⟨_, rfl, _, e2, small1000 (by rw [List.length_map]; omega), ls ++ [z], ?_, ?_, ?_⟩
        · rw [List.length_append]
          show ls.length + 1 ≤ i + 1
          omega
        · intro b o e
          rw [upd_ne (ne_of_none e nl)]
          exact s2 b o e
        · rw [upd_same, List.map_append]
          rfl
      · exact ⟨ls, by omega, s2, e2⟩
    · rintro H' ⟨ls, ll, s2, e2⟩
      rw [List.length_map] at ll
      refine ⟨s2 _ _ h1p, mkv c l 0, rfl, by show 3 ≤ 15; decide, ?_⟩
      have hm : mergeK [] (mkv c l 0) = mkv c l 0 := by
        simp [mkv, mergeK, putK, kne1, kne2, kne3]
      rw [hm]
      refine k _ p c l ns ls ?_ ⟨upd_same, ?_, ?_, ?_, by decide, by decide, hlen, by omega⟩
      · intro b o e
        rw [upd_ne (ne_of_none e hp)]
        exact s2 b o (s1 b o e)
      · rw [upd_ne pc.symm]
        exact s2 _ _ h1c
      · rw [upd_ne (ne_of_none h1p nl).symm]
        exact e2
      · exact ne_of_none h1c nl
end
theorem dp_ints {K : PySem.W.Frag} {H : Hp} : ∀ ns : List Int, DpAll K H (ns.map V.int) (ns.map PyData.int)
  | [] => .nil
  | n :: ns => .cons (.int n) (dp_ints ns)
theorem dp_list {K : PySem.W.Frag} {H : Hp} {a : Addr} {ns : List Int} (h : SqL K H a (ns.map V.int)) : Dp K H (.ref a) (.list (ns.map PyData.int)) := .lst h (dp_ints ns)
theorem dp_nil {K : PySem.W.Frag} {H : Hp} {a : Addr} (h : H a = some (.lst [])) : Dp K H (.ref a) (.list []) := .lst (SqL.of h) .nil
theorem shaped_ints (ns : List Int) : SeqAt.shaped (.list (ns.map PyData.int)) = true := by
  have h : ∀ l : List Int, PyData.canLayAll0 (l.map PyData.int) = true ∧ PyData.depthAll (l.map PyData.int) ≤ 1 := by
    intro l
    induction l with
    | nil => exact ⟨rfl, Nat.zero_le _⟩
    | cons a l ih =>
      refine ⟨by simp [PyData.canLayAll0, PyData.canLay0, ih.1], ?_⟩
      simp only [List.map_cons, PyData.depthAll, PyData.depth]
      have := ih.2
      omega
  have z := h ns
  refine Bool.and_eq_true_iff.mpr ⟨by simp only [PyData.canLay0]; exact z.1, decide_eq_true ?_⟩
  simp only [PyData.depth]
  exact Nat.le_trans (Nat.succ_le_succ z.2) (by decide)
theorem eqv_ints (ns : List Int) : (!PyData.eqv (.list (ns.map PyData.int)) (.list [])) = !ns.isEmpty := by
  cases ns <;> simp [PyData.eqv, PyData.eqvAll]
/-- all but two objects stand -/
structure But (H H' : Hp) (m l : Addr) : Prop where
  kp : ∀ b o, H b = some o → b ≠ m → b ≠ l → H' b = some o
  out : ∀ b, H' b = none → H b = none
theorem But.then {H H' H'' : Hp} {m l : Addr} (x : But H H' m l) (s : Same H' H'') : But H H'' m l :=
  ⟨fun b o e h1 h2 => s _ _ (x.kp b o e h1 h2), fun b h => x.out b (same_out s h)⟩
theorem But.at {H H' : Hp} {m l a : Addr} {o : HO} (x : But H H' m l) (h : a = m ∨ a = l ∨ H a = none) (n : H' a ≠ none) : But H (upd H' a o) m l := by
  refine ⟨fun b u e h1 h2 => ?_, fun b hb => ?_⟩
  · have na : b ≠ a := fun z => by
      rcases h with y | y | y
      · exact h1 (z.trans y)
      · exact h2 (z.trans y)
      · rw [z, y] at e; cases e
    rw [upd_ne na]
    exact x.kp b u e h1 h2
  · by_cases e : b = a
    · rw [e, upd_same] at hb
      cases hb
    · rw [upd_ne e] at hb
      exact x.out b hb
theorem But.refl {H : Hp} {m l : Addr} : But H H m l := ⟨fun _ _ e _ _ => e, fun _ e => e⟩
theorem val_c {c l : Addr} {n : Int} : valV (mkv c l n) (Sum.inr "cells") = some (.ref c) := by simp [mkv, valV]
theorem val_l {c l : Addr} {n : Int} : valV (mkv c l n) (Sum.inr "left") = some (.ref l) := by simp [mkv, valV, kne1]
theorem val_a {c l : Addr} {n : Int} : valV (mkv c l n) (Sum.inr "at") = some (.int n) := by simp [mkv, valV, kne2, kne3]
theorem put_l {c l l' : Addr} {n : Int} : putK (mkv c l n) (Sum.inr "left") (.ref l') = mkv c l' n := by simp [mkv, putK, kne1, kne6]
theorem put_a {c l : Addr} {n n' : Int} : putK (mkv c l n) (Sum.inr "at") (.int n') = mkv c l n' := by simp [mkv, putK, kne2, kne3]
theorem MAt.getL {H : Hp} {m c l : Addr} {cs ls : List Int} {n : Int} (M : MAt H m c l cs ls n) : DGet H m (.str "left") (some (.ref l)) := by
  have z := DGet.k (k := Sum.inr "left") M.hm
  rw [val_l] at z
  exact z
theorem MAt.getC {H : Hp} {m c l : Addr} {cs ls : List Int} {n : Int} (M : MAt H m c l cs ls n) : DGet H m (.str "cells") (some (.ref c)) := by
  have z := DGet.k (k := Sum.inr "cells") M.hm
  rw [val_c] at z
  exact z
theorem MAt.getA {H : Hp} {m c l : Addr} {cs ls : List Int} {n : Int} (M : MAt H m c l cs ls n) : DGet H m (.str "at") (some (.int n)) := by
  have z := DGet.k (k := Sum.inr "at") M.hm
  rw [val_a] at z
  exact z
theorem MAt.putL {H : Hp} {m c l l' : Addr} {cs ls ls' : List Int} {n : Int} (M : MAt H m c l cs ls n) (e : H l' = some (.lst (ls'.map V.int))) (ne : c ≠ l') (nb : ls'.length ≤ 63) :
    DPut H m (.str "left") (.ref l') (upd H m (.dK (mkv c l' n))) ∧ MAt (upd H m (.dK (mkv c l' n))) m c l' cs ls' n := by
  constructor
  · have z := DPut.k (k := Sum.inr "left") (v := .ref l') M.hm (by show 3 < sizeLine; decide)
    rw [put_l] at z
    exact z
  · have n1 : c ≠ m := M.mc.symm
    have n2 : l' ≠ m := ne_of e M.hm (by intro z; cases z)
    exact ⟨upd_same, by rw [upd_ne n1]; exact M.hc, by rw [upd_ne n2]; exact e, ne, M.n0, M.nb, M.cb, nb⟩
theorem MAt.putA {H : Hp} {m c l : Addr} {cs ls : List Int} {n n' : Int} (M : MAt H m c l cs ls n) (h0 : 0 ≤ n') (hb : n' ≤ 1000000000) :
    DPut H m (.str "at") (.int n') (upd H m (.dK (mkv c l n'))) ∧ MAt (upd H m (.dK (mkv c l n'))) m c l cs ls n' := by
  constructor
  · have z := DPut.k (k := Sum.inr "at") (v := .int n') M.hm (by show 3 < sizeLine; decide)
    rw [put_a] at z
    exact z
  · exact ⟨upd_same, by rw [upd_ne M.mc.symm]; exact M.hc, by rw [upd_ne M.ml.symm]; exact M.hl, M.ne, h0, hb, M.cb, M.lb⟩
def leftLen (H : Hp) (m : Addr) : Nat :=
  match H m with
  | some (.dK (_ :: (_, .ref l) :: _)) => (match H l with | some (.lst xs) => xs.length | _ => 0)
  | _ => 0
theorem MAt.len {H : Hp} {m c l : Addr} {cs ls : List Int} {n : Int} (M : MAt H m c l cs ls n) : leftLen H m = ls.length := by
  simp [leftLen, M.hm, mkv, M.hl]
theorem cut_one (x : V) (xs : List V) : cutV (x :: xs) (some 1) none = xs := by
  have e : HT.sIx (x :: xs).length 0 (some ((1 : Nat) : Int)) = 1 := by
    rw [HT.sIx_nat, List.length_cons]
    omega
  have e' : HT.sIx (x :: xs).length 0 (some 1) = 1 := e
  unfold cutV
  rw [e', HT.sIx_none, List.drop_succ_cons, List.drop_zero, List.length_cons]
  exact List.take_of_length_le (by omega)
theorem at_some {ns : List Int} {j : Int} (h0 : 0 ≤ j) (h1 : j < (ns.length : Int)) : ∃ y, atI (ns.map V.int) j = some (V.int y) := by
  have hj : j.toNat < ns.length := by omega
  refine ⟨ns[j.toNat], ?_⟩
  have z := atI_nat (xs := ns.map V.int) (j := j.toNat) (v := V.int ns[j.toNat]) (by rw [List.getElem?_map, List.getElem?_eq_getElem hj]; rfl)
  rw [Int.toNat_of_nonneg h0] at z
  exact z
theorem while_two {c : TT} {tb : TS} {D : Ends} {σ : L2.St} {H : Hp} (Pv : L2.St → Hp → Prop) (μ : L2.St → Hp → Nat) (h0 : Pv σ H) (exit : ∀ σ H, Pv σ H → D.nx σ H)
    (mono : ∀ σ H Q Q', (∀ b H1, Q b H1 → Q' b H1) → c σ H Q → c σ H Q')
    (hs : ∀ σ H, Pv σ H → c σ H fun b H1 => if b = true then tb { D with nx := fun σ' H' => Pv σ' H' ∧ μ σ' H' < μ σ H, ct := fun σ' H' => Pv σ' H' ∧ μ σ' H' < μ σ H, bk := D.nx } σ H1 else Pv σ H1) : tWhile c tb D σ H :=
  while_by Pv μ h0 (fun σ H p => mono _ _ _ _ (fun b H1 q => by
    cases b with
    | true => exact q
    | false => exact exit _ _ q) (hs σ H p)) mono
/-- _law_next: a number below many; the state again -/
def spNext : Sp := fun vs H Q _ => ∃ (m c l : Addr) (many : Int) (cs ls : List Int) (n : Int), vs = [.ref m, .int many] ∧ MAt H m c l cs ls n ∧ 0 < many ∧ many < 1000000 ∧ n + 1 ≤ 1000000000 ∧
  ∀ r H' l' ls' n', 0 ≤ r → r < many → MAt H' m c l' cs ls' n' → n' ≤ n + 1 → But H H' m l → (l' = l ∨ H l' = none) → Q (.int r) H'
section
variable {P : Program} {w : World} {K : PySem.W.Frag} {mg : Str → Option Value} {base : Heap}
theorem scN : FnScope ["m", "many", "rest", "at", "bits", "cell", "blend"] ["m", "many"] (defScope sNext) := ⟨rfl, rfl, rfl, by decide +kernel, rfl, by decide +kernel, by decide +kernel⟩
theorem ok_next {f : Addr} {fd : FuncData} (F : Fun K "_law_next" "_law_next" sNext f fd) (T : TxtB mg) : FnOk P w K mg base CX0 1 f fd ["m", "many"] spNext := by
  refine F.ok scN (fun vs H Q E h => ?_) (fun cdv A outer s H vs Q E hr h => ?_)
  · obtain ⟨m, c, l, many, cs, ls, n, rfl, _⟩ := h
    rfl
  · obtain ⟨m, c, l, many, cs, ls, n, rfl, M, q0, q1, qn, k⟩ := h
    have hu := hu_of hr
    have hu2 : (A.deeper (PyProof.Rows.envOfC "_law_next" (defScope sNext) s.heap.objs.size f cdv)).units + 64 < cLine := by have := hr.un; omega
    have bi : bootBuiltins ("int" : Str) = some (.type "int") := by decide +kernel
    refine ⟨_, pss_cons (ps_while PassesOwn.never (PW.pt (pw_and (pt_cmpR (op_neD hu2) (pe_dget hu (pv 0) pe_str (fun _ _ => rfl)) (pe_lst pa_nil) (nomark _))
        (pw_and1 (pt_cmpR op_eq (pe_ix ix_list (pe_dget hu (pv 0) pe_str (fun _ _ => rfl)) pe_int (fun _ _ => rfl)) pe_int (nomark _)))))
        (pss_one (ps_dput hu (pv 0) pe_str (pe_slice sl_list (pe_dget hu (pv 0) pe_str (fun _ _ => rfl)) (po_some pe_int) po_none) rfl)))
      (pss_cons (ps_if (pt_cmpR (op_neD hu2) (pe_dget hu (pv 0) pe_str (fun _ _ => rfl)) (pe_lst pa_nil) (nomark _))
        (pss_cons (ps_set (i := 2) scN.nd rfl (Or.inl rfl) (pe_ix ix_list (pe_dget hu (pv 0) pe_str (fun _ _ => rfl)) pe_int (fun _ _ => rfl)))
          (pss_cons (ps_asg (pe_op op_fdivN (pv 2) (pv 1)) (pg_sub (pe_dget hu (pv 0) pe_str (fun _ _ => rfl)) pe_int set_list))
          (pss_one (ps_ret (pe_op op_modN (pe_callTy call_int1 (by rfl) T.int bi (pa_cons (pv 2) pa_nil)) (pv 1)))))) pss_nil)
      (pss_cons (ps_par rfl scN.nd (i := 3) (j := 4) rfl rfl (by decide) rfl rfl (pa_cons (pe_op op_add (pe_dget hu (pv 0) pe_str (fun _ _ => rfl)) pe_int) (pa_cons (pe_dget hu (pv 0) pe_str (fun _ _ => rfl)) pa_nil)) rfl)
      (pss_cons (ps_dput hu (pv 0) pe_str (pv 3) rfl)
      (pss_cons (ps_set (i := 5) scN.nd rfl (Or.inl rfl) (pe_ifExp (pt_cmpR (op_neD hu2) (pv 4) (pe_lst pa_nil) (nomark _))
        (pe_callTy call_int1 (by rfl) T.int bi (pa_cons (pe_ix ix_list (pv 4) (pe_op op_modN (pe_callTy call_int1 (by rfl) T.int bi (pa_cons (pe_op op_add (pe_op op_mul (pv 3) (pv 3)) (pe_op op_fdivN (pv 3) pe_int)) pa_nil))
          (pe_callB call_len_seq (by rfl) T.len PySem.boot_len (pa_cons (pv 4) pa_nil))) (fun _ _ => rfl)) pa_nil)) pe_int))
      (pss_cons (ps_set (i := 6) scN.nd rfl (Or.inl rfl) (pe_op op_modN (pe_callTy call_int1 (by rfl) T.int bi (pa_cons (pe_op op_add (pe_op op_add (pe_op op_mul (pv 5) pe_int) (pe_op op_mul (pv 3) pe_int)) (pe_op op_mul (pe_op op_mul pe_int (pv 3)) (pv 3))) pa_nil)) pe_int))
      (pss_one (ps_ret (pe_op op_modN (pe_callTy call_int1 (by rfl) T.int bi (pa_cons (pe_op op_fdivN (pe_op op_modN (pe_callTy call_int1 (by rfl) T.int bi (pa_cons (pe_op op_add (pe_op op_mul (pv 6) pe_int) (pe_op op_mul pe_int (pv 3))) pa_nil)) pe_int) pe_int) pa_nil)) (pv 1))))))))), ?_⟩
    refine while_two (fun σ' H' => ∃ l' ls', σ' = [some (V.ref m), some (V.int many), none, none, none, none, none] ∧ MAt H' m c l' cs ls' n ∧ But H H' m l ∧ (l' = l ∨ H l' = none)) (fun _ H' => leftLen H' m)
      ⟨l, ls, rfl, M, .refl, .inl rfl⟩ ?_ ?_ ?_
    · rintro σ' H' ⟨l', ls', rfl, M', bt, hl'⟩
      -- behind the loop
      refine ⟨_, rfl, m, _, rfl, M'.getL, by decide, fun p hp => ⟨_, _, dp_list (SqL.of (same_new hp _ _ M'.hl)), dp_nil upd_same, shaped_ints _, shaped_ints [], _, rfl, ?_⟩⟩
      have M1 := M'.same (same_new (o := .lst []) hp)
      have b1 := bt.then (same_new (o := .lst []) hp)
      generalize hG : upd H' p (HO.lst []) = G at M1 b1
      rw [eqv_ints]
      cases ls' with
      | cons z ls' =>
        refine iteT ⟨_, rfl, m, _, rfl, M1.getL, l', _, 0, .int z, rfl, rfl, SqL.of M1.hl, atI_nat (j := 0) rfl, ?_⟩
        refine ⟨_, rfl, _, rfl, _, _, rfl, rfl, ⟨by omega, by omega⟩, _, rfl, m, _, rfl, M1.getL, l', _, 0, 0, rfl, rfl, M1.hl, ?_, ?_⟩
        · unfold ixN
          rw [if_pos (by omega), List.length_map, List.length_cons]
          rw [if_pos (by omega)]
          rfl
        · refine ⟨_, rfl, .inl ⟨_, rfl, _, rfl, _, _, rfl, rfl, by omega, ?_⟩⟩
          have nl : G l' ≠ none := by rw [M1.hl]; simp
          have e1 : c ≠ l' := M1.ne
          have e2 : m ≠ l' := M1.ml
          refine k _ _ l' (z.fdiv many :: ls') n (Int.fmod_nonneg_of_pos _ q0) (Int.fmod_lt_of_pos _ q0) ⟨by rw [upd_ne e2]; exact M1.hm, by rw [upd_ne e1]; exact M1.hc, upd_same, e1, M1.n0, M1.nb, M1.cb, M1.lb⟩ (by omega) (b1.at (.inr hl') nl) hl'
      | nil =>
        refine iteF ⟨_, rfl, m, _, rfl, M1.getA, _, _, rfl, rfl, _, rfl, m, _, rfl, M1.getC, _, _, rfl, ?_⟩
        obtain ⟨dp, M2⟩ := M1.putA (n' := n + 1) (by have := M.n0; omega) qn
        have b2 := b1.at (o := .dK (mkv c l' (n + 1))) (.inl rfl) (by rw [M1.hm]; simp)
        refine ⟨_, rfl, _, rfl, m, _, rfl, dp, ?_⟩
        generalize hG2 : upd G m (HO.dK (mkv c l' (n + 1))) = G2 at M2 b2
        -- cell
        refine ⟨_, rfl, by decide, fun t ht => ⟨_, _, dp_list (SqL.of (same_new ht _ _ M2.hc)), dp_nil upd_same, shaped_ints _, shaped_ints [], _, rfl, ?_⟩⟩
        have M3 := M2.same (same_new (o := .lst []) ht)
        have b3 := b2.then (same_new (o := .lst []) ht)
        generalize hG3 : upd G2 t (HO.lst []) = G3 at M3 b3
        rw [eqv_ints]
        have big1 : -(2 ^ 64) < n + 1 := by have := M.n0; omega
        have big2 : n + 1 < 2 ^ 64 := by omega
        cases cs with
        | nil =>
          refine iteF ?_
          refine ⟨_, rfl, _, _, rfl, rfl, .inr ⟨by decide, by decide⟩, _, rfl, _, _, rfl, rfl, .inr ⟨by decide, by decide⟩, _, _, rfl, rfl, _, rfl, _, _, rfl, rfl, .inl ⟨by decide, by decide⟩, _, rfl, _, _, rfl, rfl, .inr ⟨big1, big2⟩, _, _, rfl, rfl, .inl ⟨_, rfl, _, _, rfl, rfl, (by show (2147483399 : Int) ≠ 0; decide), ?_⟩⟩
          refine ⟨_, rfl, _, _, rfl, rfl, .inr ⟨by decide, by decide⟩, _, rfl, _, _, rfl, rfl, .inl ⟨by decide, by decide⟩, _, _, rfl, rfl, .inl ⟨_, rfl, _, _, rfl, rfl, (by show (2147483647 : Int) ≠ 0; decide), _, _, rfl, rfl, ⟨by decide, by decide⟩, .inl ⟨_, rfl, _, rfl, _, _, rfl, rfl, by omega, ?_⟩⟩⟩
          exact k _ _ l' [] (n + 1) (Int.fmod_nonneg_of_pos _ q0) (Int.fmod_lt_of_pos _ q0) M3 (Int.le_refl _) b3 hl'
        | cons x cs =>
          have hl0 : (0 : Int) < ((x :: cs).length : Int) := by rw [List.length_cons]; omega
          obtain ⟨y, hy⟩ := at_some (ns := x :: cs) (j := ((n + 1) * (n + 1) + (n + 1).fdiv 2).fmod ((x :: cs).length : Int)) (Int.fmod_nonneg_of_pos _ hl0) (Int.fmod_lt_of_pos _ hl0)
          refine iteT ?_
          refine ⟨_, rfl, _, rfl, _, rfl, _, _, rfl, rfl, .inl ⟨big1, big2⟩, _, rfl, _, _, rfl, rfl, ⟨by decide, by decide⟩, _, _, rfl, rfl, .inl ⟨_, rfl, ?_⟩⟩
          refine ⟨_, rfl, c, _, rfl, .inl (SqL.of M3.hc), _, _, rfl, rfl, by rw [List.length_map]; omega, c, _, _, .int y, rfl, rfl, SqL.of M3.hc, by rw [List.length_map]; exact hy, .inl ⟨_, rfl, ?_⟩⟩
          refine ⟨_, rfl, _, _, rfl, rfl, .inr ⟨by decide, by decide⟩, _, rfl, _, _, rfl, rfl, .inr ⟨by decide, by decide⟩, _, _, rfl, rfl, _, rfl, _, _, rfl, rfl, .inl ⟨by decide, by decide⟩, _, rfl, _, _, rfl, rfl, .inr ⟨big1, big2⟩, _, _, rfl, rfl, .inl ⟨_, rfl, _, _, rfl, rfl, (by show (2147483399 : Int) ≠ 0; decide), ?_⟩⟩
          refine ⟨_, rfl, _, _, rfl, rfl, .inr ⟨by decide, by decide⟩, _, rfl, _, _, rfl, rfl, .inl ⟨by decide, by decide⟩, _, _, rfl, rfl, .inl ⟨_, rfl, _, _, rfl, rfl, (by show (2147483647 : Int) ≠ 0; decide), _, _, rfl, rfl, ⟨by decide, by decide⟩, .inl ⟨_, rfl, _, rfl, _, _, rfl, rfl, by omega, ?_⟩⟩⟩
          exact k _ _ l' [] (n + 1) (Int.fmod_nonneg_of_pos _ q0) (Int.fmod_lt_of_pos _ q0) M3 (Int.le_refl _) b3 hl'
    · intro σ' H' Q1 Q2 hq h
      obtain ⟨v, e1, a, u, e2, e3, e4, h⟩ := h
      refine ⟨v, e1, a, u, e2, e3, e4, fun p hp => ?_⟩
      obtain ⟨d, e, d1, d2, d3, d4, b, e5, h⟩ := h p hp
      refine ⟨d, e, d1, d2, d3, d4, b, e5, ?_⟩
      cases b with
      | false => exact hq _ _ h
      | true =>
        obtain ⟨v, e1, a, u, e2, e3, p2, xs, i, z, f1, f2, f3, f4, f5, k2, e6, h⟩ := h
        exact ⟨v, e1, a, u, e2, e3, p2, xs, i, z, f1, f2, f3, f4, f5, k2, e6, hq _ _ h⟩
    · rintro σ' H' ⟨l', ls', rfl, M', bt, hl'⟩
      refine ⟨_, rfl, m, _, rfl, M'.getL, by decide, fun p hp => ⟨_, _, dp_list (SqL.of (same_new hp _ _ M'.hl)), dp_nil upd_same, shaped_ints _, shaped_ints [], _, rfl, ?_⟩⟩
      have M1 := M'.same (same_new (o := .lst []) hp)
      rw [eqv_ints]
      cases ls' with
      | nil =>
        refine iteF (iteF ⟨l', [], rfl, M1, bt.then (same_new hp), hl'⟩)
      | cons z ls' =>
        refine iteT ⟨_, rfl, m, _, rfl, M1.getL, l', _, 0, .int z, rfl, rfl, SqL.of M1.hl, atI_nat (j := 0) rfl, rfl, _, rfl, ?_⟩
        refine ite2 (fun hz => ?_) (fun hz => ?_)
        · refine ⟨_, rfl, m, _, rfl, M1.getL, 1, rfl, l', _, rfl, SqL.of M1.hl, fun t ht => ?_⟩
          rw [List.map_cons, cut_one]
          have M2 := M1.same (same_new (o := .lst (ls'.map V.int)) ht)
          have ct : c ≠ t := ne_of_none M1.hc ht
          have nb2 : ls'.length ≤ 63 := Nat.le_trans (Nat.le_succ _) M1.lb
          obtain ⟨dp, M3⟩ := M2.putL (l' := t) (ls' := ls') upd_same ct nb2
          have b1 := bt.then (same_new (o := .lst []) hp)
          refine ⟨_, rfl, m, _, rfl, dp, ⟨t, ls', rfl, M3, (b1.then (same_new ht)).at (.inl rfl) (by rw [M2.hm]; simp), .inr (b1.out t ht)⟩, ?_⟩
          show leftLen _ m < leftLen H' m
          rw [M3.len, M'.len]
          exact Nat.lt_succ_self _
        · exact ⟨l', z :: ls', rfl, M1, bt.then (same_new hp), hl'⟩
end
end K01
set_option Elab.async false
set_option linter.all false
set_option maxRecDepth 100000
set_option maxHeartbeats 4000000
namespace K01
open PySem L2 L2H DQ RZ
theorem btup : bootBuiltins ("tuple" : Str) = some (.type "tuple") := by decide +kernel
theorem bset : bootBuiltins ("set" : Str) = some (.type "set") := by decide +kernel
theorem blist : bootBuiltins ("list" : Str) = some (.type "list") := by decide +kernel
theorem bsorted : bootBuiltins ("sorted" : Str) = some (.builtin "sorted") := by decide +kernel
theorem brepr : bootBuiltins ("repr" : Str) = some (.builtin "repr") := by decide +kernel
section
variable {P : Program} {w : World} {K : PySem.W.Frag} {mg : Str → Option Value} {base : Heap}
theorem cr_setP {X : Cx} (hP : X.prog = P) (hw : X.w = w) (hK : X.K = K) (hc : X.calm = true) : CallR X (.type "set") (SX.rSetTx P w K) := by
  subst hP hw hK
  exact SX.cr_setTx hc
theorem cr_sortP {X : Cx} (hP : X.prog = P) (hw : X.w = w) (hc : X.calm = true) : CallR X (.builtin "sorted") (SX.rSortTx P w) := by
  subst hP hw
  exact SX.cr_sortTx hc
end
end K01
set_option Elab.async false
set_option linter.all false
set_option maxRecDepth 100000
set_option maxHeartbeats 4000000
/-! slices and sums of tuples that are tracked -/
namespace K01
open PySem L2 L2H DQ RZ
def rSlF : V → Option Int → Option Int → Hp → VK → Prop := fun x lo hi H Q => ∃ a xs, x = .ref a ∧ H a = some (.tup xs) ∧ ∀ p H', Same H H' → H' p = some (.tup (cutV xs lo hi)) → Q (.ref p) H'
theorem sl_tupF {X : Cx} : SlR X rSlF := by
  intro pins s σ H x v vl vu lo hi sl Q I rx hs pl pu h
  obtain ⟨a, xs, rfl, sq, g⟩ := h
  refine sl_tupA pins s σ H _ v vl vu lo hi sl Q I rx hs pl pu ⟨a, xs, rfl, SqT.of sq, fun wh => g a H same_refl ?_, fun _ p np => g p _ (same_new np) upd_same⟩
  have z : cutV xs lo hi = xs := by
    unfold cutV
    rw [wh.1, wh.2, List.drop_zero, Nat.sub_zero, List.take_length]
  rw [z]
  exact sq
def rCatF : R2 := fun x y H Q => ∃ a b xs ys, x = .ref a ∧ y = .ref b ∧ H a = some (.tup xs) ∧ H b = some (.tup ys) ∧ xs.length + ys.length ≤ sizeLine ∧ ∀ p H', Same H H' → H' p = some (.tup (xs ++ ys)) → Q (.ref p) H'
theorem op_catF {X : Cx} : OpR X (binaryOp .Add) rCatF := by
  intro pins s σ H x y v u Q I rx ry h
  obtain ⟨a, b, xs, ys, rfl, rfl, ha, hb, hz, g⟩ := h
  refine op_catA pins s σ H _ _ v u Q I rx ry ⟨a, b, xs, ys, rfl, rfl, SqT.of ha, SqT.of hb, hz, fun hx => g b H same_refl ?_, fun _ hy => g a H same_refl ?_, fun _ _ p np => g p _ (same_new np) upd_same⟩
  · rw [hx]
    exact hb
  · rw [hy, List.append_nil]
    exact ha
theorem cut_to (xs : List V) {j : Nat} : cutV xs none (some (j : Int)) = xs.take j := by
  unfold cutV
  rw [HT.sIx_nat, HT.sIx_none, List.drop_zero, Nat.sub_zero]
  by_cases h : j ≤ xs.length
  · rw [Nat.min_eq_left h]
  · rw [Nat.min_eq_right (by omega), List.take_length, List.take_of_length_le (by omega)]
theorem cut_from (xs : List V) {j : Nat} : cutV xs (some (j : Int)) none = xs.drop j := by
  unfold cutV
  rw [HT.sIx_nat, HT.sIx_none]
  by_cases h : j ≤ xs.length
  · rw [Nat.min_eq_left h]
    exact List.take_of_length_le (by rw [List.length_drop]; exact Nat.le_refl _)
  · rw [Nat.min_eq_right (by omega), List.drop_of_length_le (Nat.le_refl _), List.drop_of_length_le (by omega)]
    exact List.take_nil
theorem cut_at (xs : List V) {j : Nat} (h : j < xs.length) : cutV xs (some (j : Int)) (some ((j : Int) + 1)) = (xs.drop j).take 1 := by
  unfold cutV
  have e : ((j : Int) + 1) = ((j + 1 : Nat) : Int) := by omega
  rw [e, HT.sIx_nat, HT.sIx_nat, Nat.min_eq_left (by omega), Nat.min_eq_left (by omega)]
  congr 1
  omega
end K01
set_option Elab.async false
set_option linter.all false
set_option maxRecDepth 100000
set_option maxHeartbeats 4000000
namespace K01
open PySem L2 L2H DQ RZ
/-- all but the state of the draws -/
def fr (H : Hp) (m l : Addr) : Hp := fun b => if b = m ∨ b = l then none else H b
theorem fr_same {H : Hp} {m l : Addr} : Same (fr H m l) H := fun b o e => by
  unfold fr at e
  split at e
  · cases e
  · exact e
theorem fr_some {H : Hp} {m l b : Addr} {o : HO} (h : H b = some o) (hm : b ≠ m) (hl : b ≠ l) : fr H m l b = some o := by
  unfold fr
  rw [if_neg fun z => z.elim hm hl]
  exact h
theorem fr_of {H : Hp} {m l b : Addr} {o : HO} (h : fr H m l b = some o) : b ≠ m ∧ b ≠ l ∧ H b = some o := by
  unfold fr at h
  split at h
  · cases h
  · rename_i z
    exact ⟨fun e => z (.inl e), fun e => z (.inr e), h⟩
/-- all but the state of the draws stands, and what was there is there -/
def Fs (H : Hp) (m l : Addr) (H' : Hp) (l' : Addr) : Prop := Same (fr H m l) (fr H' m l') ∧ ∀ b, H' b = none → H b = none
theorem Fs.refl {H : Hp} {m l : Addr} : Fs H m l H l := ⟨same_refl, fun _ h => h⟩
theorem Fs.trans {H H' H'' : Hp} {m l l' l'' : Addr} (x : Fs H m l H' l') (y : Fs H' m l' H'' l'') : Fs H m l H'' l'' := ⟨same_trans x.1 y.1, fun b h => x.2 b (y.2 b h)⟩
theorem Fs.new {H : Hp} {m l : Addr} {H' : Hp} (x : Same H H') (y : Same (fr H m l) (fr H' m l)) : Fs H m l H' l := ⟨y, fun b h => same_out x h⟩
theorem But.fr {H H' : Hp} {m l l' : Addr} (x : But H H' m l) (h : l' = l ∨ H l' = none) : Fs H m l H' l' := by
  refine ⟨fun b o e => ?_, x.out⟩
  obtain ⟨h1, h2, h3⟩ := fr_of e
  refine fr_some (x.kp b o h3 h1 h2) h1 fun z => ?_
  rcases h with y | y
  · exact h2 (z.trans y)
  · rw [← z, h3] at y
    cases y
theorem MAt.fresh {H : Hp} {m c l p : Addr} {cs ls : List Int} {n : Int} {o : HO} (M : MAt H m c l cs ls n) (hp : H p = none) : MAt (upd H p o) m c l cs ls n ∧ Same (fr H m l) (fr (upd H p o) m l) ∧ fr (upd H p o) m l p = some o := by
  refine ⟨M.same (same_new hp), fun b u e => ?_, fr_some upd_same (ne_of_none M.hm hp).symm (ne_of_none M.hl hp).symm⟩
  obtain ⟨h1, h2, h3⟩ := fr_of e
  exact fr_some (same_new hp _ _ h3) h1 h2
/-- a number below many; the state again -/
def spNx : Sp := fun vs H Q _ => ∃ (m c l : Addr) (many : Int) (cs ls : List Int) (n : Int), vs = [.ref m, .int many] ∧ MAt H m c l cs ls n ∧ 0 < many ∧ many < 1000000 ∧ n + 1 ≤ 1000000000 ∧
  ∀ r H' l' ls' n', 0 ≤ r → r < many → MAt H' m c l' cs ls' n' → n' ≤ n + 1 → Fs H m l H' l' → Q (.int r) H'
theorem nx_of {vs : List V} {H : Hp} {Q : VK} {E : XK} (h : spNx vs H Q E) : spNext vs H Q E := by
  obtain ⟨m, c, l, many, cs, ls, n, rfl, M, h1, h2, h3, k⟩ := h
  exact ⟨m, c, l, many, cs, ls, n, rfl, M, h1, h2, h3, fun r H' l' ls' n' r0 r1 M' nn bt hl => k r H' l' ls' n' r0 r1 M' nn (bt.fr hl)⟩
/-- the same state of the draws, all else stands -/
structure Gw (m c l : Addr) (cs ls : List Int) (n : Int) (H H' : Hp) : Prop where
  mat : MAt H' m c l cs ls n
  sm : Fs H m l H' l
theorem Gw.new {m c l p : Addr} {cs ls : List Int} {n : Int} {H H' : Hp} {o : HO} (G : Gw m c l cs ls n H H') (hp : H' p = none) : Gw m c l cs ls n H (upd H' p o) ∧ Same (fr H' m l) (fr (upd H' p o) m l) ∧ fr (upd H' p o) m l p = some o := by
  obtain ⟨a, b, d⟩ := G.mat.fresh (o := o) hp
  exact ⟨⟨a, G.sm.trans (.new (same_new hp) b)⟩, b, d⟩
theorem Gw.grow {m c l : Addr} {cs ls : List Int} {n : Int} {H H' H'' : Hp} (G : Gw m c l cs ls n H H') (s : Same H' H'') : Gw m c l cs ls n H H'' ∧ Same (fr H' m l) (fr H'' m l) := by
  have y : Same (fr H' m l) (fr H'' m l) := fun b o e => by
    obtain ⟨h1, h2, h3⟩ := fr_of e
    exact fr_some (s _ _ h3) h1 h2
  exact ⟨⟨G.mat.same s, G.sm.trans (.new s y)⟩, y⟩
theorem Gw.tupAt {m c l p : Addr} {cs ls : List Int} {n : Int} {H H' : Hp} {xs : List V} (G : Gw m c l cs ls n H H') (e : H' p = some (.tup xs)) : fr H' m l p = some (.tup xs) :=
  fr_some e (ne_of e G.mat.hm (by intro z; cases z)) (ne_of e G.mat.hl (by intro z; cases z))
end K01
set_option Elab.async false
set_option linter.all false
set_option maxRecDepth 100000
set_option maxHeartbeats 4000000
namespace K01
open PySem L2 L2H DQ RZ
/-- the marks that the law draws from -/
def abc3 : List Str := ["a", "b", "c"]
def efS (u : Str) : Prop := u = "e" ∨ u = "f"
def restC (c : Nat) (r : List PyData) : Prop := (r = [] ∧ c = 0) ∨ (r = [.str "call"] ∧ c = 1)
mutual
/-- a tree of texts and tuples: at most k levels below its root, n nodes, c calls -/
inductive Tc : Nat → Nat → Nat → PyData → Prop
  | mk {k n c n0 c0 c1 : Nat} {ms : List Str} {bs r : List PyData} : ms.Sublist abc3 → bs.length ≤ 3 → restC c0 r → TcB k n0 c1 bs → n = n0 + 1 → c = c1 + c0 → Tc k n c (.tuple (.tuple (ms.map PyData.str) :: .tuple bs :: r))
/-- branches, the nodes below them at most k - 1 levels high -/
inductive TcB : Nat → Nat → Nat → List PyData → Prop
  | nil {k : Nat} : TcB k 0 0 []
  | cons {k n c n' c' N C : Nat} {u : Str} {t : PyData} {bs : List PyData} : efS u → Tc k n c t → TcB (k + 1) n' c' bs → N = n + n' → C = c + c' → TcB (k + 1) N C (.tuple [.str u, t] :: bs)
end
theorem TcB.app : ∀ {k n c n' c' : Nat} {bs es : List PyData}, TcB k n c bs → TcB k n' c' es → TcB k (n + n') (c + c') (bs ++ es)
  | k, _, _, n', c', _, es, .nil, h => by
    rw [Nat.zero_add, Nat.zero_add]
    exact h
  | _, _, _, _, _, _, _, .cons hu ht hb e1 e2, h => .cons hu ht (hb.app h) (by omega) (by omega)
mutual
theorem Tc.mono : ∀ {k n c : Nat} {d : PyData}, Tc k n c d → Tc (k + 1) n c d
  | _, _, _, _, .mk h1 h2 h3 h4 e1 e2 => .mk h1 h2 h3 h4.mono e1 e2
theorem TcB.mono : ∀ {k n c : Nat} {bs : List PyData}, TcB k n c bs → TcB (k + 1) n c bs
  | _, _, _, _, .nil => .nil
  | _, _, _, _, .cons hu ht hb e1 e2 => .cons hu ht.mono hb.mono e1 e2
end
theorem TcB.take : ∀ {k n c : Nat} {bs : List PyData} (j : Nat), TcB k n c bs → ∃ n1 c1 n2 c2, TcB k n1 c1 (bs.take j) ∧ TcB k n2 c2 (bs.drop j) ∧ n = n1 + n2 ∧ c = c1 + c2
  | _, n, c, _, 0, h => ⟨0, 0, n, c, .nil, h, by omega, by omega⟩
  | _, _, _, _, j + 1, .nil => ⟨0, 0, 0, 0, .nil, .nil, rfl, rfl⟩
  | _, _, _, _, j + 1, .cons hu ht hb e1 e2 => by
    obtain ⟨n1, c1, n2, c2, a, b, d1, d2⟩ := hb.take j
    exact ⟨_, _, n2, c2, .cons hu ht a rfl rfl, b, by omega, by omega⟩
theorem TcB.at : ∀ {k n c : Nat} {bs : List PyData} {j : Nat} {b : PyData}, TcB k n c bs → bs[j]? = some b → ∃ k' u t n1 c1, k = k' + 1 ∧ b = .tuple [.str u, t] ∧ efS u ∧ Tc k' n1 c1 t
  | _, _, _, _, _, _, .nil, h => by simp at h
  | _, _, _, _, 0, _, .cons hu ht _ _ _, h => by
    cases h
    exact ⟨_, _, _, _, _, rfl, rfl, hu, ht⟩
  | _, _, _, _, j + 1, _, .cons _ _ hb _ _, h => hb.at (j := j) h
theorem Tc.pos : ∀ {k n c : Nat} {d : PyData}, Tc k n c d → 1 ≤ n
  | _, _, _, _, .mk _ _ _ _ e1 _ => by omega
def smS (x : Str) : Prop := PyData.strOk x = true ∧ x.length = 1
instance (x : Str) : Decidable (smS x) := by
  unfold smS
  infer_instance
theorem abc_sm {x : Str} (h : x ∈ abc3) : smS x := by
  simp only [abc3, List.mem_cons, List.not_mem_nil, or_false] at h
  rcases h with rfl | rfl | rfl <;> decide +kernel
theorem ef_sm {u : Str} (h : efS u) : smS u := by
  rcases h with rfl | rfl <;> decide +kernel
theorem sub_sm {ms : List Str} (h : ms.Sublist abc3) : ∀ x ∈ ms, smS x := fun x hx => abc_sm (h.subset hx)
theorem sub_len {ms : List Str} (h : ms.Sublist abc3) : ms.length ≤ 3 := h.length_le
/-- how many draws at most -/
def dn : Nat → Int
  | 0 => 10
  | k + 1 => 10 + 3 * (4 + dn k)
def spTr (k : Nat) : Sp := fun vs H Q _ => ∃ (m c l : Addr) (cs ls : List Int) (n size : Int), vs = [.ref m, .int size, .int (k : Int)] ∧ MAt H m c l cs ls n ∧ n + dn k ≤ 1000000000 ∧ 1 ≤ size ∧ size ≤ 1000 ∧
  ∀ r d q H' l' ls' n', MAt H' m c l' cs ls' n' → n' ≤ n + dn k → Fs H m l H' l' → Dq (fr H' m l') r d → Tc k q 0 d → (q : Int) ≤ size → Q r H'
theorem MAt.at {H : Hp} {m c l D : Addr} {cs ls : List Int} {n : Int} {o : HO} (M : MAt H m c l cs ls n) (hm : D ≠ m) (hc : D ≠ c) (hl : D ≠ l) : MAt (upd H D o) m c l cs ls n :=
  ⟨by rw [upd_ne hm.symm]; exact M.hm, by rw [upd_ne hc.symm]; exact M.hc, by rw [upd_ne hl.symm]; exact M.hl, M.ne, M.n0, M.nb, M.cb, M.lb⟩
/-- a list that is written while numbers are drawn -/
structure Dl (H : Hp) (m c l : Addr) (cs : List Int) (n : Int) (k : Int) (D : Addr) (xs : List V) (H' : Hp) (l' : Addr) (ls' : List Int) (n' : Int) : Prop where
  mat : MAt H' m c l' cs ls' n'
  le : n' ≤ n + k
  sm : Fs H m l H' l'
  dd : fr H' m l' D = some (.lst xs)
theorem Dl.next {H H' H6 : Hp} {m c l l' l6 D : Addr} {cs ls' ls6 : List Int} {n k n' n6 j k' : Int} {xs : List V} (d : Dl H m c l cs n k D xs H' l' ls' n') (M : MAt H6 m c l6 cs ls6 n6) (h : n6 ≤ n' + j) (s : Fs H' m l' H6 l6) (hk : k + j ≤ k') : Dl H m c l cs n k' D xs H6 l6 ls6 n6 :=
  ⟨M, by have := d.le; omega, d.sm.trans s, s.1 _ _ d.dd⟩
theorem Dl.put {H H' : Hp} {m c l l' D : Addr} {cs ls' : List Int} {n k n' : Int} {xs ys : List V} (d : Dl H m c l cs n k D xs H' l' ls' n') (hD : H D = none) (hm : D ≠ m) (hc : D ≠ c) : Dl H m c l cs n k D ys (upd H' D (.lst ys)) l' ls' n' := by
  obtain ⟨h1, h2, h3⟩ := fr_of d.dd
  refine ⟨d.mat.at h1 hc h2, d.le, ⟨fun b o e => ?_, fun b hb => ?_⟩, fr_some upd_same h1 h2⟩
  rotate_left
  · refine d.sm.2 b ?_
    by_cases z : b = D
    · rw [z, upd_same] at hb
      cases hb
    · rw [upd_ne z] at hb
      exact hb
  have nb : b ≠ D := fun z => by
    have y := (fr_of e).2.2
    rw [z, hD] at y
    cases y
  obtain ⟨g1, g2, g3⟩ := fr_of (d.sm.1 _ _ e)
  exact fr_some (by rw [upd_ne nb]; exact g3) g1 g2
theorem dn_pos : ∀ j, 0 ≤ dn j
  | 0 => by decide
  | j + 1 => by
    have := dn_pos j
    show 0 ≤ 10 + 3 * (4 + dn j)
    omega
def leftOf (σ : L2.St) : Nat := match σ[5]? with | some (some (V.int n)) => n.toNat | _ => 0
mutual
def tupO : PyData → Bool
  | .str _ => true
  | .tuple ds => tupA ds
  | _ => false
def tupA : List PyData → Bool
  | [] => true
  | d :: ds => tupO d && tupA ds
end
mutual
theorem _root_.DQ.Dq.tups {H H' : Hp} (s : ∀ b xs, H b = some (.tup xs) → H' b = some (.tup xs)) : ∀ {v : V} {d : PyData}, Dq H v d → tupO d = true → Dq H' v d
  | _, _, .non, h => by cases h
  | _, _, .bl b, h => by cases h
  | _, _, .int i, h => by cases h
  | _, _, .str x hx, _ => .str x hx
  | _, _, .lst _ _, h => by cases h
  | _, _, .tup e a, h => .tup (s _ _ e) (a.tups s (by simpa [tupO] using h))
  | _, _, .dic _, h => by cases h
theorem _root_.DQ.DqAll.tups {H H' : Hp} (s : ∀ b xs, H b = some (.tup xs) → H' b = some (.tup xs)) : ∀ {vs : List V} {ds : List PyData}, DqAll H vs ds → tupA ds = true → DqAll H' vs ds
  | _, _, .nil, _ => .nil
  | _, _, .cons a b, h => by
    have h' := Bool.and_eq_true_iff.mp (by simpa [tupA] using h)
    exact .cons (a.tups s h'.1) (b.tups s h'.2)
end
theorem tupA_iff : ∀ {ds : List PyData}, tupA ds = true ↔ ∀ d ∈ ds, tupO d = true
  | [] => by simp [tupA]
  | d :: ds => by
    simp only [tupA, Bool.and_eq_true, List.mem_cons, tupA_iff (ds := ds)]
    constructor
    · rintro ⟨h1, h2⟩ y (rfl | hy)
      · exact h1
      · exact h2 y hy
    · intro h
      exact ⟨h d (.inl rfl), fun y hy => h y (.inr hy)⟩
theorem tup_strs (ms : List Str) : tupA (ms.map PyData.str) = true := tupA_iff.mpr fun d hd => by
  obtain ⟨x, _, rfl⟩ := List.mem_map.mp hd
  rfl
mutual
theorem Tc.tup : ∀ {k n c : Nat} {d : PyData}, Tc k n c d → tupO d = true
  | _, _, _, _, .mk _ _ hr hb _ _ => by
    have z := hb.tup
    rcases hr with ⟨rfl, _⟩ | ⟨rfl, _⟩
    · simp only [tupO, tupA, tup_strs, z, Bool.and_self]
    · simp only [tupO, tupA, tup_strs, z, Bool.and_self]
theorem TcB.tup : ∀ {k n c : Nat} {bs : List PyData}, TcB k n c bs → tupA bs = true
  | _, _, _, _, .nil => rfl
  | _, _, _, _, .cons _ ht hb _ _ => by simp only [tupO, tupA, ht.tup, hb.tup, Bool.and_self]
end
theorem abc_at (y : V) (i : Nat) (h : [V.str "a", V.str "b", V.str "c"][i]? = some y) : ∃ x, y = V.str x ∧ abc3[i]? = some x := by
  have z : (abc3.map V.str)[i]? = some y := h
  rw [List.getElem?_map] at z
  obtain ⟨x, hx, e⟩ := Option.map_eq_some_iff.mp z
  exact ⟨x, e.symm, hx⟩
theorem dq_marks {H : Hp} {ms : List Str} (h : ms.Sublist abc3) : DqAll H (ms.map V.str) (ms.map PyData.str) :=
  DqAll.strs ms fun x hx => ⟨by rw [(sub_sm h x hx).2]; decide, (sub_sm h x hx).1⟩
section
variable {P : Program} {w : World} {K : PySem.W.Frag} {mg : Str → Option Value} {base : Heap}
theorem scTe : FnScope ["m", "size", "deep", "marks", "one", "left", "branches", "part", "below"] ["m", "size", "deep"] (defScope sTree) := ⟨rfl, rfl, rfl, by decide +kernel, rfl, by decide +kernel, by decide +kernel⟩
theorem ok_tree {f fN : Addr} {fd dN : FuncData} (F : Fun K "_law_tree" "_law_tree" sTree f fd) (bF : Binds K fd ["m", "size", "deep"] []) (gF : mg "_law_tree" = some (.ref f)) (FN : Fun K "_law_next" "_law_next" sNext fN dN) (bN : Binds K dN ["m", "many"] []) (gN : mg "_law_next" = some (.ref fN)) (T : TxtB mg) (tT : mg "tuple" = none) :
    ∀ k, k ≤ 4 → FnOk P w K mg base CX0 (3 + k) f fd ["m", "size", "deep"] (spTr k) := by
  have GN : FnOk P w K mg base CX0 1 fN dN ["m", "many"] spNx := (ok_next FN T).imp fun _ _ _ _ => nx_of
  have bi : bootBuiltins ("int" : Str) = some (.type "int") := by decide +kernel
  intro k
  induction k with
  | zero =>
    intro _
    refine F.ok (k := 2) scTe (fun vs H Q E h => ?_) (fun cdv A outer s H vs Q E hr h => ?_)
    · obtain ⟨m, c, l, cs, ls, n, size, rfl, _⟩ := h
      rfl
    · obtain ⟨m, c, l, cs, ls, n, size, rfl, M, hn, sz1, sz9, kk⟩ := h
      refine ⟨_, pss_cons (ps_set (i := 3) scTe.nd rfl (Or.inl rfl) (pe_callTy call_tuple_of (by rfl) tT btup (pa_cons (pe_lc (own := [("one", 4)]) (g := gName 4) rfl scTe.nd (pi_tup (pe_tup (pa_cons pe_str (pa_cons pe_str (pa_cons pe_str pa_nil))))) (blkOk_by (own := [("one", 4)]) (N := ["m", "size", "deep", "marks", "one", "left", "branches", "part", "below"]) (sc := defScope sTree) (by decide +kernel))
          (fun _ _ _ _ _ => pg_name (i := 4) scTe.nd rfl (Or.inl rfl)) (fun _ _ _ _ _ => pts_one (pt_cmpR op_eq (pe_call GN (hr.mono (by omega)) (by rfl) gN FN.kp bN .nil pass0 (pa_cons (pv 0) (pa_cons pe_int pa_nil))) pe_int (by rfl))) (fun _ _ _ _ _ => pv 4)) pa_nil)))
        (pss_cons (ps_par rfl scTe.nd (i := 5) (j := 6) rfl rfl (by decide) rfl rfl (pa_cons (pe_op op_sub (pv 1) pe_int) (pa_cons (pe_lst pa_nil) pa_nil)) rfl)
        (pss_cons (ps_while PassesOwn.never (PW.pt (pw_and (pt_cmpR op_gt (pv 5) pe_int (by rfl)) (pw_and (pt_cmpR op_gt (pv 2) pe_int (by rfl)) (pw_and (pt_cmpR op_lt (pe_callB call_len_seq (by rfl) T.len PySem.boot_len (pa_cons (pv 6) pa_nil)) pe_int (by rfl))
            (pw_and1 (pt_cmpR op_gt (pe_call GN (hr.mono (by omega)) (by rfl) gN FN.kp bN .nil pass0 (pa_cons (pv 0) (pa_cons pe_int pa_nil))) pe_int (by rfl)))))))
          (pss_cons ps_never (pss_cons ps_never (pss_cons ps_never (pss_one ps_never)))))
        (pss_one (ps_ret (pe_tup (pa_cons (pv 3) (pa_cons (pe_callTy call_tuple_of (by rfl) tT btup (pa_cons (pv 6) pa_nil)) pa_nil))))))), ?_⟩
      refine ⟨by show 3 ≤ sizeLine; decide, fun p0 np0 => ⟨p0, rfl, ⟨_, SqT.of upd_same⟩, fun D nD => ?_⟩⟩
      have G0 : Gw m c l cs ls n H H := ⟨M, .refl⟩
      obtain ⟨G1, t1, e1⟩ := G0.new (o := .tup [.str "a", .str "b", .str "c"]) np0
      obtain ⟨G2, t2, e2⟩ := G1.new (o := .lst []) nD
      have hD0 : H D = none := same_out (same_new (o := .tup [.str "a", .str "b", .str "c"]) np0) nD
      have Dm : D ≠ m := (ne_of_none M.hm hD0).symm
      have Dc : D ≠ c := (ne_of_none M.hc hD0).symm
      have sm1 : ∀ y (i : Nat), [V.str "a", V.str "b", V.str "c"][i]? = some y → ∃ x, y = V.str x ∧ abc3[i]? = some x := abc_at
      refine lc_it (walk_tup (xs := [.str "a", .str "b", .str "c"])) (fun i H' => ∃ (l' : Addr) (ls' : List Int) (n' : Int) (ys : List Str), Dl H m c l cs n i D (ys.map V.str) H' l' ls' n' ∧ fr H' m l' p0 = some (.tup [.str "a", .str "b", .str "c"]) ∧ ys.Sublist (abc3.take i))
        ⟨l, ls, n, [], ⟨G2.mat, by omega, G2.sm, e2⟩, t2 _ _ e1, List.nil_sublist _⟩ (fun i H' _ ⟨_, _, _, _, _, e, _⟩ => SqT.of (fr_of e).2.2) ?_ ?_
      · rintro i y H5 H6 hi ⟨l', ls', n', ys, d, e, hy⟩ ⟨rfl, hx⟩
        have i3 : i < 3 := hi
        have dk : (10 : Int) ≤ dn 0 := Int.le_refl _
        refine ⟨rfl, _, rfl, m, c, l', 5, cs, ls', n', rfl, d.mat, by decide, by decide, by have := d.le; omega, fun r H7 l7 ls7 n7 r0 r1 M7 nn s7 => ⟨rfl, _, rfl, ?_⟩⟩
        have d7 : Dl H m c l cs n ((i + 1 : Nat) : Int) D (ys.map V.str) H7 l7 ls7 n7 := d.next M7 nn s7 (by omega)
        obtain ⟨x, rfl, hsx⟩ := sm1 y i hx
        have tk : abc3.take (i + 1) = abc3.take i ++ [x] := by rw [List.take_add_one, hsx]; rfl
        have ly : ys.length ≤ 3 := (hy.trans (List.take_sublist _ _)).length_le
        refine ite2 (fun _ => ?_) (fun _ => ?_)
        · have ld : ((ys.map V.str)).length < sizeLine := small1000 (by rw [List.length_map]; omega)
          refine ⟨_, rfl, _, (fr_of d7.dd).2.2, ld, l7, ls7, n7, ys ++ [x], ?_, ?_, ?_⟩
          · have z := d7.put (ys := (ys ++ [x]).map V.str) hD0 Dm Dc
            rw [List.map_append] at z ⊢
            exact z
          · obtain ⟨g1, g2, g3⟩ := fr_of (s7.1 _ _ e)
            have pD : p0 ≠ D := ne_of_none (upd_same (H := H) (a := p0) (o := .tup [.str "a", .str "b", .str "c"])) nD
            exact fr_some (by rw [upd_ne pD]; exact g3) g1 g2
          · rw [tk]
            exact hy.append (List.Sublist.refl _)
        · exact ⟨l7, ls7, n7, ys, d7, s7.1 _ _ e, by rw [tk]; exact hy.trans (List.sublist_append_left _ _)⟩
      rintro H5 ⟨l5, ls5, n5, ms, d5, e5, hms0⟩
      have hms : ms.Sublist abc3 := hms0
      refine ⟨D, _, rfl, .inl ⟨SqL.of (fr_of d5.dd).2.2, fun p1 np1 => ?_⟩⟩
      refine ⟨_, rfl, _, _, rfl, rfl, Nat.zero_le _, fun br nbr => ⟨_, _, rfl, ?_⟩⟩
      have G5 : Gw m c l5 cs ls5 n5 H5 H5 := ⟨d5.mat, .refl⟩
      obtain ⟨G6, t6, e6⟩ := G5.new (o := .tup (ms.map V.str)) np1
      obtain ⟨G7, t7, e7⟩ := G6.new (o := .lst []) nbr
      have hb0 : H br = none := d5.sm.2 _ (G6.sm.2 _ nbr)
      refine while_by (fun σ' H' => σ' = [some (V.ref m), some (V.int size), some (V.int ((0 : Nat) : Int)), some (V.ref p1), none, some (V.int (size - 1)), some (V.ref br), none, none] ∧ H' = upd (upd H5 p1 (.tup (ms.map V.str))) br (.lst [])) (fun _ _ => 0) ⟨rfl, rfl⟩ ?_ ?_
      · rintro σ' H' ⟨rfl, rfl⟩
        have fin : ∀ p2 p3, upd (upd H5 p1 (.tup (ms.map V.str))) br (.lst []) p2 = none → upd (upd (upd H5 p1 (.tup (ms.map V.str))) br (.lst [])) p2 (.tup []) p3 = none → Q (.ref p3) (upd (upd (upd (upd H5 p1 (.tup (ms.map V.str))) br (.lst [])) p2 (.tup [])) p3 (.tup [.ref p1, .ref p2])) := fun p2 p3 np2 np3 => by
          obtain ⟨GA, tA, eA⟩ := G7.new (o := .tup []) np2
          obtain ⟨GB, tB, eB⟩ := GA.new (o := .tup [.ref p1, .ref p2]) np3
          have h5 : n5 ≤ n + 3 := d5.le
          refine kk (.ref p3) _ _ _ _ _ _ GB.mat (by show n5 ≤ n + 10; omega) (d5.sm.trans GB.sm) (.tup eB (.cons (.tup (tB _ _ (tA _ _ (t7 _ _ e6))) (dq_marks hms)) (.cons (.tup (tB _ _ eA) .nil) .nil))) (.mk hms (Nat.zero_le _) (.inl ⟨rfl, rfl⟩) .nil rfl rfl) (by omega)
        refine ⟨_, rfl, _, _, rfl, rfl, _, rfl, ?_⟩
        refine ite2 (fun _ => ?_) (fun _ => ?_)
        · refine ⟨_, rfl, _, _, rfl, rfl, _, rfl, ?_⟩
          refine iteF (iteF ?_)
          exact ⟨_, rfl, _, rfl, br, _, rfl, .inl ⟨SqL.of (fr_of e7).2.2, fun p2 np2 => ⟨by show 2 ≤ sizeLine; decide, fun p3 np3 => fin p2 p3 np2 np3⟩⟩⟩
        · exact iteF ⟨_, rfl, _, rfl, br, _, rfl, .inl ⟨SqL.of (fr_of e7).2.2, fun p2 np2 => ⟨by show 2 ≤ sizeLine; decide, fun p3 np3 => fin p2 p3 np2 np3⟩⟩⟩
      · intro σ' H' Q1 Q2 hq h
        obtain ⟨v, e1, i, j, e2, e3, b, e4, h⟩ := h
        refine ⟨v, e1, i, j, e2, e3, b, e4, ?_⟩
        cases b with
        | false => exact hq _ _ h
        | true =>
        obtain ⟨v, e1, i, j, e2, e3, b, e4, h⟩ := h
        refine ⟨v, e1, i, j, e2, e3, b, e4, ?_⟩
        cases b with
        | false => exact hq _ _ h
        | true =>
        obtain ⟨v, e1, p, ys, e2, sq, i, j, e3, e4, b, e5, h⟩ := h
        refine ⟨v, e1, p, ys, e2, sq, i, j, e3, e4, b, e5, ?_⟩
        cases b with
        | false => exact hq _ _ h
        | true =>
        obtain ⟨v, e1, m, c, l, many, cs, ls, n, e2, M, h1, h2, h3, kk⟩ := h
        refine ⟨v, e1, m, c, l, many, cs, ls, n, e2, M, h1, h2, h3, fun r H' l' ls' n' r0 r1 M' nn s => ?_⟩
        obtain ⟨i, j, f1, f2, b, f3, q⟩ := kk r H' l' ls' n' r0 r1 M' nn s
        exact ⟨i, j, f1, f2, b, f3, hq _ _ q⟩
  | succ k ih =>
    intro hk
    have GS : FnOk P w K mg base CX0 (3 + k) f fd ["m", "size", "deep"] (spTr k) := ih (by omega)
    refine F.ok (k := 3 + k) scTe (fun vs H Q E h => ?_) (fun cdv A outer s H vs Q E hr h => ?_)
    · obtain ⟨m, c, l, cs, ls, n, size, rfl, _⟩ := h
      rfl
    · obtain ⟨m, c, l, cs, ls, n, size, rfl, M, hn, sz1, sz9, kk⟩ := h
      refine ⟨_, pss_cons (ps_set (i := 3) scTe.nd rfl (Or.inl rfl) (pe_callTy call_tuple_of (by rfl) tT btup (pa_cons (pe_lc (own := [("one", 4)]) (g := gName 4) rfl scTe.nd (pi_tup (pe_tup (pa_cons pe_str (pa_cons pe_str (pa_cons pe_str pa_nil))))) (blkOk_by (own := [("one", 4)]) (N := ["m", "size", "deep", "marks", "one", "left", "branches", "part", "below"]) (sc := defScope sTree) (by decide +kernel))
          (fun _ _ _ _ _ => pg_name (i := 4) scTe.nd rfl (Or.inl rfl)) (fun _ _ _ _ _ => pts_one (pt_cmpR op_eq (pe_call GN (hr.mono (by omega)) (by rfl) gN FN.kp bN .nil pass0 (pa_cons (pv 0) (pa_cons pe_int pa_nil))) pe_int (by rfl))) (fun _ _ _ _ _ => pv 4)) pa_nil)))
        (pss_cons (ps_par rfl scTe.nd (i := 5) (j := 6) rfl rfl (by decide) rfl rfl (pa_cons (pe_op op_sub (pv 1) pe_int) (pa_cons (pe_lst pa_nil) pa_nil)) rfl)
        (pss_cons (ps_while PassesOwn.never (PW.pt (pw_and (pt_cmpR op_gt (pv 5) pe_int (by rfl)) (pw_and (pt_cmpR op_gt (pv 2) pe_int (by rfl)) (pw_and (pt_cmpR op_lt (pe_callB call_len_seq (by rfl) T.len PySem.boot_len (pa_cons (pv 6) pa_nil)) pe_int (by rfl))
            (pw_and1 (pt_cmpR op_gt (pe_call GN (hr.mono (by omega)) (by rfl) gN FN.kp bN .nil pass0 (pa_cons (pv 0) (pa_cons pe_int pa_nil))) pe_int (by rfl)))))))
          (pss_cons (ps_set (i := 7) scTe.nd rfl (Or.inl rfl) (pe_op op_add pe_int (pe_call GN (hr.mono (by omega)) (by rfl) gN FN.kp bN .nil pass0 (pa_cons (pv 0) (pa_cons (pv 5) pa_nil)))))
          (pss_cons (ps_set (i := 8) scTe.nd rfl (Or.inl rfl) (pe_call GS hr (by rfl) gF F.kp bF .nil pass0 (pa_cons (pv 0) (pa_cons (pv 7) (pa_cons (pe_op op_sub (pv 2) pe_int) pa_nil)))))
          (pss_cons (ps_expr (pe_bm PySem.F.plainAttrs_list PySem.F.slot_list_append PySem.F.type_list_append mt_append (pv 6) (pa_cons (pe_tup (pa_cons (pe_ix ix_list (pe_lst (pa_cons pe_str (pa_cons pe_str pa_nil))) (pe_callTy call_int1 (by rfl) T.int bi (pa_cons (pe_cmpR op_eq (pe_call GN (hr.mono (by omega)) (by rfl) gN FN.kp bN .nil pass0 (pa_cons (pv 0) (pa_cons pe_int pa_nil))) pe_int (by rfl)) pa_nil)) (fun _ _ => rfl))
              (pa_cons (pv 8) pa_nil))) pa_nil)))
          (pss_one (ps_set (i := 5) scTe.nd rfl (Or.inl rfl) (pe_op op_sub (pv 5) (pv 7))))))))
        (pss_one (ps_ret (pe_tup (pa_cons (pv 3) (pa_cons (pe_callTy call_tuple_of (by rfl) tT btup (pa_cons (pv 6) pa_nil)) pa_nil))))))), ?_⟩
      refine ⟨by show 3 ≤ sizeLine; decide, fun p0 np0 => ⟨p0, rfl, ⟨_, SqT.of upd_same⟩, fun D nD => ?_⟩⟩
      have G0 : Gw m c l cs ls n H H := ⟨M, .refl⟩
      obtain ⟨G1, t1, e1⟩ := G0.new (o := .tup [.str "a", .str "b", .str "c"]) np0
      obtain ⟨G2, t2, e2⟩ := G1.new (o := .lst []) nD
      have hD0 : H D = none := same_out (same_new (o := .tup [.str "a", .str "b", .str "c"]) np0) nD
      have Dm : D ≠ m := (ne_of_none M.hm hD0).symm
      have Dc : D ≠ c := (ne_of_none M.hc hD0).symm
      have sm1 : ∀ y (i : Nat), [V.str "a", V.str "b", V.str "c"][i]? = some y → ∃ x, y = V.str x ∧ abc3[i]? = some x := abc_at
      refine lc_it (walk_tup (xs := [.str "a", .str "b", .str "c"])) (fun i H' => ∃ (l' : Addr) (ls' : List Int) (n' : Int) (ys : List Str), Dl H m c l cs n i D (ys.map V.str) H' l' ls' n' ∧ fr H' m l' p0 = some (.tup [.str "a", .str "b", .str "c"]) ∧ ys.Sublist (abc3.take i))
        ⟨l, ls, n, [], ⟨G2.mat, by omega, G2.sm, e2⟩, t2 _ _ e1, List.nil_sublist _⟩ (fun i H' _ ⟨_, _, _, _, _, e, _⟩ => SqT.of (fr_of e).2.2) ?_ ?_
      · rintro i y H5 H6 hi ⟨l', ls', n', ys, d, e, hy⟩ ⟨rfl, hx⟩
        have i3 : i < 3 := hi
        have dk : (10 : Int) ≤ dn (k + 1) := by
          have : ∀ j, 0 ≤ dn j := fun j => by induction j with | zero => decide | succ j ih => show 0 ≤ 10 + 3 * (4 + dn j); omega
          have := this k
          show 10 ≤ 10 + 3 * (4 + dn k)
          omega
        refine ⟨rfl, _, rfl, m, c, l', 5, cs, ls', n', rfl, d.mat, by decide, by decide, by have := d.le; omega, fun r H7 l7 ls7 n7 r0 r1 M7 nn s7 => ⟨rfl, _, rfl, ?_⟩⟩
        have d7 : Dl H m c l cs n ((i + 1 : Nat) : Int) D (ys.map V.str) H7 l7 ls7 n7 := d.next M7 nn s7 (by omega)
        obtain ⟨x, rfl, hsx⟩ := sm1 y i hx
        have tk : abc3.take (i + 1) = abc3.take i ++ [x] := by rw [List.take_add_one, hsx]; rfl
        have ly : ys.length ≤ 3 := (hy.trans (List.take_sublist _ _)).length_le
        refine ite2 (fun _ => ?_) (fun _ => ?_)
        · have ld : ((ys.map V.str)).length < sizeLine := small1000 (by rw [List.length_map]; omega)
          refine ⟨_, rfl, _, (fr_of d7.dd).2.2, ld, l7, ls7, n7, ys ++ [x], ?_, ?_, ?_⟩
          · have z := d7.put (ys := (ys ++ [x]).map V.str) hD0 Dm Dc
            rw [List.map_append] at z ⊢
            exact z
          · obtain ⟨g1, g2, g3⟩ := fr_of (s7.1 _ _ e)
            have pD : p0 ≠ D := ne_of_none (upd_same (H := H) (a := p0) (o := .tup [.str "a", .str "b", .str "c"])) nD
            exact fr_some (by rw [upd_ne pD]; exact g3) g1 g2
          · rw [tk]
            exact hy.append (List.Sublist.refl _)
        · exact ⟨l7, ls7, n7, ys, d7, s7.1 _ _ e, by rw [tk]; exact hy.trans (List.sublist_append_left _ _)⟩
      rintro H5 ⟨l5, ls5, n5, ms, d5, e5, hms0⟩
      have hms : ms.Sublist abc3 := hms0
      refine ⟨D, _, rfl, .inl ⟨SqL.of (fr_of d5.dd).2.2, fun p1 np1 => ?_⟩⟩
      refine ⟨_, rfl, _, _, rfl, rfl, Nat.zero_le _, fun br nbr => ⟨_, _, rfl, ?_⟩⟩
      have G5 : Gw m c l5 cs ls5 n5 H5 H5 := ⟨d5.mat, .refl⟩
      obtain ⟨G6, t6, e6⟩ := G5.new (o := .tup (ms.map V.str)) np1
      obtain ⟨G7, t7, e7⟩ := G6.new (o := .lst []) nbr
      have hb0 : H br = none := d5.sm.2 _ (G6.sm.2 _ nbr)
      have brm : br ≠ m := (ne_of_none M.hm hb0).symm
      have brc : br ≠ c := (ne_of_none M.hc hb0).symm
      have dp := dn_pos k
      refine while_by (fun σ' H' => ∃ (left : Int) (l' : Addr) (ls' : List Int) (n' : Int) (vs : List V) (bs : List PyData) (nb : Nat) (w4 w7 w8 : Option V), σ' = [some (V.ref m), some (V.int size), some (V.int ((k + 1 : Nat) : Int)), some (V.ref p1), w4, some (V.int left), some (V.ref br), w7, w8] ∧
        Dl H m c l cs n (3 + (bs.length : Int) * (4 + dn k)) br vs H' l' ls' n' ∧ fr H' m l' p1 = some (.tup (ms.map V.str)) ∧ DqAll (fr H' m l') vs bs ∧ bs.length ≤ 3 ∧ TcB (k + 1) nb 0 bs ∧ left ≤ 1000 ∧ 0 ≤ left ∧ (nb : Int) + 1 + left ≤ size) (fun σ' _ => leftOf σ')
        ⟨_, l5, ls5, n5, [], [], 0, _, _, _, rfl, ⟨G7.mat, by have h5 : n5 ≤ n + 3 := d5.le; rw [List.length_nil]; omega, d5.sm.trans G7.sm, e7⟩, t7 _ _ e6, .nil, by decide, .nil, by omega, by omega, by omega⟩ ?_ ?_
      · rintro σ' H' ⟨left, l', ls', n', vs, bs, nb, w4, w7, w8, rfl, d, eM, qd, b3, hbs, l1000, l0, lsz⟩
        have jn : (0 : Int) ≤ (bs.length : Int) * (4 + dn k) := Int.mul_nonneg (by omega) (by omega)
        have j3 : (bs.length : Int) * (4 + dn k) ≤ 3 * (4 + dn k) := Int.mul_le_mul_of_nonneg_right (by omega) (by omega)
        have hn' : n + (10 + 3 * (4 + dn k)) ≤ 1000000000 := hn
        have nle := d.le
        have vb : vs.length = bs.length := qd.len
        refine ⟨_, rfl, _, _, rfl, rfl, _, rfl, ?_⟩
        by_cases hl : ¬ 0 < left
        · rw [decide_eq_false hl]
          refine iteF ?_
          have dE : Dl H m c l cs n (4 + (bs.length : Int) * (4 + dn k)) br vs H' l' ls' n' := ⟨d.mat, by omega, d.sm, d.dd⟩
          have qE := qd
          refine ⟨_, rfl, _, rfl, br, _, rfl, .inl ⟨SqL.of (fr_of dE.dd).2.2, fun p2 np2 => ⟨by show 2 ≤ sizeLine; decide, fun p3 np3 => ?_⟩⟩⟩
          have GE : Gw m c _ cs _ _ _ _ := ⟨dE.mat, .refl⟩
          obtain ⟨GA, tA, eA⟩ := GE.new (o := .tup vs) np2
          obtain ⟨GB, tB, eB⟩ := GA.new (o := .tup [.ref p1, .ref p2]) np3
          refine kk (.ref p3) _ _ _ _ _ _ GB.mat ?_ (dE.sm.trans GB.sm) (.tup eB (.cons (.tup (tB _ _ (tA _ _ eM)) (dq_marks hms)) (.cons (.tup (tB _ _ eA) ((qE.same tA).same tB)) .nil))) (.mk hms b3 (.inl ⟨rfl, rfl⟩) hbs rfl rfl) (by omega)
          have := dE.le
          have := dn_pos k
          show _ ≤ n + (10 + 3 * (4 + dn k))
          have j3 : (bs.length : Int) * (4 + dn k) ≤ 3 * (4 + dn k) := Int.mul_le_mul_of_nonneg_right (by omega) (by omega)
          omega
        have hl' := Classical.not_not.mp hl
        rw [decide_eq_true hl']
        refine iteT ⟨_, rfl, _, _, rfl, rfl, _, rfl, ?_⟩
        rw [decide_eq_true (show (0 : Int) < ((k + 1 : Nat) : Int) by omega)]
        refine iteT ⟨_, rfl, br, _, rfl, .inl (SqL.of (fr_of d.dd).2.2), _, _, rfl, rfl, _, rfl, ?_⟩
        by_cases hb3 : ¬ (vs.length : Int) < 3
        · rw [decide_eq_false hb3]
          refine iteF ?_
          have dE : Dl H m c l cs n (4 + (bs.length : Int) * (4 + dn k)) br vs H' l' ls' n' := ⟨d.mat, by omega, d.sm, d.dd⟩
          have qE := qd
          refine ⟨_, rfl, _, rfl, br, _, rfl, .inl ⟨SqL.of (fr_of dE.dd).2.2, fun p2 np2 => ⟨by show 2 ≤ sizeLine; decide, fun p3 np3 => ?_⟩⟩⟩
          have GE : Gw m c _ cs _ _ _ _ := ⟨dE.mat, .refl⟩
          obtain ⟨GA, tA, eA⟩ := GE.new (o := .tup vs) np2
          obtain ⟨GB, tB, eB⟩ := GA.new (o := .tup [.ref p1, .ref p2]) np3
          refine kk (.ref p3) _ _ _ _ _ _ GB.mat ?_ (dE.sm.trans GB.sm) (.tup eB (.cons (.tup (tB _ _ (tA _ _ eM)) (dq_marks hms)) (.cons (.tup (tB _ _ eA) ((qE.same tA).same tB)) .nil))) (.mk hms b3 (.inl ⟨rfl, rfl⟩) hbs rfl rfl) (by omega)
          have := dE.le
          have := dn_pos k
          show _ ≤ n + (10 + 3 * (4 + dn k))
          have j3 : (bs.length : Int) * (4 + dn k) ≤ 3 * (4 + dn k) := Int.mul_le_mul_of_nonneg_right (by omega) (by omega)
          omega
        have hb3' := Classical.not_not.mp hb3
        rw [decide_eq_true hb3']
        refine iteT ⟨_, rfl, m, c, l', 3, cs, ls', n', rfl, d.mat, by decide, by decide, by omega, fun r H6 l6 ls6 n6 r0 r1 M6 nn s6 => ⟨_, _, rfl, rfl, _, rfl, ?_⟩⟩
        have d6 : Dl H m c l cs n (4 + (bs.length : Int) * (4 + dn k)) br vs H6 l6 ls6 n6 := d.next M6 nn s6 (by omega)
        have eM6 := s6.1 _ _ eM
        have qd6 := qd.same s6.1
        by_cases hr0 : ¬ 0 < r
        · rw [decide_eq_false hr0]
          refine iteF ?_
          have dE := d6
          have qE := qd6
          have eM := eM6
          refine ⟨_, rfl, _, rfl, br, _, rfl, .inl ⟨SqL.of (fr_of dE.dd).2.2, fun p2 np2 => ⟨by show 2 ≤ sizeLine; decide, fun p3 np3 => ?_⟩⟩⟩
          have GE : Gw m c _ cs _ _ _ _ := ⟨dE.mat, .refl⟩
          obtain ⟨GA, tA, eA⟩ := GE.new (o := .tup vs) np2
          obtain ⟨GB, tB, eB⟩ := GA.new (o := .tup [.ref p1, .ref p2]) np3
          refine kk (.ref p3) _ _ _ _ _ _ GB.mat ?_ (dE.sm.trans GB.sm) (.tup eB (.cons (.tup (tB _ _ (tA _ _ eM)) (dq_marks hms)) (.cons (.tup (tB _ _ eA) ((qE.same tA).same tB)) .nil))) (.mk hms b3 (.inl ⟨rfl, rfl⟩) hbs rfl rfl) (by omega)
          have := dE.le
          have := dn_pos k
          show _ ≤ n + (10 + 3 * (4 + dn k))
          have j3 : (bs.length : Int) * (4 + dn k) ≤ 3 * (4 + dn k) := Int.mul_le_mul_of_nonneg_right (by omega) (by omega)
          omega
        rw [decide_eq_true (Classical.not_not.mp hr0)]
        have eK : ((bs.length : Int) + 1) * (4 + dn k) = (bs.length : Int) * (4 + dn k) + (4 + dn k) := by rw [Int.add_mul, Int.one_mul]
        have nle6 := d6.le
        have j2 : (bs.length : Int) * (4 + dn k) ≤ 2 * (4 + dn k) := Int.mul_le_mul_of_nonneg_right (by omega) (by omega)
        refine iteT ⟨_, rfl, _, rfl, m, c, l6, left, cs, ls6, n6, rfl, M6, hl', by omega, by omega, fun r7 H7 l7 ls7 n7 r70 r71 M7 nn7 s7 => ⟨_, _, rfl, rfl, ?_⟩⟩
        have d7 : Dl H m c l cs n (5 + (bs.length : Int) * (4 + dn k)) br vs H7 l7 ls7 n7 := d6.next M7 nn7 s7 (by omega)
        have nle7 := d7.le
        refine ⟨_, rfl, _, rfl, _, rfl, _, _, rfl, rfl, m, c, l7, cs, ls7, n7, 1 + r7, ?_, M7, by omega, by omega, by omega, fun r8 d8 qn8 H8 l8 ls8 n8 M8 nn8 s8 q8 t8 hq8 => ?_⟩
        · show [V.ref m, V.int (1 + r7), V.int (((k + 1 : Nat) : Int) - 1)] = _
          rw [show ((k + 1 : Nat) : Int) - 1 = (k : Int) by omega]
        have e8 : Dl H m c l cs n (5 + dn k + (bs.length : Int) * (4 + dn k)) br vs H8 l8 ls8 n8 := d7.next M8 nn8 s8 (by omega)
        have nle8 := e8.le
        have eM8 := s8.1 _ _ (s7.1 _ _ eM6)
        have qd8 := (qd6.same s7.1).same s8.1
        refine ⟨_, rfl, .inl ⟨rfl, _, SqL.of (fr_of e8.dd).2.2⟩, by show 2 ≤ sizeLine; decide, fun pl npl => ?_⟩
        have G8 : Gw m c l8 cs ls8 n8 H8 H8 := ⟨M8, .refl⟩
        obtain ⟨G9, t9, e9⟩ := G8.new (o := .lst [.str "e", .str "f"]) npl
        refine ⟨_, rfl, m, c, l8, 4, cs, ls8, n8, rfl, G9.mat, by decide, by decide, by omega, fun r9 H9 l9 ls9 n9 r90 r91 M9 nn9 s9 => ⟨rfl, .inr ⟨_, rfl, ?_⟩⟩⟩
        have d9 : Dl H m c l cs n (6 + dn k + (bs.length : Int) * (4 + dn k)) br vs H9 l9 ls9 n9 := e8.next M9 nn9 (G9.sm.trans s9) (by omega)
        have hx : ∃ u : Str, atI [V.str "e", V.str "f"] (if decide (V.int r9 = V.int 0) = true then 1 else 0) = some (V.str u) ∧ efS u := by
          cases decide (V.int r9 = V.int 0) with
          | true => exact ⟨"f", atI_nat (j := 1) rfl, .inr rfl⟩
          | false => exact ⟨"e", atI_nat (j := 0) rfl, .inl rfl⟩
        obtain ⟨u, hu, hfu⟩ := hx
        have hsu := ef_sm hfu
        have sA : Same (fr H8 m l8) (fr H9 m l9) := same_trans t9 s9.1
        refine ⟨pl, _, _, .str u, rfl, rfl, SqL.of (fr_of (s9.1 _ _ e9)).2.2, hu, _, rfl, by show 2 ≤ sizeLine; decide, fun pt npt => ?_⟩
        have GA : Gw m c l9 cs ls9 n9 H9 H9 := ⟨M9, .refl⟩
        obtain ⟨GB, tB, eB⟩ := GA.new (o := .tup [.str u, r8]) npt
        have dA : Dl H m c l cs n (6 + dn k + (bs.length : Int) * (4 + dn k)) br vs (upd H9 pt (.tup [.str u, r8])) l9 ls9 n9 := d9.next GB.mat (j := 0) (by omega) GB.sm (by omega)
        refine ⟨br, _, .ref pt, rfl, rfl, (fr_of dA.dd).2.2, small1000 (by omega), ?_⟩
        have dB := dA.put (ys := vs ++ [.ref pt]) hb0 brm brc
        have tA9 : TcB (k + 1) (nb + qn8) 0 (bs ++ [.tuple [.str u, d8]]) := hbs.app (.cons hfu t8 .nil rfl rfl)
        have kt : ∀ b xs, fr (upd H9 pt (.tup [.str u, r8])) m l9 b = some (.tup xs) → fr (upd (upd H9 pt (.tup [.str u, r8])) br (.lst (vs ++ [.ref pt]))) m l9 b = some (.tup xs) := fun b xs z => by
          obtain ⟨h1, h2, h3⟩ := fr_of z
          refine fr_some ?_ h1 h2
          rw [upd_ne fun y => by rw [y, dA.dd] at z; cases z]
          exact h3
        refine ⟨_, rfl, _, rfl, _, _, rfl, rfl, ⟨_, l9, ls9, n9, vs ++ [.ref pt], bs ++ [.tuple [.str u, d8]], nb + qn8, _, _, _, rfl, ⟨dB.mat, ?_, dB.sm, dB.dd⟩, kt _ _ (tB _ _ (sA _ _ eM8)), ?_, ?_, tA9, ?_, ?_, ?_⟩, ?_⟩
        · have := dB.le
          rw [List.length_append, List.length_singleton]
          have ec : (((bs.length + 1 : Nat) : Int)) * (4 + dn k) = ((bs.length : Int) + 1) * (4 + dn k) := by rw [Int.natCast_add]; rfl
          rw [ec, eK]
          omega
        · have qAll : DqAll (fr (upd H9 pt (.tup [.str u, r8])) m l9) (vs ++ [.ref pt]) (bs ++ [.tuple [.str u, d8]]) :=
            ((qd8.same sA).same tB).app (.cons (.tup eB (.cons (.str u ⟨by rw [hsu.2]; decide, hsu.1⟩) (.cons ((q8.same sA).same tB) .nil))) .nil)
          exact qAll.tups kt tA9.tup
        · rw [List.length_append, List.length_singleton]
          omega
        · omega
        · omega
        · omega
        · show (left - (1 + r7)).toNat < left.toNat
          omega
      · intro σ' H' Q1 Q2 hq h
        obtain ⟨v, e1, i, j, e2, e3, b, e4, h⟩ := h
        refine ⟨v, e1, i, j, e2, e3, b, e4, ?_⟩
        cases b with
        | false => exact hq _ _ h
        | true =>
        obtain ⟨v, e1, i, j, e2, e3, b, e4, h⟩ := h
        refine ⟨v, e1, i, j, e2, e3, b, e4, ?_⟩
        cases b with
        | false => exact hq _ _ h
        | true =>
        obtain ⟨v, e1, p, ys, e2, sq, i, j, e3, e4, b, e5, h⟩ := h
        refine ⟨v, e1, p, ys, e2, sq, i, j, e3, e4, b, e5, ?_⟩
        cases b with
        | false => exact hq _ _ h
        | true =>
        obtain ⟨v, e1, m, c, l, many, cs, ls, n, e2, M, h1, h2, h3, kk⟩ := h
        refine ⟨v, e1, m, c, l, many, cs, ls, n, e2, M, h1, h2, h3, fun r H' l' ls' n' r0 r1 M' nn s => ?_⟩
        obtain ⟨i, j, f1, f2, b, f3, q⟩ := kk r H' l' ls' n' r0 r1 M' nn s
        exact ⟨i, j, f1, f2, b, f3, hq _ _ q⟩
end
end K01
set_option Elab.async false
set_option linter.all false
set_option maxRecDepth 100000
set_option maxHeartbeats 4000000
/-! readings hand on what is wanted: monotone -/
namespace MO
open PySem L2
def MonoE (te : TE) : Prop := ∀ (σ : L2.St) (H : Hp) (Q Q' : VK), (∀ v H1, Q v H1 → Q' v H1) → te σ H Q → te σ H Q'
def MonoA (ta : TA) : Prop := ∀ (σ : L2.St) (H : Hp) (Q Q' : List V → Hp → Prop), (∀ v H1, Q v H1 → Q' v H1) → ta σ H Q → ta σ H Q'
def MonoT (tt : TT) : Prop := ∀ (σ : L2.St) (H : Hp) (Q Q' : Bool → Hp → Prop), (∀ b H1, Q b H1 → Q' b H1) → tt σ H Q → tt σ H Q'
def MonoR (r : R2) : Prop := ∀ (x y : V) (H : Hp) (Q Q' : VK), (∀ v H1, Q v H1 → Q' v H1) → r x y H Q → r x y H Q'
def MonoC (r : List V → Hp → VK → Prop) : Prop := ∀ (vs : List V) (H : Hp) (Q Q' : VK), (∀ v H1, Q v H1 → Q' v H1) → r vs H Q → r vs H Q'
theorem mo_var {i : Nat} : MonoE (tVar i) := fun σ H Q Q' h ⟨v, e, q⟩ => ⟨v, e, h _ _ q⟩
theorem mo_c {v : V} : MonoE (tC v) := fun σ H Q Q' h q => h _ _ q
theorem mo_nil : MonoA tNil := fun σ H Q Q' h q => h _ _ q
theorem mo_cons {te : TE} {ta : TA} (a : MonoE te) (b : MonoA ta) : MonoA (tCons te ta) := fun σ H Q Q' h q => a σ H _ _ (fun v H1 q1 => b σ H1 _ _ (fun vs H2 q2 => h _ _ q2) q1) q
theorem mo_tup {ta : TA} (a : MonoA ta) : MonoE (tTup ta) := fun σ H Q Q' h q => a σ H _ _ (fun vs H1 q1 => ⟨q1.1, fun p np => h _ _ (q1.2 p np)⟩) q
theorem mo_lst {ta : TA} (a : MonoA ta) : MonoE (tLst ta) := fun σ H Q Q' h q => a σ H _ _ (fun vs H1 q1 => ⟨q1.1, fun p np => h _ _ (q1.2 p np)⟩) q
theorem mo_op {r : R2} {ta tb : TE} (hr : MonoR r) (a : MonoE ta) (b : MonoE tb) : MonoE (tOp r ta tb) := fun σ H Q Q' h q => a σ H _ _ (fun v H1 q1 => b σ H1 _ _ (fun u H2 q2 => hr _ _ _ _ _ h q2) q1) q
theorem mo_test {te : TE} (a : MonoE te) : MonoT (tTest te) := fun σ H Q Q' h q => a σ H _ _ (fun v H1 ⟨k, e, q1⟩ => ⟨k, e, h _ _ q1⟩) q
theorem mo_and {t u : TT} (a : MonoT t) (b : MonoT u) : MonoT (tAnd t u) := fun σ H Q Q' h q => a σ H _ _ (fun c H1 q1 => by
  cases c with
  | true =>
    rw [if_pos rfl] at q1 ⊢
    exact b σ H1 _ _ h q1
  | false => exact h _ _ q1) q
theorem mo_or {t u : TT} (a : MonoT t) (b : MonoT u) : MonoT (tOr t u) := fun σ H Q Q' h q => a σ H _ _ (fun c H1 q1 => by
  cases c with
  | true => exact h _ _ q1
  | false => exact b σ H1 _ _ h q1) q
theorem mo_if {t : TT} {ta tb : TE} (a : MonoT t) (b : MonoE ta) (c : MonoE tb) : MonoE (tIf t ta tb) := fun σ H Q Q' h q => a σ H _ _ (fun k H1 q1 => by
  cases k with
  | true =>
    rw [if_pos rfl] at q1 ⊢
    exact b σ H1 _ _ h q1
  | false => exact c σ H1 _ _ h q1) q
theorem mr_ix {K : PySem.W.Frag} : MonoR (rIxT K) := fun x y H Q Q' h ⟨p, xs, i, v, e1, e2, e3, e4, q⟩ => ⟨p, xs, i, v, e1, e2, e3, e4, h _ _ q⟩
theorem mr_nilT {K : PySem.W.Frag} {f : Bool → Bool} : MonoR (NI.rNilT K f) := fun x y H Q Q' h ⟨a, b, xs, e1, e2, e3, e4, q⟩ => ⟨a, b, xs, e1, e2, e3, e4, h _ _ q⟩
theorem mr_i0 {g : Int → Int → V} : MonoR (rI0 g) := fun x y H Q Q' h ⟨i, j, e1, e2, q⟩ => ⟨i, j, e1, e2, h _ _ q⟩
theorem mc_nx (E : XK) : ∀ (vs : List V) (H : Hp) (Q Q' : VK), (∀ v H1, Q v H1 → Q' v H1) → K01.spNx vs H Q E → K01.spNx vs H Q' E := fun vs H Q Q' h ⟨m, c, l, many, cs, ls, n, e, M, h1, h2, h3, k⟩ =>
  ⟨m, c, l, many, cs, ls, n, e, M, h1, h2, h3, fun r H' l' ls' n' r0 r1 M' nn s => h _ _ (k r H' l' ls' n' r0 r1 M' nn s)⟩
end MO
namespace MO
open PySem L2
theorem mo_cb {r : List V → Hp → VK → Prop} {ta : TA} (hr : MonoC r) (a : MonoA ta) : MonoE (tCB r ta) := fun σ H Q Q' h q => a σ H _ _ (fun vs H1 q1 => hr _ _ _ _ h q1) q
theorem mo_call {sp : Sp} {dvs : List V} {E : XK} {ta : TA} (hr : ∀ vs H Q Q', (∀ v H1, Q v H1 → Q' v H1) → sp vs H Q E → sp vs H Q' E) (a : MonoA ta) : MonoE (tCall sp dvs E ta) := fun σ H Q Q' h q => a σ H _ _ (fun vs H1 q1 => hr _ _ _ _ h q1) q
theorem mc_len {K : PySem.W.Frag} : MonoC (fun xs H Q => ∃ p ys, xs = [.ref p] ∧ (SqL K H p ys ∨ SqT K H p ys) ∧ Q (.int ys.length) H) := fun vs H Q Q' h ⟨p, ys, e, s, q⟩ => ⟨p, ys, e, s, h _ _ q⟩
end MO
set_option Elab.async false
set_option linter.all false
set_option maxRecDepth 100000
set_option maxHeartbeats 4000000
/-! t[::-1] of a tuple -/
namespace RT
open PySem PySem.Spec PyProof.Rows L2 HT
section
variable {prog : Program} {w : World} {A : Around} {E : Value → Shared → Prop} {s : Shared}
theorem applied_rev {sl : Addr} {u : Tok} {n : Nat} {Q : Int × Int × Nat → Shared → Prop} (hs : s.heap.IsSliceOf sl .none .none (.int (-1) u)) (h : Q ((n : Int) - 1, -1, n) s) :
    wpAny (model prog w) A (Builtin.Slice.sliceApplied (.ref sl) (pure (n : Int))) Q E s := by
  obtain ⟨os, hos, hcs, hds⟩ := id hs
  unfold Builtin.Slice.sliceApplied Builtin.Slice.sliceFields
  refine wpAny_bind (wpAny_bind (wpAny_field hos hds (x := .none) rfl (wpAny_bind (wpAny_field hos hds (x := .none) rfl (wpAny_bind (wpAny_field hos hds (x := .int (-1) u) rfl (wpAny_pure ?_)))))))
  refine wpAny_bind (slicePart_int ?_)
  show wpAny _ _ (if ((-1 : Int) == 0) = true then _ else _) _ _ s
  rw [if_neg (by decide)]
  refine wpAny_bind (slicePart_none (wpAny_bind (slicePart_none (wpAny_bind (wpAny_pure ?_)))))
  have e : Builtin.Slice.sliceAdjust none none (-1) (n : Int) = ((n : Int) - 1, -1) := by
    unfold Builtin.Slice.sliceAdjust
    simp
  show wpAny _ _ (match Builtin.Slice.sliceAdjust none none (-1) (n : Int) with | (lo, hi) => pure (lo, (-1 : Int), Builtin.Slice.slicePlaces lo hi (-1))) _ _ s
  rw [e]
  show wpAny _ _ (pure ((n : Int) - 1, (-1 : Int), Builtin.Slice.slicePlaces ((n : Int) - 1) (-1) (-1))) _ _ s
  have p : Builtin.Slice.slicePlaces ((n : Int) - 1) (-1) (-1) = n := by
    unfold Builtin.Slice.slicePlaces
    simp
    omega
  rw [p]
  exact wpAny_pure h
theorem fm_congr {α β : Type} {f g : α → Option β} : ∀ {l : List α}, (∀ x ∈ l, f x = g x) → l.filterMap f = l.filterMap g
  | [], _ => rfl
  | x :: l, h => by
    rw [List.filterMap_cons, List.filterMap_cons, h x (List.mem_cons_self ..), fm_congr fun y hy => h y (List.mem_cons_of_mem _ hy)]
theorem pick_rev (xs : Array Value) : ((List.range xs.size).filterMap fun (m : Nat) => xs[((xs.size : Int) - 1 + (m : Int) * -1).toNat]?).toArray = xs.toList.reverse.toArray := by
  congr 1
  have z := pick_run xs.toList.reverse.toArray 0 xs.size
  rw [List.filterMap_map] at z
  rw [List.drop_zero, List.take_of_length_le (by simp)] at z
  refine Eq.trans (fm_congr fun m hm => ?_) z
  have hm' : m < xs.size := List.mem_range.mp hm
  have e : ((xs.size : Int) - 1 + (m : Int) * -1).toNat = xs.size - 1 - m := by omega
  rw [e]
  show _ = (xs.toList.reverse.toArray)[0 + m]?
  have e2 : (xs.toList.reverse.toArray)[m]? = xs.toList.reverse[m]? := by
    rw [← Array.getElem?_toList]
  rw [Nat.zero_add, e2, List.getElem?_reverse (by simpa using hm'), Array.length_toList, Array.getElem?_toList]
theorem getItem_rev {t sl : Addr} {items : Array Value} {u : Tok} {Q : Value → Shared → Prop} (ht : IsTup s.heap t items) (hs : s.heap.IsSliceOf sl .none .none (.int (-1) u)) (hsz : items.size ≤ sizeLine)
    (h : Q (.ref s.heap.objs.size) { s with heap := s.heap.push { cls := .type "tuple", data := .seq items.toList.reverse.toArray } }) : wpAny (model prog w) A (getItem (.ref t) (.ref sl)) Q E s := by
  obtain ⟨os, hos, hcs, hds⟩ := id hs
  have ts : s.TypeIs (.ref sl) "slice" := ⟨os, hos, hcs⟩
  unfold getItem
  try with_reducible refine wpAny_holding ?_
  first | refine wpAny_bind (wpAny_pure ?_) | skip
  refine wpAny_bind (wpAny_sequenceKey ht.typeIs (by decide) ?_)
  refine wpAny_bind (wpAny_callSpecial?_slot (name := Str.ofString "__getitem__") ht.typeIs PyProof.Rows.slot_tuple_getitem (wpAny_call_entry PyProof.Rows.slot_tuple_getitem ht.typeIs entry_tuple_getitem ?_ (args_tuple_getitem _ _)))
  show wpAny _ _ (Builtin.Tuple.tupleItemsOf (.ref t) >>= _) _ _ s
  refine wpAny_bind (tupleItemsOf_ ht (wpAny_bind (wpAny_typeOf ts ?_)))
  rw [if_pos (by decide)]
  refine wpAny_bind (applied_rev hs ?_)
  have no : ¬ ((((items.size : Int) - 1) == 0 && (-1 : Int) == 1 && items.size == items.size) = true) := by simp
  show wpAny _ _ (if (((items.size : Int) - 1) == 0 && (-1 : Int) == 1 && items.size == items.size) = true then _ else _) _ _ s
  rw [if_neg no, pick_rev]
  have ok : sizeOk (.seq items.toList.reverse.toArray) := by
    show items.toList.reverse.toArray.size ≤ sizeLine
    simpa using hsz
  first
    | exact wpAny_bind (m := Builtin.Tuple.tupleExact _) (wpAny_newObj_type (wpAny_pure ⟨_, rfl, wpAny_pure h⟩) ok)
    | exact wpAny_bind (m := Builtin.Tuple.tupleExact _) (wpAny_newObj_type (wpAny_bind (wpAny_pure (wpAny_pure ⟨_, rfl, wpAny_pure h⟩))) ok)
    | exact wpAny_bind (wpAny_bind (m := Builtin.Tuple.tupleExact _) (wpAny_newObj_type (wpAny_pure (wpAny_pure ⟨_, rfl, wpAny_pure h⟩)) ok))
    | exact wpAny_bind (wpAny_bind (m := Builtin.Tuple.tupleExact _) (wpAny_newObj_type (wpAny_pure ⟨_, rfl, wpAny_pure h⟩) ok))
end
section
variable {X : Cx}
def tRevT (te : TE) : TE := fun σ H Q => te σ H fun x H1 => ∃ a xs, x = .ref a ∧ H1 a = some (.tup xs) ∧ ∀ p, H1 p = none → Q (.ref p) (upd H1 p (.tup xs.reverse))
theorem pe_revT {e : Expr} {te : TE} {k : Nat} {p1 p2 p3 pos : Pos} (he : PE X e te) : PE X (.Subscript e (.Slice none none (some (.UnaryOp .USub (.Constant (.int 1) k p1) p2)) p3) pos) (tRevT te) := by
  refine ⟨fun pins s σ H Q I h => Subscript_ (thn (he.run pins s σ H _ I h) fun v s1 ⟨x, H1, I1, r1, a, xs, ex, hx, q⟩ => ?_)⟩
  subst ex
  cases r1
  have st : PO X (some (.UnaryOp .USub (.Constant (.int 1) k p1) p2)) (tPart (tUn (rU fun i => .int (-i)) (tC (.int 1)))) := po_some (pe_un un_neg pe_int)
  refine wpAny_Slice (thn (po_none.run pins s1 σ H1 (fun o H2 => o = none ∧ H2 = H1) I1 ⟨rfl, rfl⟩) fun vl s2 ⟨l, H2, I2, pl, el, e2⟩ => ?_)
  subst el e2
  refine thn (po_none.run pins s2 σ H2 (fun o H3 => o = none ∧ H3 = H2) I2 ⟨rfl, rfl⟩) fun vu s3 ⟨u, H3, I3, pu, eu, e3⟩ => ?_
  subst eu e3
  refine thn (st.run pins s3 σ H3 (fun o H4 => o = some (-1) ∧ H4 = H3) I3 ⟨1, rfl, -1, rfl, rfl, rfl⟩) fun vs s4 ⟨o, H4, I4, ps, eo, e4⟩ => ?_
  subst eo e4
  have I5 : Inv X pins σ H4 { s4 with heap := s4.heap.push { cls := .type "slice", data := .fields #[vl, vu, vs] } } := I4.kept (t' := s4.toks) fun b ob q => Heap.get?_push_of_some _ q
  obtain ⟨its, r, ht, hz⟩ := I5.tuple (SqT.of (K := X.K) hx)
  show wpAny (model X.prog X.w) X.A (subscriptTail e (.Slice none none (some (.UnaryOp .USub (.Constant (.int 1) k p1) p2)) p3) (.ref a) (.ref s4.heap.objs.size)) (EP X pins σ Q) X.xe { s4 with heap := s4.heap.push { cls := .type "slice", data := .fields #[vl, vu, vs] } }
  cases pl
  cases pu
  cases ps
  refine tail_any (ops := [.ref a, .ref s4.heap.objs.size]) ht.typeIs (PyProof.Rows.slot_tuple_getitem.lookup) ?_ (by with_unfolding_all rfl)
  refine getItem_rev ht (Heap.IsSliceOf.new _ _ _ _) (by rw [List.size_toArray, ← r.length]; exact hz) ?_
  refine ⟨.ref _, _, I5.laid (t' := s4.toks) (o := .tup xs.reverse) (fun b ob q => Heap.get?_push_of_some _ q) (Nat.le_refl _) ?_, rfl, q _ (I5.hok.fresh (Nat.le_refl _))⟩
  exact ⟨by rw [List.length_reverse]; exact hz, its.reverse, r.reverse, ⟨_, Heap.get?_push_size _ rfl, rfl, _, rfl⟩⟩
end
end RT
set_option Elab.async false
set_option linter.all false
set_option maxRecDepth 100000
set_option maxHeartbeats 4000000
namespace K01
open PySem L2 L2H DQ RZ
/-- a pair: a tree that is no call, n nodes, c calls -/
def Tp (k n c : Nat) (d : PyData) : Prop := ∃ (ms : List Str) (bs : List PyData) (n0 : Nat), d = .tuple [.tuple (ms.map PyData.str), .tuple bs] ∧ ms.Sublist abc3 ∧ bs.length ≤ 3 ∧ TcB k n0 c bs ∧ n = n0 + 1
theorem Tp.tc {k n c : Nat} {d : PyData} (h : Tp k n c d) : Tc k n c d := by
  obtain ⟨ms, bs, n0, rfl, h1, h2, h3, h4⟩ := h
  exact .mk h1 h2 (.inl ⟨rfl, rfl⟩) h3 h4 rfl
theorem Tc.tp {k n : Nat} {d : PyData} (h : Tc k n 0 d) : Tp k n 0 d := by
  cases h with
  | @mk _ _ _ n0 c0 c1 ms bs r h1 h2 h3 h4 e1 e2 =>
    rcases h3 with ⟨rfl, rfl⟩ | ⟨rfl, rfl⟩
    · obtain rfl : c1 = 0 := by omega
      exact ⟨ms, bs, n0, rfl, h1, h2, h4, e1⟩
    · omega
theorem tp_tup {ms : List Str} {bs : List PyData} (h : tupA bs = true) : tupO (.tuple [.tuple (ms.map PyData.str), .tuple bs]) = true := by
  simp only [tupO, tupA, tup_strs, h, Bool.and_self]
/-- the way down: what stands above, level by level; o nodes beside the way -/
inductive Spn (H : Hp) : List V → Nat → Nat → Prop
  | nil : Spn H [] 3 0
  | snoc {es : List V} {k o a b o' : Nat} {e : Addr} {v : V} {j : Nat} {ms : List Str} {bs : List PyData} {u : Str} {t : PyData} : Spn H es (k + 1) o → H e = some (.tup [v, .int (j : Int)]) → Dq H v (.tuple [.tuple (ms.map PyData.str), .tuple bs]) → tupA bs = true →
      ms.Sublist abc3 → bs.length ≤ 3 → bs[j]? = some (.tuple [.str u, t]) → efS u → TcB (k + 1) a 0 (bs.take j) → TcB (k + 1) b 0 (bs.drop (j + 1)) → o' = o + 1 + a + b → Spn H (es ++ [.ref e]) k o'
theorem Spn.keep {H H' : Hp} (s : ∀ b xs, H b = some (.tup xs) → H' b = some (.tup xs)) {es : List V} {k o : Nat} (h : Spn H es k o) : Spn H' es k o := by
  induction h with
  | nil => exact .nil
  | snoc h h1 h2 ht h3 h4 h5 h6 h7 h8 h9 ih => exact .snoc ih (s _ _ h1) (h2.tups s (tp_tup ht)) ht h3 h4 h5 h6 h7 h8 h9
theorem Spn.same {H H' : Hp} (s : Same H H') {es : List V} {k o : Nat} (h : Spn H es k o) : Spn H' es k o := h.keep fun b xs e => s _ _ e
theorem TcB.cut {k n c : Nat} {bs : List PyData} {j : Nat} (h : TcB k n c bs) (hj : j < bs.length) : ∃ k' u t n1 c1 a ca b cb, k = k' + 1 ∧ bs[j]? = some (.tuple [.str u, t]) ∧ efS u ∧ Tc k' n1 c1 t ∧ TcB k a ca (bs.take j) ∧ TcB k b cb (bs.drop (j + 1)) ∧ n = a + n1 + b ∧ c = ca + c1 + cb := by
  obtain ⟨n1, c1, n2, c2, hA, hB, e1, e2⟩ := h.take j
  have hd : bs.drop j = bs[j] :: bs.drop (j + 1) := List.drop_eq_getElem_cons hj
  rw [hd] at hB
  have hb : bs[j]? = some bs[j] := List.getElem?_eq_getElem hj
  generalize bs[j] = x at hB hb
  cases hB with
  | @cons k n c n' c' N C u t r hu ht hr f1 f2 => exact ⟨k, u, t, n, c, n1, c1, n', c', rfl, hb, hu, ht, hA, hr, by omega, by omega⟩
/-- trees of at most one level below the root -/
def spT1 : Sp := fun vs H Q _ => ∃ (m c l : Addr) (cs ls : List Int) (n e : Int), vs = [.ref m, .int 2, .int e] ∧ (e = 0 ∨ e = 1) ∧ MAt H m c l cs ls n ∧ n + 52 ≤ 1000000000 ∧
  ∀ r d q H' l' ls' n', MAt H' m c l' cs ls' n' → n' ≤ n + 52 → Fs H m l H' l' → Dq (fr H' m l') r d → Tc 1 q 0 d → (q : Int) ≤ 2 → Q r H'
theorem t1_or {vs : List V} {H : Hp} {Q : VK} {E : XK} (h : spT1 vs H Q E) : spTr 0 vs H Q E ∨ spTr 1 vs H Q E := by
  obtain ⟨m, c, l, cs, ls, n, e, rfl, he, M, hn, k⟩ := h
  have d0 : dn 0 = 10 := by decide
  have d1 : dn 1 = 52 := by decide
  rcases he with rfl | rfl
  · exact .inl ⟨m, c, l, cs, ls, n, 2, rfl, M, by omega, by decide, by decide, fun r d q H' l' ls' n' M' nn s q' t hq => k r d q H' l' ls' n' M' (by omega) s q' t.mono hq⟩
  · exact .inr ⟨m, c, l, cs, ls, n, 2, rfl, M, by omega, by decide, by decide, fun r d q H' l' ls' n' M' nn s q' t hq => k r d q H' l' ls' n' M' (by omega) s q' t hq⟩
theorem dq_tup {H : Hp} {v : V} {ds : List PyData} (h : Dq H v (.tuple ds)) : ∃ p xs, v = .ref p ∧ H p = some (.tup xs) ∧ DqAll H xs ds := by
  cases h with
  | tup e a => exact ⟨_, _, rfl, e, a⟩
theorem dq_pair {H : Hp} {v : V} {a b : PyData} (h : Dq H v (.tuple [a, b])) : ∃ p va vb, v = .ref p ∧ H p = some (.tup [va, vb]) ∧ Dq H va a ∧ Dq H vb b := by
  obtain ⟨p, xs, rfl, e, a⟩ := dq_tup h
  cases a with
  | cons qa q =>
  cases q with
  | cons qb q =>
  cases q
  exact ⟨p, _, _, rfl, e, qa, qb⟩
theorem dq_node {H : Hp} {v : V} {A B : List PyData} (h : Dq H v (.tuple [.tuple A, .tuple B])) : ∃ p va pb xs, v = .ref p ∧ H p = some (.tup [va, .ref pb]) ∧ Dq H va (.tuple A) ∧ H pb = some (.tup xs) ∧ DqAll H xs B := by
  obtain ⟨p, va, vb, rfl, e, qa, qb⟩ := dq_pair h
  obtain ⟨pb, xs, rfl, e2, a⟩ := dq_tup qb
  exact ⟨p, va, pb, xs, rfl, e, qa, e2, a⟩
def lenAt (H : Hp) (p : Addr) : Nat := match H p with | some (.lst xs) => xs.length | _ => 0
theorem gw_put {H : Hp} {m l D : Addr} {xs ys : List V} (h : fr H m l D = some (.lst xs)) : ∀ b zs, fr H m l b = some (.tup zs) → fr (upd H D (.lst ys)) m l b = some (.tup zs) := fun b zs z => by
  obtain ⟨h1, h2, h3⟩ := fr_of z
  refine fr_some ?_ h1 h2
  rw [upd_ne fun y => by rw [y, h] at z; cases z]
  exact h3
/-- a drawn body -/
def spBy : Sp := fun vs H Q _ => ∃ (m c l : Addr) (cs ls : List Int) (n size : Int), vs = [.ref m, .int size] ∧ MAt H m c l cs ls n ∧ n + 700 ≤ 1000000000 ∧ 2 ≤ size ∧ size ≤ 1000 ∧
  ∀ r d q H' l' ls' n', MAt H' m c l' cs ls' n' → n' ≤ n + 700 → Fs H m l H' l' → Dq (fr H' m l') r d → Tp 3 q 1 d → (q : Int) ≤ size + 1 → Q r H'
abbrev nBy : List Str := ["m", "size", "tree", "spine", "call", "at", "word", "above"]
theorem drop_atV {es : List V} {j : Nat} {e : V} (h : es[j]? = some e) : es.drop j = e :: es.drop (j + 1) := by
  obtain ⟨h1, h2⟩ := List.getElem?_eq_some_iff.mp h
  rw [← h2, ← List.drop_eq_getElem_cons h1]
section
variable {P : Program} {w : World} {K : PySem.W.Frag} {mg : Str → Option Value} {base : Heap}
theorem scBy : FnScope nBy ["m", "size"] (defScope sBody) := ⟨rfl, rfl, rfl, by decide +kernel, rfl, by decide +kernel, by decide +kernel⟩
theorem ok_body {f fN fT : Addr} {fd dN dT : FuncData} (F : Fun K "_law_body" "_law_body" sBody f fd) (FN : Fun K "_law_next" "_law_next" sNext fN dN) (bN : Binds K dN ["m", "many"] []) (gN : mg "_law_next" = some (.ref fN))
    (FT : Fun K "_law_tree" "_law_tree" sTree fT dT) (bT : Binds K dT ["m", "size", "deep"] []) (gT : mg "_law_tree" = some (.ref fT)) (T : TxtB mg) (tT : mg "tuple" = none) : FnOk P w K mg base CX0 7 f fd ["m", "size"] spBy := by
  have GN : FnOk P w K mg base CX0 1 fN dN ["m", "many"] spNx := (ok_next FN T).imp fun _ _ _ _ => nx_of
  have GT : FnOk P w K mg base CX0 6 fT dT ["m", "size", "deep"] (spTr 3) := ok_tree FT bT gT FN bN gN T tT 3 (by decide)
  have GA : FnOk P w K mg base CX0 3 fT dT ["m", "size", "deep"] (spTr 0) := ok_tree FT bT gT FN bN gN T tT 0 (by decide)
  have GB : FnOk P w K mg base CX0 4 fT dT ["m", "size", "deep"] (spTr 1) := ok_tree FT bT gT FN bN gN T tT 1 (by decide)
  have G1 : FnOk P w K mg base CX0 4 fT dT ["m", "size", "deep"] spT1 := ⟨fun vs H Q E h => (t1_or h).elim (GA.len vs H Q E) (GB.len vs H Q E), fun A outer s H args us vs Q E hr he hb hv h => (t1_or h).elim (GA.run A outer s H args us vs Q E (hr.mono (by decide)) he hb hv) (GB.run A outer s H args us vs Q E hr he hb hv)⟩
  have bi : bootBuiltins ("int" : Str) = some (.type "int") := by decide +kernel
  refine F.ok (k := 6) scBy (fun vs H Q E h => ?_) (fun cdv A outer s H vs Q E hr h => ?_)
  · obtain ⟨m, c, l, cs, ls, n, size, rfl, _⟩ := h
    rfl
  · obtain ⟨m, c, l, cs, ls, n, size, rfl, M, hn, sz2, sz9, kk⟩ := h
    have hu1 : (A.deeper (PyProof.Rows.envOfC "_law_body" (defScope sBody) s.heap.objs.size f cdv)).units < cLine := by have := hr.un; omega
    refine ⟨_, pss_cons (ps_set (i := 2) scBy.nd rfl (Or.inl rfl) (pe_call GT hr (by rfl) gT FT.kp bT .nil pass0 (pa_cons (pv 0) (pa_cons (pe_op op_sub (pv 1) pe_int) (pa_cons pe_int pa_nil)))))
      (pss_cons (ps_par rfl scBy.nd (i := 3) (j := 4) rfl rfl (by decide) rfl rfl (pa_cons (pe_lst pa_nil) (pa_cons (pe_op op_catF (pe_call G1 (hr.mono (by decide)) (by rfl) gT FT.kp bT .nil pass0 (pa_cons (pv 0) (pa_cons pe_int (pa_cons (pe_callTy call_int1 (by rfl) T.int bi (pa_cons (pe_cmpR op_eq (pe_call GN (hr.mono (by decide)) (by rfl) gN FN.kp bN .nil pass0 (pa_cons (pv 0) (pa_cons pe_int pa_nil))) pe_int (by rfl)) pa_nil)) pa_nil))))
          (pe_tup (pa_cons pe_str pa_nil))) pa_nil)) rfl)
      (pss_cons (ps_while PassesOwn.never (PW.pt (pw_and (pt_cmpR (NI.op_neNilT hu1) (pe_ix ix_tup (pv 2) pe_int (fun _ _ => rfl)) (pe_tup pa_nil) (by rfl)) (pw_and (pt_cmpR op_lt (pe_callB call_len_seq (by rfl) T.len PySem.boot_len (pa_cons (pv 3) pa_nil)) (pe_ifExp (pt_cmpR (NI.op_eqNilT hu1) (pe_ix ix_tup (pv 4) pe_int (fun _ _ => rfl)) (pe_tup pa_nil) (by rfl)) pe_int pe_int) (by rfl))
          (pw_and1 (pt_cmpR op_gt (pe_call GN (hr.mono (by decide)) (by rfl) gN FN.kp bN .nil pass0 (pa_cons (pv 0) (pa_cons pe_int pa_nil))) pe_int (by rfl))))))
        (pss_cons (ps_set (i := 5) scBy.nd rfl (Or.inl rfl) (pe_call GN (hr.mono (by decide)) (by rfl) gN FN.kp bN .nil pass0 (pa_cons (pv 0) (pa_cons (pe_callB call_len_seq (by rfl) T.len PySem.boot_len (pa_cons (pe_ix ix_tup (pv 2) pe_int (fun _ _ => rfl)) pa_nil)) pa_nil))))
        (pss_cons (ps_expr (pe_bm PySem.F.plainAttrs_list PySem.F.slot_list_append PySem.F.type_list_append mt_append (pv 3) (pa_cons (pe_tup (pa_cons (pv 2) (pa_cons (pv 5) pa_nil))) pa_nil)))
        (pss_one (ps_set (i := 2) scBy.nd rfl (Or.inl rfl) (pe_ix ix_tup (pe_ix ix_tup (pe_ix ix_tup (pv 2) pe_int (fun _ _ => rfl)) (pv 5) (fun _ _ => rfl)) pe_int (fun _ _ => rfl)))))))
      (pss_cons (ps_set (i := 6) scBy.nd rfl (Or.inl rfl) (pe_ix ix_list (pe_lst (pa_cons pe_str (pa_cons pe_str pa_nil))) (pe_callTy call_int1 (by rfl) T.int bi (pa_cons (pe_cmpR op_eq (pe_call GN (hr.mono (by decide)) (by rfl) gN FN.kp bN .nil pass0 (pa_cons (pv 0) (pa_cons pe_int pa_nil))) pe_int (by rfl)) pa_nil)) (fun _ _ => rfl)))
      (pss_cons (ps_set (i := 2) scBy.nd rfl (Or.inl rfl) (pe_tup (pa_cons (pe_ix ix_tup (pv 2) pe_int (fun _ _ => rfl)) (pa_cons (pe_op op_catF (pe_slice sl_tupF (pe_ix ix_tup (pv 2) pe_int (fun _ _ => rfl)) po_none (po_some pe_int)) (pe_tup (pa_cons (pe_tup (pa_cons (pv 6) (pa_cons (pv 4) pa_nil))) pa_nil))) pa_nil))))
      (pss_cons (ps_for PassesOwn.never rfl (pi_list (pe_revL (pv 3))) (pg_tup (n := 2) rfl (pgs_cons (pg_name (i := 7) scBy.nd rfl (Or.inl rfl)) (pgs_cons (pg_name (i := 5) scBy.nd rfl (Or.inl rfl)) pgs_nil)))
        (pss_one (ps_set (i := 2) scBy.nd rfl (Or.inl rfl) (pe_tup (pa_cons (pe_ix ix_tup (pv 7) pe_int (fun _ _ => rfl)) (pa_cons (pe_op op_catF (pe_op op_catF (pe_slice sl_tupF (pe_ix ix_tup (pv 7) pe_int (fun _ _ => rfl)) po_none (po_some (pv 5)))
            (pe_tup (pa_cons (pe_tup (pa_cons (pe_ix ix_tup (pe_ix ix_tup (pe_ix ix_tup (pv 7) pe_int (fun _ _ => rfl)) (pv 5) (fun _ _ => rfl)) pe_int (fun _ _ => rfl)) (pa_cons (pv 2) pa_nil))) pa_nil))) (pe_slice sl_tupF (pe_ix ix_tup (pv 7) pe_int (fun _ _ => rfl)) (po_some (pe_op op_add (pv 5) pe_int)) po_none)) pa_nil))))))
      (pss_one (ps_ret (pv 2)))))))), ?_⟩
    have d3 : dn 3 = 556 := by decide
    refine ⟨_, rfl, _, rfl, _, _, rfl, rfl, m, c, l, cs, ls, n, size - 1, rfl, M, by omega, by omega, by omega, fun vt dt nt H1 l1 ls1 n1 M1 nn1 s1 q1 t1 ht1 => ?_⟩
    refine ⟨Nat.zero_le _, fun sp nsp => ?_⟩
    have G1 : Gw m c l1 cs ls1 n1 H1 H1 := ⟨M1, .refl⟩
    obtain ⟨G2, u2, e2⟩ := G1.new (o := .lst []) nsp
    have q2 := q1.same u2
    have sp0 : H sp = none := s1.2 _ nsp
    have F2 := s1.trans G2.sm
    generalize upd H1 sp (HO.lst []) = H2 at G2 u2 e2 q2 F2
    have M2 := G2.mat
    clear G1 G2 u2 q1 s1 nsp
    refine ⟨_, rfl, _, rfl, m, c, l1, 4, cs, ls1, n1, rfl, M2, by decide, by decide, by omega, fun rb H3 l3 ls3 n3 rb0 rb1 M3 nn3 s3 => ⟨rfl, .inr ⟨_, rfl, ?_⟩⟩⟩
    refine ⟨m, c, l3, cs, ls3, n3, _, rfl, by split <;> simp, M3, by omega, fun vc0 dc0 nc H4 l4 ls4 n4 M4 nn4 s4 q4 t4 hc4 => ?_⟩
    refine ⟨by show 1 ≤ sizeLine; decide, fun pk npk => ?_⟩
    obtain ⟨msC, bsC, nbC, rfl, hmC, lbC, tbC, enC⟩ := t4.tp
    obtain ⟨pc, xc, rfl, ec, ac⟩ := dq_tup q4
    have G4 : Gw m c l4 cs ls4 n4 H4 H4 := ⟨M4, .refl⟩
    obtain ⟨G5, u5, e5⟩ := G4.new (o := .tup [.str "call"]) npk
    refine ⟨pc, pk, _, _, rfl, rfl, (fr_of (u5 _ _ ec)).2.2, upd_same, by rw [ac.len]; show 2 + 1 ≤ sizeLine; decide, fun vcA H6 s6 e6 => ⟨_, _, rfl, ?_⟩⟩
    obtain ⟨G6, u6⟩ := G5.grow s6
    have dcall : Dq (fr H6 m l4) (.ref vcA) (.tuple (.tuple (msC.map PyData.str) :: .tuple bsC :: [.str "call"])) :=
      .tup (G6.tupAt e6) (((ac.same u5).same u6).app (.cons (.str _ ⟨by decide +kernel, by decide +kernel⟩) .nil))
    have tcall : ∀ k, (bsC = [] ∨ 1 ≤ k) → Tc k nc 1 (.tuple (.tuple (msC.map PyData.str) :: .tuple bsC :: [.str "call"])) := fun k hk => by
      have zero : bsC = [] → Tc 0 nc 1 (.tuple (.tuple (msC.map PyData.str) :: .tuple bsC :: [.str "call"])) := fun z => by
        subst z
        cases tbC
        exact .mk hmC (Nat.zero_le _) (.inr ⟨rfl, rfl⟩) .nil enC rfl
      have one : Tc 1 nc 1 (.tuple (.tuple (msC.map PyData.str) :: .tuple bsC :: [.str "call"])) := .mk hmC lbC (.inr ⟨rfl, rfl⟩) tbC enC rfl
      have up : ∀ {a b d : _} (j : Nat), Tc a b 1 d → Tc (a + j) b 1 d := fun j h => by
        induction j with
        | zero => exact h
        | succ j ih => exact ih.mono
      rcases hk with z | z
      · have := up k (zero z)
        rwa [Nat.zero_add] at this
      · have := up (k - 1) one
        rwa [show 1 + (k - 1) = k by omega] at this
    have F6 : Fs H m l H6 l4 := F2.trans (s3.trans (s4.trans (G5.sm.trans (.new s6 u6))))
    have e6s : fr H6 m l4 sp = some (.lst []) := u6 _ _ (u5 _ _ (s4.1 _ _ (s3.1 _ _ e2)))
    have q6 : Dq (fr H6 m l4) vt dt := ((((q2.same s3.1).same s4.1).same u5).same u6)
    have spm : sp ≠ m := (ne_of_none M.hm sp0).symm
    have spc : sp ≠ c := (ne_of_none M.hc sp0).symm
    obtain ⟨dC, hdC⟩ : ∃ dC, dC = PyData.tuple (.tuple (msC.map PyData.str) :: .tuple bsC :: [.str "call"]) := ⟨_, rfl⟩
    rw [← hdC] at dcall
    have tcall' := tcall
    rw [← hdC] at tcall'
    have M6 := G6.mat
    have n4' : n4 ≤ n + 609 := by omega
    clear tcall G4 G5 G6 u5 u6 s6 e6 e5 ac ec M4 q4 t4 s4 s3 M3 e2 q2 F2 M2
    let lim : Nat := if bsC = [] then 2 else 1
    refine while_by (fun σ' H' => ∃ (vt : V) (dt : PyData) (k o nt : Nat) (es : List V) (l' : Addr) (ls' : List Int) (n' : Int) (w5 : Option V), σ' = [some (V.ref m), some (V.int size), some vt, some (V.ref sp), some (V.ref vcA), w5, none, none] ∧
        Dl H m c l cs n (609 + 2 * (es.length : Int)) sp es H' l' ls' n' ∧ Dq (fr H' m l') vt dt ∧ Tp k nt 0 dt ∧ Spn (fr H' m l') es k o ∧ es.length + k = 3 ∧ (o : Int) + nt ≤ size - 1 ∧ Dq (fr H' m l') (.ref vcA) dC ∧ es.length ≤ lim)
      (fun _ H' => 3 - lenAt H' sp) ⟨vt, dt, 3, 0, nt, [], l4, ls4, n4, _, rfl, ⟨M6, by rw [List.length_nil]; omega, F6, e6s⟩, q6, t1.tp, .nil, rfl, by omega, dcall, Nat.zero_le _⟩ ?_ ?_
    · rintro σ' H' ⟨vt, dt, k, o, nt, es, l', ls', n', w5, rfl, d, qt, tp, spn, ek, osz, qc, elim⟩
      have lim2 : lim ≤ 2 := by show (if bsC = [] then 2 else 1) ≤ 2; split <;> decide
      have dle := d.le
      obtain ⟨ms, bs, nb, rfl, hms, lb, tb, en⟩ := tp
      obtain ⟨pt, va, pb, xb, rfl, ept, qa, epb, ab⟩ := dq_node qt
      refine ⟨_, rfl, pt, _, 1, .ref pb, rfl, rfl, SqT.of (fr_of ept).2.2, atI_nat (j := 1) rfl, Nat.zero_le _, fun p np => ⟨pb, p, xb, rfl, rfl, SqT.of (same_new np _ _ (fr_of epb).2.2), SqT.of upd_same, _, rfl, ?_⟩⟩
      have Gx : Gw m c l' cs ls' n' H' H' := ⟨d.mat, .refl⟩
      obtain ⟨Gy, ty, _⟩ := Gx.new (o := .tup []) np
      have d1 : Dl H m c l cs n (609 + 2 * (es.length : Int)) sp es (upd H' p (.tup [])) l' ls' n' := d.next Gy.mat (j := 0) (by omega) Gy.sm (by omega)
      have ept1 := ty _ _ ept
      have epb1 := ty _ _ epb
      have ab1 := ab.same ty
      have qa1 := qa.same ty
      have spn1 := spn.same ty
      have qc1 := qc.same ty
      generalize upd H' p (HO.tup []) = H1 at d1 ept1 epb1 ab1 qa1 spn1 qc1
      clear Gx Gy ty np
      by_cases hx : xb = []
      · rw [show (not xb.isEmpty) = false by rw [hx]; rfl]
        refine iteF ?_
        have dE : Dl H m c l cs n (610 + 2 * (es.length : Int)) sp es H1 l' ls' n' := d1.next d1.mat (j := 0) (by omega) .refl (by omega)
        have eptE := ept1
        have epbE := epb1
        have abE := ab1
        have qaE := qa1
        have spnE := spn1
        have qcE := qc1
        have dleE := dE.le
        refine ⟨by show 2 ≤ sizeLine; decide, fun pl npl => ?_⟩
        have GE : Gw m c _ cs _ _ _ _ := ⟨dE.mat, .refl⟩
        obtain ⟨GF, tF, eF⟩ := GE.new (o := .lst [.str "e", .str "f"]) npl
        refine ⟨_, rfl, m, c, _, 4, cs, _, _, rfl, GF.mat, by decide, by decide, by omega, fun r9 H9 l9 ls9 n9 r90 r91 M9 nn9 s9 => ⟨rfl, .inr ⟨_, rfl, ?_⟩⟩⟩
        have hx : ∃ u : Str, atI [V.str "e", V.str "f"] (if decide (V.int r9 = V.int 0) = true then 1 else 0) = some (V.str u) ∧ efS u := by
          cases decide (V.int r9 = V.int 0) with
          | true => exact ⟨"f", atI_nat (j := 1) rfl, .inr rfl⟩
          | false => exact ⟨"e", atI_nat (j := 0) rfl, .inl rfl⟩
        obtain ⟨u, hu, hfu⟩ := hx
        have hsu := ef_sm hfu
        have sA := same_trans tF s9.1
        have F9 : Fs H m l H9 l9 := dE.sm.trans (GF.sm.trans s9)
        have ept9 := sA _ _ eptE
        have epb9 := sA _ _ epbE
        refine ⟨pl, _, _, .str u, rfl, rfl, SqL.of (fr_of (s9.1 _ _ eF)).2.2, hu, ?_⟩
        refine ⟨_, rfl, pt, _, 0, va, rfl, rfl, SqT.of (fr_of ept9).2.2, atI_nat (j := 0) rfl, _, rfl, pt, _, 1, .ref pb, rfl, rfl, SqT.of (fr_of ept9).2.2, atI_nat (j := 1) rfl, 2, rfl, pb, xb, rfl, (fr_of epb9).2.2, fun p1 Ha sa ea => ?_⟩
        rw [show (2 : Int) = ((2 : Nat) : Int) from rfl, cut_to] at ea
        have G9 : Gw m c l9 cs ls9 n9 H9 H9 := ⟨M9, .refl⟩
        obtain ⟨Ga, ta⟩ := G9.grow sa
        have ea' := Ga.tupAt ea
        refine ⟨_, rfl, _, rfl, by show 2 ≤ sizeLine; decide, fun p2 np2 => ⟨by show 1 ≤ sizeLine; decide, fun p3 np3 => ?_⟩⟩
        obtain ⟨Gb, tb2, eb2⟩ := Ga.new (o := .tup [.str u, .ref vcA]) np2
        obtain ⟨Gc, tc3, ec3⟩ := Gb.new (o := .tup [.ref p2]) np3
        refine ⟨p1, p3, _, _, rfl, rfl, (fr_of (tc3 _ _ (tb2 _ _ ea'))).2.2, upd_same, by rw [List.length_take]; exact Nat.le_trans (Nat.add_le_add_right (Nat.min_le_left _ _) _) (show 2 + 1 ≤ sizeLine by decide), fun p4 Hb sb eb => ⟨by show 2 ≤ sizeLine; decide, fun p5 np5 => ?_⟩⟩
        obtain ⟨Gd, td⟩ := Gc.grow sb
        obtain ⟨Gf, tf, ef⟩ := Gd.new (o := .tup [va, .ref p4]) np5
        have c9 : Same (fr H9 m l9) (fr (upd Hb p5 (.tup [va, .ref p4])) m l9) := same_trans ta (same_trans tb2 (same_trans tc3 (same_trans td tf)))
        have cE := same_trans sA c9
        have e4f := tf _ _ (Gd.tupAt eb)
        have e2f := tf _ _ (td _ _ (tc3 _ _ eb2))
        obtain ⟨n1, c1, n2, c2, tB1, tB2, eN, eC⟩ := tb.take 2
        obtain ⟨k', rfl⟩ : ∃ k', k = k' + 1 := ⟨k - 1, by omega⟩
        have tcl : Tc k' nc 1 dC := tcall' k' (by
          by_cases z : bsC = []
          · exact .inl z
          · have e1 : lim = 1 := if_neg z
            exact .inr (by omega))
        have dNew : Dq (fr (upd Hb p5 (.tup [va, .ref p4])) m l9) (.ref p5) (.tuple [.tuple (ms.map PyData.str), .tuple (bs.take 2 ++ [.tuple [.str u, dC]])]) :=
          .tup ef (.cons (qaE.same cE) (.cons (.tup e4f (((abE.take 2).same cE).app (.cons (.tup e2f (.cons (.str u ⟨by rw [hsu.2]; decide, hsu.1⟩) (.cons (qcE.same cE) .nil))) .nil))) .nil))
        have tNew : Tp (k' + 1) (n1 + nc + 1) 1 (.tuple [.tuple (ms.map PyData.str), .tuple (bs.take 2 ++ [.tuple [.str u, dC]])]) :=
          ⟨ms, _, n1 + nc, rfl, hms, by rw [List.length_append, List.length_take]; show _ + 1 ≤ 3; omega, by
            have z := tB1.app (.cons hfu tcl .nil rfl rfl)
            rw [show c1 + (1 + 0) = 1 by omega] at z
            exact z, rfl⟩
        have spn9 := spnE.same cE
        have sp9 := cE _ _ dE.dd
        have FL : Fs H m l (upd Hb p5 (.tup [va, .ref p4])) l9 := F9.trans (Ga.sm.trans ⟨same_trans tb2 (same_trans tc3 (same_trans td tf)), fun b z => same_out (same_trans (same_new np2) (same_trans (same_new np3) (same_trans sb (same_new np5)))) z⟩)
        have ML := Gf.mat
        have szN : (o : Int) + ((n1 + nc + 1 : Nat) : Int) ≤ size + 1 := by omega
        generalize PyData.tuple [.tuple (ms.map PyData.str), .tuple (bs.take 2 ++ [.tuple [.str u, dC]])] = dtN at dNew tNew
        generalize upd Hb p5 (HO.tup [va, .ref p4]) = HL0 at dNew spn9 sp9 FL ML
        refine ⟨_, rfl, sp, es, rfl, SqL.of (fr_of sp9).2.2, fun pr npr => ?_⟩
        have GL0 : Gw m c l9 cs ls9 n9 HL0 HL0 := ⟨ML, .refl⟩
        obtain ⟨GL, tL, eL⟩ := GL0.new (o := .lst es.reverse) npr
        have FL2 := FL.trans GL.sm
        have MLL := GL.mat
        generalize upd HL0 pr (HO.lst es.reverse) = HL at GL tL eL FL2 MLL
        refine ⟨pr, rfl, ⟨_, SqL.of (fr_of eL).2.2⟩, for_list (xs := es.reverse) (fun i σ' H' => ∃ (es' : List V) (k o nt : Nat) (vt : V) (dt : PyData) (w5 w7 : Option V), es.reverse.drop i = es'.reverse ∧ σ' = [some (V.ref m), some (V.int size), some vt, some (V.ref sp), some (V.ref vcA), w5, some (V.str u), w7] ∧
            Gw m c l9 cs ls9 n9 HL H' ∧ Dq (fr H' m l9) vt dt ∧ Tp k nt 1 dt ∧ Spn (fr H' m l9) es' k o ∧ es'.length + k = 3 ∧ (o : Int) + nt ≤ size + 1)
          ⟨es, k' + 1, o, n1 + nc + 1, .ref p5, dtN, _, _, rfl, rfl, ⟨MLL, .refl⟩, dNew.same tL, tNew, spn9.same tL, ek, szN⟩ (fun i σ H _ ⟨_, _, _, _, _, _, _, _, _, _, G, _⟩ => SqL.of (fr_of (G.sm.1 _ _ eL)).2.2) ?_ ?_⟩
        · rintro i x σ' H' hix ⟨es', k, o, nt, vt, dt, w5, w7, hdr, rfl, G, qt, tp, spn, ek, osz⟩
          cases spn with
          | nil =>
            rw [List.reverse_nil] at hdr
            have := List.drop_eq_nil_iff.mp hdr
            have := (List.getElem?_eq_some_iff.mp hix).1
            omega
          | @snoc es0 _ o0 a b _ e v j ms bs uu tt sp0 h1 h2 h2t h3 h4 h5 h6 h7 h8 h9 =>
          have hx : x = V.ref e ∧ es.reverse.drop (i + 1) = es0.reverse := by
            rw [List.reverse_append, List.reverse_singleton, List.singleton_append, drop_atV hix] at hdr
            exact List.cons.inj hdr
          obtain ⟨rfl, hdr'⟩ := hx
          obtain ⟨pt, va, pb, xb, rfl, ept, qa, epb, ab⟩ := dq_node h2
          obtain ⟨vj, hvj, qj⟩ := ab.at h5
          obtain ⟨pj, vu, vtt, rfl, epj, qu, qtt⟩ := dq_pair qj
          have lx : xb.length ≤ 3 := by rw [ab.len]; exact h4
          refine ⟨e, _, rfl, SqT.of (fr_of h1).2.2, rfl, _, _, rfl, _, _, rfl, rfl, ?_⟩
          have ixA : ∀ {H5 : Hp}, Same H' H5 → SqT K H5 pt [va, .ref pb] := fun s => SqT.of (s _ _ (fr_of ept).2.2)
          refine ⟨_, rfl, pt, _, 0, va, rfl, rfl, SqT.of (fr_of ept).2.2, atI_nat (j := 0) rfl, _, rfl, pt, _, 1, .ref pb, rfl, rfl, SqT.of (fr_of ept).2.2, atI_nat (j := 1) rfl, _, rfl, j, rfl, pb, xb, rfl, (fr_of epb).2.2, fun p1 H5 s5 e5 => ?_⟩
          rw [cut_to] at e5
          obtain ⟨G5, t5⟩ := G.grow s5
          refine ⟨_, rfl, pt, _, 1, .ref pb, rfl, rfl, SqT.of (fr_of (t5 _ _ ept)).2.2, atI_nat (j := 1) rfl, _, rfl, pb, xb, (j : Int), .ref pj, rfl, rfl, SqT.of (fr_of (t5 _ _ epb)).2.2, atI_nat hvj, pj, _, 0, vu, rfl, rfl, SqT.of (fr_of (t5 _ _ epj)).2.2, atI_nat (j := 0) rfl, _, rfl, by show 2 ≤ sizeLine; decide, fun p2 np2 => ⟨by show 1 ≤ sizeLine; decide, fun p3 np3 => ?_⟩⟩
          obtain ⟨G6, t6, e6⟩ := G5.new (o := .tup [vu, vt]) np2
          obtain ⟨G7, t7, e7⟩ := G6.new (o := .tup [.ref p2]) np3
          refine ⟨p1, p3, _, _, rfl, rfl, (fr_of (t7 _ _ (t6 _ _ (G5.tupAt e5)))).2.2, upd_same, by rw [List.length_take]; exact Nat.le_trans (show min j xb.length + 1 ≤ 4 by omega) (by decide), fun p4 H8 s8 e8 => ?_⟩
          obtain ⟨G8, t8⟩ := G7.grow s8
          have t48 := same_trans t5 (same_trans t6 (same_trans t7 t8))
          refine ⟨_, rfl, pt, _, 1, .ref pb, rfl, rfl, SqT.of (fr_of (t48 _ _ ept)).2.2, atI_nat (j := 1) rfl, _, rfl, _, _, rfl, rfl, _, rfl, pb, xb, rfl, (fr_of (t48 _ _ epb)).2.2, fun p5 H9 s9 e9 => ?_⟩
          rw [show ((j : Int) + 1) = ((j + 1 : Nat) : Int) by omega, cut_from] at e9
          obtain ⟨G9, t9⟩ := G8.grow s9
          refine ⟨p4, p5, _, _, rfl, rfl, s9 _ _ e8, e9, by rw [List.length_append, List.length_take, List.length_drop]; exact Nat.le_trans (show min j xb.length + 1 + (xb.length - (j + 1)) ≤ 7 by omega) (by decide), fun p6 Ha sa ea => ⟨by show 2 ≤ sizeLine; decide, fun p7 np7 => ?_⟩⟩
          obtain ⟨Ga, ta⟩ := G9.grow sa
          obtain ⟨Gb, tb, eb⟩ := Ga.new (o := .tup [va, .ref p6]) np7
          have tab := same_trans t9 (same_trans ta tb)
          have tall := same_trans t48 tab
          have e2f := (same_trans t7 (same_trans t8 tab)) _ _ e6
          have dN : Dq (fr (upd Ha p7 (.tup [va, .ref p6])) m l9) (.ref p7) (.tuple [.tuple (ms.map PyData.str), .tuple (bs.take j ++ [.tuple [.str uu, dt]] ++ bs.drop (j + 1))]) :=
            .tup eb (.cons (qa.same tall) (.cons (.tup (tb _ _ (Ga.tupAt ea)) (((((ab.take j).same tall).app (.cons (.tup e2f (.cons (qu.same tall) (.cons (qt.same tall) .nil))) .nil)).app ((ab.drop (j + 1)).same tall)))) .nil))
          refine ⟨es0, k + 1, o0, _, .ref p7, _, _, _, hdr', rfl, Gb, dN, ⟨ms, _, a + nt + b, rfl, h3, ?_, ?_, rfl⟩, sp0.same tall, ?_, ?_⟩
          · have hj := (List.getElem?_eq_some_iff.mp h5).1
            rw [List.length_append, List.length_append, List.length_take, List.length_drop]
            show _ + 1 + _ ≤ 3
            omega
          · have z := (h7.app (.cons h6 tp.tc .nil rfl rfl)).app h8
            rw [show 0 + (1 + 0) + 0 = 1 by omega, show a + (nt + 0) + b = a + nt + b by omega] at z
            exact z
          · rw [List.length_append, List.length_singleton] at ek
            omega
          · omega
        · rintro σ' H' ⟨es', k, o, nt, vt, dt, w5, w7, hdr, rfl, G, qt, tp, spn, ek, osz⟩
          rw [List.drop_length] at hdr
          obtain rfl : es' = [] := List.reverse_eq_nil_iff.mp hdr.symm
          obtain rfl : k = 3 := by simpa using ek
          exact ⟨_, rfl, kk vt dt nt H' l9 ls9 n9 G.mat (by omega) (FL2.trans G.sm) qt tp (by omega)⟩
      have xpos : 0 < xb.length := List.length_pos_iff.mpr hx
      rw [show (not xb.isEmpty) = true by cases xb with | nil => exact absurd rfl hx | cons _ _ => rfl]
      rw [hdC] at qc1
      obtain ⟨vcA', xc, evc, ec, ac⟩ := dq_tup qc1
      obtain rfl : vcA = vcA' := V.ref.inj evc
      have hc1 : ∃ cb xcb, xc[1]? = some (.ref cb) ∧ fr H1 m l' cb = some (.tup xcb) ∧ (xcb = [] ↔ bsC = []) := by
        obtain ⟨u, hu, qu⟩ := ac.at (i := 1) rfl
        obtain ⟨cb, xcb, rfl, e, a⟩ := dq_tup qu
        refine ⟨cb, xcb, hu, e, ?_⟩
        constructor
        · intro z
          have := a.len
          rw [z] at this
          exact List.length_eq_zero_iff.mp this.symm
        · intro z
          have := a.len
          rw [z] at this
          exact List.length_eq_zero_iff.mp this
      obtain ⟨cb, xcb, hcb, ecb, iffC⟩ := hc1
      rw [← hdC] at qc1
      refine iteT ⟨_, rfl, sp, es, rfl, .inl (SqL.of (fr_of d1.dd).2.2), _, rfl, vcA, xc, 1, .ref cb, rfl, rfl, SqT.of (fr_of ec).2.2, atI_nat (j := 1) hcb, Nat.zero_le _, fun p np => ⟨cb, p, xcb, rfl, rfl, SqT.of (same_new np _ _ (fr_of ecb).2.2), SqT.of upd_same, _, rfl, ?_⟩⟩
      have Gx : Gw m c l' cs ls' n' H1 H1 := ⟨d1.mat, .refl⟩
      obtain ⟨Gy, ty, _⟩ := Gx.new (o := .tup []) np
      have d2 : Dl H m c l cs n (609 + 2 * (es.length : Int)) sp es (upd H1 p (.tup [])) l' ls' n' := d1.next Gy.mat (j := 0) (by omega) Gy.sm (by omega)
      have ept2 := ty _ _ ept1
      have epb2 := ty _ _ epb1
      have ab2 := ab1.same ty
      have qa2 := qa1.same ty
      have spn2 := spn1.same ty
      have qc2 := qc1.same ty
      generalize upd H1 p (HO.tup []) = H2 at d2 ept2 epb2 ab2 qa2 spn2 qc2
      clear Gx Gy ty np d1 ept1 epb1 ab1 qa1 spn1 qc1 ec ac ecb hcb evc
      have hl : (if xcb = [] then (2 : Int) else 1) = (lim : Int) := by
        show _ = (((if bsC = [] then 2 else 1 : Nat)) : Int)
        by_cases z : xcb = []
        · rw [if_pos z, if_pos (iffC.mp z)]
          rfl
        · rw [if_neg z, if_neg fun y => z (iffC.mpr y)]
          rfl
      have test2 : ∀ {A B : Prop}, (decide ((es.length : Int) < (lim : Int)) = true → A) → (decide ((es.length : Int) < (lim : Int)) = false → B) → if decide ((es.length : Int) < (lim : Int)) = true then A else B := fun a b => by
        cases hd : decide ((es.length : Int) < (lim : Int)) with
        | true => exact iteT (a hd)
        | false => exact iteF (b hd)
      have pick : ∀ {σ : L2.St} {H : Hp} {Q : VK}, Q (V.int (lim : Int)) H → (if id xcb.isEmpty = true then tC (V.int 2) σ H Q else tC (V.int 1) σ H Q) := fun {σ H Q} h => by
        rw [← hl] at h
        cases xcb with
        | nil => exact iteT h
        | cons a b => exact iteF h
      refine pick ⟨_, _, rfl, rfl, _, rfl, ?_⟩
      refine test2 (fun hd => ?_) (fun hd => ?_)
      rotate_left
      · have dE : Dl H m c l cs n (610 + 2 * (es.length : Int)) sp es H2 l' ls' n' := d2.next d2.mat (j := 0) (by omega) .refl (by omega)
        have eptE := ept2
        have epbE := epb2
        have abE := ab2
        have qaE := qa2
        have spnE := spn2
        have qcE := qc2
        have dleE := dE.le
        refine ⟨by show 2 ≤ sizeLine; decide, fun pl npl => ?_⟩
        have GE : Gw m c _ cs _ _ _ _ := ⟨dE.mat, .refl⟩
        obtain ⟨GF, tF, eF⟩ := GE.new (o := .lst [.str "e", .str "f"]) npl
        refine ⟨_, rfl, m, c, _, 4, cs, _, _, rfl, GF.mat, by decide, by decide, by omega, fun r9 H9 l9 ls9 n9 r90 r91 M9 nn9 s9 => ⟨rfl, .inr ⟨_, rfl, ?_⟩⟩⟩
        have hx : ∃ u : Str, atI [V.str "e", V.str "f"] (if decide (V.int r9 = V.int 0) = true then 1 else 0) = some (V.str u) ∧ efS u := by
          cases decide (V.int r9 = V.int 0) with
          | true => exact ⟨"f", atI_nat (j := 1) rfl, .inr rfl⟩
          | false => exact ⟨"e", atI_nat (j := 0) rfl, .inl rfl⟩
        obtain ⟨u, hu, hfu⟩ := hx
        have hsu := ef_sm hfu
        have sA := same_trans tF s9.1
        have F9 : Fs H m l H9 l9 := dE.sm.trans (GF.sm.trans s9)
        have ept9 := sA _ _ eptE
        have epb9 := sA _ _ epbE
        refine ⟨pl, _, _, .str u, rfl, rfl, SqL.of (fr_of (s9.1 _ _ eF)).2.2, hu, ?_⟩
        refine ⟨_, rfl, pt, _, 0, va, rfl, rfl, SqT.of (fr_of ept9).2.2, atI_nat (j := 0) rfl, _, rfl, pt, _, 1, .ref pb, rfl, rfl, SqT.of (fr_of ept9).2.2, atI_nat (j := 1) rfl, 2, rfl, pb, xb, rfl, (fr_of epb9).2.2, fun p1 Ha sa ea => ?_⟩
        rw [show (2 : Int) = ((2 : Nat) : Int) from rfl, cut_to] at ea
        have G9 : Gw m c l9 cs ls9 n9 H9 H9 := ⟨M9, .refl⟩
        obtain ⟨Ga, ta⟩ := G9.grow sa
        have ea' := Ga.tupAt ea
        refine ⟨_, rfl, _, rfl, by show 2 ≤ sizeLine; decide, fun p2 np2 => ⟨by show 1 ≤ sizeLine; decide, fun p3 np3 => ?_⟩⟩
        obtain ⟨Gb, tb2, eb2⟩ := Ga.new (o := .tup [.str u, .ref vcA]) np2
        obtain ⟨Gc, tc3, ec3⟩ := Gb.new (o := .tup [.ref p2]) np3
        refine ⟨p1, p3, _, _, rfl, rfl, (fr_of (tc3 _ _ (tb2 _ _ ea'))).2.2, upd_same, by rw [List.length_take]; exact Nat.le_trans (Nat.add_le_add_right (Nat.min_le_left _ _) _) (show 2 + 1 ≤ sizeLine by decide), fun p4 Hb sb eb => ⟨by show 2 ≤ sizeLine; decide, fun p5 np5 => ?_⟩⟩
        obtain ⟨Gd, td⟩ := Gc.grow sb
        obtain ⟨Gf, tf, ef⟩ := Gd.new (o := .tup [va, .ref p4]) np5
        have c9 : Same (fr H9 m l9) (fr (upd Hb p5 (.tup [va, .ref p4])) m l9) := same_trans ta (same_trans tb2 (same_trans tc3 (same_trans td tf)))
        have cE := same_trans sA c9
        have e4f := tf _ _ (Gd.tupAt eb)
        have e2f := tf _ _ (td _ _ (tc3 _ _ eb2))
        obtain ⟨n1, c1, n2, c2, tB1, tB2, eN, eC⟩ := tb.take 2
        obtain ⟨k', rfl⟩ : ∃ k', k = k' + 1 := ⟨k - 1, by omega⟩
        have tcl : Tc k' nc 1 dC := tcall' k' (by
          by_cases z : bsC = []
          · exact .inl z
          · have e1 : lim = 1 := if_neg z
            exact .inr (by omega))
        have dNew : Dq (fr (upd Hb p5 (.tup [va, .ref p4])) m l9) (.ref p5) (.tuple [.tuple (ms.map PyData.str), .tuple (bs.take 2 ++ [.tuple [.str u, dC]])]) :=
          .tup ef (.cons (qaE.same cE) (.cons (.tup e4f (((abE.take 2).same cE).app (.cons (.tup e2f (.cons (.str u ⟨by rw [hsu.2]; decide, hsu.1⟩) (.cons (qcE.same cE) .nil))) .nil))) .nil))
        have tNew : Tp (k' + 1) (n1 + nc + 1) 1 (.tuple [.tuple (ms.map PyData.str), .tuple (bs.take 2 ++ [.tuple [.str u, dC]])]) :=
          ⟨ms, _, n1 + nc, rfl, hms, by rw [List.length_append, List.length_take]; show _ + 1 ≤ 3; omega, by
            have z := tB1.app (.cons hfu tcl .nil rfl rfl)
            rw [show c1 + (1 + 0) = 1 by omega] at z
            exact z, rfl⟩
        have spn9 := spnE.same cE
        have sp9 := cE _ _ dE.dd
        have FL : Fs H m l (upd Hb p5 (.tup [va, .ref p4])) l9 := F9.trans (Ga.sm.trans ⟨same_trans tb2 (same_trans tc3 (same_trans td tf)), fun b z => same_out (same_trans (same_new np2) (same_trans (same_new np3) (same_trans sb (same_new np5)))) z⟩)
        have ML := Gf.mat
        have szN : (o : Int) + ((n1 + nc + 1 : Nat) : Int) ≤ size + 1 := by omega
        generalize PyData.tuple [.tuple (ms.map PyData.str), .tuple (bs.take 2 ++ [.tuple [.str u, dC]])] = dtN at dNew tNew
        generalize upd Hb p5 (HO.tup [va, .ref p4]) = HL0 at dNew spn9 sp9 FL ML
        refine ⟨_, rfl, sp, es, rfl, SqL.of (fr_of sp9).2.2, fun pr npr => ?_⟩
        have GL0 : Gw m c l9 cs ls9 n9 HL0 HL0 := ⟨ML, .refl⟩
        obtain ⟨GL, tL, eL⟩ := GL0.new (o := .lst es.reverse) npr
        have FL2 := FL.trans GL.sm
        have MLL := GL.mat
        generalize upd HL0 pr (HO.lst es.reverse) = HL at GL tL eL FL2 MLL
        refine ⟨pr, rfl, ⟨_, SqL.of (fr_of eL).2.2⟩, for_list (xs := es.reverse) (fun i σ' H' => ∃ (es' : List V) (k o nt : Nat) (vt : V) (dt : PyData) (w5 w7 : Option V), es.reverse.drop i = es'.reverse ∧ σ' = [some (V.ref m), some (V.int size), some vt, some (V.ref sp), some (V.ref vcA), w5, some (V.str u), w7] ∧
            Gw m c l9 cs ls9 n9 HL H' ∧ Dq (fr H' m l9) vt dt ∧ Tp k nt 1 dt ∧ Spn (fr H' m l9) es' k o ∧ es'.length + k = 3 ∧ (o : Int) + nt ≤ size + 1)
          ⟨es, k' + 1, o, n1 + nc + 1, .ref p5, dtN, _, _, rfl, rfl, ⟨MLL, .refl⟩, dNew.same tL, tNew, spn9.same tL, ek, szN⟩ (fun i σ H _ ⟨_, _, _, _, _, _, _, _, _, _, G, _⟩ => SqL.of (fr_of (G.sm.1 _ _ eL)).2.2) ?_ ?_⟩
        · rintro i x σ' H' hix ⟨es', k, o, nt, vt, dt, w5, w7, hdr, rfl, G, qt, tp, spn, ek, osz⟩
          cases spn with
          | nil =>
            rw [List.reverse_nil] at hdr
            have := List.drop_eq_nil_iff.mp hdr
            have := (List.getElem?_eq_some_iff.mp hix).1
            omega
          | @snoc es0 _ o0 a b _ e v j ms bs uu tt sp0 h1 h2 h2t h3 h4 h5 h6 h7 h8 h9 =>
          have hx : x = V.ref e ∧ es.reverse.drop (i + 1) = es0.reverse := by
            rw [List.reverse_append, List.reverse_singleton, List.singleton_append, drop_atV hix] at hdr
            exact List.cons.inj hdr
          obtain ⟨rfl, hdr'⟩ := hx
          obtain ⟨pt, va, pb, xb, rfl, ept, qa, epb, ab⟩ := dq_node h2
          obtain ⟨vj, hvj, qj⟩ := ab.at h5
          obtain ⟨pj, vu, vtt, rfl, epj, qu, qtt⟩ := dq_pair qj
          have lx : xb.length ≤ 3 := by rw [ab.len]; exact h4
          refine ⟨e, _, rfl, SqT.of (fr_of h1).2.2, rfl, _, _, rfl, _, _, rfl, rfl, ?_⟩
          have ixA : ∀ {H5 : Hp}, Same H' H5 → SqT K H5 pt [va, .ref pb] := fun s => SqT.of (s _ _ (fr_of ept).2.2)
          refine ⟨_, rfl, pt, _, 0, va, rfl, rfl, SqT.of (fr_of ept).2.2, atI_nat (j := 0) rfl, _, rfl, pt, _, 1, .ref pb, rfl, rfl, SqT.of (fr_of ept).2.2, atI_nat (j := 1) rfl, _, rfl, j, rfl, pb, xb, rfl, (fr_of epb).2.2, fun p1 H5 s5 e5 => ?_⟩
          rw [cut_to] at e5
          obtain ⟨G5, t5⟩ := G.grow s5
          refine ⟨_, rfl, pt, _, 1, .ref pb, rfl, rfl, SqT.of (fr_of (t5 _ _ ept)).2.2, atI_nat (j := 1) rfl, _, rfl, pb, xb, (j : Int), .ref pj, rfl, rfl, SqT.of (fr_of (t5 _ _ epb)).2.2, atI_nat hvj, pj, _, 0, vu, rfl, rfl, SqT.of (fr_of (t5 _ _ epj)).2.2, atI_nat (j := 0) rfl, _, rfl, by show 2 ≤ sizeLine; decide, fun p2 np2 => ⟨by show 1 ≤ sizeLine; decide, fun p3 np3 => ?_⟩⟩
          obtain ⟨G6, t6, e6⟩ := G5.new (o := .tup [vu, vt]) np2
          obtain ⟨G7, t7, e7⟩ := G6.new (o := .tup [.ref p2]) np3
          refine ⟨p1, p3, _, _, rfl, rfl, (fr_of (t7 _ _ (t6 _ _ (G5.tupAt e5)))).2.2, upd_same, by rw [List.length_take]; exact Nat.le_trans (show min j xb.length + 1 ≤ 4 by omega) (by decide), fun p4 H8 s8 e8 => ?_⟩
          obtain ⟨G8, t8⟩ := G7.grow s8
          have t48 := same_trans t5 (same_trans t6 (same_trans t7 t8))
          refine ⟨_, rfl, pt, _, 1, .ref pb, rfl, rfl, SqT.of (fr_of (t48 _ _ ept)).2.2, atI_nat (j := 1) rfl, _, rfl, _, _, rfl, rfl, _, rfl, pb, xb, rfl, (fr_of (t48 _ _ epb)).2.2, fun p5 H9 s9 e9 => ?_⟩
          rw [show ((j : Int) + 1) = ((j + 1 : Nat) : Int) by omega, cut_from] at e9
          obtain ⟨G9, t9⟩ := G8.grow s9
          refine ⟨p4, p5, _, _, rfl, rfl, s9 _ _ e8, e9, by rw [List.length_append, List.length_take, List.length_drop]; exact Nat.le_trans (show min j xb.length + 1 + (xb.length - (j + 1)) ≤ 7 by omega) (by decide), fun p6 Ha sa ea => ⟨by show 2 ≤ sizeLine; decide, fun p7 np7 => ?_⟩⟩
          obtain ⟨Ga, ta⟩ := G9.grow sa
          obtain ⟨Gb, tb, eb⟩ := Ga.new (o := .tup [va, .ref p6]) np7
          have tab := same_trans t9 (same_trans ta tb)
          have tall := same_trans t48 tab
          have e2f := (same_trans t7 (same_trans t8 tab)) _ _ e6
          have dN : Dq (fr (upd Ha p7 (.tup [va, .ref p6])) m l9) (.ref p7) (.tuple [.tuple (ms.map PyData.str), .tuple (bs.take j ++ [.tuple [.str uu, dt]] ++ bs.drop (j + 1))]) :=
            .tup eb (.cons (qa.same tall) (.cons (.tup (tb _ _ (Ga.tupAt ea)) (((((ab.take j).same tall).app (.cons (.tup e2f (.cons (qu.same tall) (.cons (qt.same tall) .nil))) .nil)).app ((ab.drop (j + 1)).same tall)))) .nil))
          refine ⟨es0, k + 1, o0, _, .ref p7, _, _, _, hdr', rfl, Gb, dN, ⟨ms, _, a + nt + b, rfl, h3, ?_, ?_, rfl⟩, sp0.same tall, ?_, ?_⟩
          · have hj := (List.getElem?_eq_some_iff.mp h5).1
            rw [List.length_append, List.length_append, List.length_take, List.length_drop]
            show _ + 1 + _ ≤ 3
            omega
          · have z := (h7.app (.cons h6 tp.tc .nil rfl rfl)).app h8
            rw [show 0 + (1 + 0) + 0 = 1 by omega, show a + (nt + 0) + b = a + nt + b by omega] at z
            exact z
          · rw [List.length_append, List.length_singleton] at ek
            omega
          · omega
        · rintro σ' H' ⟨es', k, o, nt, vt, dt, w5, w7, hdr, rfl, G, qt, tp, spn, ek, osz⟩
          rw [List.drop_length] at hdr
          obtain rfl : es' = [] := List.reverse_eq_nil_iff.mp hdr.symm
          obtain rfl : k = 3 := by simpa using ek
          exact ⟨_, rfl, kk vt dt nt H' l9 ls9 n9 G.mat (by omega) (FL2.trans G.sm) qt tp (by omega)⟩
      have hlt : es.length < lim := by
        have := of_decide_eq_true hd
        omega
      refine ⟨_, rfl, m, c, l', 3, cs, ls', n', rfl, d2.mat, by decide, by decide, by omega, fun r3 H3 l3 ls3 n3 r30 r31 M3 nn3 s3 => ⟨_, _, rfl, rfl, _, rfl, ?_⟩⟩
      have d3' : Dl H m c l cs n (610 + 2 * (es.length : Int)) sp es H3 l3 ls3 n3 := d2.next M3 nn3 s3 (by omega)
      have ept3 := s3.1 _ _ ept2
      have epb3 := s3.1 _ _ epb2
      have ab3 := ab2.same s3.1
      have qa3 := qa2.same s3.1
      have spn3 := spn2.same s3.1
      have qc3 := qc2.same s3.1
      refine ite2 (fun _ => ?_) (fun _ => ?_)
      rotate_left
      · have dE := d3'
        have eptE := ept3
        have epbE := epb3
        have abE := ab3
        have qaE := qa3
        have spnE := spn3
        have qcE := qc3
        have dleE := dE.le
        refine ⟨by show 2 ≤ sizeLine; decide, fun pl npl => ?_⟩
        have GE : Gw m c _ cs _ _ _ _ := ⟨dE.mat, .refl⟩
        obtain ⟨GF, tF, eF⟩ := GE.new (o := .lst [.str "e", .str "f"]) npl
        refine ⟨_, rfl, m, c, _, 4, cs, _, _, rfl, GF.mat, by decide, by decide, by omega, fun r9 H9 l9 ls9 n9 r90 r91 M9 nn9 s9 => ⟨rfl, .inr ⟨_, rfl, ?_⟩⟩⟩
        have hx : ∃ u : Str, atI [V.str "e", V.str "f"] (if decide (V.int r9 = V.int 0) = true then 1 else 0) = some (V.str u) ∧ efS u := by
          cases decide (V.int r9 = V.int 0) with
          | true => exact ⟨"f", atI_nat (j := 1) rfl, .inr rfl⟩
          | false => exact ⟨"e", atI_nat (j := 0) rfl, .inl rfl⟩
        obtain ⟨u, hu, hfu⟩ := hx
        have hsu := ef_sm hfu
        have sA := same_trans tF s9.1
        have F9 : Fs H m l H9 l9 := dE.sm.trans (GF.sm.trans s9)
        have ept9 := sA _ _ eptE
        have epb9 := sA _ _ epbE
        refine ⟨pl, _, _, .str u, rfl, rfl, SqL.of (fr_of (s9.1 _ _ eF)).2.2, hu, ?_⟩
        refine ⟨_, rfl, pt, _, 0, va, rfl, rfl, SqT.of (fr_of ept9).2.2, atI_nat (j := 0) rfl, _, rfl, pt, _, 1, .ref pb, rfl, rfl, SqT.of (fr_of ept9).2.2, atI_nat (j := 1) rfl, 2, rfl, pb, xb, rfl, (fr_of epb9).2.2, fun p1 Ha sa ea => ?_⟩
        rw [show (2 : Int) = ((2 : Nat) : Int) from rfl, cut_to] at ea
        have G9 : Gw m c l9 cs ls9 n9 H9 H9 := ⟨M9, .refl⟩
        obtain ⟨Ga, ta⟩ := G9.grow sa
        have ea' := Ga.tupAt ea
        refine ⟨_, rfl, _, rfl, by show 2 ≤ sizeLine; decide, fun p2 np2 => ⟨by show 1 ≤ sizeLine; decide, fun p3 np3 => ?_⟩⟩
        obtain ⟨Gb, tb2, eb2⟩ := Ga.new (o := .tup [.str u, .ref vcA]) np2
        obtain ⟨Gc, tc3, ec3⟩ := Gb.new (o := .tup [.ref p2]) np3
        refine ⟨p1, p3, _, _, rfl, rfl, (fr_of (tc3 _ _ (tb2 _ _ ea'))).2.2, upd_same, by rw [List.length_take]; exact Nat.le_trans (Nat.add_le_add_right (Nat.min_le_left _ _) _) (show 2 + 1 ≤ sizeLine by decide), fun p4 Hb sb eb => ⟨by show 2 ≤ sizeLine; decide, fun p5 np5 => ?_⟩⟩
        obtain ⟨Gd, td⟩ := Gc.grow sb
        obtain ⟨Gf, tf, ef⟩ := Gd.new (o := .tup [va, .ref p4]) np5
        have c9 : Same (fr H9 m l9) (fr (upd Hb p5 (.tup [va, .ref p4])) m l9) := same_trans ta (same_trans tb2 (same_trans tc3 (same_trans td tf)))
        have cE := same_trans sA c9
        have e4f := tf _ _ (Gd.tupAt eb)
        have e2f := tf _ _ (td _ _ (tc3 _ _ eb2))
        obtain ⟨n1, c1, n2, c2, tB1, tB2, eN, eC⟩ := tb.take 2
        obtain ⟨k', rfl⟩ : ∃ k', k = k' + 1 := ⟨k - 1, by omega⟩
        have tcl : Tc k' nc 1 dC := tcall' k' (by
          by_cases z : bsC = []
          · exact .inl z
          · have e1 : lim = 1 := if_neg z
            exact .inr (by omega))
        have dNew : Dq (fr (upd Hb p5 (.tup [va, .ref p4])) m l9) (.ref p5) (.tuple [.tuple (ms.map PyData.str), .tuple (bs.take 2 ++ [.tuple [.str u, dC]])]) :=
          .tup ef (.cons (qaE.same cE) (.cons (.tup e4f (((abE.take 2).same cE).app (.cons (.tup e2f (.cons (.str u ⟨by rw [hsu.2]; decide, hsu.1⟩) (.cons (qcE.same cE) .nil))) .nil))) .nil))
        have tNew : Tp (k' + 1) (n1 + nc + 1) 1 (.tuple [.tuple (ms.map PyData.str), .tuple (bs.take 2 ++ [.tuple [.str u, dC]])]) :=
          ⟨ms, _, n1 + nc, rfl, hms, by rw [List.length_append, List.length_take]; show _ + 1 ≤ 3; omega, by
            have z := tB1.app (.cons hfu tcl .nil rfl rfl)
            rw [show c1 + (1 + 0) = 1 by omega] at z
            exact z, rfl⟩
        have spn9 := spnE.same cE
        have sp9 := cE _ _ dE.dd
        have FL : Fs H m l (upd Hb p5 (.tup [va, .ref p4])) l9 := F9.trans (Ga.sm.trans ⟨same_trans tb2 (same_trans tc3 (same_trans td tf)), fun b z => same_out (same_trans (same_new np2) (same_trans (same_new np3) (same_trans sb (same_new np5)))) z⟩)
        have ML := Gf.mat
        have szN : (o : Int) + ((n1 + nc + 1 : Nat) : Int) ≤ size + 1 := by omega
        generalize PyData.tuple [.tuple (ms.map PyData.str), .tuple (bs.take 2 ++ [.tuple [.str u, dC]])] = dtN at dNew tNew
        generalize upd Hb p5 (HO.tup [va, .ref p4]) = HL0 at dNew spn9 sp9 FL ML
        refine ⟨_, rfl, sp, es, rfl, SqL.of (fr_of sp9).2.2, fun pr npr => ?_⟩
        have GL0 : Gw m c l9 cs ls9 n9 HL0 HL0 := ⟨ML, .refl⟩
        obtain ⟨GL, tL, eL⟩ := GL0.new (o := .lst es.reverse) npr
        have FL2 := FL.trans GL.sm
        have MLL := GL.mat
        generalize upd HL0 pr (HO.lst es.reverse) = HL at GL tL eL FL2 MLL
        refine ⟨pr, rfl, ⟨_, SqL.of (fr_of eL).2.2⟩, for_list (xs := es.reverse) (fun i σ' H' => ∃ (es' : List V) (k o nt : Nat) (vt : V) (dt : PyData) (w5 w7 : Option V), es.reverse.drop i = es'.reverse ∧ σ' = [some (V.ref m), some (V.int size), some vt, some (V.ref sp), some (V.ref vcA), w5, some (V.str u), w7] ∧
            Gw m c l9 cs ls9 n9 HL H' ∧ Dq (fr H' m l9) vt dt ∧ Tp k nt 1 dt ∧ Spn (fr H' m l9) es' k o ∧ es'.length + k = 3 ∧ (o : Int) + nt ≤ size + 1)
          ⟨es, k' + 1, o, n1 + nc + 1, .ref p5, dtN, _, _, rfl, rfl, ⟨MLL, .refl⟩, dNew.same tL, tNew, spn9.same tL, ek, szN⟩ (fun i σ H _ ⟨_, _, _, _, _, _, _, _, _, _, G, _⟩ => SqL.of (fr_of (G.sm.1 _ _ eL)).2.2) ?_ ?_⟩
        · rintro i x σ' H' hix ⟨es', k, o, nt, vt, dt, w5, w7, hdr, rfl, G, qt, tp, spn, ek, osz⟩
          cases spn with
          | nil =>
            rw [List.reverse_nil] at hdr
            have := List.drop_eq_nil_iff.mp hdr
            have := (List.getElem?_eq_some_iff.mp hix).1
            omega
          | @snoc es0 _ o0 a b _ e v j ms bs uu tt sp0 h1 h2 h2t h3 h4 h5 h6 h7 h8 h9 =>
          have hx : x = V.ref e ∧ es.reverse.drop (i + 1) = es0.reverse := by
            rw [List.reverse_append, List.reverse_singleton, List.singleton_append, drop_atV hix] at hdr
            exact List.cons.inj hdr
          obtain ⟨rfl, hdr'⟩ := hx
          obtain ⟨pt, va, pb, xb, rfl, ept, qa, epb, ab⟩ := dq_node h2
          obtain ⟨vj, hvj, qj⟩ := ab.at h5
          obtain ⟨pj, vu, vtt, rfl, epj, qu, qtt⟩ := dq_pair qj
          have lx : xb.length ≤ 3 := by rw [ab.len]; exact h4
          refine ⟨e, _, rfl, SqT.of (fr_of h1).2.2, rfl, _, _, rfl, _, _, rfl, rfl, ?_⟩
          have ixA : ∀ {H5 : Hp}, Same H' H5 → SqT K H5 pt [va, .ref pb] := fun s => SqT.of (s _ _ (fr_of ept).2.2)
          refine ⟨_, rfl, pt, _, 0, va, rfl, rfl, SqT.of (fr_of ept).2.2, atI_nat (j := 0) rfl, _, rfl, pt, _, 1, .ref pb, rfl, rfl, SqT.of (fr_of ept).2.2, atI_nat (j := 1) rfl, _, rfl, j, rfl, pb, xb, rfl, (fr_of epb).2.2, fun p1 H5 s5 e5 => ?_⟩
          rw [cut_to] at e5
          obtain ⟨G5, t5⟩ := G.grow s5
          refine ⟨_, rfl, pt, _, 1, .ref pb, rfl, rfl, SqT.of (fr_of (t5 _ _ ept)).2.2, atI_nat (j := 1) rfl, _, rfl, pb, xb, (j : Int), .ref pj, rfl, rfl, SqT.of (fr_of (t5 _ _ epb)).2.2, atI_nat hvj, pj, _, 0, vu, rfl, rfl, SqT.of (fr_of (t5 _ _ epj)).2.2, atI_nat (j := 0) rfl, _, rfl, by show 2 ≤ sizeLine; decide, fun p2 np2 => ⟨by show 1 ≤ sizeLine; decide, fun p3 np3 => ?_⟩⟩
          obtain ⟨G6, t6, e6⟩ := G5.new (o := .tup [vu, vt]) np2
          obtain ⟨G7, t7, e7⟩ := G6.new (o := .tup [.ref p2]) np3
          refine ⟨p1, p3, _, _, rfl, rfl, (fr_of (t7 _ _ (t6 _ _ (G5.tupAt e5)))).2.2, upd_same, by rw [List.length_take]; exact Nat.le_trans (show min j xb.length + 1 ≤ 4 by omega) (by decide), fun p4 H8 s8 e8 => ?_⟩
          obtain ⟨G8, t8⟩ := G7.grow s8
          have t48 := same_trans t5 (same_trans t6 (same_trans t7 t8))
          refine ⟨_, rfl, pt, _, 1, .ref pb, rfl, rfl, SqT.of (fr_of (t48 _ _ ept)).2.2, atI_nat (j := 1) rfl, _, rfl, _, _, rfl, rfl, _, rfl, pb, xb, rfl, (fr_of (t48 _ _ epb)).2.2, fun p5 H9 s9 e9 => ?_⟩
          rw [show ((j : Int) + 1) = ((j + 1 : Nat) : Int) by omega, cut_from] at e9
          obtain ⟨G9, t9⟩ := G8.grow s9
          refine ⟨p4, p5, _, _, rfl, rfl, s9 _ _ e8, e9, by rw [List.length_append, List.length_take, List.length_drop]; exact Nat.le_trans (show min j xb.length + 1 + (xb.length - (j + 1)) ≤ 7 by omega) (by decide), fun p6 Ha sa ea => ⟨by show 2 ≤ sizeLine; decide, fun p7 np7 => ?_⟩⟩
          obtain ⟨Ga, ta⟩ := G9.grow sa
          obtain ⟨Gb, tb, eb⟩ := Ga.new (o := .tup [va, .ref p6]) np7
          have tab := same_trans t9 (same_trans ta tb)
          have tall := same_trans t48 tab
          have e2f := (same_trans t7 (same_trans t8 tab)) _ _ e6
          have dN : Dq (fr (upd Ha p7 (.tup [va, .ref p6])) m l9) (.ref p7) (.tuple [.tuple (ms.map PyData.str), .tuple (bs.take j ++ [.tuple [.str uu, dt]] ++ bs.drop (j + 1))]) :=
            .tup eb (.cons (qa.same tall) (.cons (.tup (tb _ _ (Ga.tupAt ea)) (((((ab.take j).same tall).app (.cons (.tup e2f (.cons (qu.same tall) (.cons (qt.same tall) .nil))) .nil)).app ((ab.drop (j + 1)).same tall)))) .nil))
          refine ⟨es0, k + 1, o0, _, .ref p7, _, _, _, hdr', rfl, Gb, dN, ⟨ms, _, a + nt + b, rfl, h3, ?_, ?_, rfl⟩, sp0.same tall, ?_, ?_⟩
          · have hj := (List.getElem?_eq_some_iff.mp h5).1
            rw [List.length_append, List.length_append, List.length_take, List.length_drop]
            show _ + 1 + _ ≤ 3
            omega
          · have z := (h7.app (.cons h6 tp.tc .nil rfl rfl)).app h8
            rw [show 0 + (1 + 0) + 0 = 1 by omega, show a + (nt + 0) + b = a + nt + b by omega] at z
            exact z
          · rw [List.length_append, List.length_singleton] at ek
            omega
          · omega
        · rintro σ' H' ⟨es', k, o, nt, vt, dt, w5, w7, hdr, rfl, G, qt, tp, spn, ek, osz⟩
          rw [List.drop_length] at hdr
          obtain rfl : es' = [] := List.reverse_eq_nil_iff.mp hdr.symm
          obtain rfl : k = 3 := by simpa using ek
          exact ⟨_, rfl, kk vt dt nt H' l9 ls9 n9 G.mat (by omega) (FL2.trans G.sm) qt tp (by omega)⟩
      have d3le := d3'.le
      have lx : xb.length ≤ 3 := by rw [ab.len]; exact lb
      refine ⟨_, rfl, _, rfl, pt, _, 1, .ref pb, rfl, rfl, SqT.of (fr_of ept3).2.2, atI_nat (j := 1) rfl, pb, xb, rfl, .inr (SqT.of (fr_of epb3).2.2), m, c, l3, _, cs, ls3, n3, rfl, M3, by omega, by omega, by omega, fun ia H4 l4 ls4 n4 ia0 ia1 M4 nn4 s4 => ?_⟩
      obtain ⟨j, rfl⟩ : ∃ j : Nat, ia = (j : Int) := ⟨ia.toNat, by omega⟩
      have hj : j < bs.length := by rw [← ab.len]; omega
      obtain ⟨k', u, t, nt', ct', ja, ca, jb, cb', rfl, hbj, hfu, ttj, tbA, tbB, eN, eC⟩ := tb.cut hj
      obtain rfl : ct' = 0 := by omega
      obtain rfl : ca = 0 := by omega
      obtain rfl : cb' = 0 := by omega
      have d4 : Dl H m c l cs n (611 + 2 * (es.length : Int)) sp es H4 l4 ls4 n4 := d3'.next M4 nn4 s4 (by omega)
      have ept4 := s4.1 _ _ ept3
      have epb4 := s4.1 _ _ epb3
      have ab4 := ab3.same s4.1
      have qa4 := qa3.same s4.1
      have spn4 := spn3.same s4.1
      have qc4 := qc3.same s4.1
      have G4 : Gw m c l4 cs ls4 n4 H4 H4 := ⟨M4, .refl⟩
      refine ⟨_, rfl, .inl ⟨rfl, _, SqL.of (fr_of d4.dd).2.2⟩, _, rfl, _, rfl, by show 2 ≤ sizeLine; decide, fun pe npe => ?_⟩
      obtain ⟨G5, t5, e5⟩ := G4.new (o := .tup [.ref pt, .int (j : Int)]) npe
      have d5 : Dl H m c l cs n (611 + 2 * (es.length : Int)) sp es (upd H4 pe (.tup [.ref pt, .int (j : Int)])) l4 ls4 n4 := d4.next G5.mat (j := 0) (by omega) G5.sm (by omega)
      refine ⟨sp, _, .ref pe, rfl, rfl, (fr_of d5.dd).2.2, small1000 (by omega), ?_⟩
      have d6 := d5.put (ys := es ++ [.ref pe]) sp0 spm spc
      have kt := gw_put (m := m) (l := l4) (ys := es ++ [.ref pe]) d5.dd
      have ept6 := kt _ _ (t5 _ _ ept4)
      have epb6 := kt _ _ (t5 _ _ epb4)
      have e6 := kt _ _ e5
      have tupB := tb.tup
      have qt6 : Dq (fr (upd (upd H4 pe (.tup [.ref pt, .int (j : Int)])) sp (.lst (es ++ [.ref pe]))) m l4) (.ref pt) (.tuple [.tuple (ms.map PyData.str), .tuple bs]) :=
        (Dq.tup (t5 _ _ ept4) (.cons (qa4.same t5) (.cons (.tup (t5 _ _ epb4) (ab4.same t5)) .nil))).tups kt (tp_tup tupB)
      have spn6 := (spn4.same t5).keep kt
      have qc6 : Dq (fr (upd (upd H4 pe (.tup [.ref pt, .int (j : Int)])) sp (.lst (es ++ [.ref pe]))) m l4) (.ref vcA) dC := (qc4.same t5).tups kt (tcall' 1 (.inr (Nat.le_refl _))).tup
      generalize upd (upd H4 pe (HO.tup [V.ref pt, V.int (j : Int)])) sp (HO.lst (es ++ [.ref pe])) = H6 at d6 ept6 epb6 e6 qt6 spn6 qc6
      obtain ⟨p6, va6, pb6, xb6, ep6, ept7, qa7, epb7, ab7⟩ := dq_node qt6
      obtain rfl : pt = p6 := V.ref.inj ep6
      rw [ept6] at ept7
      cases ept7
      rw [epb6] at epb7
      cases epb7
      obtain ⟨vj, hvj, qj⟩ := ab7.at hbj
      obtain ⟨pj, vu, vtt, rfl, epj, qu, qtt⟩ := dq_pair qj
      refine ⟨_, rfl, pt, _, 1, .ref pb, rfl, rfl, SqT.of (fr_of ept6).2.2, atI_nat (j := 1) rfl, _, rfl, pb, xb, (j : Int), .ref pj, rfl, rfl, SqT.of (fr_of epb6).2.2, atI_nat hvj, pj, _, 1, vtt, rfl, rfl, SqT.of (fr_of epj).2.2, atI_nat (j := 1) rfl, ?_⟩
      refine ⟨⟨vtt, t, k', _, nt', es ++ [.ref pe], l4, ls4, n4, _, rfl, ⟨d6.mat, ?_, d6.sm, d6.dd⟩, qtt, ttj.tp, .snoc spn6 e6 qt6 tupB hms lb hbj hfu tbA tbB rfl, ?_, ?_, qc6, ?_⟩, ?_⟩
      · have := d6.le
        rw [List.length_append, List.length_singleton]
        omega
      · rw [List.length_append, List.length_singleton]
        omega
      · omega
      · rw [List.length_append, List.length_singleton]
        omega
      · show 3 - lenAt H6 sp < 3 - lenAt H' sp
        have e1 : lenAt H6 sp = (es ++ [V.ref pe]).length := by unfold lenAt; rw [(fr_of d6.dd).2.2]
        have e2 : lenAt H' sp = es.length := by unfold lenAt; rw [(fr_of d.dd).2.2]
        rw [e1, e2, List.length_append, List.length_singleton]
        omega
    · exact MO.mo_and (MO.mo_test (MO.mo_op MO.mr_nilT (MO.mo_op MO.mr_ix MO.mo_var MO.mo_c) (MO.mo_tup MO.mo_nil)))
        (MO.mo_and (MO.mo_test (MO.mo_op MO.mr_i0 (MO.mo_cb MO.mc_len (MO.mo_cons MO.mo_var MO.mo_nil)) (MO.mo_if (MO.mo_test (MO.mo_op MO.mr_nilT (MO.mo_op MO.mr_ix MO.mo_var MO.mo_c) (MO.mo_tup MO.mo_nil))) MO.mo_c MO.mo_c)))
          (MO.mo_test (MO.mo_op MO.mr_i0 (MO.mo_call (MO.mc_nx _) (MO.mo_cons MO.mo_var (MO.mo_cons MO.mo_c MO.mo_nil))) MO.mo_c)))
end
end K01
set_option Elab.async false
set_option linter.all false
set_option maxRecDepth 100000
set_option maxHeartbeats 4000000
/-! trees read as nodes; when a root fits; the machine that finds it out -/
namespace FM
open PySem L2 L2H DQ K01
def strsOf (ds : List PyData) : List Str := ds.filterMap fun | .str x => some x | _ => none
def mkS : PyData → List Str | .tuple (.tuple ms :: _) => strsOf ms | _ => []
def brs : PyData → List PyData | .tuple (_ :: .tuple bs :: _) => bs | _ => []
def wordOf : PyData → Str | .tuple (.str u :: _) => u | _ => ""
def treeOf : PyData → PyData | .tuple (_ :: t :: _) => t | _ => .none
def hasL (ms ws : List Str) : Bool := ws.all fun x => decide (x ∈ ms)
def hasM (t p : PyData) : Bool := hasL (mkS t) (mkS p)
def like (b w : PyData) : Bool := decide (wordOf b = wordOf w) && hasM (treeOf b) (treeOf w)
def fitD : Nat → PyData → PyData → Bool
  | 0, t, p => hasM t p && (brs p).isEmpty
  | n + 1, t, p => hasM t p && (brs p).all fun w => (brs t).any fun b => decide (wordOf b = wordOf w) && fitD n (treeOf b) (treeOf w)
def brf (n : Nat) (w b : PyData) : Bool := decide (wordOf b = wordOf w) && fitD n (treeOf b) (treeOf w)
def fitL : Nat → List PyData → List PyData → Bool
  | 0, _, ws => ws.isEmpty
  | n + 1, bs, ws => ws.all fun w => bs.any (brf n w)
theorem fitD_eq (n : Nat) (t p : PyData) : fitD n t p = (hasM t p && fitL n (brs t) (brs p)) := by cases n <;> rfl
theorem brf_eq (n : Nat) (w b : PyData) : brf n w b = (like b w && fitL n (brs (treeOf b)) (brs (treeOf w))) := by
  unfold brf like
  rw [fitD_eq, Bool.and_assoc]
theorem strsOf_map (ms : List Str) : strsOf (ms.map PyData.str) = ms := by
  unfold strsOf
  induction ms with
  | nil => rfl
  | cons x ms ih => simp [ih]
/-- marks -/
def Mk (q : Nat) (ms : List Str) : Prop := ms.length ≤ q ∧ ∀ x ∈ ms, smS x
/-- branches, k levels below them at most -/
def Brs : Nat → List PyData → Prop
  | 0, bs => bs = []
  | k + 1, bs => bs.length ≤ 100 ∧ ∀ b ∈ bs, ∃ u ms cs, b = .tuple [.str u, .tuple [.tuple (ms.map PyData.str), .tuple cs]] ∧ smS u ∧ Mk 3 ms ∧ Brs k cs
def Gr (q k : Nat) (d : PyData) : Prop := ∃ ms bs, d = .tuple [.tuple (ms.map PyData.str), .tuple bs] ∧ Mk q ms ∧ Brs k bs
theorem Brs.len : ∀ {k : Nat} {bs : List PyData}, Brs k bs → bs.length ≤ 100
  | 0, _, h => by
    obtain rfl : _ = _ := h
    exact Nat.zero_le _
  | _ + 1, _, h => h.1
theorem Brs.mono : ∀ {k : Nat} {bs : List PyData}, Brs k bs → Brs (k + 1) bs
  | 0, _, h => by
    obtain rfl : _ = _ := h
    exact ⟨Nat.zero_le _, fun b hb => absurd hb (List.not_mem_nil)⟩
  | k + 1, _, h => ⟨h.1, fun b hb => by
    obtain ⟨u, ms, cs, e, h1, h2, h3⟩ := h.2 b hb
    exact ⟨u, ms, cs, e, h1, h2, h3.mono⟩⟩
theorem Brs.up {k : Nat} {bs : List PyData} (h : Brs k bs) : ∀ {j : Nat}, k ≤ j → Brs j bs := fun {j} hj => by
  obtain ⟨i, rfl⟩ : ∃ i, j = k + i := ⟨j - k, by omega⟩
  clear hj
  induction i with
  | zero => exact h
  | succ i ih => exact ih.mono
theorem Gr.up {q k j : Nat} {d : PyData} (h : Gr q k d) (hj : k ≤ j) : Gr q j d := by
  obtain ⟨ms, bs, e, h1, h2⟩ := h
  exact ⟨ms, bs, e, h1, h2.up hj⟩
theorem Brs.at {k : Nat} {bs : List PyData} {j : Nat} {b : PyData} (h : Brs k bs) (hb : bs[j]? = some b) : ∃ k' u ms cs, k = k' + 1 ∧ b = .tuple [.str u, .tuple [.tuple (ms.map PyData.str), .tuple cs]] ∧ smS u ∧ Mk 3 ms ∧ Brs k' cs := by
  cases k with
  | zero =>
    obtain rfl : _ = _ := h
    cases hb
  | succ k =>
    obtain ⟨u, ms, cs, h⟩ := h.2 b (List.mem_of_getElem? hb)
    exact ⟨k, u, ms, cs, rfl, h⟩
theorem Brs.tup : ∀ {k : Nat} {bs : List PyData}, Brs k bs → tupA bs = true
  | 0, _, h => by
    obtain rfl : _ = _ := h
    rfl
  | k + 1, _, h => tupA_iff.mpr fun b hb => by
    obtain ⟨u, ms, cs, rfl, h1, h2, h3⟩ := h.2 b hb
    simp only [tupO, tupA, tup_strs, h3.tup, Bool.and_self]
theorem Gr.tup {q k : Nat} {d : PyData} (h : Gr q k d) : tupO d = true := by
  obtain ⟨ms, bs, rfl, h1, h2⟩ := h
  exact tp_tup h2.tup
/-! a root fits itself -/
theorem hasL_refl (ms : List Str) : hasL ms ms = true := List.all_eq_true.mpr fun x hx => decide_eq_true hx
theorem fitD_refl : ∀ (n : Nat) {q : Nat} {d : PyData}, Gr q n d → fitD n d d = true
  | 0, _, _, ⟨ms, bs, e, _, h⟩ => by
    subst e
    obtain rfl : bs = [] := h
    simp [fitD, hasM, mkS, brs, hasL_refl]
  | n + 1, _, _, ⟨ms, bs, e, _, h⟩ => by
    subst e
    simp only [fitD, hasM, mkS, brs, hasL_refl, Bool.true_and]
    refine List.all_eq_true.mpr fun w hw => List.any_eq_true.mpr ⟨w, hw, ?_⟩
    obtain ⟨u, ms, cs, rfl, h1, h2, h3⟩ := h.2 w hw
    have z := fitD_refl n (q := 3) (d := .tuple [.tuple (ms.map PyData.str), .tuple cs]) ⟨ms, cs, rfl, h2, h3⟩
    simp only [treeOf, z, decide_true, Bool.and_self]
/-! the machine -/
structure Fr where
  bs : List PyData
  ws : List PyData
  i : Nat
  j : Nat
def fl (bs : List PyData) (w : PyData) (s : Nat) : Nat := s + (bs.drop s).findIdx fun b => like b w
def pop : List Fr → Bool → List Fr ⊕ Bool
  | [], v => .inr v
  | g :: S, true => .inl (⟨g.bs, g.ws, g.i + 1, 0⟩ :: S)
  | g :: S, false => .inl (g :: S)
def step : List Fr → List Fr ⊕ Bool
  | [] => .inr true
  | f :: S => match f.ws[f.i]? with
    | some w => match f.bs[fl f.bs w f.j]? with
      | some b => .inl (⟨brs (treeOf b), brs (treeOf w), 0, 0⟩ :: ⟨f.bs, f.ws, f.i, fl f.bs w f.j + 1⟩ :: S)
      | none => pop S false
    | none => pop S true
inductive Run : List Fr → Bool → Nat → Prop
  | fin {S : List Fr} {v : Bool} : step S = .inr v → Run S v 0
  | go {S S' : List Fr} {v : Bool} {m : Nat} : step S = .inl S' → Run S' v m → Run S v (m + 1)
def PRun (S : List Fr) (b v : Bool) : Prop := match pop S b with | .inr u => u = v | .inl S' => ∃ m, Run S' v m
theorem PRun.of {f : Fr} {S : List Fr} {b v : Bool} (h : PRun S b v) (e : step (f :: S) = pop S b) : ∃ m, Run (f :: S) v m := by
  unfold PRun at h
  cases hp : pop S b with
  | inr u =>
    rw [hp] at h
    exact ⟨0, .fin (by rw [e, hp, show u = v from h])⟩
  | inl S' =>
    rw [hp] at h
    obtain ⟨m, r⟩ := h
    exact ⟨m + 1, .go (by rw [e, hp]) r⟩
def res (n : Nat) (bs ws : List PyData) (i j : Nat) : Bool := match ws[i]? with
  | none => true
  | some w => (bs.drop j).any (brf n w) && (ws.drop (i + 1)).all fun w => bs.any (brf n w)
theorem any_idx {α : Type} {p q : α → Bool} (h : ∀ a, q a = true → p a = true) : ∀ l : List α, l.any q = match l[l.findIdx p]? with | none => false | some a => q a || (l.drop (l.findIdx p + 1)).any q
  | [] => rfl
  | a :: l => by
    rw [List.findIdx_cons, List.any_cons]
    cases e : p a with
    | true => simp
    | false =>
      have hq : q a = false := by
        cases z : q a with
        | false => rfl
        | true => rw [h a z] at e; cases e
      rw [hq, Bool.false_or, any_idx h l]
      simp
theorem fl_le {bs : List PyData} {w : PyData} {s : Nat} (h : s ≤ bs.length) : fl bs w s ≤ bs.length := by
  have := List.findIdx_le_length (p := fun b => like b w) (xs := bs.drop s)
  rw [List.length_drop] at this
  unfold fl
  omega
theorem any_fl {n : Nat} {bs : List PyData} {w : PyData} {s : Nat} : (bs.drop s).any (brf n w) = match bs[fl bs w s]? with | none => false | some b => brf n w b || (bs.drop (fl bs w s + 1)).any (brf n w) := by
  rw [any_idx (p := fun b => like b w) (q := brf n w) (fun a h => by
    rw [brf_eq] at h
    exact (Bool.and_eq_true_iff.mp h).1)]
  unfold fl
  rw [List.getElem?_drop, List.drop_drop]
  rw [show s + ((bs.drop s).findIdx (fun b => like b w) + 1) = s + (bs.drop s).findIdx (fun b => like b w) + 1 by omega]
  generalize bs[s + (bs.drop s).findIdx (fun b => like b w)]? = o
  cases o <;> rfl
theorem like_fl {bs : List PyData} {w b : PyData} {s : Nat} (h : bs[fl bs w s]? = some b) : like b w = true := by
  unfold fl at h
  rw [← List.getElem?_drop] at h
  obtain ⟨h1, h2⟩ := List.getElem?_eq_some_iff.mp h
  rw [← h2]
  exact List.findIdx_getElem (w := h1)
theorem res_zero {n : Nat} {bs ws : List PyData} (h : Brs n ws) : res (n - 1) bs ws 0 0 = fitL n bs ws := by
  cases n with
  | zero =>
    obtain rfl : _ = _ := h
    rfl
  | succ n =>
    cases ws with
    | nil => rfl
    | cons w ws =>
      show ((bs.drop 0).any (brf n w) && ((w :: ws).drop 1).all fun w => bs.any (brf n w)) = _
      rfl
theorem big : ∀ (n : Nat) {bs ws : List PyData}, Brs n ws → ∀ (a c : Nat) {i j : Nat} {S : List Fr} {v : Bool}, ws.length - i ≤ a → bs.length + 1 - j ≤ c → j ≤ bs.length → PRun S (res (n - 1) bs ws i j) v → ∃ m, Run (⟨bs, ws, i, j⟩ :: S) v m := by
  intro n
  induction n with
  | zero =>
    intro bs ws h a c i j S v ha hc hj hp
    obtain rfl : _ = _ := h
    exact hp.of rfl
  | succ n ih =>
    intro bs ws h a
    induction a with
    | zero =>
      intro c i j S v ha hc hj hp
      have e : ws[i]? = none := List.getElem?_eq_none (by omega)
      have z : res (n + 1 - 1) bs ws i j = true := by
        unfold res
        rw [e]
      rw [z] at hp
      refine hp.of ?_
      unfold step
      dsimp only
      rw [e]
    | succ a iha =>
      intro c
      induction c with
      | zero =>
        intro i j S v ha hc hj hp
        omega
      | succ c ihc =>
        intro i j S v ha hc hj hp
        cases e : ws[i]? with
        | none =>
          have z : res (n + 1 - 1) bs ws i j = true := by
            unfold res
            rw [e]
          rw [z] at hp
          refine hp.of ?_
          unfold step
          dsimp only
          rw [e]
        | some w =>
          have z : res (n + 1 - 1) bs ws i j = ((bs.drop j).any (brf n w) && (ws.drop (i + 1)).all fun w => bs.any (brf n w)) := by
            unfold res
            rw [e]
            rfl
          rw [z, any_fl] at hp
          cases eb : bs[fl bs w j]? with
          | none =>
            rw [eb] at hp
            refine PRun.of (b := false) hp ?_
            unfold step
            dsimp only
            rw [e]
            dsimp only
            rw [eb]
          | some b =>
            rw [eb] at hp
            dsimp only at hp
            have hb : fl bs w j < bs.length := (List.getElem?_eq_some_iff.mp eb).1
            have hi : i < ws.length := (List.getElem?_eq_some_iff.mp e).1
            obtain ⟨k', u, ms, cs, ek, ew, _, _, hcs⟩ := h.at e
            obtain rfl : n = k' := by omega
            have hw : Brs n (brs (treeOf w)) := by
              subst ew
              exact hcs
            have st : step (⟨bs, ws, i, j⟩ :: S) = .inl (⟨brs (treeOf b), brs (treeOf w), 0, 0⟩ :: ⟨bs, ws, i, fl bs w j + 1⟩ :: S) := by
              unfold step
              dsimp only
              rw [e]
              dsimp only
              rw [eb]
            have fw : j ≤ fl bs w j := by unfold fl; omega
            have key : ∃ m, Run (⟨brs (treeOf b), brs (treeOf w), 0, 0⟩ :: ⟨bs, ws, i, fl bs w j + 1⟩ :: S) v m := by
              refine ih hw (brs (treeOf w)).length ((brs (treeOf b)).length + 1) (Nat.le_refl _) (Nat.le_refl _) (Nat.zero_le _) ?_
              rw [res_zero hw]
              rw [brf_eq, like_fl eb, Bool.true_and] at hp
              cases ef : fitL n (brs (treeOf b)) (brs (treeOf w)) with
              | true =>
                rw [ef, Bool.true_or, Bool.true_and] at hp
                refine iha (bs.length + 1) (i := i + 1) (j := 0) (by omega) (by omega) (Nat.zero_le _) ?_
                have y : res (n + 1 - 1) bs ws (i + 1) 0 = (ws.drop (i + 1)).all fun w => bs.any (brf n w) := by
                  unfold res
                  cases e2 : ws[i + 1]? with
                  | none =>
                    have : ws.length ≤ i + 1 := List.getElem?_eq_none_iff.mp e2
                    rw [List.drop_of_length_le this]
                    rfl
                  | some w2 =>
                    obtain ⟨g1, g2⟩ := List.getElem?_eq_some_iff.mp e2
                    rw [List.drop_eq_getElem_cons g1, g2]
                    rfl
                rw [y]
                exact hp
              | false =>
                rw [ef, Bool.false_or] at hp
                refine ihc (i := i) (j := fl bs w j + 1) ha (by omega) (by omega) ?_
                have y : res (n + 1 - 1) bs ws i (fl bs w j + 1) = ((bs.drop (fl bs w j + 1)).any (brf n w) && (ws.drop (i + 1)).all fun w => bs.any (brf n w)) := by
                  unfold res
                  rw [e]
                  rfl
                rw [y]
                exact hp
            obtain ⟨m, r⟩ := key
            exact ⟨m + 1, .go st r⟩
theorem run_all {n : Nat} {bs ws : List PyData} (h : Brs n ws) : ∃ m, Run [⟨bs, ws, 0, 0⟩] (fitL n bs ws) m :=
  big n h ws.length (bs.length + 1) (Nat.le_refl _) (Nat.le_refl _) (Nat.zero_le _) (by rw [res_zero h]; rfl)
end FM
set_option Elab.async false
set_option linter.all false
set_option maxRecDepth 100000
set_option maxHeartbeats 4000000
namespace FM
open PySem L2 L2H DQ K01
theorem dq_strs {H : Hp} : ∀ {ms : List Str} {xs : List V}, DqAll H xs (ms.map PyData.str) → xs = ms.map V.str
  | [], _, .nil => rfl
  | m :: ms, _, .cons h t => by
    cases h
    rw [dq_strs t]
    rfl
theorem dq_mk {H : Hp} {v : V} {ms : List Str} (h : Dq H v (.tuple (ms.map PyData.str))) : ∃ p, v = .ref p ∧ H p = some (.tup (ms.map V.str)) := by
  obtain ⟨p, xs, rfl, e, a⟩ := dq_tup h
  rw [dq_strs a] at e
  exact ⟨p, rfl, e⟩
/-- what the top must have for has_marks -/
structure TM (mg : Str → Option Value) : Prop where
  set : mg "set" = none
  len : mg "len" = none
def spHM : Sp := fun vs H Q _ => ∃ (v w : V) (ms ws : List Str), vs = [v, w] ∧ Dq H v (.tuple (ms.map PyData.str)) ∧ Dq H w (.tuple (ws.map PyData.str)) ∧ ms.length ≤ 900 ∧ (ws.length ≤ 3 ∨ (ws.length ≤ 7 ∧ ms ≠ [])) ∧ ∀ H', Same H H' → Q (.bl (hasL ms ws)) H'
theorem len_zero {ms ws lr : List Str} (h : ∀ x, x ∈ lr ↔ x ∈ SX.pack ws ∧ x ∉ SX.pack ms) : decide (V.int (lr.length : Int) = V.int 0) = hasL ms ws := by
  have e : (V.int (lr.length : Int) = V.int 0) ↔ lr = [] := by
    rw [V.int.injEq]
    constructor
    · intro z
      exact List.length_eq_zero_iff.mp (by omega)
    · rintro rfl
      rfl
  rw [decide_eq_decide.mpr e]
  cases z : hasL ms ws with
  | true =>
    refine decide_eq_true (List.eq_nil_iff_forall_not_mem.mpr fun x hx => ?_)
    obtain ⟨h1, h2⟩ := (h x).mp hx
    rw [SX.pack_mem] at h1 h2
    exact h2 (of_decide_eq_true (List.all_eq_true.mp z x h1))
  | false =>
    refine decide_eq_false fun e => ?_
    subst e
    obtain ⟨x, hx, hn⟩ := List.all_eq_false.mp z
    have hn' : x ∉ ms := fun y => hn (decide_eq_true y)
    exact List.not_mem_nil ((h x).mpr ⟨SX.pack_mem.mpr hx, fun y => hn' (SX.pack_mem.mp y)⟩)
section
variable {P : Program} {w : World} {K : PySem.W.Frag} {mg : Str → Option Value} {base : Heap}
theorem op_subP {X : Cx} (hP : X.prog = P) (hw : X.w = w) : OpR X (binaryOp .Sub) (SX.rSubTx P w) := by
  subst hP hw
  exact SX.op_subTx
theorem cr_lenP {X : Cx} (hP : X.prog = P) (hw : X.w = w) (hc : X.calm = true) : CallR X (.builtin "len") (SX.rLenTx P w) := by
  subst hP hw
  exact SX.cr_lenTx hc
theorem scHM : FnScope ["marks", "wanted"] ["marks", "wanted"] (defScope sHM) := ⟨rfl, rfl, rfl, by decide +kernel, rfl, by decide +kernel, by decide +kernel⟩
theorem ok_hm {f : Addr} {fd : FuncData} (F : Fun K "has_marks" "has_marks" sHM f fd) (T : TM mg) : FnOk P w K mg base CX0 1 f fd ["marks", "wanted"] spHM := by
  refine F.ok scHM (fun vs H Q E h => ?_) (fun cdv A outer s H vs Q E hr h => ?_)
  · obtain ⟨v, w, ms, ws, rfl, _⟩ := h
    rfl
  · obtain ⟨v, w', ms, ws, rfl, hv, hw, b1, b2, k⟩ := h
    refine ⟨_, pss_one (ps_ret (pe_or (pe_notT (pv 1)) (pe_one (pe_cmpR op_eq (pe_callB (cr_lenP (P := P) (w := w) rfl rfl rfl) (by rfl) T.len PySem.boot_len (pa_cons (pe_op (op_subP (P := P) (w := w) rfl rfl)
      (pe_callTy (cr_setP (P := P) (w := w) (K := K) rfl rfl rfl rfl) (by rfl) T.set bset (pa_cons (pv 1) pa_nil)) (pe_callTy (cr_setP (P := P) (w := w) (K := K) rfl rfl rfl rfl) (by rfl) T.set bset (pa_cons (pv 0) pa_nil))) pa_nil)) pe_int (nomark _))))), ?_⟩
    obtain ⟨pm, rfl, em⟩ := dq_mk hv
    obtain ⟨pw, rfl, ew⟩ := dq_mk hw
    refine ⟨_, rfl, !(ws.map V.str).isEmpty, .inr (.inl ⟨_, SqT.of ew, rfl⟩), _, rfl, ?_⟩
    cases ws with
    | nil => exact k H same_refl
    | cons x ws =>
      refine iteF ⟨_, rfl, pw, x :: ws, rfl, SqT.of ew, by omega, fun p1 n1 => ⟨_, rfl, pm, ms, rfl, SqT.of (same_new n1 _ _ em), by omega, fun p2 n2 => ?_⟩⟩
      have l1 : (SX.pack (x :: ws)).length ≤ (x :: ws).length := SX.pack_len _
      have l2 : (SX.pack ms).length ≤ ms.length := SX.pack_len _
      have l3 : ms ≠ [] → 1 ≤ (SX.pack ms).length := fun hne => by
        obtain ⟨y, hy⟩ := List.exists_mem_of_ne_nil _ hne
        exact List.length_pos_of_mem (SX.pack_mem.mpr hy)
      refine ⟨p1, p2, SX.pack (x :: ws), SX.pack ms, rfl, rfl, same_new n2 _ _ upd_same, upd_same, ?_, by omega, by omega, fun p3 lr hlr ln n3 => ?_⟩
      · rcases b2 with b2 | ⟨b2, b3⟩
        · omega
        · have := l3 b3
          omega
      · refine ⟨p3, lr, rfl, upd_same, by omega, rfl, ?_⟩
        rw [len_zero hlr]
        exact k _ (same_trans (same_new n1) (same_trans (same_new n2) (same_new n3)))
/-! the first branch that is like one -/
theorem idx_at {α : Type} {p : α → Bool} : ∀ {l : List α} {i : Nat} {a : α}, (∀ (k : Nat) (b : α), k < i → l[k]? = some b → p b = false) → l[i]? = some a → p a = true → l.findIdx p = i
  | b :: l, 0, a, _, h, ha => by
    cases h
    rw [List.findIdx_cons, ha]
    rfl
  | b :: l, i + 1, a, hn, h, ha => by
    have z := idx_at (l := l) (i := i) (fun k c hk hc => hn (k + 1) c (by omega) hc) h ha
    rw [List.findIdx_cons, hn 0 b (by omega) rfl, z]
    rfl
theorem idx_none {α : Type} {p : α → Bool} : ∀ {l : List α}, (∀ (k : Nat) (b : α), l[k]? = some b → p b = false) → l.findIdx p = l.length
  | [], _ => rfl
  | b :: l, hn => by
    rw [List.findIdx_cons, hn 0 b rfl, idx_none (l := l) fun k c hc => hn (k + 1) c hc]
    rfl
theorem fl_at {bs : List PyData} {w b : PyData} {s i : Nat} (h : ∀ k c, k < i → bs[s + k]? = some c → like c w = false) (hb : bs[s + i]? = some b) (hl : like b w = true) : fl bs w s = s + i := by
  unfold fl
  rw [idx_at (p := fun b => like b w) (i := i) (a := b) (fun k c hk hc => h k c hk (by rw [List.getElem?_drop] at hc; exact hc)) (by rw [List.getElem?_drop]; exact hb) hl]
theorem fl_none {bs : List PyData} {w : PyData} {s : Nat} (hs : s ≤ bs.length) (h : ∀ k c, bs[s + k]? = some c → like c w = false) : fl bs w s = bs.length := by
  unfold fl
  rw [idx_none (p := fun b => like b w) (fun k c hc => h k c (by rw [List.getElem?_drop] at hc; exact hc)), List.length_drop]
  omega
def spFL : Sp := fun vs H Q _ => ∃ (v vw : V) (k s : Nat) (bs : List PyData) (u : Str) (ms : List Str) (cs : List PyData), vs = [v, vw, .int (s : Int)] ∧ Dq H v (.tuple bs) ∧ Brs k bs ∧ Dq H vw (.tuple [.str u, .tuple [.tuple (ms.map PyData.str), .tuple cs]]) ∧ Mk 3 ms ∧ s ≤ bs.length ∧
  ∀ H', Same H H' → Q (.int (fl bs (.tuple [.str u, .tuple [.tuple (ms.map PyData.str), .tuple cs]]) s : Int)) H'
theorem dq_br {H : Hp} {v : V} {u : Str} {ms : List Str} {cs : List PyData} (h : Dq H v (.tuple [.str u, .tuple [.tuple (ms.map PyData.str), .tuple cs]])) :
    ∃ p q a b xs, v = .ref p ∧ H p = some (.tup [.str u, .ref q]) ∧ H q = some (.tup [.ref a, .ref b]) ∧ Dq H (.ref a) (.tuple (ms.map PyData.str)) ∧ H b = some (.tup xs) ∧ DqAll H xs cs := by
  obtain ⟨p, va, vb, rfl, e, qa, qb⟩ := dq_pair h
  obtain ⟨q, vc, b, xs, rfl, e2, qc, e3, ac⟩ := dq_node qb
  cases qa
  cases qc with
  | tup ea aa => exact ⟨p, q, _, b, xs, rfl, e, e2, .tup ea aa, e3, ac⟩
abbrev nFL : List Str := ["branches", "wanted", "start", "word", "marks", "_", "number"]
theorem scFL : FnScope nFL ["branches", "wanted", "start"] (defScope sFL) := ⟨rfl, rfl, rfl, by decide +kernel, rfl, by decide +kernel, by decide +kernel⟩
theorem ok_fl {f fH : Addr} {fd dH : FuncData} (F : Fun K "_first_like" "_first_like" sFL f fd) (FH : Fun K "has_marks" "has_marks" sHM fH dH) (bH : Binds K dH ["marks", "wanted"] []) (gH : mg "has_marks" = some (.ref fH)) (T : TM mg) (tR : mg "range" = none) :
    FnOk P w K mg base CX0 2 f fd ["branches", "wanted", "start"] spFL := by
  have GH : FnOk P w K mg base CX0 1 fH dH ["marks", "wanted"] spHM := ok_hm FH T
  refine F.ok scFL (fun vs H Q E h => ?_) (fun cdv A outer s H vs Q E hr h => ?_)
  · obtain ⟨v, vw, k, s, bs, u, ms, cs, rfl, _⟩ := h
    rfl
  · obtain ⟨v, vw, k, st, bs, u, ms, cs, rfl, hv, hbs, hw, hms, hs, kk⟩ := h
    refine ⟨_, pss_cons (ps_asg (pv 1) (pg_tup (n := 2) rfl (pgs_cons (pg_name (i := 3) scFL.nd rfl (Or.inl rfl)) (pgs_cons (pg_tup (n := 2) rfl (pgs_cons (pg_name (i := 4) scFL.nd rfl (Or.inl rfl)) (pgs_cons (pg_name (i := 5) scFL.nd rfl (Or.inl rfl)) pgs_nil))) pgs_nil))))
      (pss_cons (ps_for PassesOwn.never rfl (pi_range2 (by rfl) tR (pa_cons (pv 2) (pa_cons (pe_callB call_len_seq (by rfl) T.len PySem.boot_len (pa_cons (pv 0) pa_nil)) pa_nil))) (pg_name (i := 6) scFL.nd rfl (Or.inl rfl))
        (pss_one (ps_if (PW.pt (pw_and (pt_cmpR op_eq (pe_ix ix_tup (pe_ix ix_tup (pv 0) (pv 6) (fun _ _ => rfl)) pe_int (fun _ _ => rfl)) (pv 3) (by rfl)) (pw_and1 (pt_val (pe_call GH hr (by rfl) gH FH.kp bH .nil pass0 (pa_cons (pe_ix ix_tup (pe_ix ix_tup (pe_ix ix_tup (pv 0) (pv 6) (fun _ _ => rfl)) pe_int (fun _ _ => rfl)) pe_int (fun _ _ => rfl)) (pa_cons (pv 4) pa_nil))))))) (pss_one (ps_ret (pv 6))) pss_nil)))
      (pss_one (ps_ret (pe_callB call_len_seq (by rfl) T.len PySem.boot_len (pa_cons (pv 0) pa_nil))))), ?_⟩
    obtain ⟨pb, xb, rfl, eb, ab⟩ := dq_tup hv
    obtain ⟨p, q, a, b, xs, rfl, e1, e2, qa, e3, ac⟩ := dq_br hw
    have lb : xb.length = bs.length := ab.len
    have l100 := hbs.len
    refine ⟨_, rfl, p, _, rfl, SqT.of e1, rfl, _, _, rfl, _, _, rfl, q, _, rfl, SqT.of e2, rfl, _, _, rfl, _, _, rfl, rfl, rfl, ?_⟩
    have em : H a = some (.tup (ms.map V.str)) := by
      obtain ⟨_, z, e⟩ := dq_mk qa
      cases z
      exact e
    have hD : ∀ H1, Same H H1 → ∀ (i : Nat), i < bs.length → ∃ pi qi ai bi xi ui mi ci, bs[i]? = some (.tuple [.str ui, .tuple [.tuple (mi.map PyData.str), .tuple ci]]) ∧ Mk 3 mi ∧ atI xb (i : Int) = some (.ref pi) ∧ H1 pi = some (.tup [.str ui, .ref qi]) ∧ H1 qi = some (.tup [.ref ai, .ref bi]) ∧ Dq H1 (.ref ai) (.tuple (mi.map PyData.str)) := fun H1 s1 i hi => by
      have hb : bs[i]? = some bs[i] := List.getElem?_eq_getElem hi
      obtain ⟨k', ui, mi, ci, ek, ebi, _, hmi, _⟩ := hbs.at hb
      obtain ⟨vi, hvi, qi⟩ := ab.at hb
      rw [ebi] at qi
      obtain ⟨pi, qi', ai, bi, xi, rfl, f1, f2, f3, f4, f5⟩ := dq_br qi
      exact ⟨pi, qi', ai, bi, xi, ui, mi, ci, by rw [hb, ebi], hmi, atI_nat hvi, s1 _ _ f1, s1 _ _ f2, f3.same s1⟩
    refine ⟨_, rfl, _, rfl, pb, xb, rfl, .inr (SqT.of eb), (st : Int), (xb.length : Int), rfl, ⟨by omega, by omega, by omega, by omega⟩, ?_⟩
    refine for_range (lo := (st : Int)) (n := ((xb.length : Int) - (st : Int)).toNat) (fun i σ' H' => ∃ w6, σ' = [some (V.ref pb), some (V.ref p), some (V.int (st : Int)), some (V.str u), some (V.ref a), some (V.ref b), w6] ∧ Same H H' ∧ ∀ (k : Nat) (c : PyData), k < i → bs[st + k]? = some c → like c (.tuple [.str u, .tuple [.tuple (ms.map PyData.str), .tuple cs]]) = false)
      ⟨none, rfl, same_refl, fun k c hk => absurd hk (Nat.not_lt_zero _)⟩ ?_ ?_
    · rintro i σ' H1 hi ⟨w6, rfl, s1, hn⟩
      have hlt : st + i < bs.length := by omega
      obtain ⟨pi, qi, ai, bi, xi, ui, mi, ci, hbi, hmi, hat, f1, f2, f3⟩ := hD H1 s1 (st + i) hlt
      rw [show (((st + i : Nat)) : Int) = (st : Int) + (i : Int) by omega] at hat
      refine ⟨_, rfl, _, rfl, pb, xb, (st : Int) + i, .ref pi, rfl, rfl, SqT.of (s1 _ _ eb), hat, pi, _, 0, .str ui, rfl, rfl, SqT.of f1, atI_nat (j := 0) rfl, _, rfl, rfl, _, rfl, ?_⟩
      have el : like (.tuple [.str ui, .tuple [.tuple (mi.map PyData.str), .tuple ci]]) (.tuple [.str u, .tuple [.tuple (ms.map PyData.str), .tuple cs]]) = (decide (ui = u) && hasL mi ms) := by
        have m1 : mkS (.tuple [.tuple (mi.map PyData.str), .tuple ci]) = mi := strsOf_map mi
        have m2 : mkS (.tuple [.tuple (ms.map PyData.str), .tuple cs]) = ms := strsOf_map ms
        show (decide (ui = u) && hasL (mkS (.tuple [.tuple (mi.map PyData.str), .tuple ci])) (mkS (.tuple [.tuple (ms.map PyData.str), .tuple cs]))) = _
        rw [m1, m2]
      have dd : decide (V.str ui = V.str u) = decide (ui = u) := decide_eq_decide.mpr ⟨fun z => V.str.inj z, fun z => by rw [z]⟩
      rw [dd]
      have no : (decide (ui = u) && hasL mi ms) = false → ∀ H2, Same H H2 → ∃ w6, [some (V.ref pb), some (V.ref p), some (V.int (st : Int)), some (V.str u), some (V.ref a), some (V.ref b), some (V.int ((st : Int) + i))] = [some (V.ref pb), some (V.ref p), some (V.int (st : Int)), some (V.str u), some (V.ref a), some (V.ref b), w6] ∧ Same H H2 ∧ ∀ (k : Nat) (c : PyData), k < i + 1 → bs[st + k]? = some c → like c (.tuple [.str u, .tuple [.tuple (ms.map PyData.str), .tuple cs]]) = false := fun z H2 s2 => ⟨_, rfl, s2, fun k c hk hc => by
        by_cases e : k = i
        · subst e
          rw [hbi] at hc
          cases hc
          rw [el, z]
        · exact hn k c (by omega) hc⟩
      cases hu : decide (ui = u) with
      | false => exact iteF (no (by rw [hu]; rfl) H1 s1)
      | true =>
        refine iteT ⟨_, rfl, _, rfl, pb, xb, (st : Int) + i, .ref pi, rfl, rfl, SqT.of (s1 _ _ eb), hat, pi, _, 1, .ref qi, rfl, rfl, SqT.of f1, atI_nat (j := 1) rfl, qi, _, 0, .ref ai, rfl, rfl, SqT.of f2, atI_nat (j := 0) rfl, _, rfl, ?_⟩
        refine ⟨.ref ai, .ref a, mi, ms, rfl, f3, qa.same s1, by have := hmi.1; omega, .inl hms.1, fun H2 s2 => ⟨_, rfl, ?_⟩⟩
        cases hl : hasL mi ms with
        | false => exact iteF (no (by rw [hu, hl]; rfl) H2 (same_trans s1 s2))
        | true =>
          refine iteT ⟨_, rfl, ?_⟩
          have z := kk H2 (same_trans s1 s2)
          rw [fl_at (i := i) hn hbi (by rw [el, hu, hl]; rfl)] at z
          rw [show (((st + i : Nat)) : Int) = (st : Int) + (i : Int) by omega] at z
          exact z
    · rintro σ' H1 ⟨w6, rfl, s1, hn⟩
      refine ⟨_, rfl, pb, xb, rfl, .inr (SqT.of (s1 _ _ eb)), ?_⟩
      have z := kk H1 s1
      rw [fl_none hs fun k c hc => hn k c (by have := (List.getElem?_eq_some_iff.mp hc).1; omega) hc] at z
      rw [lb]
      exact z
end
end FM
set_option Elab.async false
set_option linter.all false
set_option maxRecDepth 100000
set_option maxHeartbeats 4000000
namespace FM
open PySem L2 L2H DQ K01
section
variable {X : Cx}
/-- xs[i] of a list, by values -/
theorem gt_list : PGet X (fun o i H Q => ∃ p xs k v, o = .ref p ∧ i = .int k ∧ 0 ≤ k ∧ SqL X.K H p xs ∧ atI xs k = some v ∧ Q v H) := by
  intro pins s σ H o i ov iv Q I ro ri h
  obtain ⟨p, xs, k, z, rfl, rfl, h0, hq, he, q⟩ := h
  cases ro
  obtain ⟨t, rfl⟩ := ri
  obtain ⟨its, r, pl, hz⟩ := I.list hq
  obtain ⟨j, h1, h2, h3, h4, h5⟩ := atI_get he
  obtain ⟨w, ew, rw'⟩ := r.get h2
  have hl := r.length
  have hn := line63
  have hj : k.toNat = j := by
    rw [seqIndex_of h0 h5] at h1
    exact Option.some.inj h1
  exact PySem.wpAny_getItem_list pl.isList h0 (by omega) (by rw [hj]; simpa using ew) ⟨z, H, I, rw', q⟩
end
def Kt (H H' : Hp) : Prop := ∀ b xs, H b = some (.tup xs) → H' b = some (.tup xs)
theorem Kt.of {H H' : Hp} (s : Same H H') : Kt H H' := fun b xs e => s _ _ e
theorem Kt.trans {H H' H'' : Hp} (a : Kt H H') (b : Kt H' H'') : Kt H H'' := fun x xs e => b _ _ (a _ _ e)
theorem Kt.put {H : Hp} {a : Addr} {xs ys : List V} (h : H a = some (.lst xs)) : Kt H (upd H a (.lst ys)) := fun b zs e => by
  rw [upd_ne fun y => by rw [y, h] at e; cases e]
  exact e
/-- a frame as it stands -/
def RepF (H : Hp) (a : Addr) (f : Fr) : Prop := ∃ pb pw xb xw, H a = some (.lst [.ref pb, .ref pw, .int (f.i : Int), .int (f.j : Int)]) ∧ H pb = some (.tup xb) ∧ DqAll H xb f.bs ∧ H pw = some (.tup xw) ∧ DqAll H xw f.ws
def RepS (H : Hp) : List Addr → List Fr → Prop
  | [], [] => True
  | a :: as, f :: S => RepF H a f ∧ a ∉ as ∧ RepS H as S
  | _, _ => False
def StOk : Nat → List Fr → Prop
  | _, [] => True
  | n, f :: S => Brs n f.ws ∧ (∃ k, Brs k f.bs) ∧ f.i < f.ws.length ∧ f.j ≤ f.bs.length ∧ StOk (n + 1) S
def TopOk : Nat → List Fr → Prop
  | _, [] => True
  | n, f :: S => Brs n f.ws ∧ (∃ k, Brs k f.bs) ∧ f.i ≤ f.ws.length ∧ f.j ≤ f.bs.length ∧ StOk (n + 1) S
theorem StOk.top : ∀ {n : Nat} {S : List Fr}, StOk n S → TopOk n S
  | _, [], _ => trivial
  | _, _ :: _, ⟨h1, h2, h3, h4, h5⟩ => ⟨h1, h2, Nat.le_of_lt h3, h4, h5⟩
theorem upd_get {H : Hp} {a b : Addr} {o u : HO} (h : H b = some u) (n : b ≠ a) : upd H a o b = some u := by
  rw [upd_ne n]
  exact h
theorem RepF.keep {H H' : Hp} {a : Addr} {f : Fr} (k : Kt H H') (e : H' a = H a) (h1 : tupA f.bs = true) (h2 : tupA f.ws = true) (h : RepF H a f) : RepF H' a f := by
  obtain ⟨pb, pw, xb, xw, e1, e2, e3, e4, e5⟩ := h
  exact ⟨pb, pw, xb, xw, e.trans e1, k _ _ e2, e3.tups k h1, k _ _ e4, e5.tups k h2⟩
theorem RepS.keep {H H' : Hp} (k : Kt H H') : ∀ {as : List Addr} {S : List Fr} {n : Nat}, (∀ a ∈ as, H' a = H a) → StOk n S → RepS H as S → RepS H' as S
  | [], [], _, _, _, h => h
  | a :: as, f :: S, n, e, ⟨s1, ⟨k', s2⟩, _, _, s3⟩, ⟨h1, h2, h3⟩ => ⟨h1.keep k (e a (List.mem_cons_self ..)) s2.tup s1.tup, h2, RepS.keep k (fun b hb => e b (List.mem_cons_of_mem _ hb)) s3 h3⟩
  | [], _ :: _, _, _, _, h => h.elim
  | _ :: _, [], _, _, _, h => h.elim
theorem RepS.len {H : Hp} : ∀ {as : List Addr} {S : List Fr}, RepS H as S → as.length = S.length
  | [], [], _ => rfl
  | a :: as, f :: S, ⟨_, _, h⟩ => by rw [List.length_cons, List.length_cons, h.len]
  | [], _ :: _, h => h.elim
  | _ :: _, [], h => h.elim
theorem RepS.lst {H : Hp} : ∀ {as : List Addr} {S : List Fr}, RepS H as S → ∀ a ∈ as, ∃ xs, H a = some (.lst xs)
  | [], [], _, a, h => absurd h List.not_mem_nil
  | a :: as, f :: S, ⟨⟨pb, pw, xb, xw, e1, _⟩, _, h⟩, b, hb => by
    rcases List.mem_cons.mp hb with rfl | hb
    · exact ⟨_, e1⟩
    · exact h.lst b hb
  | [], _ :: _, h, _, _ => h.elim
  | _ :: _, [], h, _, _ => h.elim
def stk (as : List Addr) : List V := (as.map V.ref).reverse
theorem stk_cons (a : Addr) (as : List Addr) : stk (a :: as) = stk as ++ [.ref a] := by
  unfold stk
  rw [List.map_cons, List.reverse_cons]
theorem stk_len (as : List Addr) : (stk as).length = as.length := by
  unfold stk
  rw [List.length_reverse, List.length_map]
theorem at_last (xs : List V) (v : V) : atI (xs ++ [v]) (-1) = some v := by
  unfold atI ixN
  rw [if_neg (by omega), if_pos (by rw [List.length_append, List.length_singleton]; omega)]
  rw [Option.bind_some]
  have e : ((-1 : Int) + ((xs ++ [v]).length : Nat)).toNat = xs.length := by
    rw [List.length_append, List.length_singleton]
    omega
  rw [e, List.getElem?_append_right (Nat.le_refl _), Nat.sub_self]
  rfl
theorem stk_top (a : Addr) (as : List Addr) : atI (stk (a :: as)) (-1) = some (.ref a) := by
  rw [stk_cons]
  exact at_last _ _
theorem Run.inl {S S' : List Fr} {v : Bool} {m : Nat} (h : Run S v m) (e : step S = .inl S') : ∃ m', m' < m ∧ Run S' v m' := by
  cases h with
  | fin e2 =>
    rw [e] at e2
    cases e2
  | go e2 r =>
    rw [e] at e2
    cases e2
    exact ⟨_, Nat.lt_succ_self _, r⟩
theorem Run.inr {S : List Fr} {v u : Bool} {m : Nat} (h : Run S v m) (e : step S = .inr u) : u = v := by
  cases h with
  | fin e2 =>
    rw [e] at e2
    cases e2
    rfl
  | go e2 r =>
    rw [e] at e2
    cases e2
theorem step_none {f : Fr} {S : List Fr} (e : f.ws[f.i]? = none) : step (f :: S) = pop S true := by
  unfold step
  dsimp only
  rw [e]
theorem step_no {f : Fr} {S : List Fr} {w : PyData} (e : f.ws[f.i]? = some w) (eb : f.bs[fl f.bs w f.j]? = none) : step (f :: S) = pop S false := by
  unfold step
  dsimp only
  rw [e]
  dsimp only
  rw [eb]
theorem step_yes {f : Fr} {S : List Fr} {w b : PyData} (e : f.ws[f.i]? = some w) (eb : f.bs[fl f.bs w f.j]? = some b) : step (f :: S) = .inl (⟨brs (treeOf b), brs (treeOf w), 0, 0⟩ :: ⟨f.bs, f.ws, f.i, fl f.bs w f.j + 1⟩ :: S) := by
  unfold step
  dsimp only
  rw [e]
  dsimp only
  rw [eb]
/-- the loop's state -/
structure LF (H H' : Hp) (pp : Addr) (as : List Addr) (S : List Fr) (n : Nat) : Prop where
  pth : H' pp = some (.lst (stk as))
  rep : RepS H' as S
  ok : TopOk n S
  few : S.length + n ≤ 201
  sm : Same H H'
  new : ∀ a ∈ as, H a = none
  pn : H pp = none
  ap : pp ∉ as
theorem stk_last (a : Addr) (as : List Addr) : (stk (a :: as))[(stk (a :: as)).length - 1]? = some (.ref a) := by
  rw [stk_cons, List.length_append, List.length_singleton, Nat.add_sub_cancel, List.getElem?_append_right (Nat.le_refl _), Nat.sub_self]
  rfl
theorem stk_pop (a : Addr) (as : List Addr) : (stk (a :: as)).dropLast = stk as := by
  rw [stk_cons, List.dropLast_concat]
def spFR : Sp := fun vs H Q _ => ∃ (v w : V) (mt mp : List Str) (bt bp : List PyData) (k n : Nat), vs = [v, w] ∧ Dq H v (.tuple [.tuple (mt.map PyData.str), .tuple bt]) ∧ Dq H w (.tuple [.tuple (mp.map PyData.str), .tuple bp]) ∧ mt.length ≤ 900 ∧ (mp.length ≤ 3 ∨ (mp.length ≤ 7 ∧ mt ≠ [])) ∧
  Brs k bt ∧ Brs n bp ∧ n ≤ 200 ∧ ∀ H', Same H H' → Q (.bl (hasL mt mp && fitL n bt bp)) H'
abbrev nFR : List Str := ["tree", "pattern", "path", "branches", "wanted", "found", "start", "number", "fits"]
section
variable {P : Program} {w : World} {K : PySem.W.Frag} {mg : Str → Option Value} {base : Heap}
theorem scFR : FnScope nFR ["tree", "pattern"] (defScope sFR) := ⟨rfl, rfl, rfl, by decide +kernel, rfl, by decide +kernel, by decide +kernel⟩
theorem ok_fr {f fL fH : Addr} {fd dL dH : FuncData} (F : Fun K "fits_root" "fits_root" sFR f fd) (FL : Fun K "_first_like" "_first_like" sFL fL dL) (bL : Binds K dL ["branches", "wanted", "start"] []) (gL : mg "_first_like" = some (.ref fL))
    (FH : Fun K "has_marks" "has_marks" sHM fH dH) (bH : Binds K dH ["marks", "wanted"] []) (gH : mg "has_marks" = some (.ref fH)) (T : TM mg) (tR : mg "range" = none) :
    FnOk P w K mg base CX0 3 f fd ["tree", "pattern"] spFR := by
  have GH : FnOk P w K mg base CX0 1 fH dH ["marks", "wanted"] spHM := ok_hm FH T
  have GL : FnOk P w K mg base CX0 2 fL dL ["branches", "wanted", "start"] spFL := ok_fl FL FH bH gH T tR
  refine F.ok scFR (fun vs H Q E h => ?_) (fun cdv A outer s H vs Q E hr h => ?_)
  · obtain ⟨v, w, mt, mp, bt, bp, k, n, rfl, _⟩ := h
    rfl
  · obtain ⟨v, w', mt, mp, bt, bp, k, n, rfl, hv, hw, b1, b2, hbt, hbp, n200, kk⟩ := h
    refine ⟨_, pss_cons (ps_if (pt_not (pt_val (pe_call GH (hr.mono (by decide)) (by rfl) gH FH.kp bH .nil pass0 (pa_cons (pe_ix ix_tup (pv 0) pe_int (fun _ _ => rfl)) (pa_cons (pe_ix ix_tup (pv 1) pe_int (fun _ _ => rfl)) pa_nil))))) (pss_one (ps_ret pe_bl)) pss_nil)
      (pss_cons (ps_set (i := 2) scFR.nd rfl (Or.inl rfl) (pe_lst (pa_cons (pe_lst (pa_cons (pe_ix ix_tup (pv 0) pe_int (fun _ _ => rfl)) (pa_cons (pe_ix ix_tup (pv 1) pe_int (fun _ _ => rfl)) (pa_cons pe_int (pa_cons pe_int pa_nil))))) pa_nil)))
      (pss_one (ps_while PassesOwn.never (pt_val pe_bl)
        (pss_cons (ps_asg (pe_ix ix_list (pv 2) (pe_un un_neg pe_int) (fun _ _ => rfl)) (pg_lst (n := 4) rfl (pgs_cons (pg_name (i := 3) scFR.nd rfl (Or.inl rfl)) (pgs_cons (pg_name (i := 4) scFR.nd rfl (Or.inl rfl)) (pgs_cons (pg_name (i := 5) scFR.nd rfl (Or.inl rfl)) (pgs_cons (pg_name (i := 6) scFR.nd rfl (Or.inl rfl)) pgs_nil))))))
        (pss_cons (ps_if (pt_cmpR op_lt (pv 5) (pe_callB call_len_seq (by rfl) T.len PySem.boot_len (pa_cons (pv 4) pa_nil)) (by rfl))
          (pss_cons (ps_set (i := 7) scFR.nd rfl (Or.inl rfl) (pe_call GL hr (by rfl) gL FL.kp bL .nil pass0 (pa_cons (pv 3) (pa_cons (pe_ix ix_tup (pv 4) (pv 5) (fun _ _ => rfl)) (pa_cons (pv 6) pa_nil)))))
          (pss_one (ps_if (pt_cmpR op_lt (pv 7) (pe_callB call_len_seq (by rfl) T.len PySem.boot_len (pa_cons (pv 3) pa_nil)) (by rfl))
            (pss_cons (ps_asg (pe_op op_add (pv 7) pe_int) (pg_sub (pe_ix ix_list (pv 2) (pe_un un_neg pe_int) (fun _ _ => rfl)) pe_int set_list))
            (pss_cons (ps_expr (pe_bm PySem.F.plainAttrs_list PySem.F.slot_list_append PySem.F.type_list_append mt_append (pv 2) (pa_cons (pe_lst (pa_cons (pe_ix ix_tup (pe_ix ix_tup (pe_ix ix_tup (pv 3) (pv 7) (fun _ _ => rfl)) pe_int (fun _ _ => rfl)) pe_int (fun _ _ => rfl)) (pa_cons (pe_ix ix_tup (pe_ix ix_tup (pe_ix ix_tup (pv 4) (pv 5) (fun _ _ => rfl)) pe_int (fun _ _ => rfl)) pe_int (fun _ _ => rfl)) (pa_cons pe_int (pa_cons pe_int pa_nil))))) pa_nil)))
            (pss_one ps_continue))) pss_nil))) pss_nil)
        (pss_cons (ps_set (i := 8) scFR.nd rfl (Or.inl rfl) (pe_cmpR op_eq (pv 5) (pe_callB call_len_seq (by rfl) T.len PySem.boot_len (pa_cons (pv 4) pa_nil)) (nomark _)))
        (pss_cons (ps_expr (pe_bm0 PySem.F.plainAttrs_list PySem.F.slot_list_pop PySem.F.type_list_pop mt_pop (pv 2)))
        (pss_cons (ps_if (pt_not (pt_truth (pv 2) (by intro _; rfl))) (pss_one (ps_ret (pv 8))) pss_nil)
        (pss_one (ps_if (pt_val (pv 8)) (pss_cons (ps_augS (pe_ix ix_list (pv 2) (pe_un un_neg pe_int) (fun _ _ => rfl)) pe_int gt_list pe_int ip_add set_list)
          (pss_one (ps_asg pe_int (pg_sub (pe_ix ix_list (pv 2) (pe_un un_neg pe_int) (fun _ _ => rfl)) pe_int set_list)))) pss_nil)))))))))), ?_⟩
    obtain ⟨p1, va, pb0, xb0, rfl, e1, qa, e2, ab0⟩ := dq_node hv
    obtain ⟨p2, wa, pw0, xw0, rfl, f1, qb, f2, aw0⟩ := dq_node hw
    refine ⟨_, rfl, p1, _, 0, va, rfl, rfl, SqT.of e1, atI_nat (j := 0) rfl, _, rfl, p2, _, 0, wa, rfl, rfl, SqT.of f1, atI_nat (j := 0) rfl, va, wa, mt, mp, rfl, qa, qb, b1, b2, fun H1 s1 => ⟨_, rfl, ?_⟩⟩
    cases hM : hasL mt mp with
    | false =>
      rw [hM] at kk
      exact iteT (kk H1 s1)
    | true =>
    rw [hM] at kk
    refine iteF ?_
    refine ⟨_, rfl, p1, _, 1, .ref pb0, rfl, rfl, SqT.of (s1 _ _ e1), atI_nat (j := 1) rfl, _, rfl, p2, _, 1, .ref pw0, rfl, rfl, SqT.of (s1 _ _ f1), atI_nat (j := 1) rfl, by show 4 ≤ sizeLine; decide, fun e0 n0 => ⟨by show 1 ≤ sizeLine; decide, fun pp npp => ?_⟩⟩
    have s3 := same_trans s1 (same_trans (same_new (o := .lst [.ref pb0, .ref pw0, .int 0, .int 0]) n0) (same_new (o := .lst [.ref e0]) npp))
    have he0 := same_new (o := .lst [.ref e0]) npp _ _ (upd_same (H := H1) (a := e0) (o := .lst [.ref pb0, .ref pw0, .int 0, .int 0]))
    have hpp : upd (upd H1 e0 (HO.lst [V.ref pb0, V.ref pw0, V.int 0, V.int 0])) pp (HO.lst [V.ref e0]) pp = some (.lst [.ref e0]) := upd_same
    have ne0 : pp ≠ e0 := fun z => by
      rw [z, upd_same] at npp
      cases npp
    have hn0 : H e0 = none := same_out s1 n0
    have hnp : H pp = none := same_out s1 (same_out (same_new n0) npp)
    obtain ⟨m0, r0⟩ := run_all (bs := bt) hbp
    have L0 : LF H (upd (upd H1 e0 (HO.lst [V.ref pb0, V.ref pw0, V.int 0, V.int 0])) pp (HO.lst [V.ref e0])) pp [e0] [⟨bt, bp, 0, 0⟩] n := by
      refine ⟨hpp, ⟨⟨pb0, pw0, xb0, xw0, he0, s3 _ _ e2, ab0.same s3, s3 _ _ f2, aw0.same s3⟩, List.not_mem_nil, trivial⟩, ⟨hbp, ⟨k, hbt⟩, Nat.zero_le _, Nat.zero_le _, trivial⟩, by show 1 + n ≤ 201; omega, s3, fun a ha => ?_, hnp, fun z => ?_⟩
      · rw [List.mem_singleton.mp ha]
        exact hn0
      · exact ne0 (List.mem_singleton.mp z)
    generalize upd (upd H1 e0 (HO.lst [V.ref pb0, V.ref pw0, V.int 0, V.int 0])) pp (HO.lst [V.ref e0]) = H3 at L0
    refine ⟨fun m σ H' => ∃ as S n' w3 w4 w5 w6 w7 w8, σ = [some (V.ref p1), some (V.ref p2), some (V.ref pp), w3, w4, w5, w6, w7, w8] ∧ LF H H' pp as S n' ∧ S ≠ [] ∧ Run S (fitL n bt bp) m,
      ⟨m0, [e0], _, n, _, _, _, _, _, _, rfl, L0, List.cons_ne_nil _ _, r0⟩, ?_⟩
    rintro m σ H' ⟨as, S, n', w3, w4, w5, w6, w7, w8, rfl, L, sne, run⟩
    obtain ⟨pth, rep, ok, few, sm, new, pn, ap⟩ := L
    cases S with
    | nil => exact absurd rfl sne
    | cons f S =>
    cases as with
    | nil => exact rep.elim
    | cons a as =>
    obtain ⟨⟨pb, pw, xb, xw, g1, g2, g3, g4, g5⟩, anew, rep'⟩ := rep
    obtain ⟨ok1, ⟨kb, ok2⟩, ok3, ok4, ok5⟩ := ok
    refine ⟨_, rfl, iteT ?_⟩
    refine ⟨fun σ' H'' => ∃ m', m' < m ∧ ∃ as S n' w3 w4 w5 w6 w7 w8, σ' = [some (V.ref p1), some (V.ref p2), some (V.ref pp), w3, w4, w5, w6, w7, w8] ∧ LF H H'' pp as S n' ∧ S ≠ [] ∧ Run S (fitL n bt bp) m', fun σ' H'' h => h, ?_⟩
    refine ⟨_, rfl, 1, rfl, pp, _, -1, .ref a, rfl, rfl, SqL.of pth, stk_top _ _, a, _, rfl, SqL.of g1, rfl, _, _, rfl, _, _, rfl, _, _, rfl, _, _, rfl, rfl, ?_⟩
    refine ⟨_, rfl, _, rfl, pw, xw, rfl, .inr (SqT.of g4), _, _, rfl, rfl, _, rfl, ?_⟩
    have lw : xw.length = f.ws.length := g5.len
    have lb : xb.length = f.bs.length := g3.len
    cases e : f.ws[f.i]? with
    | none =>
      have : f.ws.length ≤ f.i := List.getElem?_eq_none_iff.mp e
      rw [decide_eq_false (show ¬ ((f.i : Int) < (xw.length : Int)) by omega)]
      refine iteF ?_
      obtain ⟨vv, ev⟩ : ∃ vv, vv = true := ⟨_, rfl⟩
      have hst : step (f :: S) = pop S vv := by rw [ev]; exact step_none e
      have hv : decide (V.int (f.i : Int) = V.int (xw.length : Nat)) = vv := by rw [ev]; exact decide_eq_true (by rw [lw]; congr 1; omega)
      obtain ⟨H2, eH⟩ : ∃ H2, H2 = H' := ⟨_, rfl⟩
      rw [← eH]
      have s2 : Same H' H2 := by rw [eH]; exact same_refl
      have sm2p : Same H (upd H2 pp (HO.lst (stk as))) := fun b o eb => by
        rw [upd_ne fun z => by rw [z, pn] at eb; cases eb]
        exact s2 _ _ (sm _ _ eb)
      refine ⟨_, rfl, _, rfl, pw, xw, rfl, .inr (SqT.of (s2 _ _ g4)), rfl, ?_⟩
      rw [hv]
      refine ⟨_, rfl, .inl ⟨rfl, _, SqL.of (s2 _ _ pth)⟩, ?_⟩
      refine ⟨pp, _, .ref a, rfl, rfl, s2 _ _ pth, stk_last _ _, ?_⟩
      rw [stk_pop]
      have q1 : upd H2 pp (HO.lst (stk as)) pp = some (.lst (stk as)) := upd_same
      have lq : as.length = S.length := rep'.len
      have L2 : LF H (upd H2 pp (HO.lst (stk as))) pp as S (n' + 1) := by
        refine ⟨q1, ?_, ok5.top, by rw [List.length_cons] at few; omega, sm2p, fun b hb => new b (List.mem_cons_of_mem _ hb), pn, fun z => ap (List.mem_cons_of_mem _ z)⟩
        refine RepS.keep ((Kt.of s2).trans (Kt.put (s2 _ _ pth))) (fun b hb => ?_) ok5 rep'
        obtain ⟨xs, ex⟩ := rep'.lst b hb
        rw [upd_ne fun z => ap (List.mem_cons_of_mem _ (by rw [← z]; exact hb)), s2 _ _ ex, ex]
      refine ⟨_, rfl, !(stk as).isEmpty, .inl ⟨_, SqL.of q1, rfl⟩, ?_⟩
      cases S with
      | nil =>
        cases as with
        | cons _ _ => exact absurd lq (by rw [List.length_cons]; exact Nat.succ_ne_zero _)
        | nil =>
          refine iteT ⟨_, rfl, ?_⟩
          have z := run.inr (hst.trans rfl)
          rw [z]
          exact kk _ sm2p
      | cons g S =>
        cases as with
        | nil => exact absurd lq.symm (by rw [List.length_cons]; exact Nat.succ_ne_zero _)
        | cons a2 as =>
          have ne2 : (!(stk (a2 :: as)).isEmpty) = true := by
            rw [stk_cons]
            cases stk as <;> rfl
          rw [ne2]
          refine iteF ⟨_, rfl, _, rfl, ?_⟩
          obtain ⟨hg, an2, rg⟩ := L2.rep
          obtain ⟨og1, ⟨kg, og2⟩, og3, og4, og5⟩ := ok5
          obtain ⟨gb, gw, yb, yw, k1, k2, k3, k4, k5⟩ := hg
          have pa2 : pp ≠ a2 := fun z => L2.ap (by rw [z]; exact List.mem_cons_self ..)
          have ha2 : H a2 = none := L2.new _ (List.mem_cons_self ..)
          cases hv0 : vv with
          | false =>
            rw [hv0] at hst
            obtain ⟨m', hm', run'⟩ := run.inl hst
            exact ⟨m', hm', _, _, _, _, _, _, _, _, _, rfl, L2, List.cons_ne_nil _ _, run'⟩
          | true =>
            rw [hv0] at hst
            obtain ⟨m', hm', run'⟩ := run.inl hst
            refine iteT ⟨_, rfl, 1, rfl, pp, _, -1, .ref a2, rfl, rfl, SqL.of L2.pth, stk_top _ _, a2, _, 2, .int (g.i : Int), rfl, rfl, by decide, SqL.of k1, atI_nat (j := 2) rfl, _, _, rfl, rfl, a2, _, 2, 2, rfl, rfl, k1, rfl, ?_⟩
            have q2 : upd (upd H2 pp (HO.lst (stk (a2 :: as)))) a2 (.lst ([V.ref gb, V.ref gw, V.int (g.i : Int), V.int (g.j : Int)].set 2 (V.int ((g.i : Int) + 1)))) pp = some (.lst (stk (a2 :: as))) := upd_get L2.pth pa2
            refine ⟨_, rfl, 1, rfl, pp, _, -1, .ref a2, rfl, rfl, SqL.of q2, stk_top _ _, a2, _, 3, 3, rfl, rfl, upd_same, rfl, ?_⟩
            have K1 : Kt (upd H2 pp (HO.lst (stk (a2 :: as)))) (upd (upd H2 pp (HO.lst (stk (a2 :: as)))) a2 (.lst ([V.ref gb, V.ref gw, V.int (g.i : Int), V.int (g.j : Int)].set 2 (V.int ((g.i : Int) + 1))))) := Kt.put k1
            have K2 := K1.trans (Kt.put (ys := ([V.ref gb, V.ref gw, V.int (g.i : Int), V.int (g.j : Int)].set 2 (V.int ((g.i : Int) + 1))).set 3 (V.int 0)) upd_same)
            refine ⟨m', hm', a2 :: as, ⟨g.bs, g.ws, g.i + 1, 0⟩ :: S, n' + 1, _, _, _, _, _, _, rfl, ⟨upd_get q2 pa2, ⟨⟨gb, gw, yb, yw, upd_same, K2 _ _ k2, k3.tups K2 og2.tup, K2 _ _ k4, k5.tups K2 og1.tup⟩, an2, ?_⟩, ⟨og1, ⟨kg, og2⟩, og3, Nat.zero_le _, og5⟩, L2.few, ?_, L2.new, pn, L2.ap⟩, List.cons_ne_nil _ _, run'⟩
            · refine RepS.keep K2 (fun b hb => ?_) og5 rg
              have nb : b ≠ a2 := fun z => an2 (by rw [← z]; exact hb)
              rw [upd_ne nb, upd_ne nb]
            · intro b o eb
              have nb : b ≠ a2 := fun z => by rw [z, ha2] at eb; cases eb
              rw [upd_ne nb, upd_ne nb]
              exact L2.sm _ _ eb
    | some w =>
      have hi : f.i < f.ws.length := (List.getElem?_eq_some_iff.mp e).1
      rw [decide_eq_true (show ((f.i : Int) < (xw.length : Int)) by omega)]
      obtain ⟨k', u, ms, cs, ek, ew, hu, hms, hcs⟩ := ok1.at e
      obtain ⟨vw, hvw, qw⟩ := g5.at e
      rw [ew] at qw e
      refine iteT ⟨_, rfl, _, rfl, _, rfl, pw, xw, (f.i : Int), vw, rfl, rfl, SqT.of g4, atI_nat hvw, _, rfl, .ref pb, vw, kb, f.j, f.bs, u, ms, cs, rfl, .tup g2 g3, ok2, qw, hms, ok4, fun H2 s2 => ⟨_, rfl, _, rfl, pb, xb, rfl, .inr (SqT.of (s2 _ _ g2)), _, _, rfl, rfl, _, rfl, ?_⟩⟩
      obtain ⟨pj, qj, aj, bj, xj, rfl, w1, w2, w3', w4', w5'⟩ := dq_br qw
      have fle := fl_le (w := .tuple [.str u, .tuple [.tuple (ms.map PyData.str), .tuple cs]]) ok4
      cases eb : f.bs[fl f.bs (.tuple [.str u, .tuple [.tuple (ms.map PyData.str), .tuple cs]]) f.j]? with
      | none =>
        have nlt : f.bs.length ≤ fl f.bs (.tuple [.str u, .tuple [.tuple (ms.map PyData.str), .tuple cs]]) f.j := List.getElem?_eq_none_iff.mp eb
        rw [decide_eq_false (show ¬ ((fl f.bs (.tuple [.str u, .tuple [.tuple (ms.map PyData.str), .tuple cs]]) f.j : Int) < (xb.length : Int)) by omega)]
        refine iteF ?_
        obtain ⟨vv, ev⟩ : ∃ vv, vv = false := ⟨_, rfl⟩
        have hst : step (f :: S) = pop S vv := by rw [ev]; exact step_no e eb
        have hv : decide (V.int (f.i : Int) = V.int (xw.length : Nat)) = vv := by rw [ev]; exact decide_eq_false fun z => by have := V.int.inj z; omega
        have sm2p : Same H (upd H2 pp (HO.lst (stk as))) := fun b o eb => by
          rw [upd_ne fun z => by rw [z, pn] at eb; cases eb]
          exact s2 _ _ (sm _ _ eb)
        refine ⟨_, rfl, _, rfl, pw, xw, rfl, .inr (SqT.of (s2 _ _ g4)), rfl, ?_⟩
        rw [hv]
        refine ⟨_, rfl, .inl ⟨rfl, _, SqL.of (s2 _ _ pth)⟩, ?_⟩
        refine ⟨pp, _, .ref a, rfl, rfl, s2 _ _ pth, stk_last _ _, ?_⟩
        rw [stk_pop]
        have q1 : upd H2 pp (HO.lst (stk as)) pp = some (.lst (stk as)) := upd_same
        have lq : as.length = S.length := rep'.len
        have L2 : LF H (upd H2 pp (HO.lst (stk as))) pp as S (n' + 1) := by
          refine ⟨q1, ?_, ok5.top, by rw [List.length_cons] at few; omega, sm2p, fun b hb => new b (List.mem_cons_of_mem _ hb), pn, fun z => ap (List.mem_cons_of_mem _ z)⟩
          refine RepS.keep ((Kt.of s2).trans (Kt.put (s2 _ _ pth))) (fun b hb => ?_) ok5 rep'
          obtain ⟨xs, ex⟩ := rep'.lst b hb
          rw [upd_ne fun z => ap (List.mem_cons_of_mem _ (by rw [← z]; exact hb)), s2 _ _ ex, ex]
        refine ⟨_, rfl, !(stk as).isEmpty, .inl ⟨_, SqL.of q1, rfl⟩, ?_⟩
        cases S with
        | nil =>
          cases as with
          | cons _ _ => exact absurd lq (by rw [List.length_cons]; exact Nat.succ_ne_zero _)
          | nil =>
            refine iteT ⟨_, rfl, ?_⟩
            have z := run.inr (hst.trans rfl)
            rw [z]
            exact kk _ sm2p
        | cons g S =>
          cases as with
          | nil => exact absurd lq.symm (by rw [List.length_cons]; exact Nat.succ_ne_zero _)
          | cons a2 as =>
            have ne2 : (!(stk (a2 :: as)).isEmpty) = true := by
              rw [stk_cons]
              cases stk as <;> rfl
            rw [ne2]
            refine iteF ⟨_, rfl, _, rfl, ?_⟩
            obtain ⟨hg, an2, rg⟩ := L2.rep
            obtain ⟨og1, ⟨kg, og2⟩, og3, og4, og5⟩ := ok5
            obtain ⟨gb, gw, yb, yw, k1, k2, k3, k4, k5⟩ := hg
            have pa2 : pp ≠ a2 := fun z => L2.ap (by rw [z]; exact List.mem_cons_self ..)
            have ha2 : H a2 = none := L2.new _ (List.mem_cons_self ..)
            cases hv0 : vv with
            | false =>
              rw [hv0] at hst
              obtain ⟨m', hm', run'⟩ := run.inl hst
              exact ⟨m', hm', _, _, _, _, _, _, _, _, _, rfl, L2, List.cons_ne_nil _ _, run'⟩
            | true =>
              rw [hv0] at hst
              obtain ⟨m', hm', run'⟩ := run.inl hst
              refine iteT ⟨_, rfl, 1, rfl, pp, _, -1, .ref a2, rfl, rfl, SqL.of L2.pth, stk_top _ _, a2, _, 2, .int (g.i : Int), rfl, rfl, by decide, SqL.of k1, atI_nat (j := 2) rfl, _, _, rfl, rfl, a2, _, 2, 2, rfl, rfl, k1, rfl, ?_⟩
              have q2 : upd (upd H2 pp (HO.lst (stk (a2 :: as)))) a2 (.lst ([V.ref gb, V.ref gw, V.int (g.i : Int), V.int (g.j : Int)].set 2 (V.int ((g.i : Int) + 1)))) pp = some (.lst (stk (a2 :: as))) := upd_get L2.pth pa2
              refine ⟨_, rfl, 1, rfl, pp, _, -1, .ref a2, rfl, rfl, SqL.of q2, stk_top _ _, a2, _, 3, 3, rfl, rfl, upd_same, rfl, ?_⟩
              have K1 : Kt (upd H2 pp (HO.lst (stk (a2 :: as)))) (upd (upd H2 pp (HO.lst (stk (a2 :: as)))) a2 (.lst ([V.ref gb, V.ref gw, V.int (g.i : Int), V.int (g.j : Int)].set 2 (V.int ((g.i : Int) + 1))))) := Kt.put k1
              have K2 := K1.trans (Kt.put (ys := ([V.ref gb, V.ref gw, V.int (g.i : Int), V.int (g.j : Int)].set 2 (V.int ((g.i : Int) + 1))).set 3 (V.int 0)) upd_same)
              refine ⟨m', hm', a2 :: as, ⟨g.bs, g.ws, g.i + 1, 0⟩ :: S, n' + 1, _, _, _, _, _, _, rfl, ⟨upd_get q2 pa2, ⟨⟨gb, gw, yb, yw, upd_same, K2 _ _ k2, k3.tups K2 og2.tup, K2 _ _ k4, k5.tups K2 og1.tup⟩, an2, ?_⟩, ⟨og1, ⟨kg, og2⟩, og3, Nat.zero_le _, og5⟩, L2.few, ?_, L2.new, pn, L2.ap⟩, List.cons_ne_nil _ _, run'⟩
              · refine RepS.keep K2 (fun b hb => ?_) og5 rg
                have nb : b ≠ a2 := fun z => an2 (by rw [← z]; exact hb)
                rw [upd_ne nb, upd_ne nb]
              · intro b o eb
                have nb : b ≠ a2 := fun z => by rw [z, ha2] at eb; cases eb
                rw [upd_ne nb, upd_ne nb]
                exact L2.sm _ _ eb
      | some b =>
        have nlt : fl f.bs (.tuple [.str u, .tuple [.tuple (ms.map PyData.str), .tuple cs]]) f.j < f.bs.length := (List.getElem?_eq_some_iff.mp eb).1
        rw [decide_eq_true (show ((fl f.bs (.tuple [.str u, .tuple [.tuple (ms.map PyData.str), .tuple cs]]) f.j : Int) < (xb.length : Int)) by omega)]
        have hst := step_yes (S := S) e eb
        generalize fl f.bs (.tuple [.str u, .tuple [.tuple (ms.map PyData.str), .tuple cs]]) f.j = r at eb nlt hst
        obtain ⟨kb', ui, mi, ci, ekb, ebi, hui, hmi, hci⟩ := ok2.at eb
        obtain ⟨vb, hvb, qb⟩ := g3.at eb
        rw [ebi] at qb hst
        obtain ⟨pi, qi, ai, bi, xi, rfl, z1, z2, z3, z4, z5⟩ := dq_br (qb.same s2)
        obtain ⟨m', hm', run'⟩ := run.inl hst
        have pa : pp ≠ a := fun z => ap (by rw [z]; exact List.mem_cons_self ..)
        have hna : H a = none := new _ (List.mem_cons_self ..)
        refine iteT ⟨_, rfl, _, _, rfl, rfl, _, rfl, 1, rfl, pp, _, -1, .ref a, rfl, rfl, SqL.of (s2 _ _ pth), stk_top _ _, a, _, 3, 3, rfl, rfl, s2 _ _ g1, rfl, ?_⟩
        have e3 : upd H2 a (.lst ([V.ref pb, V.ref pw, V.int (f.i : Int), V.int (f.j : Int)].set 3 (V.int ((r : Int) + 1)))) pp = some (.lst (stk (a :: as))) := upd_get (s2 _ _ pth) pa
        have K1 : Kt H2 (upd H2 a (.lst ([V.ref pb, V.ref pw, V.int (f.i : Int), V.int (f.j : Int)].set 3 (V.int ((r : Int) + 1))))) := Kt.put (s2 _ _ g1)
        have KA := (Kt.of s2).trans K1
        have ea3 : upd H2 a (.lst ([V.ref pb, V.ref pw, V.int (f.i : Int), V.int (f.j : Int)].set 3 (V.int ((r : Int) + 1)))) a = some (.lst [.ref pb, .ref pw, .int (f.i : Int), .int ((r : Int) + 1)]) := upd_same
        have oth : ∀ b, b ≠ a → upd H2 a (.lst ([V.ref pb, V.ref pw, V.int (f.i : Int), V.int (f.j : Int)].set 3 (V.int ((r : Int) + 1)))) b = H2 b := fun b nb => upd_ne nb
        generalize upd H2 a (.lst ([V.ref pb, V.ref pw, V.int (f.i : Int), V.int (f.j : Int)].set 3 (V.int ((r : Int) + 1)))) = H3' at e3 K1 KA ea3 oth
        refine ⟨_, rfl, .inl ⟨rfl, _, SqL.of e3⟩, ?_⟩
        refine ⟨_, rfl, _, rfl, pb, xb, (r : Int), .ref pi, rfl, rfl, SqT.of (KA _ _ g2), atI_nat hvb, pi, _, 1, .ref qi, rfl, rfl, SqT.of (K1 _ _ z1), atI_nat (j := 1) rfl, qi, _, 1, .ref bi, rfl, rfl, SqT.of (K1 _ _ z2), atI_nat (j := 1) rfl, ?_⟩
        refine ⟨_, rfl, _, rfl, pw, xw, (f.i : Int), .ref pj, rfl, rfl, SqT.of (KA _ _ g4), atI_nat hvw, pj, _, 1, .ref qj, rfl, rfl, SqT.of (KA _ _ w1), atI_nat (j := 1) rfl, qj, _, 1, .ref bj, rfl, rfl, SqT.of (KA _ _ w2), atI_nat (j := 1) rfl, by show 4 ≤ sizeLine; decide, fun pn2 npn => ?_⟩
        refine ⟨pp, _, .ref pn2, rfl, rfl, same_new npn _ _ e3, small1000 (by rw [stk_len, List.length_cons, rep'.len]; rw [List.length_cons] at few; omega), ?_⟩
        obtain rfl : n' = k' + 1 := ek
        have S3 : Same H H3' := fun b o eb => by
          rw [oth b fun z => by rw [z, hna] at eb; cases eb]
          exact s2 _ _ (sm _ _ eb)
        have hnn : H pn2 = none := same_out S3 npn
        have np : pn2 ≠ pp := fun z => by rw [z, e3] at npn; cases npn
        have na : pn2 ≠ a := fun z => by rw [z, ea3] at npn; cases npn
        have nas : ∀ b ∈ as, b ≠ pn2 := fun b hb z => by
          obtain ⟨xs, ex⟩ := rep'.lst b hb
          rw [z] at hb ex
          rw [oth pn2 na, s2 _ _ ex] at npn
          cases npn
        have K5 : Kt H3' (upd (upd H3' pn2 (HO.lst [V.ref bi, V.ref bj, V.int 0, V.int 0])) pp (HO.lst (stk (a :: as) ++ [V.ref pn2]))) := (Kt.of (same_new npn)).trans (Kt.put (same_new npn _ _ e3))
        have K2 := K1.trans K5
        have KH := KA.trans K5
        refine ⟨m', hm', pn2 :: a :: as, ⟨ci, cs, 0, 0⟩ :: ⟨f.bs, f.ws, f.i, r + 1⟩ :: S, k', _, _, _, _, _, _, rfl, ⟨?_, ⟨⟨bi, bj, xi, xj, upd_get upd_same np, K2 _ _ z4, z5.tups K2 hci.tup, KH _ _ w4', w5'.tups KH hcs.tup⟩, ?_, ⟨pb, pw, xb, xw, upd_get (upd_get ea3 (Ne.symm na)) (Ne.symm pa), KH _ _ g2, g3.tups KH ok2.tup, KH _ _ g4, g5.tups KH ok1.tup⟩, anew, ?_⟩,
          ⟨hcs, ⟨kb', hci⟩, Nat.zero_le _, Nat.zero_le _, ok1, ⟨kb, ok2⟩, hi, nlt, ok5⟩, ?_, ?_, ?_, pn, ?_⟩, List.cons_ne_nil _ _, run'⟩
        · rw [stk_cons pn2]
          exact upd_same
        · intro z
          rcases List.mem_cons.mp z with z | z
          · exact na z
          · exact nas _ z rfl
        · refine RepS.keep KH (fun b hb => ?_) ok5 rep'
          have nb : b ≠ a := fun z => anew (by rw [← z]; exact hb)
          obtain ⟨xs, ex⟩ := rep'.lst b hb
          rw [upd_ne fun z => ap (List.mem_cons_of_mem _ (by rw [← z]; exact hb)), upd_ne (nas b hb), oth b nb, s2 _ _ ex, ex]
        · rw [List.length_cons, List.length_cons]
          rw [List.length_cons] at few
          omega
        · intro b o eb
          rw [upd_ne fun z => by rw [z, pn] at eb; cases eb]
          exact same_new npn _ _ (S3 _ _ eb)
        · intro b hb
          rcases List.mem_cons.mp hb with rfl | hb
          · exact hnn
          · exact new b hb
        · intro z
          rcases List.mem_cons.mp z with z | z
          · exact np z.symm
          · exact ap z
end
end FM
set_option Elab.async false
set_option linter.all false
set_option maxRecDepth 100000
set_option maxHeartbeats 4000000
namespace FM
open PySem L2 L2H DQ K01
theorem same_put {H H' : Hp} {a : Addr} {o : HO} (s : Same H H') (n : H a = none) : Same H (upd H' a o) := fun b u e => by
  rw [upd_ne fun z => by rw [z, n] at e; cases e]
  exact s _ _ e
theorem flat_strs (ms : List Str) : (ms.map V.str).all flatV = true := List.all_eq_true.mpr fun v hv => by
  obtain ⟨x, _, rfl⟩ := List.mem_map.mp hv
  rfl
theorem in_strs (x : Str) (ms : List Str) : inV (.str x) (ms.map V.str) = decide (x ∈ ms) := by
  unfold inV
  induction ms with
  | nil => rfl
  | cons m ms ih =>
    rw [List.map_cons, List.any_cons, ih]
    have e : eqV (.str m) (.str x) = decide (x = m) := by
      show (decide (m = x)) = _
      exact decide_eq_decide.mpr eq_comm
    rw [e, ← Bool.decide_or]
    exact decide_eq_decide.mpr List.mem_cons.symm
/-- _law_fits: the law's own look -/
def spLF (n : Nat) : Sp := fun vs H Q _ => ∃ (v w : V) (mt mp : List Str) (bt bp : List PyData) (k : Nat), vs = [v, w] ∧ Dq H v (.tuple [.tuple (mt.map PyData.str), .tuple bt]) ∧ Dq H w (.tuple [.tuple (mp.map PyData.str), .tuple bp]) ∧ mp.length ≤ 100 ∧
  Brs k bt ∧ Brs n bp ∧ ∀ H', Same H H' → Q (.bl (hasL mt mp && fitL n bt bp)) H'
abbrev nLF : List Str := ["tree", "pattern", "mark", "word", "below", "far", "lower"]
section
variable {P : Program} {w : World} {K : PySem.W.Frag} {mg : Str → Option Value} {base : Heap}
theorem ix_tupK {X : Cx} (hK : X.K = K) : IxR X (rIxT K) := by
  subst hK
  exact ix_tup
theorem op_notInK {X : Cx} (hK : X.K = K) : OpR X (compareOp .NotIn) (rIn K true) := by
  subst hK
  exact op_notIn_seq
theorem scLF : FnScope nLF ["tree", "pattern"] (defScope sFits) := ⟨rfl, rfl, rfl, by decide +kernel, rfl, by decide +kernel, by decide +kernel⟩
theorem ok_lf {f : Addr} {fd : FuncData} (F : Fun K "_law_fits" "_law_fits" sFits f fd) (bF : Binds K fd ["tree", "pattern"] []) (gF : mg "_law_fits" = some (.ref f)) : ∀ n, FnOk P w K mg base CX0 (1 + n) f fd ["tree", "pattern"] (spLF n) := by
  intro n
  induction n with
  | zero =>
    refine F.ok (k := 0) scLF (fun vs H Q E h => ?_) (fun cdv A outer s H vs Q E hr h => ?_)
    · obtain ⟨v, w, mt, mp, bt, bp, k, rfl, _⟩ := h
      rfl
    · obtain ⟨v, w', mt, mp, bt, bp, k, rfl, hv, hw, b1, hbt, hbp, kk⟩ := h
      have hu1 : (A.deeper (PyProof.Rows.envOfC "_law_fits" (defScope sFits) s.heap.objs.size f cdv)).units < cLine := by have := hr.un; omega
      refine ⟨_, pss_cons (ps_if (pt_cmpR (NI.op_neNil hu1) (pe_lc (own := [("mark", 2)]) (g := gName 2) rfl scLF.nd (pi_tup (pe_ix ix_tup (pv 1) pe_int (fun _ _ => rfl))) (blkOk_by (own := [("mark", 2)]) (N := nLF) (sc := defScope sFits) (by decide +kernel))
            (fun _ _ _ _ _ => pg_name (i := 2) scLF.nd rfl (Or.inl rfl)) (fun _ _ _ _ _ => pts_one (pt_cmpR (op_notInK (K := K) rfl) (pv 2) (pe_ix (ix_tupK (K := K) rfl) (pv 0) pe_int (fun _ _ => rfl)) (by rfl))) (fun _ _ _ _ _ => pv 2)) (pe_lst pa_nil) (by rfl)) (pss_one (ps_ret pe_bl)) pss_nil)
        (pss_cons (ps_for PassesOwn.never rfl (pi_tup (pe_ix ix_tup (pv 1) pe_int (fun _ _ => rfl))) (pg_tup (n := 2) rfl (pgs_cons (pg_name (i := 3) scLF.nd rfl (Or.inr rfl)) (pgs_cons (pg_name (i := 4) scLF.nd rfl (Or.inr rfl)) pgs_nil)))
          (pss_one ps_never))
        (pss_one (ps_ret pe_bl))), ?_⟩
      obtain ⟨p1, va, pb0, xb0, rfl, e1, qa, e2, ab0⟩ := dq_node hv
      obtain ⟨p2, wa, pw0, xw0, rfl, f1, qb, f2, aw0⟩ := dq_node hw
      obtain ⟨am, rfl, em⟩ := dq_mk qa
      obtain ⟨an, rfl, en⟩ := dq_mk qb
      refine ⟨_, rfl, p2, _, 0, .ref an, rfl, rfl, SqT.of f1, atI_nat (j := 0) rfl, an, rfl, ⟨_, SqT.of en⟩, fun D nD => ?_⟩
      refine lc_it (walk_tup (xs := mp.map V.str)) (fun i H' => ∃ acc : List V, Same H H' ∧ H' D = some (.lst acc) ∧ acc.length ≤ i ∧ acc.isEmpty = hasL mt (mp.take i)) ⟨[], same_new nD, upd_same, Nat.le_refl _, rfl⟩ (fun i H' _ ⟨_, s, _⟩ => SqT.of (s _ _ en)) ?_ ?_
      · rintro i y H5 H6 hi ⟨acc, s5, hd, hl, he⟩ ⟨rfl, hx⟩
        rw [List.length_map] at hi
        obtain ⟨x, hx', rfl⟩ : ∃ x, mp[i]? = some x ∧ y = .str x := by
          rw [List.getElem?_map] at hx
          obtain ⟨x, h1, h2⟩ := Option.map_eq_some_iff.mp hx
          exact ⟨x, h1, h2.symm⟩
        have tk : hasL mt (mp.take (i + 1)) = (hasL mt (mp.take i) && decide (x ∈ mt)) := by
          unfold hasL
          rw [List.take_add_one, hx', List.all_append]
          simp
        refine ⟨rfl, _, rfl, _, rfl, p1, _, 0, .ref am, rfl, rfl, SqT.of (s5 _ _ e1), atI_nat (j := 0) rfl, am, _, rfl, .inr (SqT.of (s5 _ _ em)), rfl, flat_strs _, _, rfl, ?_⟩
        rw [in_strs]
        cases hm : decide (x ∈ mt) with
        | true => exact iteF ⟨acc, s5, hd, by omega, by rw [tk, hm, Bool.and_true]; exact he⟩
        | false =>
          refine iteT ⟨_, rfl, acc, hd, small1000 (by omega), acc ++ [.str x], same_put s5 nD, upd_same, ?_, ?_⟩
          · rw [List.length_append, List.length_singleton]
            omega
          · rw [tk, hm, Bool.and_false]
            cases acc <;> rfl
      rintro H5 ⟨acc, s5, hd, hl, he⟩
      rw [List.length_map, List.take_length] at he
      refine ⟨Nat.zero_le _, fun pl npl => ⟨D, pl, acc, rfl, rfl, SqL.of (same_new npl _ _ hd), SqL.of upd_same, _, rfl, ?_⟩⟩
      rw [he]
      cases hM : hasL mt mp with
      | false =>
        rw [hM] at kk
        exact iteT (kk _ (same_trans s5 (same_new npl)))
      | true =>
      rw [hM] at kk
      refine iteF ?_
      have s6 := same_trans s5 (same_new (o := .lst []) npl)
      generalize upd H5 pl (HO.lst []) = H6 at s6
      obtain rfl : bp = [] := hbp
      cases aw0
      refine ⟨_, rfl, p2, _, 1, .ref pw0, rfl, rfl, SqT.of (s6 _ _ f1), atI_nat (j := 1) rfl, pw0, rfl, ⟨_, SqT.of (s6 _ _ f2)⟩, ?_⟩
      refine for_tup (xs := []) (fun i σ' H' => Same H H') s6 (fun i σ H' _ s => SqT.of (s _ _ f2)) (fun i x σ' H' hx => by cases hx) ?_
      intro σ' H7 s7
      exact kk H7 s7
  | succ n ih =>
    refine F.ok (k := 1 + n) scLF (fun vs H Q E h => ?_) (fun cdv A outer s H vs Q E hr h => ?_)
    · obtain ⟨v, w, mt, mp, bt, bp, k, rfl, _⟩ := h
      rfl
    · obtain ⟨v, w', mt, mp, bt, bp, k, rfl, hv, hw, b1, hbt, hbp, kk⟩ := h
      have hu1 : (A.deeper (PyProof.Rows.envOfC "_law_fits" (defScope sFits) s.heap.objs.size f cdv)).units < cLine := by have := hr.un; omega
      refine ⟨_, pss_cons (ps_if (pt_cmpR (NI.op_neNil hu1) (pe_lc (own := [("mark", 2)]) (g := gName 2) rfl scLF.nd (pi_tup (pe_ix ix_tup (pv 1) pe_int (fun _ _ => rfl))) (blkOk_by (own := [("mark", 2)]) (N := nLF) (sc := defScope sFits) (by decide +kernel))
            (fun _ _ _ _ _ => pg_name (i := 2) scLF.nd rfl (Or.inl rfl)) (fun _ _ _ _ _ => pts_one (pt_cmpR (op_notInK (K := K) rfl) (pv 2) (pe_ix (ix_tupK (K := K) rfl) (pv 0) pe_int (fun _ _ => rfl)) (by rfl))) (fun _ _ _ _ _ => pv 2)) (pe_lst pa_nil) (by rfl)) (pss_one (ps_ret pe_bl)) pss_nil)
        (pss_cons (ps_for PassesOwn.never rfl (pi_tup (pe_ix ix_tup (pv 1) pe_int (fun _ _ => rfl))) (pg_tup (n := 2) rfl (pgs_cons (pg_name (i := 3) scLF.nd rfl (Or.inr rfl)) (pgs_cons (pg_name (i := 4) scLF.nd rfl (Or.inr rfl)) pgs_nil)))
          (pss_one (ps_if (pt_cmpR (NI.op_eqNil hu1) (pe_lc (own := [("far", 5), ("lower", 6)]) (g := gTup K 2 (gCons (gName 5) (gCons (gName 6) gNil))) rfl scLF.nd (pi_tup (pe_ix ix_tup (pv 0) pe_int (fun _ _ => rfl))) (blkOk_by (own := [("far", 5), ("lower", 6)]) (N := nLF) (sc := defScope sFits) (by decide +kernel))
              (fun _ _ _ _ _ => pg_tup (n := 2) rfl (pgs_cons (pg_name (i := 5) scLF.nd rfl (Or.inl rfl)) (pgs_cons (pg_name (i := 6) scLF.nd rfl (Or.inl rfl)) pgs_nil))) (fun _ _ _ _ _ => pts_one (PW.pt (pw_and (pt_cmpR op_eq (pv 5) (pv 3) (by rfl)) (pw_and1 (pt_val (pe_call ih hr (by rfl) gF F.kp bF .nil pass0 (pa_cons (pv 6) (pa_cons (pv 4) pa_nil)))))))) (fun _ _ _ _ _ => pe_int)) (pe_lst pa_nil) (by rfl)) (pss_one (ps_ret pe_bl)) pss_nil)))
        (pss_one (ps_ret pe_bl))), ?_⟩
      obtain ⟨p1, va, pb0, xb0, rfl, e1, qa, e2, ab0⟩ := dq_node hv
      obtain ⟨p2, wa, pw0, xw0, rfl, f1, qb, f2, aw0⟩ := dq_node hw
      obtain ⟨am, rfl, em⟩ := dq_mk qa
      obtain ⟨an, rfl, en⟩ := dq_mk qb
      refine ⟨_, rfl, p2, _, 0, .ref an, rfl, rfl, SqT.of f1, atI_nat (j := 0) rfl, an, rfl, ⟨_, SqT.of en⟩, fun D nD => ?_⟩
      refine lc_it (walk_tup (xs := mp.map V.str)) (fun i H' => ∃ acc : List V, Same H H' ∧ H' D = some (.lst acc) ∧ acc.length ≤ i ∧ acc.isEmpty = hasL mt (mp.take i)) ⟨[], same_new nD, upd_same, Nat.le_refl _, rfl⟩ (fun i H' _ ⟨_, s, _⟩ => SqT.of (s _ _ en)) ?_ ?_
      · rintro i y H5 H6 hi ⟨acc, s5, hd, hl, he⟩ ⟨rfl, hx⟩
        rw [List.length_map] at hi
        obtain ⟨x, hx', rfl⟩ : ∃ x, mp[i]? = some x ∧ y = .str x := by
          rw [List.getElem?_map] at hx
          obtain ⟨x, h1, h2⟩ := Option.map_eq_some_iff.mp hx
          exact ⟨x, h1, h2.symm⟩
        have tk : hasL mt (mp.take (i + 1)) = (hasL mt (mp.take i) && decide (x ∈ mt)) := by
          unfold hasL
          rw [List.take_add_one, hx', List.all_append]
          simp
        refine ⟨rfl, _, rfl, _, rfl, p1, _, 0, .ref am, rfl, rfl, SqT.of (s5 _ _ e1), atI_nat (j := 0) rfl, am, _, rfl, .inr (SqT.of (s5 _ _ em)), rfl, flat_strs _, _, rfl, ?_⟩
        rw [in_strs]
        cases hm : decide (x ∈ mt) with
        | true => exact iteF ⟨acc, s5, hd, by omega, by rw [tk, hm, Bool.and_true]; exact he⟩
        | false =>
          refine iteT ⟨_, rfl, acc, hd, small1000 (by omega), acc ++ [.str x], same_put s5 nD, upd_same, ?_, ?_⟩
          · rw [List.length_append, List.length_singleton]
            omega
          · rw [tk, hm, Bool.and_false]
            cases acc <;> rfl
      rintro H5 ⟨acc, s5, hd, hl, he⟩
      rw [List.length_map, List.take_length] at he
      refine ⟨Nat.zero_le _, fun pl npl => ⟨D, pl, acc, rfl, rfl, SqL.of (same_new npl _ _ hd), SqL.of upd_same, _, rfl, ?_⟩⟩
      rw [he]
      cases hM : hasL mt mp with
      | false =>
        rw [hM] at kk
        exact iteT (kk _ (same_trans s5 (same_new npl)))
      | true =>
      rw [hM] at kk
      refine iteF ?_
      have s6 := same_trans s5 (same_new (o := .lst []) npl)
      generalize upd H5 pl (HO.lst []) = H6 at s6
      refine ⟨_, rfl, p2, _, 1, .ref pw0, rfl, rfl, SqT.of (s6 _ _ f1), atI_nat (j := 1) rfl, pw0, rfl, ⟨_, SqT.of (s6 _ _ f2)⟩, ?_⟩
      refine for_tup (xs := xw0) (fun i σ' H' => ∃ w2 w3 w4 w5 w6, σ' = [some (.ref p1), some (.ref p2), w2, w3, w4, w5, w6] ∧ Same H H' ∧ (bp.take i).all (fun w => bt.any (brf n w)) = true) ⟨_, _, _, _, _, rfl, s6, rfl⟩ (fun i σ H' _ ⟨_, _, _, _, _, _, s, _⟩ => SqT.of (s _ _ f2)) ?_ ?_
      · rintro i x σ' H7 hx ⟨w2, w3, w4, w5, w6, rfl, s7, hall⟩
        have lw : xw0.length = bp.length := aw0.len
        have hi : i < bp.length := by
          have := (List.getElem?_eq_some_iff.mp hx).1
          omega
        have hb : bp[i]? = some bp[i] := List.getElem?_eq_getElem hi
        obtain ⟨k', u, ms, cs, ek, ew, hu, hms, hcs⟩ := hbp.at hb
        obtain rfl : n = k' := by omega
        obtain ⟨vw, hvw, qw⟩ := aw0.at hb
        rw [hx] at hvw
        obtain rfl : x = vw := Option.some.inj hvw
        rw [ew] at qw hb
        obtain ⟨pj, qj, aj, bj, xj, rfl, w1, w2', w3', w4', w5'⟩ := dq_br qw
        have qbelow : Dq H (.ref qj) (.tuple [.tuple (ms.map PyData.str), .tuple cs]) := .tup w2' (.cons w3' (.cons (.tup w4' w5') .nil))
        have tk : (bp.take (i + 1)).all (fun w => bt.any (brf n w)) = bt.any (brf n (.tuple [.str u, .tuple [.tuple (ms.map PyData.str), .tuple cs]])) := by
          rw [List.take_add_one, hb, List.all_append, hall, Bool.true_and]
          simp
        refine ⟨pj, _, rfl, SqT.of (s7 _ _ w1), rfl, _, _, rfl, _, _, rfl, rfl, ?_⟩
        refine ⟨_, rfl, p1, _, 1, .ref pb0, rfl, rfl, SqT.of (s7 _ _ e1), atI_nat (j := 1) rfl, pb0, rfl, ⟨_, SqT.of (s7 _ _ e2)⟩, fun D2 nD2 => ?_⟩
        have hD2 : H D2 = none := same_out s7 nD2
        refine lc_it (walk_tup (xs := xb0)) (fun j H' => ∃ acc : List V, Same H H' ∧ H' D2 = some (.lst acc) ∧ acc.length ≤ j ∧ acc.isEmpty = !((bt.take j).any (brf n (.tuple [.str u, .tuple [.tuple (ms.map PyData.str), .tuple cs]])))) ⟨[], same_trans s7 (same_new nD2), upd_same, Nat.le_refl _, rfl⟩ (fun j H' _ ⟨_, s, _⟩ => SqT.of (s _ _ e2)) ?_ ?_
        · rintro j y H8 H9 hj ⟨acc, s8, hd8, hl8, he8⟩ ⟨rfl, hy⟩
          have lb : xb0.length = bt.length := ab0.len
          have l100 := hbt.len
          have hbj : bt[j]? = some bt[j] := List.getElem?_eq_getElem (by omega)
          obtain ⟨kb', ui, mi, ci, ekb, ebi, hui, hmi, hci⟩ := hbt.at hbj
          obtain ⟨vb, hvb, qbj⟩ := ab0.at hbj
          rw [hy] at hvb
          obtain rfl : y = vb := Option.some.inj hvb
          rw [ebi] at qbj hbj
          obtain ⟨pi, qi, ai, bi, xi, rfl, z1, z2, z3, z4, z5⟩ := dq_br qbj
          have qlow : Dq H (.ref qi) (.tuple [.tuple (mi.map PyData.str), .tuple ci]) := .tup z2 (.cons z3 (.cons (.tup z4 z5) .nil))
          have tj : (bt.take (j + 1)).any (brf n (.tuple [.str u, .tuple [.tuple (ms.map PyData.str), .tuple cs]])) = ((bt.take j).any (brf n (.tuple [.str u, .tuple [.tuple (ms.map PyData.str), .tuple cs]])) || (decide (ui = u) && (hasL mi ms && fitL n ci cs))) := by
            rw [List.take_add_one, hbj, List.any_append]
            have m1 : mkS (.tuple [.tuple (mi.map PyData.str), .tuple ci]) = mi := strsOf_map mi
            have m2 : mkS (.tuple [.tuple (ms.map PyData.str), .tuple cs]) = ms := strsOf_map ms
            have b1 : brf n (.tuple [.str u, .tuple [.tuple (ms.map PyData.str), .tuple cs]]) (.tuple [.str ui, .tuple [.tuple (mi.map PyData.str), .tuple ci]]) = (decide (ui = u) && (hasL mi ms && fitL n ci cs)) := by
              rw [brf_eq]
              show (decide (ui = u) && hasL (mkS (.tuple [.tuple (mi.map PyData.str), .tuple ci])) (mkS (.tuple [.tuple (ms.map PyData.str), .tuple cs])) && fitL n ci cs) = _
              rw [m1, m2, Bool.and_assoc]
            simp only [Option.toList_some, List.any_cons, List.any_nil, Bool.or_false, b1]
          have dd : decide (V.str ui = V.str u) = decide (ui = u) := decide_eq_decide.mpr ⟨fun z => V.str.inj z, fun z => by rw [z]⟩
          refine ⟨pi, _, rfl, SqT.of (s8 _ _ z1), rfl, _, _, rfl, _, _, rfl, rfl, rfl, ?_⟩
          refine ⟨_, rfl, _, rfl, rfl, _, rfl, ?_⟩
          rw [dd]
          cases hu' : decide (ui = u) with
          | false => exact iteF (iteF ⟨acc, s8, hd8, by omega, by rw [tj, hu', Bool.false_and, Bool.or_false]; exact he8⟩)
          | true =>
            refine iteT ⟨_, rfl, _, rfl, .ref qi, .ref qj, mi, ms, ci, cs, kb', rfl, qlow.same s8, qbelow.same s8, by have := hms.1; omega, hci, hcs, fun H10 s10 => ⟨_, rfl, ?_⟩⟩
            cases hf : (hasL mi ms && fitL n ci cs) with
            | false => exact iteF ⟨acc, same_trans s8 s10, s10 _ _ hd8, by omega, by rw [tj, hu', hf, Bool.and_false, Bool.or_false]; exact he8⟩
            | true =>
              refine iteT ⟨acc, s10 _ _ hd8, small1000 (by omega), acc ++ [.int 1], same_put (same_trans s8 s10) hD2, upd_same, ?_, ?_⟩
              · rw [List.length_append, List.length_singleton]
                omega
              · rw [tj, hu', hf, Bool.and_true, Bool.or_true]
                cases acc <;> rfl
        rintro H8 ⟨acc, s8, hd8, hl8, he8⟩
        rw [show xb0.length = bt.length from ab0.len, List.take_length] at he8
        refine ⟨Nat.zero_le _, fun pl npl => ⟨D2, pl, acc, rfl, rfl, SqL.of (same_new npl _ _ hd8), SqL.of upd_same, _, rfl, ?_⟩⟩
        rw [he8]
        have s9 := same_trans s8 (same_new (o := .lst []) npl)
        cases hA : bt.any (brf n (.tuple [.str u, .tuple [.tuple (ms.map PyData.str), .tuple cs]])) with
        | true => exact iteF ⟨_, _, _, _, _, rfl, s9, by rw [tk, hA]⟩
        | false =>
          refine iteT ?_
          have z := kk _ s9
          have y : fitL (n + 1) bt bp = false := by
            cases e : fitL (n + 1) bt bp with
            | false => rfl
            | true =>
              have := List.all_eq_true.mp e _ (List.mem_of_getElem? hb)
              rw [hA] at this
              cases this
          rw [y] at z
          exact z
      · rintro σ' H7 ⟨w2, w3, w4, w5, w6, rfl, s7, hall⟩
        rw [show xw0.length = bp.length from aw0.len, List.take_length] at hall
        have z := kk H7 s7
        have y : fitL (n + 1) bt bp = true := hall
        rw [y] at z
        exact z
end
end FM
set_option Elab.async false
set_option linter.all false
set_option maxRecDepth 100000
set_option maxHeartbeats 4000000
namespace FM
open PySem L2 L2H DQ K01
/-! trees of three marks -/
def Ab (ms : List Str) : Prop := ms.Nodup ∧ ∀ x ∈ ms, x ∈ abc3
def Bb : Nat → List PyData → Prop
  | 0, bs => bs = []
  | k + 1, bs => bs.length ≤ 6 ∧ ∀ b ∈ bs, ∃ u ms cs, b = .tuple [.str u, .tuple [.tuple (ms.map PyData.str), .tuple cs]] ∧ smS u ∧ Ab ms ∧ Bb k cs
theorem ab_of {ms : List Str} (h : ms.Sublist abc3) : Ab ms := ⟨h.nodup (by decide +kernel), fun x hx => h.subset hx⟩
theorem nodup_len {α : Type} [DecidableEq α] : ∀ {l r : List α}, l.Nodup → (∀ x ∈ l, x ∈ r) → l.length ≤ r.length
  | [], _, _, _ => Nat.zero_le _
  | x :: l, r, hn, hs => by
    have hx := hs x (List.mem_cons_self ..)
    obtain ⟨n1, n2⟩ := List.nodup_cons.mp hn
    have z := nodup_len (l := l) (r := r.erase x) n2 fun y hy => (List.mem_erase_of_ne fun e => n1 (by rw [← e]; exact hy)).mpr (hs y (List.mem_cons_of_mem _ hy))
    rw [List.length_erase_of_mem hx] at z
    have : 0 < r.length := List.length_pos_of_mem hx
    rw [List.length_cons]
    omega
theorem Ab.len {ms : List Str} (h : Ab ms) : ms.length ≤ 3 := (nodup_len h.1 h.2 : ms.length ≤ abc3.length)
theorem Ab.mk {ms : List Str} (h : Ab ms) : Mk 3 ms := ⟨h.len, fun x hx => abc_sm (h.2 x hx)⟩
theorem Bb.len : ∀ {k : Nat} {bs : List PyData}, Bb k bs → bs.length ≤ 6
  | 0, _, h => by
    obtain rfl : _ = _ := h
    exact Nat.zero_le _
  | _ + 1, _, h => h.1
theorem Bb.brs : ∀ {k : Nat} {bs : List PyData}, Bb k bs → Brs k bs
  | 0, _, h => h
  | k + 1, _, h => ⟨by have := h.1; omega, fun b hb => by
    obtain ⟨u, ms, cs, e, h1, h2, h3⟩ := h.2 b hb
    exact ⟨u, ms, cs, e, h1, h2.mk, h3.brs⟩⟩
theorem Bb.up : ∀ {k : Nat} {bs : List PyData}, Bb k bs → ∀ {j : Nat}, k ≤ j → Bb j bs
  | 0, _, h, j, _ => by
    obtain rfl : _ = _ := h
    cases j with
    | zero => exact rfl
    | succ j => exact ⟨Nat.zero_le _, fun b hb => absurd hb List.not_mem_nil⟩
  | k + 1, _, h, j + 1, hj => ⟨h.1, fun b hb => by
    obtain ⟨u, ms, cs, e, h1, h2, h3⟩ := h.2 b hb
    exact ⟨u, ms, cs, e, h1, h2, h3.up (by omega)⟩⟩
/-- a tree: root with three branches at most -/
def Gt (k : Nat) (d : PyData) : Prop := ∃ ms bs, d = .tuple [.tuple (ms.map PyData.str), .tuple bs] ∧ Ab ms ∧ Bb k bs ∧ bs.length ≤ 3
theorem Gt.up {k j : Nat} {d : PyData} (h : Gt k d) (hj : k ≤ j) : Gt j d := by
  obtain ⟨ms, bs, e, h1, h2, h3⟩ := h
  exact ⟨ms, bs, e, h1, h2.up hj, h3⟩
theorem Gt.gr {k : Nat} {d : PyData} (h : Gt k d) : Gr 3 k d := by
  obtain ⟨ms, bs, e, h1, h2, h3⟩ := h
  exact ⟨ms, bs, e, h1.mk, h2.brs⟩
mutual
theorem gt_of : ∀ {k n : Nat} {d : PyData} {c : Nat}, Tc k n c d → c = 0 → Gt k d
  | k, n, _, c, .mk (ms := ms) (bs := bs) (c0 := c0) hm hl hr hb e1 e2, hc => by
    have z : c0 = 0 := by omega
    have y := bb_of hb (by omega)
    rcases hr with ⟨rfl, _⟩ | ⟨rfl, h1⟩
    · exact ⟨ms, bs, rfl, ab_of hm, y (by omega), hl⟩
    · omega
theorem bb_of : ∀ {k n c : Nat} {bs : List PyData}, TcB k n c bs → c = 0 → bs.length ≤ 6 → Bb k bs
  | k, _, _, _, .nil, _, _ => Bb.up (k := 0) (show Bb 0 [] from rfl) (Nat.zero_le _)
  | _, _, _, _, .cons (k := k) (u := u) (t := t) (bs := bs) hu ht hb e1 e2, hc, hl => by
    obtain ⟨ms, cs, et, h1, h2, _⟩ := gt_of ht (by omega)
    have y := bb_of hb (by omega) (by rw [List.length_cons] at hl; omega)
    refine ⟨hl, fun b hb' => ?_⟩
    rcases List.mem_cons.mp hb' with rfl | hb'
    · exact ⟨u, ms, cs, by rw [et], ef_sm hu, h1, h2⟩
    · exact y.2 b hb'
end
/-- what comes of a body with a tree put at its call -/
def Rp (k : Nat) (d r : PyData) : Prop := ∃ ms bs, r = .tuple [.tuple (ms.map PyData.str), .tuple bs] ∧ Ab ms ∧ Bb k bs ∧ (∀ a b, d = .tuple [a, b] → bs.length ≤ 3)
def spPut (k j : Nat) : Sp := fun vs H Q _ => ∃ (v w : V) (d t : PyData) (n c : Nat), vs = [v, w] ∧ Dq H v d ∧ Tc k n c d ∧ c ≤ 1 ∧ Dq H w t ∧ Gt j t ∧ ∀ r e H', Same H H' → Dq H' r e → Rp (k + j) d e → Q r H'
def spPutX : Nat → Nat → Sp
  | 0, _ => fun _ _ _ _ => False
  | k + 1, j => spPut k j
theorem fn_never {P : Program} {w : World} {K : PySem.W.Frag} {mg : Str → Option Value} {base : Heap} {k : Nat} {f : Addr} {fd : FuncData} {ps : List Str} : FnOk P w K mg base CX0 k f fd ps (fun _ _ _ _ => False) :=
  ⟨fun _ _ _ _ h => h.elim, fun _ _ _ _ _ _ _ _ _ _ _ _ _ h => h.elim⟩
theorem ab_join {ms mt ns : List Str} (h1 : Ab ms) (h2 : Ab mt) (h : ns.Perm (SX.pack (ms ++ mt))) : Ab ns := by
  refine ⟨h.nodup_iff.mpr (SX.pack_nodup _), fun x hx => ?_⟩
  have := SX.pack_mem.mp (h.mem_iff.mp hx)
  rcases List.mem_append.mp this with y | y
  · exact h1.2 x y
  · exact h2.2 x y
structure TS2 (mg : Str → Option Value) : Prop where
  tm : TM mg
  sorted : mg "sorted" = none
  tuple : mg "tuple" = none
abbrev nPu : List Str := ["body", "tree", "word", "below"]
section
variable {P : Program} {w : World} {K : PySem.W.Frag} {mg : Str → Option Value} {base : Heap}
theorem scPu : FnScope nPu ["body", "tree"] (defScope sPut) := ⟨rfl, rfl, rfl, by decide +kernel, rfl, by decide +kernel, by decide +kernel⟩
theorem ok_put {f : Addr} {fd : FuncData} (F : Fun K "_law_put" "_law_put" sPut f fd) (bF : Binds K fd ["body", "tree"] []) (gF : mg "_law_put" = some (.ref f)) (T : TS2 mg) (j : Nat) : ∀ k, FnOk P w K mg base CX0 (1 + k) f fd ["body", "tree"] (spPutX k j) := by
  intro k
  induction k with
  | zero => exact fn_never
  | succ k ih =>
    refine F.ok (k := 1 + k) scPu (fun vs H Q E h => ?_) (fun cdv A outer s H vs Q E hr h => ?_)
    · obtain ⟨v, w', d, t, n, c, rfl, _⟩ := h
      rfl
    · obtain ⟨v, w', d, t, n, c, rfl, hv, hd, hc, hw, ht, kk⟩ := h
      refine ⟨_, pss_cons (ps_if (pt_cmpR op_eq (pe_callB call_len_seq (by rfl) T.tm.len PySem.boot_len (pa_cons (pv 0) pa_nil)) pe_int (by rfl))
          (pss_one (ps_ret (pe_tup (pa_cons (pe_callTy call_tuple_of (by rfl) T.tuple btup (pa_cons (pe_callB (cr_sortP (P := P) (w := w) rfl rfl rfl) (by rfl) T.sorted bsorted (pa_cons (pe_callTy (cr_setP (P := P) (w := w) (K := K) rfl rfl rfl rfl) (by rfl) T.tm.set bset (pa_cons (pe_op op_catF (pe_ix ix_tup (pv 0) pe_int (fun _ _ => rfl)) (pe_ix ix_tup (pv 1) pe_int (fun _ _ => rfl))) pa_nil)) pa_nil)) pa_nil))
            (pa_cons (pe_op op_catF (pe_ix ix_tup (pv 0) pe_int (fun _ _ => rfl)) (pe_ix ix_tup (pv 1) pe_int (fun _ _ => rfl))) pa_nil))))) pss_nil)
        (pss_one (ps_ret (pe_tup (pa_cons (pe_ix ix_tup (pv 0) pe_int (fun _ _ => rfl)) (pa_cons (pe_callTy call_tuple_of (by rfl) T.tuple btup (pa_cons (pe_lc (own := [("word", 2), ("below", 3)]) (g := gTup K 2 (gCons (gName 2) (gCons (gName 3) gNil))) rfl scPu.nd (pi_tup (pe_ix ix_tup (pv 0) pe_int (fun _ _ => rfl))) (blkOk_by (own := [("word", 2), ("below", 3)]) (N := nPu) (sc := defScope sPut) (by decide +kernel))
          (fun _ _ _ _ _ => pg_tup (n := 2) rfl (pgs_cons (pg_name (i := 2) scPu.nd rfl (Or.inl rfl)) (pgs_cons (pg_name (i := 3) scPu.nd rfl (Or.inl rfl)) pgs_nil))) (fun _ _ _ _ _ => pts_nil) (tt := tYes) (fun _ _ _ _ _ => pe_tup (pa_cons (pv 2) (pa_cons (pe_call ih hr (by rfl) gF F.kp bF .nil pass0 (pa_cons (pv 3) (pa_cons (pv 1) pa_nil))) pa_nil)))) pa_nil)) pa_nil))))), ?_⟩
      obtain ⟨mt, bt, rfl, amt, bbt, l3⟩ := ht
      obtain ⟨pt, vt, pbt, xbt, rfl, t1, qt, t2, abt⟩ := dq_node hw
      obtain ⟨amt', rfl, emt⟩ := dq_mk qt
      cases hd with
      | @mk _ _ _ n0 c0 c1 ms bs r hm hl hrr hb en ec =>
      obtain ⟨pd, xd, rfl, d1, da⟩ := dq_tup hv
      cases da with
      | cons qm da =>
      cases da with
      | cons qb da =>
      obtain ⟨am, rfl, em⟩ := dq_mk qm
      obtain ⟨pb, xb, rfl, eb, ab⟩ := dq_tup qb
      rcases hrr with ⟨rfl, h0⟩ | ⟨rfl, h1⟩
      · cases da
        refine ⟨_, rfl, pd, _, rfl, .inr (SqT.of d1), rfl, _, rfl, iteF ?_⟩
        refine ⟨_, rfl, pd, _, 0, .ref am, rfl, rfl, SqT.of d1, atI_nat (j := 0) rfl, ?_⟩
        refine ⟨_, rfl, pd, _, 1, .ref pb, rfl, rfl, SqT.of d1, atI_nat (j := 1) rfl, pb, rfl, ⟨_, SqT.of eb⟩, fun D nD => ?_⟩
        have lb : xb.length = bs.length := ab.len
        refine lc_it (walk_tup (xs := xb)) (fun i H' => ∃ (acc : List V) (ds : List PyData), Same H H' ∧ H' D = some (.lst acc) ∧ acc.length ≤ i ∧ DqAll H' acc ds ∧ tupA ds = true ∧ ds.length = i ∧ ∀ b ∈ ds, ∃ k' u ms cs, k = k' + 1 ∧ b = .tuple [.str u, .tuple [.tuple (ms.map PyData.str), .tuple cs]] ∧ smS u ∧ Ab ms ∧ Bb (k' + j) cs)
          ⟨[], [], same_new nD, upd_same, Nat.le_refl _, .nil, rfl, rfl, fun b hb => absurd hb List.not_mem_nil⟩ (fun i H' _ ⟨_, _, s, _⟩ => SqT.of (s _ _ eb)) ?_ ?_
        · rintro i y H5 H6 hi ⟨acc, ds, s5, hdd, hla, hda, htu, hld, hgood⟩ ⟨rfl, hx⟩
          obtain ⟨k', u, tt, n1, c1', na, ca, nb, cb, ek, hbi, hu, htt, _, _, _, ecc⟩ := hb.cut (j := i) (by omega)
          subst ek
          obtain ⟨vi, hvi, qi⟩ := ab.at hbi
          rw [hx] at hvi
          obtain rfl : y = vi := Option.some.inj hvi
          obtain ⟨pi, vu, vtt, rfl, epi, qu, qtt⟩ := dq_pair qi
          refine ⟨pi, _, rfl, SqT.of (s5 _ _ epi), rfl, _, _, rfl, _, _, rfl, rfl, rfl, ?_⟩
          unfold tYes
          refine iteT ?_
          refine ⟨_, rfl, _, rfl, _, rfl, vtt, .ref pt, tt, .tuple [.tuple (mt.map PyData.str), .tuple bt], n1, c1', rfl, qtt.same s5, htt, by omega, hw.same s5, ⟨mt, bt, rfl, amt, bbt, l3⟩, fun rr er H7 s7 q7 hrp => ?_⟩
          obtain ⟨mr, br, rfl, hmr, hbr, _⟩ := hrp
          refine ⟨by show 2 ≤ sizeLine; decide, fun p2 np2 => ⟨acc, same_new np2 _ _ (s7 _ _ hdd), small1000 (by omega), acc ++ [.ref p2], ds ++ [.tuple [.str u, .tuple [.tuple (mr.map PyData.str), .tuple br]]], ?_, upd_same, ?_, ?_, ?_, ?_, ?_⟩⟩
          · exact same_put (same_trans s5 (same_trans s7 (same_new np2))) nD
          · rw [List.length_append, List.length_singleton]
            omega
          · have tA : tupA (ds ++ [.tuple [.str u, .tuple [.tuple (mr.map PyData.str), .tuple br]]]) = true := by
              refine tupA_iff.mpr fun d hd => ?_
              rcases List.mem_append.mp hd with hd | hd
              · exact tupA_iff.mp htu d hd
              · rw [List.mem_singleton.mp hd]
                simp only [tupO, tupA, tup_strs, hbr.brs.tup, Bool.and_self]
            refine DqAll.tups (H := upd H7 p2 (.tup [vu, rr])) (Kt.put (same_new np2 _ _ (s7 _ _ hdd))) ?_ tA
            exact ((hda.same s7).same (same_new np2)).app (.cons (.tup upd_same (.cons (((qu.same s5).same s7).same (same_new np2)) (.cons (q7.same (same_new np2)) .nil))) .nil)
          · refine tupA_iff.mpr fun d hd => ?_
            rcases List.mem_append.mp hd with hd | hd
            · exact tupA_iff.mp htu d hd
            · rw [List.mem_singleton.mp hd]
              simp only [tupO, tupA, tup_strs, hbr.brs.tup, Bool.and_self]
          · rw [List.length_append, List.length_singleton, hld]
          · intro b hb'
            rcases List.mem_append.mp hb' with hb' | hb'
            · exact hgood b hb'
            · rw [List.mem_singleton.mp hb']
              exact ⟨k', u, mr, br, rfl, rfl, ef_sm hu, hmr, hbr⟩
        · rintro H5 ⟨acc, ds, s5, hdd, hla, hda, htu, hld, hgood⟩
          refine ⟨D, _, rfl, .inl ⟨SqL.of hdd, fun p2 np2 => ⟨by show 2 ≤ sizeLine; decide, fun p3 np3 => ?_⟩⟩⟩
          have sB := same_trans s5 (same_trans (same_new (o := .tup acc) np2) (same_new (o := .tup [.ref am, .ref p2]) np3))
          refine kk (.ref p3) (.tuple [.tuple (ms.map PyData.str), .tuple ds]) _ sB (.tup upd_same (.cons (qm.same sB) (.cons (.tup (same_new np3 _ _ upd_same) (((hda.same (same_new np2)).same (same_new np3)))) .nil))) ⟨ms, ds, rfl, ab_of hm, ?_, fun _ _ _ => by omega⟩
          cases ds with
          | nil => exact Bb.up (k := 0) (show Bb 0 [] from rfl) (Nat.zero_le _)
          | cons d ds =>
            obtain ⟨k', _, _, _, ek, _⟩ := hgood d (List.mem_cons_self ..)
            subst ek
            rw [show k' + 1 + j = (k' + j) + 1 by omega]
            refine ⟨by omega, fun b hb' => ?_⟩
            obtain ⟨k2, u, mr, br, ek2, e2, h1, h2, h3⟩ := hgood b hb'
            obtain rfl : k' = k2 := by omega
            exact ⟨u, mr, br, e2, h1, h2, h3⟩
      · cases da with
        | cons qc da =>
        cases da
        refine ⟨_, rfl, pd, _, rfl, .inr (SqT.of d1), rfl, _, rfl, iteT ?_⟩
        refine ⟨_, rfl, pd, _, 0, .ref am, rfl, rfl, SqT.of d1, atI_nat (j := 0) rfl, _, rfl, pt, _, 0, .ref amt', rfl, rfl, SqT.of t1, atI_nat (j := 0) rfl, ?_⟩
        have lm := sub_len hm
        have lmt := amt.len
        refine ⟨am, amt', _, _, rfl, rfl, em, emt, by rw [List.length_map, List.length_map]; exact Nat.le_of_lt (small1000 (by omega)), fun p1 H1 s1 e1 => ?_⟩
        rw [← List.map_append] at e1
        refine ⟨p1, ms ++ mt, rfl, SqT.of e1, by rw [List.length_append]; omega, fun p2 np2 => ⟨p2, _, rfl, upd_same, ?_, fun ns p3 hs hp np3 => ?_⟩⟩
        · have := SX.pack_len (ms ++ mt)
          rw [List.length_append] at this
          omega
        · refine ⟨p3, _, rfl, .inl ⟨SqL.of upd_same, fun p4 np4 => ?_⟩⟩
          have sB := same_trans s1 (same_trans (same_new (o := SX.SetTO P w p2 (SX.pack (ms ++ mt))) np2) (same_trans (same_new (o := .lst (ns.map V.str)) np3) (same_new (o := .tup (ns.map V.str)) np4)))
          have e4 : upd (upd (upd H1 p2 (SX.SetTO P w p2 (SX.pack (ms ++ mt)))) p3 (.lst (ns.map V.str))) p4 (.tup (ns.map V.str)) p4 = some (.tup (ns.map V.str)) := upd_same
          generalize upd (upd (upd H1 p2 (SX.SetTO P w p2 (SX.pack (ms ++ mt)))) p3 (.lst (ns.map V.str))) p4 (.tup (ns.map V.str)) = H4 at sB e4
          have hns : Ab ns := ab_join (ab_of hm) amt hp
          refine ⟨_, rfl, pd, _, 1, .ref pb, rfl, rfl, SqT.of (sB _ _ d1), atI_nat (j := 1) rfl, _, rfl, pt, _, 1, .ref pbt, rfl, rfl, SqT.of (sB _ _ t1), atI_nat (j := 1) rfl, pb, pbt, _, _, rfl, rfl, sB _ _ eb, sB _ _ t2, ?_, fun p5 H5 s5 e5 => ⟨by show 2 ≤ sizeLine; decide, fun p6 np6 => ?_⟩⟩
          · have l1 : xb.length = bs.length := ab.len
            have l2 : xbt.length = bt.length := abt.len
            exact Nat.le_of_lt (small1000 (by omega))
          have sC := same_trans sB (same_trans s5 (same_new (o := .tup [.ref p4, .ref p5]) np6))
          refine kk (.ref p6) (.tuple [.tuple (ns.map PyData.str), .tuple (bs ++ bt)]) _ sC (.tup upd_same (.cons (.tup (same_new np6 _ _ (s5 _ _ e4)) (DqAll.strs ns fun x hx => ?_)) (.cons (.tup (same_new np6 _ _ e5) ((ab.same sC).app (abt.same sC))) .nil))) ⟨ns, bs ++ bt, rfl, hns, ?_, fun a b e => by cases e⟩
          · have := (abc_sm (hns.2 x hx))
            exact ⟨by rw [this.2]; decide, this.1⟩
          · have y1 := (bb_of hb (by omega) (by omega)).up (j := k + j) (by omega)
            have y2 := bbt.up (j := k + j) (by omega)
            cases hkj : k + j with
            | zero =>
              rw [hkj] at y1 y2
              obtain rfl : bs = [] := y1
              obtain rfl : bt = [] := y2
              rfl
            | succ m =>
              rw [hkj] at y1 y2
              refine ⟨by rw [List.length_append]; omega, fun b hb' => ?_⟩
              rcases List.mem_append.mp hb' with z | z
              · exact y1.2 b z
              · exact y2.2 b z
end
end FM
set_option Elab.async false
set_option linter.all false
set_option maxRecDepth 100000
set_option maxHeartbeats 4000000
/-! t[-2::-1] of a tuple that is not empty -/
namespace RT
open PySem PySem.Spec PyProof.Rows L2 HT
section
variable {prog : Program} {w : World} {A : Around} {E : Value → Shared → Prop} {s : Shared}
theorem applied_rev2 {sl : Addr} {u u2 : Tok} {n : Nat} {Q : Int × Int × Nat → Shared → Prop} (hs : s.heap.IsSliceOf sl (.int (-2) u2) .none (.int (-1) u)) (hn : 1 ≤ n) (h : Q ((n : Int) - 2, -1, n - 1) s) :
    wpAny (model prog w) A (Builtin.Slice.sliceApplied (.ref sl) (pure (n : Int))) Q E s := by
  obtain ⟨os, hos, hcs, hds⟩ := id hs
  unfold Builtin.Slice.sliceApplied Builtin.Slice.sliceFields
  refine wpAny_bind (wpAny_bind (wpAny_field hos hds (x := .int (-2) u2) rfl (wpAny_bind (wpAny_field hos hds (x := .none) rfl (wpAny_bind (wpAny_field hos hds (x := .int (-1) u) rfl (wpAny_pure ?_)))))))
  refine wpAny_bind (slicePart_int ?_)
  show wpAny _ _ (if ((-1 : Int) == 0) = true then _ else _) _ _ s
  rw [if_neg (by decide)]
  refine wpAny_bind (slicePart_int (wpAny_bind (slicePart_none (wpAny_bind (wpAny_pure ?_)))))
  have e : Builtin.Slice.sliceAdjust (some (-2)) none (-1) (n : Int) = ((n : Int) - 2, -1) := by
    unfold Builtin.Slice.sliceAdjust
    simp
    omega
  show wpAny _ _ (match Builtin.Slice.sliceAdjust (some (-2)) none (-1) (n : Int) with | (lo, hi) => pure (lo, (-1 : Int), Builtin.Slice.slicePlaces lo hi (-1))) _ _ s
  rw [e]
  show wpAny _ _ (pure ((n : Int) - 2, (-1 : Int), Builtin.Slice.slicePlaces ((n : Int) - 2) (-1) (-1))) _ _ s
  have p : Builtin.Slice.slicePlaces ((n : Int) - 2) (-1) (-1) = n - 1 := by
    unfold Builtin.Slice.slicePlaces
    simp
    omega
  rw [p]
  exact wpAny_pure h
theorem pick_rev2 (xs : Array Value) (h : 1 ≤ xs.size) : ((List.range (xs.size - 1)).filterMap fun (m : Nat) => xs[((xs.size : Int) - 2 + (m : Int) * -1).toNat]?).toArray = xs.toList.dropLast.reverse.toArray := by
  congr 1
  have ln : xs.toList.dropLast.length = xs.size - 1 := by rw [List.length_dropLast, Array.length_toList]
  have z := pick_run xs.toList.dropLast.reverse.toArray 0 (xs.size - 1)
  rw [List.filterMap_map] at z
  rw [List.drop_zero, List.take_of_length_le (by simp)] at z
  refine Eq.trans (fm_congr fun m hm => ?_) z
  have hm' : m < xs.size - 1 := List.mem_range.mp hm
  have e : ((xs.size : Int) - 2 + (m : Int) * -1).toNat = xs.size - 2 - m := by omega
  rw [e]
  show _ = (xs.toList.dropLast.reverse.toArray)[0 + m]?
  have e2 : (xs.toList.dropLast.reverse.toArray)[m]? = xs.toList.dropLast.reverse[m]? := by
    rw [← Array.getElem?_toList]
  rw [Nat.zero_add, e2, List.getElem?_reverse (by rw [ln]; exact hm'), ln, List.getElem?_dropLast]
  rw [if_pos (by rw [Array.length_toList]; omega), Array.getElem?_toList]
  congr 1
theorem getItem_rev2 {t sl : Addr} {items : Array Value} {u u2 : Tok} {Q : Value → Shared → Prop} (ht : IsTup s.heap t items) (hs : s.heap.IsSliceOf sl (.int (-2) u2) .none (.int (-1) u)) (hsz : items.size ≤ sizeLine) (h1 : 1 ≤ items.size)
    (h : Q (.ref s.heap.objs.size) { s with heap := s.heap.push { cls := .type "tuple", data := .seq items.toList.dropLast.reverse.toArray } }) : wpAny (model prog w) A (getItem (.ref t) (.ref sl)) Q E s := by
  obtain ⟨os, hos, hcs, hds⟩ := id hs
  have ts : s.TypeIs (.ref sl) "slice" := ⟨os, hos, hcs⟩
  unfold getItem
  try with_reducible refine wpAny_holding ?_
  first | refine wpAny_bind (wpAny_pure ?_) | skip
  refine wpAny_bind (wpAny_sequenceKey ht.typeIs (by decide) ?_)
  refine wpAny_bind (wpAny_callSpecial?_slot (name := Str.ofString "__getitem__") ht.typeIs PyProof.Rows.slot_tuple_getitem (wpAny_call_entry PyProof.Rows.slot_tuple_getitem ht.typeIs entry_tuple_getitem ?_ (args_tuple_getitem _ _)))
  show wpAny _ _ (Builtin.Tuple.tupleItemsOf (.ref t) >>= _) _ _ s
  refine wpAny_bind (tupleItemsOf_ ht (wpAny_bind (wpAny_typeOf ts ?_)))
  rw [if_pos (by decide)]
  refine wpAny_bind (applied_rev2 hs h1 ?_)
  have no : ¬ ((((items.size : Int) - 2) == 0 && (-1 : Int) == 1 && items.size - 1 == items.size) = true) := by simp
  show wpAny _ _ (if (((items.size : Int) - 2) == 0 && (-1 : Int) == 1 && items.size - 1 == items.size) = true then _ else _) _ _ s
  rw [if_neg no, pick_rev2 _ h1]
  have ok : sizeOk (.seq items.toList.dropLast.reverse.toArray) := by
    show items.toList.dropLast.reverse.toArray.size ≤ sizeLine
    simp
    omega
  first
    | exact wpAny_bind (m := Builtin.Tuple.tupleExact _) (wpAny_newObj_type (wpAny_pure ⟨_, rfl, wpAny_pure h⟩) ok)
    | exact wpAny_bind (m := Builtin.Tuple.tupleExact _) (wpAny_newObj_type (wpAny_bind (wpAny_pure (wpAny_pure ⟨_, rfl, wpAny_pure h⟩))) ok)
    | exact wpAny_bind (wpAny_bind (m := Builtin.Tuple.tupleExact _) (wpAny_newObj_type (wpAny_pure (wpAny_pure ⟨_, rfl, wpAny_pure h⟩)) ok))
    | exact wpAny_bind (wpAny_bind (m := Builtin.Tuple.tupleExact _) (wpAny_newObj_type (wpAny_pure ⟨_, rfl, wpAny_pure h⟩) ok))
end
section
variable {X : Cx}
theorem dropLast_vals : ∀ {xs : List V} {us : List Value}, Vals xs us → Vals xs.dropLast us.dropLast
  | _, _, .nil => .nil
  | _, _, .cons a .nil => .nil
  | _, _, .cons a (.cons b r) => .cons a (dropLast_vals (.cons b r))
def tRevT2 (te : TE) : TE := fun σ H Q => te σ H fun x H1 => ∃ a xs, x = .ref a ∧ H1 a = some (.tup xs) ∧ xs ≠ [] ∧ ∀ p, H1 p = none → Q (.ref p) (upd H1 p (.tup xs.dropLast.reverse))
theorem pe_revT2 {e : Expr} {te : TE} {k k0 : Nat} {p1 p2 p3 p4 p5 pos : Pos} (he : PE X e te) : PE X (.Subscript e (.Slice (some (.UnaryOp .USub (.Constant (.int 2) k0 p4) p5)) none (some (.UnaryOp .USub (.Constant (.int 1) k p1) p2)) p3) pos) (tRevT2 te) := by
  refine ⟨fun pins s σ H Q I h => Subscript_ (thn (he.run pins s σ H _ I h) fun v s1 ⟨x, H1, I1, r1, a, xs, ex, hx, hne, q⟩ => ?_)⟩
  subst ex
  cases r1
  have st : PO X (some (.UnaryOp .USub (.Constant (.int 1) k p1) p2)) (tPart (tUn (rU fun i => .int (-i)) (tC (.int 1)))) := po_some (pe_un un_neg pe_int)
  have sl : PO X (some (.UnaryOp .USub (.Constant (.int 2) k0 p4) p5)) (tPart (tUn (rU fun i => .int (-i)) (tC (.int 2)))) := po_some (pe_un un_neg pe_int)
  refine wpAny_Slice (thn (sl.run pins s1 σ H1 (fun o H2 => o = some (-2) ∧ H2 = H1) I1 ⟨2, rfl, -2, rfl, rfl, rfl⟩) fun vl s2 ⟨l, H2, I2, pl, el, e2⟩ => ?_)
  subst el e2
  refine thn (po_none.run pins s2 σ H2 (fun o H3 => o = none ∧ H3 = H2) I2 ⟨rfl, rfl⟩) fun vu s3 ⟨u, H3, I3, pu, eu, e3⟩ => ?_
  subst eu e3
  refine thn (st.run pins s3 σ H3 (fun o H4 => o = some (-1) ∧ H4 = H3) I3 ⟨1, rfl, -1, rfl, rfl, rfl⟩) fun vs s4 ⟨o, H4, I4, ps, eo, e4⟩ => ?_
  subst eo e4
  have I5 : Inv X pins σ H4 { s4 with heap := s4.heap.push { cls := .type "slice", data := .fields #[vl, vu, vs] } } := I4.kept (t' := s4.toks) fun b ob q => Heap.get?_push_of_some _ q
  obtain ⟨its, r, ht, hz⟩ := I5.tuple (SqT.of (K := X.K) hx)
  show wpAny (model X.prog X.w) X.A (subscriptTail e (.Slice (some (.UnaryOp .USub (.Constant (.int 2) k0 p4) p5)) none (some (.UnaryOp .USub (.Constant (.int 1) k p1) p2)) p3) (.ref a) (.ref s4.heap.objs.size)) (EP X pins σ Q) X.xe { s4 with heap := s4.heap.push { cls := .type "slice", data := .fields #[vl, vu, vs] } }
  cases pl
  cases pu
  cases ps
  refine tail_any (ops := [.ref a, .ref s4.heap.objs.size]) ht.typeIs (PyProof.Rows.slot_tuple_getitem.lookup) ?_ (by with_unfolding_all rfl)
  refine getItem_rev2 ht (Heap.IsSliceOf.new _ _ _ _) (by rw [List.size_toArray, ← r.length]; exact hz) (by rw [List.size_toArray, ← r.length]; exact List.length_pos_iff.mpr hne) ?_
  refine ⟨.ref _, _, I5.laid (t' := s4.toks) (o := .tup xs.dropLast.reverse) (fun b ob q => Heap.get?_push_of_some _ q) (Nat.le_refl _) ?_, rfl, q _ (I5.hok.fresh (Nat.le_refl _))⟩
  exact ⟨by rw [List.length_reverse, List.length_dropLast]; omega, its.dropLast.reverse, (dropLast_vals r).reverse, ⟨_, Heap.get?_push_size _ rfl, rfl, _, rfl⟩⟩
end
end RT
set_option Elab.async false
set_option linter.all false
set_option maxRecDepth 100000
set_option maxHeartbeats 4000000
namespace FM
open PySem L2 L2H DQ K01
def spPutA : Sp := fun vs H Q E => ∃ j, spPutX 4 j vs H Q E
def rowD (row : List Nat) : PyData := .tuple (row.map (fun (k : Nat) => PyData.int (k : Int)) ++ [.int 0])
def spUn : Sp := fun vs H Q _ => ∃ (e s r : V) (es ss : List PyData) (row : List Nat), vs = [e, s, r] ∧ Dq H e (.list es) ∧ (∀ d ∈ es, Gt 2 d) ∧ es ≠ [] ∧ Dq H s (.list ss) ∧ (∀ d ∈ ss, ∃ n, Tc 3 n 1 d ∧ ∃ a b, d = .tuple [a, b]) ∧ Dq H r (rowD row) ∧ (∀ k ∈ row, k < ss.length) ∧ row.length ≤ 4 ∧
  ∀ v d H', Same H H' → Dq H' v d → Gt 14 d → Q v H'
theorem dq_lst {H : Hp} {v : V} {ds : List PyData} (h : Dq H v (.list ds)) : ∃ p xs, v = .ref p ∧ H p = some (.lst xs) ∧ DqAll H xs ds := by
  cases h with
  | lst e a => exact ⟨_, _, rfl, e, a⟩
theorem dq_ints {H : Hp} : ∀ {row : List Nat} {xs : List V}, DqAll H xs (row.map (fun (k : Nat) => PyData.int (k : Int)) ++ [.int 0]) → xs = row.map (fun (k : Nat) => V.int (k : Int)) ++ [V.int 0]
  | [], _, .cons h .nil => by
    cases h
    rfl
  | m :: ms, _, .cons h t => by
    cases h
    rw [dq_ints t]
    rfl
abbrev nUn : List Str := ["ends", "steps", "row", "tree", "k"]
section
variable {P : Program} {w : World} {K : PySem.W.Frag} {mg : Str → Option Value} {base : Heap}
theorem ok_putA {f : Addr} {fd : FuncData} (F : Fun K "_law_put" "_law_put" sPut f fd) (bF : Binds K fd ["body", "tree"] []) (gF : mg "_law_put" = some (.ref f)) (T : TS2 mg) : FnOk P w K mg base CX0 5 f fd ["body", "tree"] spPutA :=
  ⟨fun vs H Q E ⟨j, h⟩ => (ok_put (P := P) (w := w) (base := base) F bF gF T j 4).len vs H Q E h, fun A outer s H args us vs Q E hr e0 hb hv ⟨j, h⟩ => (ok_put (P := P) (w := w) (base := base) F bF gF T j 4).run A outer s H args us vs Q E hr e0 hb hv h⟩
theorem scUn : FnScope nUn ["ends", "steps", "row"] (defScope sUnf) := ⟨rfl, rfl, rfl, by decide +kernel, rfl, by decide +kernel, by decide +kernel⟩
theorem ok_un {f fP : Addr} {fd dP : FuncData} (F : Fun K "_law_unfolded" "_law_unfolded" sUnf f fd) (FP : Fun K "_law_put" "_law_put" sPut fP dP) (bP : Binds K dP ["body", "tree"] []) (gP : mg "_law_put" = some (.ref fP)) (T : TS2 mg) : FnOk P w K mg base CX0 6 f fd ["ends", "steps", "row"] spUn := by
  have GP : FnOk P w K mg base CX0 5 fP dP ["body", "tree"] spPutA := ok_putA FP bP gP T
  refine F.ok scUn (fun vs H Q E h => ?_) (fun cdv A outer s H vs Q E hr h => ?_)
  · obtain ⟨e, s, r, es, ss, row, rfl, _⟩ := h
    rfl
  · obtain ⟨e, st, r, es, ss, row, rfl, he, hes, hne, hs, hss, hr', hrow, h4, kk⟩ := h
    refine ⟨_, pss_cons (ps_set (i := 3) scUn.nd rfl (Or.inl rfl) (pe_ix ix_list (pv 0) (pe_ix ix_tup (pv 2) (pe_un un_neg pe_int) (fun _ _ => rfl)) (fun _ _ => rfl)))
      (pss_cons (ps_for PassesOwn.never rfl (pi_tup (RT.pe_revT2 (pv 2))) (pg_name (i := 4) scUn.nd rfl (Or.inl rfl))
        (pss_one (ps_set (i := 3) scUn.nd rfl (Or.inl rfl) (pe_call GP hr (by rfl) gP FP.kp bP .nil pass0 (pa_cons (pe_ix ix_list (pv 1) (pv 4) (fun _ _ => rfl)) (pa_cons (pv 3) pa_nil))))))
      (pss_one (ps_ret (pv 3)))), ?_⟩
    obtain ⟨pe, xe, rfl, ee, ae⟩ := dq_lst he
    obtain ⟨ps, xs, rfl, e2, a2⟩ := dq_lst hs
    obtain ⟨pr, xr, rfl, e3, a3⟩ := dq_tup hr'
    have exr := dq_ints a3
    subst exr
    obtain ⟨d0, hd0⟩ : ∃ d0, es[0]? = some d0 := by
      cases es with
      | nil => exact absurd rfl hne
      | cons d _ => exact ⟨d, rfl⟩
    obtain ⟨v0, hv0, q0⟩ := ae.at hd0
    refine ⟨_, rfl, _, rfl, 1, rfl, pr, _, -1, .int 0, rfl, rfl, SqT.of e3, at_last _ _, pe, _, 0, v0, rfl, rfl, SqL.of ee, atI_nat (j := 0) hv0, ?_⟩
    refine ⟨_, rfl, pr, _, rfl, e3, by simp, fun p1 n1 => ⟨p1, rfl, ⟨_, SqT.of upd_same⟩, ?_⟩⟩
    rw [List.dropLast_concat]
    refine for_tup (xs := (row.map fun (k : Nat) => V.int (k : Int)).reverse) (fun i σ' H' => ∃ (v : V) (d : PyData) (w4 : Option V), σ' = [some (.ref pe), some (.ref ps), some (.ref pr), some v, w4] ∧ Same H H' ∧ H' p1 = some (.tup (row.map fun (k : Nat) => V.int (k : Int)).reverse) ∧ Dq H' v d ∧ Gt (2 + 3 * i) d)
      ⟨v0, d0, none, rfl, same_new n1, upd_same, q0.same (same_new n1), hes d0 (List.mem_of_getElem? hd0)⟩ (fun i σ H' _ ⟨_, _, _, _, _, e, _⟩ => SqT.of e) ?_ ?_
    · rintro i x σ' H' hx ⟨v, d, w4, rfl, s', ep1, qd, gd'⟩
      rw [← List.map_reverse, List.getElem?_map] at hx
      obtain ⟨k, hk, rfl⟩ := Option.map_eq_some_iff.mp hx
      have hkl : k < ss.length := hrow k (List.mem_reverse.mp (List.mem_of_getElem? hk))
      have hsk : ss[k]? = some ss[k] := List.getElem?_eq_getElem hkl
      obtain ⟨vb, hvb, qb⟩ := a2.at hsk
      obtain ⟨nb, tb, ab', bb', eb'⟩ := hss _ (List.getElem_mem hkl)
      have hi : i < 4 := by
        have := (List.getElem?_eq_some_iff.mp hk).1
        rw [List.length_reverse] at this
        omega
      refine ⟨_, rfl, _, rfl, ps, _, (k : Int), vb, rfl, rfl, SqL.of (s' _ _ e2), atI_nat hvb, _, rfl, 2 + 3 * i, vb, v, ss[k], d, nb, 1, rfl, qb.same s', tb, Nat.le_refl _, qd, gd', fun r e H7 s7 q7 rp => ?_⟩
      obtain ⟨mr, br, er, h1, h2, h3⟩ := rp
      exact ⟨r, e, _, rfl, same_trans s' s7, s7 _ _ ep1, q7, ⟨mr, br, er, h1, by rw [show 2 + 3 * (i + 1) = 3 + (2 + 3 * i) by omega]; exact h2, h3 _ _ eb'⟩⟩
    · rintro σ' H' ⟨v, d, w4, rfl, s', ep1, qd, gd'⟩
      rw [List.length_reverse, List.length_map] at gd'
      exact ⟨_, rfl, kk v d H' s' qd (gd'.up (by omega))⟩
end
end FM
set_option Elab.async false
set_option linter.all false
set_option maxRecDepth 100000
set_option maxHeartbeats 4000000
namespace FM
open PySem L2 L2H DQ K01
/-- what is drawn of rules: ends and steps -/
structure Es (H : Hp) (p : Addr) (es ss : List PyData) : Prop where
  at_ : ∃ a b, H p = some (.tup [.ref a, .ref b]) ∧ Dq H (.ref a) (.list es) ∧ Dq H (.ref b) (.list ss)
  en : ∀ d ∈ es, Gt 2 d
  ne : es ≠ []
  st : ∀ d ∈ ss, ∃ n, Tc 3 n 1 d ∧ ∃ a b, d = .tuple [a, b]
  le : es.length ≤ 3 ∧ ss.length ≤ 3
def spEa : Sp := fun vs H Q _ => ∃ (m c l p : Addr) (cs ls : List Int) (n : Int), vs = [.ref m, .ref p] ∧ MAt H m c l cs ls n ∧ n + 2000 ≤ 1000000000 ∧ H p = some (.tup [.int 2, .int 2, .int 4]) ∧
  ∀ q es ss H' l' ls' n', MAt H' m c l' cs ls' n' → n' ≤ n + 2000 → Fs H m l H' l' → Es (fr H' m l') q es ss → Q (.ref q) H'
theorem kt_put {H : Hp} {m l D : Addr} {xs ys : List V} (h : fr H m l D = some (.lst xs)) : ∀ b zs, fr H m l b = some (.tup zs) → fr (upd H D (.lst ys)) m l b = some (.tup zs) := gw_put h
abbrev nEa : List Str := ["m", "sizes", "ends", "k"]
section
variable {P : Program} {w : World} {K : PySem.W.Frag} {mg : Str → Option Value} {base : Heap}
theorem scEa : FnScope nEa ["m", "sizes"] (defScope sEas) := ⟨rfl, rfl, rfl, by decide +kernel, rfl, by decide +kernel, by decide +kernel⟩
theorem ok_ea {f fN fT fY : Addr} {fd dN dT dY : FuncData} (F : Fun K "_law_ends_and_steps" "_law_ends_and_steps" sEas f fd)
    (FN : Fun K "_law_next" "_law_next" sNext fN dN) (bN : Binds K dN ["m", "many"] []) (gN : mg "_law_next" = some (.ref fN)) (GN : FnOk P w K mg base CX0 1 fN dN ["m", "many"] spNx)
    (FT : Fun K "_law_tree" "_law_tree" sTree fT dT) (bT : Binds K dT ["m", "size", "deep"] []) (gT : mg "_law_tree" = some (.ref fT)) (GT : FnOk P w K mg base CX0 5 fT dT ["m", "size", "deep"] (spTr 2))
    (FY : Fun K "_law_body" "_law_body" sBody fY dY) (bY : Binds K dY ["m", "size"] []) (gY : mg "_law_body" = some (.ref fY)) (GY : FnOk P w K mg base CX0 7 fY dY ["m", "size"] spBy) (tR : mg "range" = none) :
    FnOk P w K mg base CX0 8 f fd ["m", "sizes"] spEa := by
  refine F.ok scEa (fun vs H Q E h => ?_) (fun cdv A outer s H vs Q E hr h => ?_)
  · obtain ⟨m, c, l, p, cs, ls, n, rfl, _⟩ := h
    rfl
  · obtain ⟨m, c, l, p, cs, ls, n, rfl, M, hn, hp, kk⟩ := h
    refine ⟨_, pss_cons (ps_setLc (i := 2) (own := [("k", 3)]) (g := gName 3) (tt := tYes) rfl scEa.nd rfl rfl (sw_true rfl rfl rfl (by decide +kernel)) (pi_range1 (by rfl) tR (pa_cons (pe_op op_add pe_int (pe_call GN (hr.mono (by decide)) (by rfl) gN FN.kp bN .nil pass0 (pa_cons (pv 0) (pa_cons (pe_ix ix_tup (pv 1) pe_int (fun _ _ => rfl)) pa_nil)))) pa_nil))
        (blkOk_by (own := [("k", 3)]) (N := nEa) (sc := defScope sEas) (by decide +kernel)) (fun _ _ _ _ _ => pg_name (i := 3) scEa.nd rfl (Or.inl rfl)) (fun _ _ _ _ _ => pts_nil)
        (fun _ _ _ _ _ => pe_call GT (hr.mono (by decide)) (by rfl) gT FT.kp bT .nil pass0 (pa_cons (pv 0) (pa_cons (pe_op op_add pe_int (pe_call GN (hr.mono (by decide)) (by rfl) gN FN.kp bN .nil pass0 (pa_cons (pv 0) (pa_cons (pe_ix (ix_tupK (K := K) rfl) (pv 1) pe_int (fun _ _ => rfl)) pa_nil)))) (pa_cons pe_int pa_nil)))))
      (pss_one (ps_ret (pe_tup (pa_cons (pv 2) (pa_cons (pe_lc (own := [("k", 3)]) (g := gName 3) (tt := tYes) rfl scEa.nd (pi_range1 (by rfl) tR (pa_cons (pe_call GN (hr.mono (by decide)) (by rfl) gN FN.kp bN .nil pass0 (pa_cons (pv 0) (pa_cons (pe_op op_add (pe_ix ix_tup (pv 1) pe_int (fun _ _ => rfl)) pe_int) pa_nil))) pa_nil))
        (blkOk_by (own := [("k", 3)]) (N := nEa) (sc := defScope sEas) (by decide +kernel)) (fun _ _ _ _ _ => pg_name (i := 3) scEa.nd rfl (Or.inl rfl)) (fun _ _ _ _ _ => pts_nil)
        (fun _ _ _ _ _ => pe_call GY (hr.mono (by decide)) (by rfl) gY FY.kp bY .nil pass0 (pa_cons (pv 0) (pa_cons (pe_op op_add pe_int (pe_call GN (hr.mono (by decide)) (by rfl) gN FN.kp bN .nil pass0 (pa_cons (pv 0) (pa_cons (pe_ix (ix_tupK (K := K) rfl) (pv 1) pe_int (fun _ _ => rfl)) pa_nil)))) pa_nil)))) pa_nil))))), ?_⟩
    have d2 : dn 2 = 178 := by decide
    refine ⟨_, rfl, _, rfl, p, _, 0, .int 2, rfl, rfl, SqT.of hp, atI_nat (j := 0) rfl, m, c, l, 2, cs, ls, n, rfl, M, by decide, by decide, by omega, fun r1 H1 l1 ls1 n1 r10 r11 M1 nn1 s1 => ⟨_, _, rfl, rfl, _, rfl, by omega, by omega, fun D nD => ?_⟩⟩
    have hp1 : H1 p = some (.tup [.int 2, .int 2, .int 4]) := (fr_of (s1.1 _ _ (fr_some hp (ne_of hp M.hm (by intro z; cases z)) (ne_of hp M.hl (by intro z; cases z))))).2.2
    have G1 : Gw m c l1 cs ls1 n1 H1 H1 := ⟨M1, .refl⟩
    obtain ⟨G2, t2, e2⟩ := G1.new (o := .lst []) nD
    have Dm : D ≠ m := (ne_of_none M1.hm nD).symm
    have Dc : D ≠ c := (ne_of_none M1.hc nD).symm
    refine lc_it (walk_range (lo := 0)) (fun i H' => ∃ (l' : Addr) (ls' : List Int) (n' : Int) (vs : List V) (es : List PyData), Dl H1 m c l1 cs n1 (200 * (i : Int)) D vs H' l' ls' n' ∧ fr H' m l' p = some (.tup [.int 2, .int 2, .int 4]) ∧ DqAll (fr H' m l') vs es ∧ es.length = i ∧ (∀ d ∈ es, Gt 2 d))
      ⟨l1, ls1, n1, [], [], ⟨G2.mat, by omega, G2.sm, e2⟩, t2 _ _ (G1.tupAt hp1), .nil, rfl, fun d hd => absurd hd List.not_mem_nil⟩ (fun i H' _ _ => trivial) ?_ ?_
    · rintro i y H5 H6 hi ⟨l', ls', n', vs, es, d, hpf, qv, le, hg⟩ ⟨rfl, rfl⟩
      have i2 : i < 2 := by omega
      have dle := d.le
      refine ⟨rfl, ?_⟩
      unfold tYes
      refine iteT ?_
      refine ⟨_, rfl, _, rfl, _, rfl, p, _, 2, .int 4, rfl, rfl, SqT.of (fr_of hpf).2.2, atI_nat (j := 2) rfl, m, c, l', 4, cs, ls', n', rfl, d.mat, by decide, by decide, by omega, fun r7 H7 l7 ls7 n7 r70 r71 M7 nn7 s7 => ⟨_, _, rfl, rfl, ?_⟩⟩
      refine ⟨m, c, l7, cs, ls7, n7, 1 + r7, rfl, M7, by omega, by omega, by omega, fun r8 e8 q8 H8 l8 ls8 n8 M8 nn8 s8 qd8 t8 hq8 => ?_⟩
      have d7 : Dl H1 m c l1 cs n1 (200 * (i : Int) + 1) D vs H7 l7 ls7 n7 := d.next M7 nn7 s7 (Int.le_refl _)
      have d8 : Dl H1 m c l1 cs n1 (200 * ((i + 1 : Nat) : Int)) D vs H8 l8 ls8 n8 := d7.next M8 nn8 s8 (by omega)
      have hv := qv.len
      refine ⟨vs, (fr_of d8.dd).2.2, small1000 (by omega), l8, ls8, n8, vs ++ [r8], es ++ [e8], d8.put nD Dm Dc, gw_put d8.dd _ _ (s8.1 _ _ (s7.1 _ _ hpf)), ?_, by rw [List.length_append, List.length_singleton, le], ?_⟩
      · have gA : ∀ d ∈ es ++ [e8], tupO d = true := fun x hx => by
          rcases List.mem_append.mp hx with hx | hx
          · exact (hg x hx).gr.tup
          · rw [List.mem_singleton.mp hx]
            exact t8.tup
        exact DqAll.tups (gw_put d8.dd) (((qv.same s7.1).same s8.1).app (.cons qd8 .nil)) (tupA_iff.mpr gA)
      · intro x hx
        rcases List.mem_append.mp hx with hx | hx
        · exact hg x hx
        · rw [List.mem_singleton.mp hx]
          exact gt_of t8 rfl
    · rintro H5 ⟨l5, ls5, n5, vs, es, d, hpf, qv, le, hg⟩
      have dle := d.le
      have hD5 : Dq (fr H5 m l5) (.ref D) (.list es) := .lst d.dd qv
      have esl : es.length ≤ 3 := by omega
      have esn : es ≠ [] := fun z => by
        rw [z] at le
        have : (0 : Nat) = (1 + r1).toNat := le
        omega
      refine ⟨_, rfl, _, rfl, _, rfl, p, _, 1, .int 2, rfl, rfl, SqT.of (fr_of hpf).2.2, atI_nat (j := 1) rfl, _, _, rfl, rfl, ?_⟩
      refine ⟨m, c, l5, 3, cs, ls5, n5, rfl, d.mat, by decide, by decide, by omega, fun r2 H6 l6 ls6 n6 r20 r21 M6 nn6 s6 => ⟨_, rfl, by omega, by omega, fun D2 nD2 => ?_⟩⟩
      have hpf6 := s6.1 _ _ hpf
      have hD6 := hD5.same s6.1
      have G6 : Gw m c l6 cs ls6 n6 H6 H6 := ⟨M6, .refl⟩
      obtain ⟨G7, t7, e7⟩ := G6.new (o := .lst []) nD2
      have Dm2 : D2 ≠ m := (ne_of_none M6.hm nD2).symm
      have Dc2 : D2 ≠ c := (ne_of_none M6.hc nD2).symm
      refine lc_it (walk_range (lo := 0)) (fun i H' => ∃ (l' : Addr) (ls' : List Int) (n' : Int) (vs : List V) (ss : List PyData), Dl H6 m c l6 cs n6 (702 * (i : Int)) D2 vs H' l' ls' n' ∧ DqAll (fr H' m l') vs ss ∧ ss.length = i ∧ (∀ d ∈ ss, ∃ n, Tc 3 n 1 d ∧ ∃ a b, d = .tuple [a, b]))
        ⟨l6, ls6, n6, [], [], ⟨G7.mat, by omega, G7.sm, e7⟩, .nil, rfl, fun d hd => absurd hd List.not_mem_nil⟩ (fun i H' _ _ => trivial) ?_ ?_
      · rintro i y H7 H8 hi ⟨l', ls', n', ws, ss, dd, qw, lss, hss⟩ ⟨rfl, rfl⟩
        have i2 : i < 2 := by omega
        have dle2 := dd.le
        refine ⟨rfl, ?_⟩
        unfold tYes
        refine iteT ?_
        refine ⟨_, rfl, _, rfl, _, rfl, p, _, 2, .int 4, rfl, rfl, SqT.of (fr_of (dd.sm.1 _ _ hpf6)).2.2, atI_nat (j := 2) rfl, m, c, l', 4, cs, ls', n', rfl, dd.mat, by decide, by decide, by omega, fun r7 H7 l7 ls7 n7 r70 r71 M7 nn7 s7 => ⟨_, _, rfl, rfl, ?_⟩⟩
        refine ⟨m, c, l7, cs, ls7, n7, 2 + r7, rfl, M7, by omega, by omega, by omega, fun r8 e8 q8 H8 l8 ls8 n8 M8 nn8 s8 qd8 t8 hq8 => ?_⟩
        have d7 : Dl H6 m c l6 cs n6 (702 * (i : Int) + 1) D2 ws H7 l7 ls7 n7 := dd.next M7 nn7 s7 (Int.le_refl _)
        have d8 : Dl H6 m c l6 cs n6 (702 * ((i + 1 : Nat) : Int)) D2 ws H8 l8 ls8 n8 := d7.next M8 nn8 s8 (by omega)
        have hv := qw.len
        refine ⟨ws, (fr_of d8.dd).2.2, small1000 (by omega), l8, ls8, n8, ws ++ [r8], ss ++ [e8], d8.put nD2 Dm2 Dc2, ?_, by rw [List.length_append, List.length_singleton, lss], ?_⟩
        · have gA : ∀ d ∈ ss ++ [e8], tupO d = true := fun x hx => by
            rcases List.mem_append.mp hx with hx | hx
            · obtain ⟨_, z, _⟩ := hss x hx
              exact z.tup
            · rw [List.mem_singleton.mp hx]
              exact t8.tc.tup
          exact DqAll.tups (gw_put d8.dd) (((qw.same s7.1).same s8.1).app (.cons qd8 .nil)) (tupA_iff.mpr gA)
        · intro x hx
          rcases List.mem_append.mp hx with hx | hx
          · exact hss x hx
          · rw [List.mem_singleton.mp hx]
            obtain ⟨ms, bs, n0, e, _⟩ := id t8
            exact ⟨q8, t8.tc, _, _, e⟩
      · rintro H7 ⟨l7, ls7, n7, ws, ss, dd, qw, lss, hss⟩
        have dle2 := dd.le
        refine ⟨by show 2 ≤ sizeLine; decide, fun p3 np3 => ?_⟩
        have G8 : Gw m c l7 cs ls7 n7 H7 H7 := ⟨dd.mat, .refl⟩
        obtain ⟨G9, t9, e9⟩ := G8.new (o := .tup [.ref D, .ref D2]) np3
        have qD2 : Dq (fr H7 m l7) (.ref D2) (.list ss) := .lst dd.dd qw
        exact kk p3 es ss _ l7 ls7 n7 G9.mat (by omega) (s1.trans (d.sm.trans (s6.trans (dd.sm.trans G9.sm)))) ⟨⟨D, D2, e9, (hD6.same dd.sm.1).same t9, qD2.same t9⟩, hg, esn, hss, esl, by omega⟩
end
end FM
set_option Elab.async false
set_option linter.all false
set_option maxRecDepth 100000
set_option maxHeartbeats 4000000
/-! Expressions that give new data: what they give, whatever is wanted of it. -/
namespace GV
open PySem L2 L2H DQ
/-- in the heap H0 and in each that grew of it, the expression gives data d -/
def Gives (te : TE) (σ : L2.St) (H0 : Hp) (d : PyData) : Prop := ∀ (H : Hp) (Q : VK), Same H0 H → (∀ v H', Same H H' → Dq H' v d → Q v H') → te σ H Q
def GivesA (ta : TA) (σ : L2.St) (H0 : Hp) (ds : List PyData) : Prop := ∀ (H : Hp) (Q : List V → Hp → Prop), Same H0 H → (∀ vs H', Same H H' → DqAll H' vs ds → Q vs H') → ta σ H Q
variable {σ : L2.St} {H0 : Hp}
theorem g_str {x : Str} (h : PyData.strOk x = true) (hl : x.length ≤ 100) : Gives (tC (.str x)) σ H0 (.str x) := fun H Q s q => q _ _ same_refl (.str x ⟨Nat.le_trans hl (by decide), h⟩)
theorem g_int {i : Int} : Gives (tC (.int i)) σ H0 (.int i) := fun H Q s q => q _ _ same_refl (.int i)
theorem g_non : Gives (tC .non) σ H0 .none := fun H Q s q => q _ _ same_refl .non
theorem g_bl {b : Bool} : Gives (tC (.bl b)) σ H0 (.bool b) := fun H Q s q => q _ _ same_refl (.bl b)
theorem g_var {i : Nat} {v : V} {d : PyData} (h : σ[i]? = some (some v)) (hd : Dq H0 v d) : Gives (tVar i) σ H0 d := fun H Q s q => ⟨v, h, q _ _ same_refl (hd.same s)⟩
theorem ga_nil : GivesA tNil σ H0 [] := fun H Q s q => q _ _ same_refl .nil
theorem ga_cons {te : TE} {ta : TA} {d : PyData} {ds : List PyData} (h : Gives te σ H0 d) (t : GivesA ta σ H0 ds) : GivesA (tCons te ta) σ H0 (d :: ds) := fun H Q s q =>
  h H _ s fun v H1 s1 q1 => t H1 _ (same_trans s s1) fun vs H2 s2 q2 => q _ _ (same_trans s1 s2) (.cons (q1.same s2) q2)
theorem g_tup {ta : TA} {ds : List PyData} (h : GivesA ta σ H0 ds) (hl : ds.length ≤ 1000) : Gives (tTup ta) σ H0 (.tuple ds) := fun H Q s q =>
  h H _ s fun vs H1 s1 q1 => ⟨by rw [q1.len]; exact Nat.le_trans hl (by decide), fun p np => q _ _ (same_trans s1 (same_new np)) (.tup upd_same (q1.same (same_new np)))⟩
theorem g_lst {ta : TA} {ds : List PyData} (h : GivesA ta σ H0 ds) (hl : ds.length ≤ 1000) : Gives (tLst ta) σ H0 (.list ds) := fun H Q s q =>
  h H _ s fun vs H1 s1 q1 => ⟨by rw [q1.len]; exact Nat.le_trans hl (by decide), fun p np => q _ _ (same_trans s1 (same_new np)) (.lst upd_same (q1.same (same_new np)))⟩
theorem g_cat {ta tb : TE} {xs ys : List PyData} (ha : Gives ta σ H0 (.list xs)) (hb : Gives tb σ H0 (.list ys)) (hl : xs.length + ys.length ≤ 1000) : Gives (tOp rCat ta tb) σ H0 (.list (xs ++ ys)) := fun H Q s q =>
  ha H _ s fun v H1 s1 q1 => hb H1 _ (same_trans s s1) fun u H2 s2 q2 => by
    cases q1 with
    | lst e1 a1 =>
    cases q2 with
    | lst e2 a2 =>
    exact ⟨_, _, _, _, rfl, rfl, s2 _ _ e1, e2, by rw [a1.len, a2.len]; exact Nat.le_trans hl (by decide), fun p np => q _ _ (same_trans (same_trans s1 s2) (same_new np)) (.lst upd_same (((a1.same s2).app a2).same (same_new np)))⟩
theorem g_rep {K : PySem.W.Frag} {ta tb : TE} {xs : List PyData} (ha : Gives ta σ H0 (.tuple xs)) (hb : Gives tb σ H0 (.int 3)) (h0 : xs ≠ []) (hl : xs.length ≤ 300) : Gives (tOp (rRepT K) ta tb) σ H0 (.tuple (xs ++ (xs ++ xs))) := fun H Q s q =>
  ha H _ s fun v H1 s1 q1 => hb H1 _ (same_trans s s1) fun u H2 s2 q2 => by
    cases q1 with
    | @tup a vs _ e1 a1 =>
    cases q2
    have a2 := a1.same s2
    have n0 : vs ≠ [] := fun z => by
      have := a1.len
      rw [z] at this
      exact h0 (List.length_eq_zero_iff.mp this.symm)
    refine ⟨_, _, _, rfl, rfl, SqT.of (s2 _ _ e1), n0, by decide, by decide, by rw [a1.len]; omega, fun p np => q _ _ (same_trans (same_trans s1 s2) (same_new np)) (.tup upd_same (DqAll.same (same_new np) ?_))⟩
    show DqAll H2 (List.replicate 3 vs).flatten _
    have z : (List.replicate 3 vs).flatten = vs ++ (vs ++ vs) := by simp [List.replicate]
    rw [z]
    exact a2.app (a2.app a2)
theorem g_ix {K : PySem.W.Frag} {ta : TE} {xs : List PyData} {j : Nat} {d : PyData} (ha : Gives ta σ H0 (.tuple xs)) (hj : xs[j]? = some d) : Gives (tOp (rIxT K) ta (tC (.int (j : Int)))) σ H0 d := fun H Q s q =>
  ha H _ s fun v H1 s1 q1 => by
    cases q1 with
    | tup e1 a1 =>
    obtain ⟨u, hu, qu⟩ := a1.at hj
    exact ⟨_, _, _, _, rfl, rfl, SqT.of e1, atI_nat hu, q _ _ s1 qu⟩
theorem st_set {te : TE} {u : TS} {D : Ends} {i : Nat} {d : PyData} (g : Gives te σ H0 d) (k : ∀ v H', Same H0 H' → Dq H' v d → u D (σ.set i (some v)) H') : tSeq (tAsg te (gName i)) u D σ H0 :=
  g H0 _ same_refl k
theorem st_par {ta : TA} {u : TS} {D : Ends} {i j : Nat} {d e : PyData} (g : GivesA ta σ H0 [d, e]) (k : ∀ v w H', Same H0 H' → Dq H' v d → Dq H' w e → u D ((σ.set i (some v)).set j (some w)) H') : tSeq (tPar i j ta) u D σ H0 :=
  g H0 _ same_refl fun vs H' s q => by
    cases q with
    | cons q1 q =>
    cases q with
    | cons q2 q =>
    cases q
    exact ⟨_, _, rfl, k _ _ _ s q1 q2⟩
theorem st_one {te : TE} {D : Ends} {i : Nat} {d : PyData} (g : Gives te σ H0 d) (k : ∀ v H', Same H0 H' → Dq H' v d → D.nx (σ.set i (some v)) H') : tAsg te (gName i) D σ H0 :=
  g H0 _ same_refl k
theorem st_ret {te : TE} {D : Ends} {d : PyData} (g : Gives te σ H0 d) (k : ∀ v H', Same H0 H' → Dq H' v d → D.rt v H') : tRet te D σ H0 := g H0 _ same_refl k
end GV
set_option Elab.async false
set_option linter.all false
set_option maxRecDepth 100000
set_option maxHeartbeats 4000000
/-! trees by hand -/
namespace FM
open PySem L2 L2H DQ K01 GV
abbrev node (ms : List Str) (bs : List PyData) : PyData := .tuple [.tuple (ms.map PyData.str), .tuple bs]
abbrev br (u : Str) (t : PyData) : PyData := .tuple [.str u, t]
theorem brs_nil {k : Nat} : Brs k [] := by
  cases k with
  | zero => rfl
  | succ k => exact ⟨Nat.zero_le _, fun b hb => absurd hb List.not_mem_nil⟩
theorem brs_cons {k : Nat} {u : Str} {ms : List Str} {cs bs : List PyData} (hu : smS u) (hm : Mk 3 ms) (hc : Brs k cs) (h : Brs (k + 1) bs) (hl : bs.length ≤ 99) : Brs (k + 1) (br u (node ms cs) :: bs) :=
  ⟨by rw [List.length_cons]; omega, fun b hb => by
    rcases List.mem_cons.mp hb with rfl | hb
    · exact ⟨u, ms, cs, rfl, hu, hm, hc⟩
    · exact h.2 b hb⟩
instance (q : Nat) (ms : List Str) : Decidable (Mk q ms) := by
  unfold Mk
  infer_instance
def deepT : Nat → PyData | 0 => node ["a"] [] | k + 1 => node [] [br "e" (deepT k)]
theorem deep_gr : ∀ k, Gr 3 k (deepT k)
  | 0 => ⟨["a"], [], rfl, by decide +kernel, rfl⟩
  | k + 1 => by
    obtain ⟨ms, bs, e, h1, h2⟩ := deep_gr k
    refine ⟨[], [br "e" (deepT k)], rfl, by decide +kernel, ?_⟩
    rw [e]
    exact brs_cons (by decide +kernel) h1 h2 brs_nil (Nat.zero_le _)
theorem deep_no : ∀ (k n : Nat), k < n → fitD n (deepT k) (deepT (k + 1)) = false
  | 0, n + 1, _ => by
    show (hasM (deepT 0) (deepT 1) && ([br "e" (deepT 0)]).all fun w => ([] : List PyData).any fun b => decide (wordOf b = wordOf w) && fitD n (treeOf b) (treeOf w)) = false
    simp
  | k + 1, n + 1, h => by
    have z := deep_no k n (by omega)
    show (hasM (deepT (k + 1)) (deepT (k + 2)) && ([br "e" (deepT (k + 1))]).all fun w => ([br "e" (deepT k)] : List PyData).any fun b => decide (wordOf b = wordOf w) && fitD n (treeOf b) (treeOf w)) = false
    simp only [List.all_cons, List.all_nil, List.any_cons, List.any_nil, treeOf, z, Bool.and_false, Bool.or_false, Bool.false_and]
theorem node_eq (n : Nat) (mt mp : List Str) (bt bp : List PyData) : fitD n (node mt bt) (node mp bp) = (hasL mt mp && fitL n bt bp) := by
  rw [fitD_eq]
  have m1 : mkS (node mt bt) = mt := strsOf_map mt
  have m2 : mkS (node mp bp) = mp := strsOf_map mp
  show (hasL (mkS (node mt bt)) (mkS (node mp bp)) && fitL n bt bp) = _
  rw [m1, m2]
/-- a tree whose root has at most q marks, k levels below -/
theorem g_fr {σ : L2.St} {H0 : Hp} {ta : TA} {d e : PyData} {q k n : Nat} {b : Bool} (g : GivesA ta σ H0 [d, e]) (hd : Gr 3 k d) (he : Gr q n e) (hq : q ≤ 3 ∨ (q ≤ 7 ∧ mkS d ≠ [])) (hn : n ≤ 200) (hb : fitD n d e = b) {H : Hp} {Q : VK} (s : Same H0 H)
    (k' : ∀ H', Same H H' → Q (.bl b) H') : tCall spFR [] E0 ta σ H Q := by
  refine g H _ s fun vs H1 s1 q1 => ?_
  cases q1 with
  | cons q1 q2 =>
  cases q2 with
  | cons q2 q3 =>
  cases q3
  obtain ⟨mt, bt, rfl, h1, h2⟩ := hd
  obtain ⟨mp, bp, rfl, h3, h4⟩ := he
  have m1 : mkS (node mt bt) = mt := strsOf_map mt
  refine ⟨_, _, mt, mp, bt, bp, k, n, rfl, q1, q2, by have := h1.1; omega, ?_, h2, h4, hn, fun H' s' => ?_⟩
  · rcases hq with hq | ⟨hq, hne⟩
    · exact .inl (Nat.le_trans h3.1 hq)
    · refine .inr ⟨Nat.le_trans h3.1 hq, fun z => hne ?_⟩
      rw [m1, z]
  · rw [node_eq] at hb
    rw [hb]
    exact k' H' (same_trans s1 s')
abbrev leafT : PyData := node ["a"] []
abbrev farT : PyData := node [] [br "e" leafT, br "e" (node [] []), br "e" leafT]
theorem leaf_gr {k : Nat} : Gr 3 k leafT := ⟨["a"], [], rfl, by decide +kernel, brs_nil⟩
theorem far_gr : Gr 3 1 farT := ⟨[], _, rfl, by decide +kernel, brs_cons (by decide +kernel) (by decide +kernel) brs_nil (brs_cons (ms := []) (by decide +kernel) (by decide +kernel) brs_nil (brs_cons (by decide +kernel) (by decide +kernel) brs_nil brs_nil (by decide)) (by decide)) (by decide)⟩
abbrev oneT (u : Str) : PyData := node [] [br u leafT]
theorem one_gr {u : Str} (h : smS u) : Gr 3 1 (oneT u) := ⟨[], _, rfl, by decide +kernel, brs_cons h (by decide +kernel) brs_nil brs_nil (by decide)⟩
abbrev marT (ms : List Str) : PyData := node ms []
theorem mar_gr {q k : Nat} {ms : List Str} (h : Mk q ms) : Gr q k (marT ms) := ⟨ms, [], rfl, h, brs_nil⟩
abbrev twoT : PyData := node [] [br "e" leafT, br "e" (node ["b"] [])]
theorem two_gr : Gr 3 1 twoT := ⟨[], _, rfl, by decide +kernel, brs_cons (by decide +kernel) (by decide +kernel) brs_nil (brs_cons (by decide +kernel) (by decide +kernel) brs_nil brs_nil (by decide)) (by decide)⟩
abbrev bothT : PyData := node [] [br "e" (node ["a", "b"] [])]
theorem both_gr : Gr 3 1 bothT := ⟨[], _, rfl, by decide +kernel, brs_cons (by decide +kernel) (by decide +kernel) brs_nil brs_nil (by decide)⟩
theorem f1 : fitD 1 (oneT "e") farT = true := by decide +kernel
theorem f2 : fitD 1 farT (oneT "f") = false := by decide +kernel
theorem f3 : fitD 0 farT leafT = false := by decide +kernel
theorem f4 : fitD 0 (marT ["a", "b", "c"]) (marT ["a", "b", "c", "d"]) = false := by decide +kernel
theorem f5 : fitD 0 (marT ["a", "b"]) (marT ["a", "b", "c"]) = false := by decide +kernel
theorem f6 : fitD 0 (marT ["a", "b", "c"]) (marT ["a", "c"]) = true := by decide +kernel
theorem f7 : fitD 1 twoT bothT = false := by decide +kernel
theorem f8 : fitD 0 (node [] [br "e" (deepT 80)]) (node [] []) = true := by decide +kernel
end FM
set_option Elab.async false
set_option linter.all false
set_option maxRecDepth 100000
set_option maxHeartbeats 4000000
namespace FM
open PySem L2 L2H DQ K01 GV
theorem bmin : bootBuiltins ("min" : Str) = some (.builtin "min") := by decide +kernel
def spLaw (K : PySem.W.Frag) : Sp := fun vs H Q _ => ∃ (a : Addr) (ns : List Int), vs = [.ref a] ∧ SqL K H a (ns.map V.int) ∧ ns.length ≤ 63 ∧ SysF H ∧ ∀ H', Q (.bl true) H'
abbrev nLw : List Str := ["script", "m", "turn", "ends", "steps", "some", "k", "row", "one", "pattern", "leaf", "far", "deep"]
theorem nx_go {D : Ends} {σ : L2.St} {H : Hp} (h : D.nx σ H) : tNext D σ H := h
theorem dq_row {H : Hp} : ∀ row : List Nat, DqAll H (row.map (fun (k : Nat) => V.int (k : Int)) ++ [V.int 0]) (row.map (fun (k : Nat) => PyData.int (k : Int)) ++ [.int 0])
  | [] => .cons (.int 0) .nil
  | k :: row => .cons (.int _) (dq_row row)
/-- what stands at the top, for the law -/
structure LTx (mg : Str → Option Value) (fB fN fT fE fU fL fF : Addr) : Prop where
  tm : TM mg
  repr : mg "repr" = none
  min : mg "min" = none
  range : mg "range" = none
  tuple : mg "tuple" = none
  gB : mg "_law_begun" = some (.ref fB)
  gN : mg "_law_next" = some (.ref fN)
  gT : mg "_law_tree" = some (.ref fT)
  gE : mg "_law_ends_and_steps" = some (.ref fE)
  gU : mg "_law_unfolded" = some (.ref fU)
  gL : mg "_law_fits" = some (.ref fL)
  gF : mg "fits_root" = some (.ref fF)
section
variable {P : Program} {w : World} {K : PySem.W.Frag} {mg : Str → Option Value} {base : Heap}
theorem call_lenK {X : Cx} (hK : X.K = K) : CallR X (.builtin "len") (fun xs H Q => ∃ p ys, xs = [.ref p] ∧ (SqL K H p ys ∨ SqT K H p ys) ∧ Q (.int ys.length) H) := by
  subst hK
  exact call_len_seq
theorem scLw : FnScope nLw ["script"] (defScope sLaw) := ⟨rfl, rfl, rfl, by decide +kernel, rfl, by decide +kernel, by decide +kernel⟩
theorem ok_law {f fB fN fT fE fU fL fF : Addr} {fd dB dN dT dE dU dL dF : FuncData} (F : Fun K "law" "law" sLaw f fd) (LT : LTx mg fB fN fT fE fU fL fF)
    (FB : Fun K "_law_begun" "_law_begun" sBeg fB dB) (bB : Binds K dB ["script"] []) (GB : FnOk P w K mg base CX0 1 fB dB ["script"] (spBeg K))
    (FN : Fun K "_law_next" "_law_next" sNext fN dN) (bN : Binds K dN ["m", "many"] []) (GN : FnOk P w K mg base CX0 1 fN dN ["m", "many"] spNx)
    (FT : Fun K "_law_tree" "_law_tree" sTree fT dT) (bT : Binds K dT ["m", "size", "deep"] []) (GT : FnOk P w K mg base CX0 6 fT dT ["m", "size", "deep"] (spTr 3))
    (FE : Fun K "_law_ends_and_steps" "_law_ends_and_steps" sEas fE dE) (bE : Binds K dE ["m", "sizes"] []) (GE : FnOk P w K mg base CX0 8 fE dE ["m", "sizes"] spEa)
    (FU : Fun K "_law_unfolded" "_law_unfolded" sUnf fU dU) (bU : Binds K dU ["ends", "steps", "row"] []) (GU : FnOk P w K mg base CX0 6 fU dU ["ends", "steps", "row"] spUn)
    (FL : Fun K "_law_fits" "_law_fits" sFits fL dL) (bL : Binds K dL ["tree", "pattern"] []) (GL : FnOk P w K mg base CX0 15 fL dL ["tree", "pattern"] (spLF 14))
    (FF : Fun K "fits_root" "fits_root" sFR fF dF) (bF : Binds K dF ["tree", "pattern"] []) (GF : FnOk P w K mg base CX0 3 fF dF ["tree", "pattern"] spFR) :
    AtTop P w K mg base f fd "script" (spLaw K) := by
  refine atTop_of (k := 20) F scLw ⟨rfl, by decide, by decide⟩ fun cdv s H v Q E hr h => ?_
  obtain ⟨a, ns, ev, hS, hlen, hY, kk⟩ := h
  obtain rfl := (List.cons.inj ev).1
  have hu1 : (callerA.deeper (PyProof.Rows.envOfC "law" (defScope sLaw) s.heap.objs.size f cdv)).units < cLine := by have := hr.un; omega
  have hu3 : (callerA.deeper (PyProof.Rows.envOfC "law" (defScope sLaw) s.heap.objs.size f cdv)).units + 100 < cLine := by have := hr.un; omega
  have hgd : (callerA.deeper (PyProof.Rows.envOfC "law" (defScope sLaw) s.heap.objs.size f cdv)).guards = some [] := rfl
  refine ⟨_, (pss_cons (ps_set (i := 1) scLw.nd rfl (Or.inr rfl) (pe_call GB (hr.mono (by decide)) (by rfl) LT.gB FB.kp bB .nil pass0 (pa_cons (pv 0) pa_nil)))
    (pss_cons (ps_for PassesOwn.never rfl (pi_range1 (by rfl) LT.range (pa_cons (pe_op op_add pe_int (pe_callB (call_min2 rfl) (by rfl) LT.min bmin (pa_cons (pe_callB call_len_seq (by rfl) LT.tm.len PySem.boot_len (pa_cons (pv 0) pa_nil)) (pa_cons pe_int pa_nil)))) pa_nil)) (pg_name (i := 2) scLw.nd rfl (Or.inl rfl))
      (pss_cons (ps_asg (pe_call GE (hr.mono (by decide)) (by rfl) LT.gE FE.kp bE .nil pass0 (pa_cons (pv 1) (pa_cons (pe_tup (pa_cons pe_int (pa_cons pe_int (pa_cons pe_int pa_nil)))) pa_nil))) (pg_tup (n := 2) rfl (pgs_cons (pg_name (i := 3) scLw.nd rfl (Or.inl rfl)) (pgs_cons (pg_name (i := 4) scLw.nd rfl (Or.inr rfl)) pgs_nil))))
      (pss_cons (ps_set (i := 5) scLw.nd rfl (Or.inl rfl) (pe_op op_cat (pe_lc (own := [("k", 6)]) (g := (gName 6)) (tt := tYes) rfl scLw.nd (pi_range1 (by rfl) LT.range (pa_cons pe_int pa_nil)) (blkOk_by (own := [("k", 6)]) (N := nLw) (sc := defScope sLaw) (by decide +kernel)) (fun _ _ _ _ _ => pg_name (i := 6) scLw.nd rfl (Or.inl rfl)) (fun _ _ _ _ _ => pts_nil) (fun _ _ _ _ _ => (pe_call GT (hr.mono (by decide)) (by rfl) LT.gT FT.kp bT .nil pass0 (pa_cons (pv 1) (pa_cons (pe_op op_add pe_int (pe_call GN (hr.mono (by decide)) (by rfl) LT.gN FN.kp bN .nil pass0 (pa_cons (pv 1) (pa_cons pe_int pa_nil)))) (pa_cons pe_int pa_nil)))))) (pv 3)))
      (pss_cons (ps_if (pt_cmpR (NI.op_neNil hu1) (pv 4) (pe_lst pa_nil) (by rfl)) (pss_cons (ps_set (i := 7) scLw.nd rfl (Or.inl rfl) (pe_op op_catF (pe_callTy call_tuple_of (by rfl) LT.tuple btup (pa_cons (pe_lc (own := [("k", 6)]) (g := (gName 6)) (tt := tYes) rfl scLw.nd (pi_range1 (by rfl) LT.range (pa_cons (pe_call GN (hr.mono (by decide)) (by rfl) LT.gN FN.kp bN .nil pass0 (pa_cons (pv 1) (pa_cons pe_int pa_nil))) pa_nil)) (blkOk_by (own := [("k", 6)]) (N := nLw) (sc := defScope sLaw) (by decide +kernel)) (fun _ _ _ _ _ => pg_name (i := 6) scLw.nd rfl (Or.inl rfl)) (fun _ _ _ _ _ => pts_nil) (fun _ _ _ _ _ => (pe_call GN (hr.mono (by decide)) (by rfl) LT.gN FN.kp bN .nil pass0 (pa_cons (pv 1) (pa_cons (pe_callB (call_lenK (K := K) rfl) (by rfl) LT.tm.len PySem.boot_len (pa_cons (pv 4) pa_nil)) pa_nil))))) pa_nil)) (pe_tup (pa_cons pe_int pa_nil))))
        (pss_one (ps_set (i := 5) scLw.nd rfl (Or.inl rfl) (pe_op op_cat (pv 5) (pe_lst (pa_cons (pe_call GU (hr.mono (by decide)) (by rfl) LT.gU FU.kp bU .nil pass0 (pa_cons (pv 3) (pa_cons (pv 4) (pa_cons (pv 7) pa_nil)))) (pa_cons (pe_call GU (hr.mono (by decide)) (by rfl) LT.gU FU.kp bU .nil pass0 (pa_cons (pv 3) (pa_cons (pv 4) (pa_cons (pe_ifExp (pt_cmpR op_gt (pe_callB call_len_seq (by rfl) LT.tm.len PySem.boot_len (pa_cons (pv 7) pa_nil)) pe_int (by rfl)) (pe_slice sl_tupF (pv 7) (po_some pe_int) po_none) (pv 7)) pa_nil)))) pa_nil))))))) pss_nil)
      (pss_one (ps_for PassesOwn.never rfl (pi_list (pv 5)) (pg_name (i := 8) scLw.nd rfl (Or.inl rfl))
        (pss_cons (ps_for PassesOwn.never rfl (pi_list (pv 5)) (pg_name (i := 9) scLw.nd rfl (Or.inl rfl))
          (pss_one (ps_if (pt_cmpR op_ne (pe_callB (call_reprX hgd hu3) (by rfl) LT.repr brepr (pa_cons (pe_call GF (hr.mono (by decide)) (by rfl) LT.gF FF.kp bF .nil pass0 (pa_cons (pv 8) (pa_cons (pv 9) pa_nil))) pa_nil)) (pe_callB (call_reprX hgd hu3) (by rfl) LT.repr brepr (pa_cons (pe_call GL (hr.mono (by decide)) (by rfl) LT.gL FL.kp bL .nil pass0 (pa_cons (pv 8) (pa_cons (pv 9) pa_nil))) pa_nil)) (by rfl)) (pss_one (ps_ret pe_bl)) pss_nil)))
        (pss_one (ps_if (pt_cmpR op_notBl (pe_call GF (hr.mono (by decide)) (by rfl) LT.gF FF.kp bF .nil pass0 (pa_cons (pv 8) (pa_cons (pv 8) pa_nil))) pe_bl (by rfl)) (pss_one (ps_ret pe_bl)) pss_nil)))))))))
    (pss_cons (ps_set (i := 10) scLw.nd rfl (Or.inl rfl) (pe_tup (pa_cons (pe_tup (pa_cons pe_str pa_nil)) (pa_cons (pe_tup pa_nil) pa_nil))))
    (pss_cons (ps_set (i := 11) scLw.nd rfl (Or.inl rfl) (pe_tup (pa_cons (pe_tup pa_nil) (pa_cons (pe_tup (pa_cons (pe_tup (pa_cons pe_str (pa_cons (pv 10) pa_nil))) (pa_cons (pe_tup (pa_cons pe_str (pa_cons (pe_tup (pa_cons (pe_tup pa_nil) (pa_cons (pe_tup pa_nil) pa_nil))) pa_nil))) (pa_cons (pe_tup (pa_cons pe_str (pa_cons (pv 10) pa_nil))) pa_nil)))) pa_nil))))
    (pss_cons (ps_if (PW.pt (pw_or (pt_not (pt_val (pe_call GF (hr.mono (by decide)) (by rfl) LT.gF FF.kp bF .nil pass0 (pa_cons (pe_tup (pa_cons (pe_tup pa_nil) (pa_cons (pe_tup (pa_cons (pe_tup (pa_cons pe_str (pa_cons (pv 10) pa_nil))) pa_nil)) pa_nil))) (pa_cons (pv 11) pa_nil))))) (pw_or (pt_val (pe_call GF (hr.mono (by decide)) (by rfl) LT.gF FF.kp bF .nil pass0 (pa_cons (pv 11) (pa_cons (pe_tup (pa_cons (pe_tup pa_nil) (pa_cons (pe_tup (pa_cons (pe_tup (pa_cons pe_str (pa_cons (pv 10) pa_nil))) pa_nil)) pa_nil))) pa_nil)))) (pw_or1 (pt_val (pe_call GF (hr.mono (by decide)) (by rfl) LT.gF FF.kp bF .nil pass0 (pa_cons (pv 11) (pa_cons (pv 10) pa_nil)))))))) (pss_one (ps_ret pe_bl)) pss_nil)
    (pss_cons (ps_set (i := 12) scLw.nd rfl (Or.inl rfl) (pv 10))
    (pss_cons (ps_for PassesOwn.never rfl (pi_range1 (by rfl) LT.range (pa_cons pe_int pa_nil)) (pg_name (i := 6) scLw.nd rfl (Or.inl rfl))
      (pss_one (ps_set (i := 12) scLw.nd rfl (Or.inl rfl) (pe_tup (pa_cons (pe_tup pa_nil) (pa_cons (pe_tup (pa_cons (pe_tup (pa_cons pe_str (pa_cons (pv 12) pa_nil))) pa_nil)) pa_nil))))))
    (pss_cons (ps_if (PW.pt (pw_or (pt_not (pt_val (pe_call GF (hr.mono (by decide)) (by rfl) LT.gF FF.kp bF .nil pass0 (pa_cons (pv 12) (pa_cons (pv 12) pa_nil))))) (pw_or (pt_val (pe_call GF (hr.mono (by decide)) (by rfl) LT.gF FF.kp bF .nil pass0 (pa_cons (pv 12) (pa_cons (pe_tup (pa_cons (pe_tup pa_nil) (pa_cons (pe_tup (pa_cons (pe_tup (pa_cons pe_str (pa_cons (pv 12) pa_nil))) pa_nil)) pa_nil))) pa_nil)))) (pw_or1 (pt_not (pt_val (pe_call GF (hr.mono (by decide)) (by rfl) LT.gF FF.kp bF .nil pass0 (pa_cons (pe_tup (pa_cons (pe_tup pa_nil) (pa_cons (pe_tup (pa_cons (pe_tup (pa_cons pe_str (pa_cons (pv 12) pa_nil))) pa_nil)) pa_nil))) (pa_cons (pe_tup (pa_cons (pe_tup pa_nil) (pa_cons (pe_tup pa_nil) pa_nil))) pa_nil))))))))) (pss_one (ps_ret pe_bl)) pss_nil)
    (pss_cons (ps_if (pt_val (pe_call GF (hr.mono (by decide)) (by rfl) LT.gF FF.kp bF .nil pass0 (pa_cons (pe_tup (pa_cons (pe_tup (pa_cons pe_str (pa_cons pe_str (pa_cons pe_str pa_nil)))) (pa_cons (pe_tup pa_nil) pa_nil))) (pa_cons (pe_tup (pa_cons (pe_tup (pa_cons pe_str (pa_cons pe_str (pa_cons pe_str (pa_cons pe_str pa_nil))))) (pa_cons (pe_tup pa_nil) pa_nil))) pa_nil)))) (pss_one (ps_ret pe_bl)) pss_nil)
    (pss_cons (ps_if (PW.pt (pw_or (pt_val (pe_call GF (hr.mono (by decide)) (by rfl) LT.gF FF.kp bF .nil pass0 (pa_cons (pe_tup (pa_cons (pe_tup (pa_cons pe_str (pa_cons pe_str pa_nil))) (pa_cons (pe_tup pa_nil) pa_nil))) (pa_cons (pe_tup (pa_cons (pe_tup (pa_cons pe_str (pa_cons pe_str (pa_cons pe_str pa_nil)))) (pa_cons (pe_tup pa_nil) pa_nil))) pa_nil)))) (pw_or1 (pt_not (pt_val (pe_call GF (hr.mono (by decide)) (by rfl) LT.gF FF.kp bF .nil pass0 (pa_cons (pe_tup (pa_cons (pe_tup (pa_cons pe_str (pa_cons pe_str (pa_cons pe_str pa_nil)))) (pa_cons (pe_tup pa_nil) pa_nil))) (pa_cons (pe_tup (pa_cons (pe_tup (pa_cons pe_str (pa_cons pe_str pa_nil))) (pa_cons (pe_tup pa_nil) pa_nil))) pa_nil)))))))) (pss_one (ps_ret pe_bl)) pss_nil)
    (pss_one (ps_ret (pe_not (pe_call GF (hr.mono (by decide)) (by rfl) LT.gF FF.kp bF .nil pass0 (pa_cons (pe_tup (pa_cons (pe_tup pa_nil) (pa_cons (pe_tup (pa_cons (pe_tup (pa_cons pe_str (pa_cons (pv 10) pa_nil))) (pa_cons (pe_tup (pa_cons pe_str (pa_cons (pe_tup (pa_cons (pe_tup (pa_cons pe_str pa_nil)) (pa_cons (pe_tup pa_nil) pa_nil))) pa_nil))) pa_nil))) pa_nil))) (pa_cons (pe_tup (pa_cons (pe_tup pa_nil) (pa_cons (pe_tup (pa_cons (pe_tup (pa_cons pe_str (pa_cons (pe_tup (pa_cons (pe_tup (pa_cons pe_str (pa_cons pe_str pa_nil))) (pa_cons (pe_tup pa_nil) pa_nil))) pa_nil))) pa_nil)) pa_nil))) pa_nil)))))))))))))))), ?_⟩
  refine ⟨_, rfl, a, ns, rfl, hS, hlen, fun H1 m c l cs ls sm1 M1 => ?_⟩
  have sys1 : SysF (fr H1 m l) := by
    obtain ⟨o, u, e⟩ := hY
    have e1 := sm1 _ _ e
    exact ⟨o, u, fr_some e1 (ne_of e1 M1.hm (by intro z; cases z)) (ne_of e1 M1.hl (by intro z; cases z))⟩
  refine ⟨_, rfl, a, _, rfl, .inl (sm1.seq hS), _, _, rfl, _, _, rfl, rfl, _, rfl, ?_, ?_, ?_⟩
  · split <;> omega
  · split <;> omega
  refine for_range (lo := 0) (fun i σ' H' => ∃ (l' : Addr) (ls' : List Int) (n' : Int) (v2 v3 v4 v5 v6 v7 v8 v9 v10 v11 v12 : Option V), σ' = [some (V.ref a), some (V.ref m), v2, v3, v4, v5, v6, v7, v8, v9, v10, v11, v12] ∧ MAt H' m c l' cs ls' n' ∧ n' ≤ 5000 * (i : Int) ∧ SysF (fr H' m l'))
    ⟨l, ls, 0, none, none, none, none, none, none, none, none, none, none, none, rfl, M1, by omega, sys1⟩ ?_ ?_
  rotate_left
  · rintro σ' H2 ⟨l', ls', n', v2, v3, v4, v5, v6, v7, v8, v9, v10, v11, v12, rfl, _, _⟩
    dsimp only
    refine st_set (d := leafT) (by (repeat' (first | exact ga_nil | refine ga_cons ?_ ?_ | exact g_int | exact g_non | exact g_str (by decide +kernel) (by decide +kernel) | exact g_var rfl (by assumption) | refine g_tup ?_ (Nat.le_of_ble_eq_true rfl) | refine g_lst ?_ (Nat.le_of_ble_eq_true rfl)))) fun w10 H3 s3 q10 => ?_
    refine st_set (d := farT) (by (repeat' (first | exact ga_nil | refine ga_cons ?_ ?_ | exact g_int | exact g_non | exact g_str (by decide +kernel) (by decide +kernel) | exact g_var rfl (by assumption) | refine g_tup ?_ (Nat.le_of_ble_eq_true rfl) | refine g_lst ?_ (Nat.le_of_ble_eq_true rfl)))) fun w11 H4 s4 q11 => ?_
    replace q10 := q10.same s4
    refine g_fr (d := oneT "e") (e := farT) (q := 3) (k := 1) (n := 1) (by (repeat' (first | exact ga_nil | refine ga_cons ?_ ?_ | exact g_int | exact g_non | exact g_str (by decide +kernel) (by decide +kernel) | exact g_var rfl (by assumption) | refine g_tup ?_ (Nat.le_of_ble_eq_true rfl) | refine g_lst ?_ (Nat.le_of_ble_eq_true rfl)))) (one_gr (by decide +kernel)) far_gr (.inl (Nat.le_refl _)) (by decide) f1 same_refl fun H5 s5 => ⟨_, rfl, iteF ?_⟩
    replace q10 := q10.same s5
    replace q11 := q11.same s5
    refine g_fr (d := farT) (e := oneT "f") (q := 3) (k := 1) (n := 1) (by (repeat' (first | exact ga_nil | refine ga_cons ?_ ?_ | exact g_int | exact g_non | exact g_str (by decide +kernel) (by decide +kernel) | exact g_var rfl (by assumption) | refine g_tup ?_ (Nat.le_of_ble_eq_true rfl) | refine g_lst ?_ (Nat.le_of_ble_eq_true rfl)))) far_gr (one_gr (by decide +kernel)) (.inl (Nat.le_refl _)) (by decide) f2 same_refl fun H6 s6 => ⟨_, rfl, iteF ?_⟩
    replace q10 := q10.same s6
    replace q11 := q11.same s6
    refine g_fr (d := farT) (e := leafT) (q := 3) (k := 1) (n := 0) (by (repeat' (first | exact ga_nil | refine ga_cons ?_ ?_ | exact g_int | exact g_non | exact g_str (by decide +kernel) (by decide +kernel) | exact g_var rfl (by assumption) | refine g_tup ?_ (Nat.le_of_ble_eq_true rfl) | refine g_lst ?_ (Nat.le_of_ble_eq_true rfl)))) far_gr leaf_gr (.inl (Nat.le_refl _)) (by decide) f3 same_refl fun H7 s7 => ⟨_, rfl, iteF ?_⟩
    replace q10 := q10.same s7
    refine nx_go ?_
    try dsimp only
    refine st_set (d := deepT 0) (by (repeat' (first | exact ga_nil | refine ga_cons ?_ ?_ | exact g_int | exact g_non | exact g_str (by decide +kernel) (by decide +kernel) | exact g_var rfl (by assumption) | refine g_tup ?_ (Nat.le_of_ble_eq_true rfl) | refine g_lst ?_ (Nat.le_of_ble_eq_true rfl)))) fun w12 H8 s8 q12 => ?_
    replace q10 := q10.same s8
    refine ⟨80, rfl, by decide, by decide, for_range (n := 80) (fun i σ' H' => ∃ w6 w12, σ' = [some (V.ref a), some (V.ref m), v2, v3, v4, v5, w6, v7, v8, v9, some w10, some w11, some w12] ∧ Same H8 H' ∧ Dq H' w12 (deepT i)) ⟨_, _, rfl, same_refl, q12⟩ ?_ ?_⟩
    · rintro i σ' H9 hi ⟨w6, w12, rfl, s9, q12⟩
      show tAsg _ (gName 12) _ _ _
      refine st_one (d := deepT (i + 1)) (by (repeat' (first | exact ga_nil | refine ga_cons ?_ ?_ | exact g_int | exact g_non | exact g_str (by decide +kernel) (by decide +kernel) | exact g_var rfl (by assumption) | refine g_tup ?_ (Nat.le_of_ble_eq_true rfl) | refine g_lst ?_ (Nat.le_of_ble_eq_true rfl)))) fun w H10 s10 q => ?_
      exact ⟨_, w, rfl, same_trans s9 s10, q⟩
    rintro σ' H9 ⟨w6, w12, rfl, s9, q12⟩
    replace q10 := q10.same s9
    dsimp only
    refine g_fr (d := deepT 80) (e := deepT 80) (q := 3) (k := 80) (n := 80) (by (repeat' (first | exact ga_nil | refine ga_cons ?_ ?_ | exact g_int | exact g_non | exact g_str (by decide +kernel) (by decide +kernel) | exact g_var rfl (by assumption) | refine g_tup ?_ (Nat.le_of_ble_eq_true rfl) | refine g_lst ?_ (Nat.le_of_ble_eq_true rfl)))) (deep_gr 80) (deep_gr 80) (.inl (Nat.le_refl _)) (by decide) (fitD_refl 80 (deep_gr 80)) same_refl fun H10 s10 => ⟨_, rfl, iteF ?_⟩
    replace q10 := q10.same s10
    replace q12 := q12.same s10
    refine g_fr (d := deepT 80) (e := deepT 81) (q := 3) (k := 80) (n := 81) (by (repeat' (first | exact ga_nil | refine ga_cons ?_ ?_ | exact g_int | exact g_non | exact g_str (by decide +kernel) (by decide +kernel) | exact g_var rfl (by assumption) | refine g_tup ?_ (Nat.le_of_ble_eq_true rfl) | refine g_lst ?_ (Nat.le_of_ble_eq_true rfl)))) (deep_gr 80) (deep_gr 81) (.inl (Nat.le_refl _)) (by decide) (deep_no 80 81 (by decide)) same_refl fun H11 s11 => ⟨_, rfl, iteF ?_⟩
    replace q10 := q10.same s11
    replace q12 := q12.same s11
    refine g_fr (d := deepT 81) (e := node [] []) (q := 3) (k := 81) (n := 0) (by (repeat' (first | exact ga_nil | refine ga_cons ?_ ?_ | exact g_int | exact g_non | exact g_str (by decide +kernel) (by decide +kernel) | exact g_var rfl (by assumption) | refine g_tup ?_ (Nat.le_of_ble_eq_true rfl) | refine g_lst ?_ (Nat.le_of_ble_eq_true rfl)))) (deep_gr 81) (mar_gr (by decide +kernel)) (.inl (Nat.le_refl _)) (by decide) f8 same_refl fun H12 s12 => ⟨_, rfl, iteF ?_⟩
    refine nx_go ?_
    try dsimp only
    replace q10 := q10.same s12
    refine g_fr (d := marT ["a", "b", "c"]) (e := marT ["a", "b", "c", "d"]) (q := 7) (k := 0) (n := 0) (by (repeat' (first | exact ga_nil | refine ga_cons ?_ ?_ | exact g_int | exact g_non | exact g_str (by decide +kernel) (by decide +kernel) | exact g_var rfl (by assumption) | refine g_tup ?_ (Nat.le_of_ble_eq_true rfl) | refine g_lst ?_ (Nat.le_of_ble_eq_true rfl)))) (mar_gr (by decide +kernel)) (mar_gr (by decide +kernel)) (.inr ⟨by decide, by decide +kernel⟩) (by decide) f4 same_refl fun H13 s13 => ⟨_, rfl, iteF ?_⟩
    refine nx_go ?_
    try dsimp only
    replace q10 := q10.same s13
    refine g_fr (d := marT ["a", "b"]) (e := marT ["a", "b", "c"]) (q := 3) (k := 0) (n := 0) (by (repeat' (first | exact ga_nil | refine ga_cons ?_ ?_ | exact g_int | exact g_non | exact g_str (by decide +kernel) (by decide +kernel) | exact g_var rfl (by assumption) | refine g_tup ?_ (Nat.le_of_ble_eq_true rfl) | refine g_lst ?_ (Nat.le_of_ble_eq_true rfl)))) (mar_gr (by decide +kernel)) (mar_gr (by decide +kernel)) (.inl (Nat.le_refl _)) (by decide) f5 same_refl fun H14 s14 => ⟨_, rfl, iteF ?_⟩
    replace q10 := q10.same s14
    refine g_fr (d := marT ["a", "b", "c"]) (e := marT ["a", "c"]) (q := 3) (k := 0) (n := 0) (by (repeat' (first | exact ga_nil | refine ga_cons ?_ ?_ | exact g_int | exact g_non | exact g_str (by decide +kernel) (by decide +kernel) | exact g_var rfl (by assumption) | refine g_tup ?_ (Nat.le_of_ble_eq_true rfl) | refine g_lst ?_ (Nat.le_of_ble_eq_true rfl)))) (mar_gr (by decide +kernel)) (mar_gr (by decide +kernel)) (.inl (Nat.le_refl _)) (by decide) f6 same_refl fun H15 s15 => ⟨_, rfl, iteF ?_⟩
    refine nx_go ?_
    try dsimp only
    replace q10 := q10.same s15
    exact g_fr (d := twoT) (e := bothT) (q := 3) (k := 1) (n := 1) (by (repeat' (first | exact ga_nil | refine ga_cons ?_ ?_ | exact g_int | exact g_non | exact g_str (by decide +kernel) (by decide +kernel) | exact g_var rfl (by assumption) | refine g_tup ?_ (Nat.le_of_ble_eq_true rfl) | refine g_lst ?_ (Nat.le_of_ble_eq_true rfl)))) two_gr both_gr (.inl (Nat.le_refl _)) (by decide) f7 same_refl fun H16 s16 => ⟨_, rfl, kk H16⟩
  rintro i σ' H2 hi ⟨l2, ls2, n2, v2, v3, v4, v5, v6, v7, v8, v9, v10, v11, v12, rfl, M2, hn2, sys2⟩
  have hi' : i < 26 := by
    revert hi
    split <;> intro hi <;> omega
  refine ⟨_, rfl, by show 3 ≤ sizeLine; decide, fun p0 np0 => ?_⟩
  have G2 : Gw m c l2 cs ls2 n2 H2 H2 := ⟨M2, .refl⟩
  obtain ⟨G3, t3, e3⟩ := G2.new (o := .tup [.int 2, .int 2, .int 4]) np0
  refine ⟨m, c, l2, p0, cs, ls2, n2, rfl, G3.mat, by omega, upd_same, fun q es ss H4 l4 ls4 n4 M4 nn4 s4 E4 => ?_⟩
  obtain ⟨⟨ea, sa, e4, qe4, qs4⟩, een, ene, est, ⟨le3, ls3⟩⟩ := E4
  refine ⟨q, _, rfl, SqT.of (fr_of e4).2.2, rfl, _, _, rfl, _, _, rfl, rfl, ?_⟩
  have sys4 := (sys2.same t3).same s4.1
  have F4 : Fs H2 m l2 H4 l4 := G3.sm.trans s4
  clear e3 t3 G3
  have d3 : dn 3 = 556 := by decide
  refine ⟨3, rfl, by decide, by decide, fun D nD => ?_⟩
  have G4 : Gw m c l4 cs ls4 n4 H4 H4 := ⟨M4, .refl⟩
  obtain ⟨G5, t5, e5⟩ := G4.new (o := .lst []) nD
  have Dm : D ≠ m := (ne_of_none M4.hm nD).symm
  have Dc : D ≠ c := (ne_of_none M4.hc nD).symm
  refine lc_it (walk_range (lo := 0)) (fun i H' => ∃ (l' : Addr) (ls' : List Int) (n' : Int) (vs : List V) (ds : List PyData), Dl H4 m c l4 cs n4 (600 * (i : Int)) D vs H' l' ls' n' ∧ DqAll (fr H' m l') vs ds ∧ ds.length = i ∧ (∀ d ∈ ds, Gt 3 d))
    ⟨l4, ls4, n4, [], [], ⟨G5.mat, by omega, G5.sm, e5⟩, .nil, rfl, fun d hd => absurd hd List.not_mem_nil⟩ (fun i H' _ _ => trivial) ?_ ?_
  · rintro j y H5 H6 hj ⟨l', ls', n', vs, ds, d, qv, le, hg⟩ ⟨rfl, rfl⟩
    have dle := d.le
    have j3 : j < 3 := hj
    refine ⟨rfl, ?_⟩
    unfold tYes
    refine iteT ?_
    refine ⟨_, rfl, _, rfl, m, c, l', 6, cs, ls', n', rfl, d.mat, by decide, by decide, by omega, fun r7 H7 l7 ls7 n7 r70 r71 M7 nn7 s7 => ⟨_, _, rfl, rfl, ?_⟩⟩
    refine ⟨m, c, l7, cs, ls7, n7, 1 + r7, rfl, M7, by omega, by omega, by omega, fun r8 e8 q8 H8 l8 ls8 n8 M8 nn8 s8 qd8 t8 hq8 => ?_⟩
    have d7 : Dl H4 m c l4 cs n4 (600 * (j : Int) + 1) D vs H7 l7 ls7 n7 := d.next M7 nn7 s7 (Int.le_refl _)
    have d8 : Dl H4 m c l4 cs n4 (600 * ((j + 1 : Nat) : Int)) D vs H8 l8 ls8 n8 := d7.next M8 nn8 s8 (by omega)
    have hv := qv.len
    refine ⟨vs, (fr_of d8.dd).2.2, small1000 (by omega), l8, ls8, n8, vs ++ [r8], ds ++ [e8], d8.put nD Dm Dc, ?_, by rw [List.length_append, List.length_singleton, le], ?_⟩
    · have gA : ∀ d ∈ ds ++ [e8], tupO d = true := fun x hx => by
        rcases List.mem_append.mp hx with hx | hx
        · exact (hg x hx).gr.tup
        · rw [List.mem_singleton.mp hx]
          exact t8.tup
      exact DqAll.tups (gw_put d8.dd) (((qv.same s7.1).same s8.1).app (.cons qd8 .nil)) (tupA_iff.mpr gA)
    · intro x hx
      rcases List.mem_append.mp hx with hx | hx
      · exact hg x hx
      · rw [List.mem_singleton.mp hx]
        exact gt_of t8 rfl
  rintro H5 ⟨l5, ls5, n5, vs, ds, d, qv, le, hg⟩
  have dle := d.le
  obtain ⟨_, xe, ez, eE, aE⟩ := dq_lst qe4
  obtain rfl := V.ref.inj ez
  obtain ⟨_, xs, ez2, eS, aS⟩ := dq_lst qs4
  obtain rfl := V.ref.inj ez2
  have eE5 := d.sm.1 _ _ eE
  have lxe := aE.len
  have lvs := qv.len
  have le' : ds.length = 3 := le
  refine ⟨_, rfl, D, ea, vs, xe, rfl, rfl, (fr_of d.dd).2.2, (fr_of eE5).2.2, Nat.le_of_lt (small1000 (by omega)), fun p3 np3 => ?_⟩
  have G5' : Gw m c l5 cs ls5 n5 H5 H5 := ⟨d.mat, .refl⟩
  obtain ⟨G6, t6, e6⟩ := G5'.new (o := .lst (vs ++ xe)) np3
  have A6 : DqAll (fr (upd H5 p3 (.lst (vs ++ xe))) m l5) (vs ++ xe) (ds ++ es) := (qv.same t6).app ((aE.same d.sm.1).same t6)
  have g6 : ∀ d ∈ ds ++ es, Gt 14 d := fun x hx => by
    rcases List.mem_append.mp hx with hx | hx
    · exact (hg x hx).up (by decide)
    · exact (een x hx).up (by decide)
  have sys6 := (sys4.same d.sm.1).same t6
  have eE6 := t6 _ _ eE5
  have eS6 := t6 _ _ (d.sm.1 _ _ eS)
  have aE6 := (aE.same d.sm.1).same t6
  have aS6 := (aS.same d.sm.1).same t6
  have M6 := G6.mat
  generalize upd H5 p3 (HO.lst (vs ++ xe)) = H6 at G6 t6 e6 A6 sys6 eE6 eS6 aE6 aS6 M6
  refine ⟨_, rfl, Nat.zero_le _, fun pl npl => ⟨sa, pl, xs, rfl, rfl, SqL.of (same_new npl _ _ (fr_of eS6).2.2), SqL.of upd_same, _, rfl, ?_⟩⟩
  have G6' : Gw m c l5 cs ls5 n5 H6 H6 := ⟨M6, .refl⟩
  obtain ⟨G7, t7, _⟩ := G6'.new (o := .lst []) npl
  have A7 := A6.same t7
  have sys7 := sys6.same t7
  have e7 := t7 _ _ e6
  have eE7 := t7 _ _ eE6
  have eS7 := t7 _ _ eS6
  have aE7 := aE6.same t7
  have aS7 := aS6.same t7
  have M7 := G7.mat
  generalize upd H6 pl (HO.lst []) = H7 at G7 t7 A7 sys7 e7 eE7 eS7 aE7 aS7 M7
  have lvx : (vs ++ xe).length ≤ 6 := by rw [List.length_append]; omega
  have lxs := aS.len
  generalize vs ++ xe = vT at e7 A7 lvx A6 e6
  generalize ds ++ es = dT at g6 A7 A6
  cases hne : xs.isEmpty with
  | true =>
    refine iteF ?_
    refine nx_go ?_
    try dsimp only
    have lAT := A7.len
    have sq : H7 p3 = some (.lst vT) := (fr_of e7).2.2
    have qT : DqAll H7 vT dT := A7.same fr_same
    have sysH : SysF H7 := sys7.same fr_same
    refine ⟨_, rfl, p3, rfl, ⟨_, SqL.of sq⟩, for_list (xs := vT) (fun j σ' H' => ∃ w8 w9, σ' = [some (V.ref a), some (V.ref m), some (V.int (0 + (i : Int))), some (V.ref ea), some (V.ref sa), some (V.ref p3), v6, v7, w8, w9, v10, v11, v12] ∧ Same H7 H') ⟨v8, v9, rfl, same_refl⟩ (fun _ _ _ _ ⟨_, _, _, s⟩ => SqL.of (s _ _ sq)) ?_ ?_⟩
    · rintro j x σ' HA hx ⟨w8, w9, rfl, sA⟩
      have hj : j < dT.length := by
        have := (List.getElem?_eq_some_iff.mp hx).1
        omega
      obtain ⟨vo, hvo, qo⟩ := qT.at (List.getElem?_eq_getElem hj)
      rw [hx] at hvo
      obtain rfl : x = vo := Option.some.inj hvo
      have go := g6 _ (List.getElem_mem hj)
      obtain ⟨mo, bo, eo, hmo, hbo, _⟩ := id go
      refine ⟨_, rfl, p3, rfl, ⟨_, SqL.of (sA _ _ sq)⟩, for_list (xs := vT) (fun j2 σ' H' => ∃ w9, σ' = [some (V.ref a), some (V.ref m), some (V.int (0 + (i : Int))), some (V.ref ea), some (V.ref sa), some (V.ref p3), v6, v7, some x, w9, v10, v11, v12] ∧ Same H7 H') ⟨w9, rfl, sA⟩ (fun _ _ _ _ ⟨_, _, s⟩ => SqL.of (s _ _ sq)) ?_ ?_⟩
      · rintro j2 y σ' HB hy ⟨w9, rfl, sB⟩
        have hj2 : j2 < dT.length := by
          have := (List.getElem?_eq_some_iff.mp hy).1
          omega
        obtain ⟨vp, hvp, qp⟩ := qT.at (List.getElem?_eq_getElem hj2)
        rw [hy] at hvp
        obtain rfl : y = vp := Option.some.inj hvp
        obtain ⟨mp, bp, ep, hmp, hbp, _⟩ := g6 _ (List.getElem_mem hj2)
        have qo' := qo
        rw [eo] at qo'
        have qp' := qp
        rw [ep] at qp'
        refine ⟨_, rfl, _, rfl, x, y, mo, mp, bo, bp, 14, 14, rfl, qo'.same sB, qp'.same sB, by have := hmo.len; omega, .inl hmp.len, hbo.brs, hbp.brs, by decide, fun HC sC => ?_⟩
        have bo1 : ∀ b : Bool, PyData.showable (.bool b) = true ∧ (PyData.bool b).depth ≤ 60 ∧ (PyData.bool b).shown.length ≤ sizeLine := fun b => by cases b <;> exact ⟨rfl, by decide, Nat.le_of_lt (small1000 (by decide +kernel))⟩
        refine ⟨_, .bool (hasL mo mp && fitL 14 bo bp), rfl, sysH.same (same_trans sB sC), .bl _, (bo1 _).1, (bo1 _).2.1, (bo1 _).2.2, ?_⟩
        refine ⟨_, rfl, _, rfl, x, y, mo, mp, bo, bp, 14, rfl, (qo'.same sB).same sC, (qp'.same sB).same sC, by have := hmp.len; omega, hbo.brs, hbp.brs, fun HD sD => ?_⟩
        refine ⟨_, .bool (hasL mo mp && fitL 14 bo bp), rfl, sysH.same (same_trans sB (same_trans sC sD)), .bl _, (bo1 _).1, (bo1 _).2.1, (bo1 _).2.2, rfl, _, rfl, ?_⟩
        exact iteNS rfl ⟨_, rfl, same_trans sB (same_trans sC sD)⟩
      · rintro σ' HB ⟨w9, rfl, sB⟩
        have qo' := qo
        rw [eo] at qo'
        refine ⟨_, rfl, _, rfl, x, x, mo, mo, bo, bo, 14, 14, rfl, qo'.same sB, qo'.same sB, by have := hmo.len; omega, .inl hmo.len, hbo.brs, hbo.brs, by decide, fun HC sC => ⟨_, true, rfl, rfl, _, rfl, ?_⟩⟩
        have re := fitD_refl 14 (Gt.gr go)
        rw [eo] at re
        have ne := node_eq 14 mo mo bo bo
        have re2 : (hasL mo mo && fitL 14 bo bo) = true := ne.symm.trans re
        rw [re2]
        exact iteNS rfl ⟨_, _, rfl, same_trans sB sC⟩
    · rintro σ' HA ⟨w8, w9, rfl, sA⟩
      have GT : Gw m c l5 cs ls5 n5 H7 H7 := ⟨M7, .refl⟩
      obtain ⟨GA, tA⟩ := GT.grow sA
      exact ⟨l5, ls5, n5, _, _, _, _, _, _, _, _, _, _, _, rfl, GA.mat, by omega, sys7.same tA⟩
  | false =>
    refine iteT ?_
    have lx1 : 1 ≤ xs.length := by
      cases xs with
      | nil => cases hne
      | cons _ _ => rw [List.length_cons]; omega
    refine ⟨_, rfl, m, c, l5, 5, cs, ls5, n5, rfl, M7, by decide, by decide, by omega, fun r8 H8 l8 ls8 n8 r80 r81 M8 nn8 s8 => ⟨_, rfl, by omega, by omega, fun D2 nD2 => ?_⟩⟩
    have eS8 := s8.1 _ _ eS7
    have G8 : Gw m c l8 cs ls8 n8 H8 H8 := ⟨M8, .refl⟩
    obtain ⟨G9, t9, e9⟩ := G8.new (o := .lst []) nD2
    have Dm2 : D2 ≠ m := (ne_of_none M8.hm nD2).symm
    have Dc2 : D2 ≠ c := (ne_of_none M8.hc nD2).symm
    refine lc_it (walk_range (lo := 0)) (fun i H' => ∃ (l' : Addr) (ls' : List Int) (n' : Int) (row : List Nat), Dl H8 m c l8 cs n8 (i : Int) D2 (row.map fun (k : Nat) => V.int (k : Int)) H' l' ls' n' ∧ row.length = i ∧ ∀ k ∈ row, k < ss.length)
      ⟨l8, ls8, n8, [], ⟨G9.mat, by omega, G9.sm, e9⟩, rfl, fun d hd => absurd hd List.not_mem_nil⟩ (fun i H' _ _ => trivial) ?_ ?_
    · rintro j y H9 H10 hj ⟨l', ls', n', row, dd, lr, hrow⟩ ⟨rfl, rfl⟩
      have j5 : j < 5 := by omega
      have dle2 := dd.le
      refine ⟨rfl, ?_⟩
      unfold tYes
      refine iteT ?_
      refine ⟨_, rfl, _, rfl, sa, xs, rfl, .inl (SqL.of (fr_of (dd.sm.1 _ _ eS8)).2.2), m, c, l', (xs.length : Int), cs, ls', n', rfl, dd.mat, by omega, by omega, by omega, fun r9 H9 l9 ls9 n9 r90 r91 M9 nn9 s9 => ?_⟩
      have d9 : Dl H8 m c l8 cs n8 ((j + 1 : Nat) : Int) D2 (row.map fun (k : Nat) => V.int (k : Int)) H9 l9 ls9 n9 := dd.next M9 nn9 s9 (by omega)
      refine ⟨_, (fr_of d9.dd).2.2, small1000 (by rw [List.length_map]; omega), l9, ls9, n9, row ++ [r9.toNat], ?_, by rw [List.length_append, List.length_singleton, lr], fun k hk => ?_⟩
      · have em : (row ++ [r9.toNat]).map (fun (k : Nat) => V.int (k : Int)) = row.map (fun (k : Nat) => V.int (k : Int)) ++ [V.int r9] := by
          rw [List.map_append, List.map_singleton, Int.toNat_of_nonneg r90]
        rw [em]
        exact d9.put nD2 Dm2 Dc2
      · rcases List.mem_append.mp hk with hk | hk
        · exact hrow k hk
        · rw [List.mem_singleton.mp hk]
          omega
    rintro H9 ⟨l9, ls9, n9, row, dd, lr, hrow⟩
    have dle2 := dd.le
    have lr4 : row.length ≤ 4 := by
      have : row.length = r8.toNat := lr
      omega
    refine ⟨D2, _, rfl, .inl ⟨SqL.of (fr_of dd.dd).2.2, fun p4 np4 => ⟨by show 1 ≤ sizeLine; decide, fun p5 np5 => ?_⟩⟩⟩
    have G10 : Gw m c l9 cs ls9 n9 H9 H9 := ⟨dd.mat, .refl⟩
    obtain ⟨G11, t11, e11⟩ := G10.new (o := .tup (row.map fun (k : Nat) => V.int (k : Int))) np4
    obtain ⟨G12, t12, e12⟩ := G11.new (o := .tup [.int 0]) np5
    refine ⟨p4, p5, _, _, rfl, rfl, (fr_of (t12 _ _ e11)).2.2, upd_same, Nat.le_of_lt (small1000 (by rw [List.length_map]; show row.length + 1 ≤ 1000; omega)), fun p6 HA sA eA => ?_⟩
    obtain ⟨GA, tA⟩ := G12.grow sA
    have t9A := same_trans t11 (same_trans t12 tA)
    have t7A := same_trans s8.1 (same_trans dd.sm.1 t9A)
    have eTA := t7A _ _ e7
    have ATA := A7.same t7A
    have sysA := sys7.same t7A
    have qeA : Dq HA (.ref ea) (.list es) := (Dq.lst (t7A _ _ eE7) (aE7.same t7A)).same fr_same
    have qsA : Dq HA (.ref sa) (.list ss) := (Dq.lst (t7A _ _ eS7) (aS7.same t7A)).same fr_same
    have qrA : Dq HA (.ref p6) (rowD row) := .tup eA (dq_row row)
    have MA := GA.mat
    replace GA : Gw m c l9 cs ls9 n9 HA HA := ⟨MA, .refl⟩
    refine ⟨_, rfl, _, rfl, _, rfl, _, rfl, .ref ea, .ref sa, .ref p6, es, ss, row, rfl, qeA, een, ene, qsA, est, qrA, hrow, lr4, fun u1 d1 HB sB q1 g1 => ?_⟩
    refine ⟨_, rfl, _, rfl, ?_⟩
    refine ⟨_, rfl, p6, _, rfl, .inr (SqT.of (sB _ _ eA)), _, _, rfl, rfl, _, rfl, ?_⟩
    cases row with
    | nil =>
      refine iteF ⟨_, rfl, .ref ea, .ref sa, .ref p6, es, ss, [], rfl, qeA.same sB, een, ene, qsA.same sB, est, qrA.same sB, hrow, lr4, fun u2 d2 HD sC' q2 g2 => ?_⟩
      have sAD := same_trans sB sC'
      refine ⟨by show 2 ≤ sizeLine; decide, fun p8 np8 => ?_⟩
      have s8' := same_trans sAD (same_new (o := .lst [u1, u2]) np8)
      have e8 : upd HD p8 (.lst [u1, u2]) p8 = some (.lst [u1, u2]) := upd_same
      have q1' := (q1.same sC').same (same_new (o := .lst [u1, u2]) np8)
      have q2' := q2.same (same_new (o := .lst [u1, u2]) np8)
      generalize upd HD p8 (HO.lst [u1, u2]) = HE at s8' e8 q1' q2'
      obtain ⟨GE, tE⟩ := GA.grow s8'
      have eT := tE _ _ eTA
      have AT := ATA.same tE
      have sysE := sysA.same tE
      refine ⟨p3, p8, vT, [u1, u2], rfl, rfl, (fr_of eT).2.2, e8, Nat.le_of_lt (small1000 (by show vT.length + 2 ≤ 1000; omega)), fun p9 np9 => ?_⟩
      have GE' : Gw m c l9 cs ls9 n9 HE HE := ⟨GE.mat, .refl⟩
      obtain ⟨GF', tF, eF⟩ := GE'.new (o := .lst (vT ++ [u1, u2])) np9
      have AF : DqAll (fr (upd HE p9 (.lst (vT ++ [u1, u2]))) m l9) (vT ++ [u1, u2]) (dT ++ [d1, d2]) := by
        refine (AT.same tF).app (.cons ?_ (.cons ?_ .nil))
        · exact Dq.tups (H := HE) (fun b zs e => GF'.tupAt (same_new np9 _ _ e)) q1' g1.gr.tup
        · exact Dq.tups (H := HE) (fun b zs e => GF'.tupAt (same_new np9 _ _ e)) q2' g2.gr.tup
      have gF : ∀ d ∈ dT ++ [d1, d2], Gt 14 d := fun x hx => by
        rcases List.mem_append.mp hx with hx | hx
        · exact g6 x hx
        · rcases List.mem_cons.mp hx with rfl | hx
          · exact g1
          · rw [List.mem_singleton.mp hx]
            exact g2
      have MF := GF'.mat
      have sysF := sysE.same tF
      generalize upd HE p9 (HO.lst (vT ++ [u1, u2])) = HF at eF AF MF sysF
      generalize vT ++ [u1, u2] = vF at eF AF
      generalize dT ++ [d1, d2] = dF' at AF gF
      refine nx_go ?_
      try dsimp only
      have lAT := AF.len
      have sq : HF p9 = some (.lst vF) := (fr_of eF).2.2
      have qT : DqAll HF vF dF' := AF.same fr_same
      have sysH : SysF HF := sysF.same fr_same
      refine ⟨_, rfl, p9, rfl, ⟨_, SqL.of sq⟩, for_list (xs := vF) (fun j σ' H' => ∃ w8 w9, σ' = [some (V.ref a), some (V.ref m), some (V.int (0 + (i : Int))), some (V.ref ea), some (V.ref sa), some (V.ref p9), v6, some (V.ref p6), w8, w9, v10, v11, v12] ∧ Same HF H') ⟨v8, v9, rfl, same_refl⟩ (fun _ _ _ _ ⟨_, _, _, s⟩ => SqL.of (s _ _ sq)) ?_ ?_⟩
      · rintro j x σ' HA hx ⟨w8, w9, rfl, sA⟩
        have hj : j < dF'.length := by
          have := (List.getElem?_eq_some_iff.mp hx).1
          omega
        obtain ⟨vo, hvo, qo⟩ := qT.at (List.getElem?_eq_getElem hj)
        rw [hx] at hvo
        obtain rfl : x = vo := Option.some.inj hvo
        have go := gF _ (List.getElem_mem hj)
        obtain ⟨mo, bo, eo, hmo, hbo, _⟩ := id go
        refine ⟨_, rfl, p9, rfl, ⟨_, SqL.of (sA _ _ sq)⟩, for_list (xs := vF) (fun j2 σ' H' => ∃ w9, σ' = [some (V.ref a), some (V.ref m), some (V.int (0 + (i : Int))), some (V.ref ea), some (V.ref sa), some (V.ref p9), v6, some (V.ref p6), some x, w9, v10, v11, v12] ∧ Same HF H') ⟨w9, rfl, sA⟩ (fun _ _ _ _ ⟨_, _, s⟩ => SqL.of (s _ _ sq)) ?_ ?_⟩
        · rintro j2 y σ' HB hy ⟨w9, rfl, sB⟩
          have hj2 : j2 < dF'.length := by
            have := (List.getElem?_eq_some_iff.mp hy).1
            omega
          obtain ⟨vp, hvp, qp⟩ := qT.at (List.getElem?_eq_getElem hj2)
          rw [hy] at hvp
          obtain rfl : y = vp := Option.some.inj hvp
          obtain ⟨mp, bp, ep, hmp, hbp, _⟩ := gF _ (List.getElem_mem hj2)
          have qo' := qo
          rw [eo] at qo'
          have qp' := qp
          rw [ep] at qp'
          refine ⟨_, rfl, _, rfl, x, y, mo, mp, bo, bp, 14, 14, rfl, qo'.same sB, qp'.same sB, by have := hmo.len; omega, .inl hmp.len, hbo.brs, hbp.brs, by decide, fun HC sC => ?_⟩
          have bo1 : ∀ b : Bool, PyData.showable (.bool b) = true ∧ (PyData.bool b).depth ≤ 60 ∧ (PyData.bool b).shown.length ≤ sizeLine := fun b => by cases b <;> exact ⟨rfl, by decide, Nat.le_of_lt (small1000 (by decide +kernel))⟩
          refine ⟨_, .bool (hasL mo mp && fitL 14 bo bp), rfl, sysH.same (same_trans sB sC), .bl _, (bo1 _).1, (bo1 _).2.1, (bo1 _).2.2, ?_⟩
          refine ⟨_, rfl, _, rfl, x, y, mo, mp, bo, bp, 14, rfl, (qo'.same sB).same sC, (qp'.same sB).same sC, by have := hmp.len; omega, hbo.brs, hbp.brs, fun HD sD => ?_⟩
          refine ⟨_, .bool (hasL mo mp && fitL 14 bo bp), rfl, sysH.same (same_trans sB (same_trans sC sD)), .bl _, (bo1 _).1, (bo1 _).2.1, (bo1 _).2.2, rfl, _, rfl, ?_⟩
          exact iteNS rfl ⟨_, rfl, same_trans sB (same_trans sC sD)⟩
        · rintro σ' HB ⟨w9, rfl, sB⟩
          have qo' := qo
          rw [eo] at qo'
          refine ⟨_, rfl, _, rfl, x, x, mo, mo, bo, bo, 14, 14, rfl, qo'.same sB, qo'.same sB, by have := hmo.len; omega, .inl hmo.len, hbo.brs, hbo.brs, by decide, fun HC sC => ⟨_, true, rfl, rfl, _, rfl, ?_⟩⟩
          have re := fitD_refl 14 (Gt.gr go)
          rw [eo] at re
          have ne := node_eq 14 mo mo bo bo
          have re2 : (hasL mo mo && fitL 14 bo bo) = true := ne.symm.trans re
          rw [re2]
          exact iteNS rfl ⟨_, _, rfl, same_trans sB sC⟩
      · rintro σ' HA ⟨w8, w9, rfl, sA⟩
        have GT : Gw m c l9 cs ls9 n9 HF HF := ⟨MF, .refl⟩
        obtain ⟨GA, tA⟩ := GT.grow sA
        exact ⟨l9, ls9, n9, _, _, _, _, _, _, _, _, _, _, _, rfl, GA.mat, by omega, sysF.same tA⟩
    | cons k0 row =>
      rw [decide_eq_true (show (((k0 :: row).map fun (k : Nat) => V.int (k : Int)) ++ [V.int 0]).length > (1 : Int) by rw [List.length_append, List.length_map, List.length_cons, List.length_singleton]; omega)]
      refine iteT ⟨_, rfl, 1, rfl, p6, _, rfl, sB _ _ eA, fun p7 HC sC eC => ?_⟩
      have qrC : Dq HC (.ref p7) (rowD row) := by
        rw [show (1 : Int) = ((1 : Nat) : Int) from rfl, cut_from] at eC
        exact .tup eC (dq_row row)
      refine ⟨.ref ea, .ref sa, .ref p7, es, ss, row, rfl, (qeA.same sB).same sC, een, ene, (qsA.same sB).same sC, est, qrC, fun k hk => hrow k (List.mem_cons_of_mem _ hk), by rw [List.length_cons] at lr4; omega, fun u2 d2 HD sD q2 g2 => ?_⟩
      have sC' := same_trans sC sD
      have sAD := same_trans sB sC'
      refine ⟨by show 2 ≤ sizeLine; decide, fun p8 np8 => ?_⟩
      have s8' := same_trans sAD (same_new (o := .lst [u1, u2]) np8)
      have e8 : upd HD p8 (.lst [u1, u2]) p8 = some (.lst [u1, u2]) := upd_same
      have q1' := (q1.same sC').same (same_new (o := .lst [u1, u2]) np8)
      have q2' := q2.same (same_new (o := .lst [u1, u2]) np8)
      generalize upd HD p8 (HO.lst [u1, u2]) = HE at s8' e8 q1' q2'
      obtain ⟨GE, tE⟩ := GA.grow s8'
      have eT := tE _ _ eTA
      have AT := ATA.same tE
      have sysE := sysA.same tE
      refine ⟨p3, p8, vT, [u1, u2], rfl, rfl, (fr_of eT).2.2, e8, Nat.le_of_lt (small1000 (by show vT.length + 2 ≤ 1000; omega)), fun p9 np9 => ?_⟩
      have GE' : Gw m c l9 cs ls9 n9 HE HE := ⟨GE.mat, .refl⟩
      obtain ⟨GF', tF, eF⟩ := GE'.new (o := .lst (vT ++ [u1, u2])) np9
      have AF : DqAll (fr (upd HE p9 (.lst (vT ++ [u1, u2]))) m l9) (vT ++ [u1, u2]) (dT ++ [d1, d2]) := by
        refine (AT.same tF).app (.cons ?_ (.cons ?_ .nil))
        · exact Dq.tups (H := HE) (fun b zs e => GF'.tupAt (same_new np9 _ _ e)) q1' g1.gr.tup
        · exact Dq.tups (H := HE) (fun b zs e => GF'.tupAt (same_new np9 _ _ e)) q2' g2.gr.tup
      have gF : ∀ d ∈ dT ++ [d1, d2], Gt 14 d := fun x hx => by
        rcases List.mem_append.mp hx with hx | hx
        · exact g6 x hx
        · rcases List.mem_cons.mp hx with rfl | hx
          · exact g1
          · rw [List.mem_singleton.mp hx]
            exact g2
      have MF := GF'.mat
      have sysF := sysE.same tF
      generalize upd HE p9 (HO.lst (vT ++ [u1, u2])) = HF at eF AF MF sysF
      generalize vT ++ [u1, u2] = vF at eF AF
      generalize dT ++ [d1, d2] = dF' at AF gF
      refine nx_go ?_
      try dsimp only
      have lAT := AF.len
      have sq : HF p9 = some (.lst vF) := (fr_of eF).2.2
      have qT : DqAll HF vF dF' := AF.same fr_same
      have sysH : SysF HF := sysF.same fr_same
      refine ⟨_, rfl, p9, rfl, ⟨_, SqL.of sq⟩, for_list (xs := vF) (fun j σ' H' => ∃ w8 w9, σ' = [some (V.ref a), some (V.ref m), some (V.int (0 + (i : Int))), some (V.ref ea), some (V.ref sa), some (V.ref p9), v6, some (V.ref p6), w8, w9, v10, v11, v12] ∧ Same HF H') ⟨v8, v9, rfl, same_refl⟩ (fun _ _ _ _ ⟨_, _, _, s⟩ => SqL.of (s _ _ sq)) ?_ ?_⟩
      · rintro j x σ' HA hx ⟨w8, w9, rfl, sA⟩
        have hj : j < dF'.length := by
          have := (List.getElem?_eq_some_iff.mp hx).1
          omega
        obtain ⟨vo, hvo, qo⟩ := qT.at (List.getElem?_eq_getElem hj)
        rw [hx] at hvo
        obtain rfl : x = vo := Option.some.inj hvo
        have go := gF _ (List.getElem_mem hj)
        obtain ⟨mo, bo, eo, hmo, hbo, _⟩ := id go
        refine ⟨_, rfl, p9, rfl, ⟨_, SqL.of (sA _ _ sq)⟩, for_list (xs := vF) (fun j2 σ' H' => ∃ w9, σ' = [some (V.ref a), some (V.ref m), some (V.int (0 + (i : Int))), some (V.ref ea), some (V.ref sa), some (V.ref p9), v6, some (V.ref p6), some x, w9, v10, v11, v12] ∧ Same HF H') ⟨w9, rfl, sA⟩ (fun _ _ _ _ ⟨_, _, s⟩ => SqL.of (s _ _ sq)) ?_ ?_⟩
        · rintro j2 y σ' HB hy ⟨w9, rfl, sB⟩
          have hj2 : j2 < dF'.length := by
            have := (List.getElem?_eq_some_iff.mp hy).1
            omega
          obtain ⟨vp, hvp, qp⟩ := qT.at (List.getElem?_eq_getElem hj2)
          rw [hy] at hvp
          obtain rfl : y = vp := Option.some.inj hvp
          obtain ⟨mp, bp, ep, hmp, hbp, _⟩ := gF _ (List.getElem_mem hj2)
          have qo' := qo
          rw [eo] at qo'
          have qp' := qp
          rw [ep] at qp'
          refine ⟨_, rfl, _, rfl, x, y, mo, mp, bo, bp, 14, 14, rfl, qo'.same sB, qp'.same sB, by have := hmo.len; omega, .inl hmp.len, hbo.brs, hbp.brs, by decide, fun HC sC => ?_⟩
          have bo1 : ∀ b : Bool, PyData.showable (.bool b) = true ∧ (PyData.bool b).depth ≤ 60 ∧ (PyData.bool b).shown.length ≤ sizeLine := fun b => by cases b <;> exact ⟨rfl, by decide, Nat.le_of_lt (small1000 (by decide +kernel))⟩
          refine ⟨_, .bool (hasL mo mp && fitL 14 bo bp), rfl, sysH.same (same_trans sB sC), .bl _, (bo1 _).1, (bo1 _).2.1, (bo1 _).2.2, ?_⟩
          refine ⟨_, rfl, _, rfl, x, y, mo, mp, bo, bp, 14, rfl, (qo'.same sB).same sC, (qp'.same sB).same sC, by have := hmp.len; omega, hbo.brs, hbp.brs, fun HD sD => ?_⟩
          refine ⟨_, .bool (hasL mo mp && fitL 14 bo bp), rfl, sysH.same (same_trans sB (same_trans sC sD)), .bl _, (bo1 _).1, (bo1 _).2.1, (bo1 _).2.2, rfl, _, rfl, ?_⟩
          exact iteNS rfl ⟨_, rfl, same_trans sB (same_trans sC sD)⟩
        · rintro σ' HB ⟨w9, rfl, sB⟩
          have qo' := qo
          rw [eo] at qo'
          refine ⟨_, rfl, _, rfl, x, x, mo, mo, bo, bo, 14, 14, rfl, qo'.same sB, qo'.same sB, by have := hmo.len; omega, .inl hmo.len, hbo.brs, hbo.brs, by decide, fun HC sC => ⟨_, true, rfl, rfl, _, rfl, ?_⟩⟩
          have re := fitD_refl 14 (Gt.gr go)
          rw [eo] at re
          have ne := node_eq 14 mo mo bo bo
          have re2 : (hasL mo mo && fitL 14 bo bo) = true := ne.symm.trans re
          rw [re2]
          exact iteNS rfl ⟨_, _, rfl, same_trans sB sC⟩
      · rintro σ' HA ⟨w8, w9, rfl, sA⟩
        have GT : Gw m c l9 cs ls9 n9 HF HF := ⟨MF, .refl⟩
        obtain ⟨GA, tA⟩ := GT.grow sA
        exact ⟨l9, ls9, n9, _, _, _, _, _, _, _, _, _, _, _, rfl, GA.mat, by omega, sysF.same tA⟩
end
end FM
set_option Elab.async false
set_option linter.all false
set_option maxRecDepth 100000
set_option maxHeartbeats 4000000
namespace FM
open PySem L2 L2H K01
abbrev pK : Program := PySem.Challenge.pw_onlyjoins_k02_whole_roots_that_fit
theorem all_mk {w : World} {K : PySem.W.Frag} {h : Heap} {mg : Str → Option Value} {fa : Addr} (X : K.In h) (G : h.Ns mainGlobals mg) (hfa : mg "law" = some (.ref fa))
    {fFR : Addr} {odFR anFR : Option Addr} {slFR : Array (Option Value)} {ocFR kVFR dcFR pmFR cdFR ctFR : Value}
    {fFL : Addr} {odFL anFL : Option Addr} {slFL : Array (Option Value)} {ocFL kVFL dcFL pmFL cdFL ctFL : Value}
    {fHM : Addr} {odHM anHM : Option Addr} {slHM : Array (Option Value)} {ocHM kVHM dcHM pmHM cdHM ctHM : Value}
    {fB : Addr} {odB anB : Option Addr} {slB : Array (Option Value)} {ocB kVB dcB pmB cdB ctB : Value}
    {fN : Addr} {odN anN : Option Addr} {slN : Array (Option Value)} {ocN kVN dcN pmN cdN ctN : Value}
    {fT : Addr} {odT anT : Option Addr} {slT : Array (Option Value)} {ocT kVT dcT pmT cdT ctT : Value}
    {fY : Addr} {odY anY : Option Addr} {slY : Array (Option Value)} {ocY kVY dcY pmY cdY ctY : Value}
    {fE : Addr} {odE anE : Option Addr} {slE : Array (Option Value)} {ocE kVE dcE pmE cdE ctE : Value}
    {fX : Addr} {odX anX : Option Addr} {slX : Array (Option Value)} {ocX kVX dcX pmX cdX ctX : Value}
    {fP : Addr} {odP anP : Option Addr} {slP : Array (Option Value)} {ocP kVP dcP pmP cdP ctP : Value}
    {fU : Addr} {odU anU : Option Addr} {slU : Array (Option Value)} {ocU kVU dcU pmU cdU ctU : Value}
    {fL : Addr} {odL anL : Option Addr} {slL : Array (Option Value)} {ocL kVL dcL pmL cdL ctL : Value}
    (aFR : PySem.W.nsIn K mainGlobals "fits_root" = some (some (.ref fFR))) (lFR : K.lookup fFR = some ⟨ocFR, odFR, .func (PySem.W.fnOf "fits_root" "fits_root" (defArgs sFR) (defBody sFR) (defScope sFR) .none kVFR dcFR pmFR anFR cdFR ctFR), slFR⟩) (cFR : PySem.W.codeIn K cdFR "fits_root" = true) (kFR : PySem.W.keepIn K (.ref fFR) = true)
    (aFL : PySem.W.nsIn K mainGlobals "_first_like" = some (some (.ref fFL))) (lFL : K.lookup fFL = some ⟨ocFL, odFL, .func (PySem.W.fnOf "_first_like" "_first_like" (defArgs sFL) (defBody sFL) (defScope sFL) .none kVFL dcFL pmFL anFL cdFL ctFL), slFL⟩) (cFL : PySem.W.codeIn K cdFL "_first_like" = true) (kFL : PySem.W.keepIn K (.ref fFL) = true)
    (aHM : PySem.W.nsIn K mainGlobals "has_marks" = some (some (.ref fHM))) (lHM : K.lookup fHM = some ⟨ocHM, odHM, .func (PySem.W.fnOf "has_marks" "has_marks" (defArgs sHM) (defBody sHM) (defScope sHM) .none kVHM dcHM pmHM anHM cdHM ctHM), slHM⟩) (cHM : PySem.W.codeIn K cdHM "has_marks" = true) (kHM : PySem.W.keepIn K (.ref fHM) = true)
    (aB : PySem.W.nsIn K mainGlobals "_law_begun" = some (some (.ref fB))) (lB : K.lookup fB = some ⟨ocB, odB, .func (PySem.W.fnOf "_law_begun" "_law_begun" (defArgs sBeg) (defBody sBeg) (defScope sBeg) .none kVB dcB pmB anB cdB ctB), slB⟩) (cB : PySem.W.codeIn K cdB "_law_begun" = true) (kB : PySem.W.keepIn K (.ref fB) = true)
    (aN : PySem.W.nsIn K mainGlobals "_law_next" = some (some (.ref fN))) (lN : K.lookup fN = some ⟨ocN, odN, .func (PySem.W.fnOf "_law_next" "_law_next" (defArgs sNext) (defBody sNext) (defScope sNext) .none kVN dcN pmN anN cdN ctN), slN⟩) (cN : PySem.W.codeIn K cdN "_law_next" = true) (kN : PySem.W.keepIn K (.ref fN) = true)
    (aT : PySem.W.nsIn K mainGlobals "_law_tree" = some (some (.ref fT))) (lT : K.lookup fT = some ⟨ocT, odT, .func (PySem.W.fnOf "_law_tree" "_law_tree" (defArgs sTree) (defBody sTree) (defScope sTree) .none kVT dcT pmT anT cdT ctT), slT⟩) (cT : PySem.W.codeIn K cdT "_law_tree" = true) (kT : PySem.W.keepIn K (.ref fT) = true)
    (aY : PySem.W.nsIn K mainGlobals "_law_body" = some (some (.ref fY))) (lY : K.lookup fY = some ⟨ocY, odY, .func (PySem.W.fnOf "_law_body" "_law_body" (defArgs sBody) (defBody sBody) (defScope sBody) .none kVY dcY pmY anY cdY ctY), slY⟩) (cY : PySem.W.codeIn K cdY "_law_body" = true) (kY : PySem.W.keepIn K (.ref fY) = true)
    (aE : PySem.W.nsIn K mainGlobals "_law_ends_and_steps" = some (some (.ref fE))) (lE : K.lookup fE = some ⟨ocE, odE, .func (PySem.W.fnOf "_law_ends_and_steps" "_law_ends_and_steps" (defArgs sEas) (defBody sEas) (defScope sEas) .none kVE dcE pmE anE cdE ctE), slE⟩) (cE : PySem.W.codeIn K cdE "_law_ends_and_steps" = true) (kE : PySem.W.keepIn K (.ref fE) = true)
    (aX : PySem.W.nsIn K mainGlobals "_law_fits" = some (some (.ref fX))) (lX : K.lookup fX = some ⟨ocX, odX, .func (PySem.W.fnOf "_law_fits" "_law_fits" (defArgs sFits) (defBody sFits) (defScope sFits) .none kVX dcX pmX anX cdX ctX), slX⟩) (cX : PySem.W.codeIn K cdX "_law_fits" = true) (kX : PySem.W.keepIn K (.ref fX) = true)
    (aP : PySem.W.nsIn K mainGlobals "_law_put" = some (some (.ref fP))) (lP : K.lookup fP = some ⟨ocP, odP, .func (PySem.W.fnOf "_law_put" "_law_put" (defArgs sPut) (defBody sPut) (defScope sPut) .none kVP dcP pmP anP cdP ctP), slP⟩) (cP : PySem.W.codeIn K cdP "_law_put" = true) (kP : PySem.W.keepIn K (.ref fP) = true)
    (aU : PySem.W.nsIn K mainGlobals "_law_unfolded" = some (some (.ref fU))) (lU : K.lookup fU = some ⟨ocU, odU, .func (PySem.W.fnOf "_law_unfolded" "_law_unfolded" (defArgs sUnf) (defBody sUnf) (defScope sUnf) .none kVU dcU pmU anU cdU ctU), slU⟩) (cU : PySem.W.codeIn K cdU "_law_unfolded" = true) (kU : PySem.W.keepIn K (.ref fU) = true)
    (aL : PySem.W.nsIn K mainGlobals "law" = some (some (.ref fL))) (lL : K.lookup fL = some ⟨ocL, odL, .func (PySem.W.fnOf "law" "law" (defArgs sLaw) (defBody sLaw) (defScope sLaw) .none kVL dcL pmL anL cdL ctL), slL⟩) (cL : PySem.W.codeIn K cdL "law" = true) (kL : PySem.W.keepIn K (.ref fL) = true)
    (z0 : PySem.W.nsIn K mainGlobals "set" = some none)
    (z1 : PySem.W.nsIn K mainGlobals "len" = some none)
    (z2 : PySem.W.nsIn K mainGlobals "range" = some none)
    (z3 : PySem.W.nsIn K mainGlobals "list" = some none)
    (z4 : PySem.W.nsIn K mainGlobals "int" = some none)
    (z5 : PySem.W.nsIn K mainGlobals "sorted" = some none)
    (z6 : PySem.W.nsIn K mainGlobals "tuple" = some none)
    (z7 : PySem.W.nsIn K mainGlobals "min" = some none)
    (z8 : PySem.W.nsIn K mainGlobals "repr" = some none) :
    ∃ fd : FuncData, (∀ (s : Shared) (u : Value), BindsTo s fd ⟨[u], []⟩ [("script", u)]) ∧ ∀ base : Heap, K.In base → base.Ns mainGlobals mg → AtTop pK w K mg base fa fd "script" (FM.spLaw K) := by
  have e := hfa.symm.trans (PySem.W.mg_of X G aL)
  cases e
  have no : ∀ {n : Str}, PySem.W.nsIn K mainGlobals n = some none → mg n = none := fun {n} z => PySem.W.mg_none_of X G z
  have FFR := fun_mk (st := sFR) lFR cFR kFR
  have BFR := FFR.binds (ps := ["tree", "pattern"]) fun _ _ _ _ _ _ us hl => match us, hl with | [_, _], _ => rfl
  have gFR : mg "fits_root" = some (.ref fFR) := PySem.W.mg_of X G aFR
  have FFL := fun_mk (st := sFL) lFL cFL kFL
  have BFL := FFL.binds (ps := ["branches", "wanted", "start"]) fun _ _ _ _ _ _ us hl => match us, hl with | [_, _, _], _ => rfl
  have gFL : mg "_first_like" = some (.ref fFL) := PySem.W.mg_of X G aFL
  have FHM := fun_mk (st := sHM) lHM cHM kHM
  have BHM := FHM.binds (ps := ["marks", "wanted"]) fun _ _ _ _ _ _ us hl => match us, hl with | [_, _], _ => rfl
  have gHM : mg "has_marks" = some (.ref fHM) := PySem.W.mg_of X G aHM
  have FB := fun_mk (st := sBeg) lB cB kB
  have BB := FB.binds (ps := ["script"]) fun _ _ _ _ _ _ us hl => match us, hl with | [_], _ => rfl
  have gB : mg "_law_begun" = some (.ref fB) := PySem.W.mg_of X G aB
  have FN := fun_mk (st := sNext) lN cN kN
  have BN := FN.binds (ps := ["m", "many"]) fun _ _ _ _ _ _ us hl => match us, hl with | [_, _], _ => rfl
  have gN : mg "_law_next" = some (.ref fN) := PySem.W.mg_of X G aN
  have FT := fun_mk (st := sTree) lT cT kT
  have BT := FT.binds (ps := ["m", "size", "deep"]) fun _ _ _ _ _ _ us hl => match us, hl with | [_, _, _], _ => rfl
  have gT : mg "_law_tree" = some (.ref fT) := PySem.W.mg_of X G aT
  have FY := fun_mk (st := sBody) lY cY kY
  have BY := FY.binds (ps := ["m", "size"]) fun _ _ _ _ _ _ us hl => match us, hl with | [_, _], _ => rfl
  have gY : mg "_law_body" = some (.ref fY) := PySem.W.mg_of X G aY
  have FE := fun_mk (st := sEas) lE cE kE
  have BE := FE.binds (ps := ["m", "sizes"]) fun _ _ _ _ _ _ us hl => match us, hl with | [_, _], _ => rfl
  have gE : mg "_law_ends_and_steps" = some (.ref fE) := PySem.W.mg_of X G aE
  have FX := fun_mk (st := sFits) lX cX kX
  have BX := FX.binds (ps := ["tree", "pattern"]) fun _ _ _ _ _ _ us hl => match us, hl with | [_, _], _ => rfl
  have gX : mg "_law_fits" = some (.ref fX) := PySem.W.mg_of X G aX
  have FP := fun_mk (st := sPut) lP cP kP
  have BP := FP.binds (ps := ["body", "tree"]) fun _ _ _ _ _ _ us hl => match us, hl with | [_, _], _ => rfl
  have gP : mg "_law_put" = some (.ref fP) := PySem.W.mg_of X G aP
  have FU := fun_mk (st := sUnf) lU cU kU
  have BU := FU.binds (ps := ["ends", "steps", "row"]) fun _ _ _ _ _ _ us hl => match us, hl with | [_, _, _], _ => rfl
  have gU : mg "_law_unfolded" = some (.ref fU) := PySem.W.mg_of X G aU
  have FL := fun_mk (st := sLaw) lL cL kL
  have TMm : TM mg := { set := no z0, len := no z1 }
  have TBm : TxtB mg := ⟨no z3, no z4, no z1⟩
  have TSm : TS2 mg := { tm := TMm, sorted := no z5, tuple := no z6 }
  have LTm : FM.LTx mg fB fN fT fE fU fX fFR := { tm := TMm, repr := no z8, min := no z7, range := no z2, tuple := no z6, gB := gB, gN := gN, gT := gT, gE := gE, gU := gU, gL := gX, gF := gFR }
  have GN := fun base : Heap => (ok_next (P := pK) (w := w) (base := base) FN TBm).imp fun _ _ _ _ => nx_of
  have GY := fun base : Heap => ok_body (P := pK) (w := w) (base := base) FY FN BN gN FT BT gT TBm (no z6)
  have GT := fun base : Heap => ok_tree (P := pK) (w := w) (base := base) FT BT gT FN BN gN TBm (no z6)
  have key := fun base : Heap => FM.ok_law (P := pK) (w := w) (base := base) FL LTm FB BB (ok_beg FB TBm) FN BN (GN base) FT BT (GT base 3 (by decide))
    FE BE (ok_ea FE FN BN gN (GN base) FT BT gT (GT base 2 (by decide)) FY BY gY (GY base) (no z2)) FU BU (ok_un FU FP BP gP TSm) FX BX (ok_lf FX BX gX 14)
    FFR BFR (ok_fr FFR FFL BFL gFL FHM BHM gHM TMm (no z2))
  exact ⟨_, fun s v => .of_eq rfl, fun base _ _ => key base⟩
theorem walk {q : Program} {loose : List Str} {XP : (Str → Option Value) → Heap → Prop} {YP : World → Heap → Prop} {d : DefRec} {K : Params → PySem.W.Frag} {l : PySem.W.OpenLaw} (hp : l.prog = pK) (hn : l.most = some 63) (hdf : d.params.defaults = []) (hi : PyProof.Rows.importsNone q = true)
    (hY : ∀ (w : World) (h : Heap), YP w h → (K w.params).In h) (km : ∀ w : World, (K w.params).lookup sysModules = none)
    (F : ∀ (w : World) (mg : Str → Option Value) (fa : Addr) (h : Heap), (K w.params).In h → h.Ns mainGlobals mg → mg d.name = some (.ref fa) →
      ∃ fd : FuncData, (∀ (s : Shared) (u : Value), BindsTo s fd ⟨[u], []⟩ [("script", u)]) ∧ ∀ base : Heap, (K w.params).In base → base.Ns mainGlobals mg → AtTop l.prog w (K w.params) mg base fa fd "script" (FM.spLaw (K w.params))) :
    PySem.W.WalkO q loose XP YP l.row.toRowW d [] (fun f vs => PySem.call f vs) :=
  walk_topB (n := 63) (x := "script") (sp := fun w => FM.spLaw (K w.params)) hn (by decide) hdf hi hY km F fun _ _ a ns hl hS' hS => ⟨a, ns, rfl, hS, hl, hS', fun _ => rfl⟩
end FM
set_option Elab.async false
open PySem PySem.W PyProof.Rows
set_option maxRecDepth 100000 in
set_option maxHeartbeats 0 in
theorem PySem.Challenge.cw_onlyjoins_k02_whole_roots_that_fit_holds : PySem.Challenge.rw_onlyjoins_k02_whole_roots_that_fit.Holds := by
  w_on; o_law; k_head; (case hw => w_witness2)
  k_fill
  refine FM.walk (l := PySem.Challenge.rw_onlyjoins_k02_whole_roots_that_fit) rfl rfl rfl (by decide +kernel) (fun w h Y => PySem.W.kIn_of Y) ?km ?F
  case km =>
    intro w
    exact rfl
  case F =>
    intro w mg fa h KX G hmg
    refine' FM.all_mk KX G hmg ?aFR ?lFR ?cFR ?kFR ?aFL ?lFL ?cFL ?kFL ?aHM ?lHM ?cHM ?kHM ?aB ?lB ?cB ?kB ?aN ?lN ?cN ?kN ?aT ?lT ?cT ?kT ?aY ?lY ?cY ?kY ?aE ?lE ?cE ?kE ?aX ?lX ?cX ?kX ?aP ?lP ?cP ?kP ?aU ?lU ?cU ?kU ?aL ?lL ?cL ?kL ?z0 ?z1 ?z2 ?z3 ?z4 ?z5 ?z6 ?z7 ?z8
    (case aFR => k_is)
    (case lFR => k_is)
    (case cFR => k_is)
    (case kFR => k_is)
    (case aFL => k_is)
    (case lFL => k_is)
    (case cFL => k_is)
    (case kFL => k_is)
    (case aHM => k_is)
    (case lHM => k_is)
    (case cHM => k_is)
    (case kHM => k_is)
    (case aB => k_is)
    (case lB => k_is)
    (case cB => k_is)
    (case kB => k_is)
    (case aN => k_is)
    (case lN => k_is)
    (case cN => k_is)
    (case kN => k_is)
    (case aT => k_is)
    (case lT => k_is)
    (case cT => k_is)
    (case kT => k_is)
    (case aY => k_is)
    (case lY => k_is)
    (case cY => k_is)
    (case kY => k_is)
    (case aE => k_is)
    (case lE => k_is)
    (case cE => k_is)
    (case kE => k_is)
    (case aX => k_is)
    (case lX => k_is)
    (case cX => k_is)
    (case kX => k_is)
    (case aP => k_is)
    (case lP => k_is)
    (case cP => k_is)
    (case kP => k_is)
    (case aU => k_is)
    (case lU => k_is)
    (case cU => k_is)
    (case kU => k_is)
    (case aL => k_is)
    (case lL => k_is)
    (case cL => k_is)
    (case kL => k_is)
    (case z0 => k_is)
    (case z1 => k_is)
    (case z2 => k_is)
    (case z3 => k_is)
    (case z4 => k_is)
    (case z5 => k_is)
    (case z6 => k_is)
    (case z7 => k_is)
    (case z8 => k_is)
