import PyProof.Rows.All
import Wide.All
import OpenK.AllK
import Wide.FinOn
import HandS.ForMost
import HandS.Spec
import HandS.IsInst
import HandS.RaiseMore
import PyProof.ReprRoads
import HandS.Defaults
import HandS.Walk
import HandS.TupAny
import HandS.Zip
import HandS.Set
import HandS.SetFor
import HandS.SetTxt0
import PyProof.Rows.SortStr
import PyProof.Rows.SortKeyStr
import PyProof.Rows.SortShellK
import HandS.Strs
import HandS.Steps
import PyProof.EqAt
import PyProof.EqKinds
import PyProof.NeKinds
import HandS.Base
import HandS.Call
import HandS.List
import PyProof.Rows.ReprOcc
import HandS.Style
import PyProof.StrLawsRepr
import PyProof.StrOps2
import HandS.TupMul
import PySem.Challenge.RW_onlyjoins_k01_whole_trees_told_apart
set_option Elab.async false
set_option linter.all false
set_option maxRecDepth 100000
set_option maxHeartbeats 4000000
/-! The law's own def, called from the very top: its surroundings are known (no repr is under way). -/
namespace L2H
open PySem PySem.Spec PyProof.Rows L2
/-- a promise kept when called from the top -/
def AtTop (P : Program) (w : World) (K : PySem.W.Frag) (mg : Str → Option Value) (base : Heap) (f : Addr) (fd : FuncData) (x : Str) (sp : Sp) : Prop :=
  ∀ (s : Shared) (H : Hp) (u : Value) (v : V) (Q : VK) (E : XK), Env0 P w K mg base callerA [] s H → BindsTo s fd ⟨[u], []⟩ [(x, u)] → RelV v u → sp [v] H Q E →
    codeAny (model P w) callerA (.call (.ref f) ⟨[u], []⟩) (CR CX0 [] P w H s Q E) s
section
variable {P : Program} {w : World} {K : PySem.W.Frag} {mg : Str → Option Value} {base : Heap} {x name : Str} {st : Stmt} {f : Addr} {fd : FuncData} {N : List Str} {k : Nat} {sp : Sp}
theorem atTop_of (F : Fun K name name st f fd) (S : FnScope N [x] (defScope st)) (hr : Room (k + 1) callerA)
    (body : ∀ (cdv : Value) (s : Shared) (H : Hp) (v : V) (Q : VK) (E : XK), Room k (callerA.deeper (envOfC name (defScope st) s.heap.objs.size f cdv)) → sp [v] H Q E →
      ∃ t, PSs (cxOf CX0 P w K mg base N name (defScope st) f cdv callerA [] s H E).nox (defBody st) t ∧ t { nx := fun _ H' => Q .non H', rt := Q } (start N [v]) H) :
    AtTop P w K mg base f fd x sp := by
  obtain ⟨oc, od, kV, doc, pm, an, cdv, ct, osl, rfl, lk, hcd⟩ := F.ex
  intro s H u v Q E e0 hb ru hsp
  have KX : K.In s.heap := e0.mod.kin.keeps fun b o z => (e0.bs b o z).1
  have lim : s.heap.NoLimit := e0.mod.nolimit.keeps fun b o z => (e0.bs b o z).1
  have kinds : ∀ y ∈ [(x, u)], (defScope st).names.lookup y.1 = some .local ∨ ((defScope st).names.lookup y.1 = some .cell ∧ ((cellsFrom (s.heap.objs.size + 1) (defScope st).names []).lookup y.1).isSome = true) := fun y hy => by
    rcases List.mem_cons.mp hy with rfl | z
    · rcases S.par x (List.mem_cons_self ..) with q | q
      · exact .inl q
      · exact .inr ⟨q, PySem.W.cellsFrom_some _ _ _ (.inl q)⟩
    · cases z
  refine codeAny_call_function hr.depth (KX _ _ lk) rfl S.co S.gen rfl (PySem.W.codeRec_of KX hcd) (hb _ _ _ _ ?_)
  refine wpAny_newFunctionEnv_cells S.kind kinds fun env he s1 y => ?_
  subst he
  refine ⟨lim.keeps y.toInCall.keep, codeAny_func ?_⟩
  obtain ⟨t, ht, hq⟩ := body cdv s H v Q E (hr.deeper _) hsp
  have I : Inv (cxOf CX0 P w K mg base N name (defScope st) f cdv callerA [] s H E) [] (start N [v]) H s1 := inv_start (ps := [x]) (us := [u]) S hr.hd e0 rfl (.cons ru .nil) y
  refine wpAny_mono (ht.nox.run [] s1 (start N [v]) H _ I hq) (fun fl s' hs => ?_) fun _ _ z => z
  cases fl with
  | ret u' =>
    obtain ⟨v', σ', H', J, rv, q⟩ := hs
    exact ⟨v', H', J.os, J.bare, J.base, J.hok, rv, q⟩
  | next =>
    obtain ⟨σ', H', J, q⟩ := hs
    exact ⟨V.non, H', J.os, J.bare, J.base, J.hok, rfl, q⟩
  | brk =>
    obtain ⟨_, _, _, q⟩ := hs
    exact q.elim
  | cont =>
    obtain ⟨_, _, _, q⟩ := hs
    exact q.elim
end
section
variable {P : Program} {w : World} {K : PySem.W.Frag} {mg mb : Str → Option Value} {fa a : Addr} {fd : FuncData} {x : Str} {sp : Sp} {t : Shared} {vs : List Value} {ns : List Int}
/-- what the law's row asks of the call -/
abbrev Good (t : Shared) : Result → Shared → Prop := fun r t' => r = .ok (.ret (.bool true)) ∧ OldK t.heap t'.heap ∧ t'.os = t.os ∧ AllBare t'.gens
theorem from_top (KX : K.In t.heap) (gn : t.heap.Ns mainGlobals mg) (bn : t.heap.Ns builtinsNs mb) (bb : ∀ y : Str, y ≠ "__name__" → mb y = bootBuiltins y) (lim : t.heap.NoLimit) (g0 : t.gens = #[])
    (at_a : t.heap.get? a = some { cls := .type "list", data := .seq vs.toArray }) (allInt : IntsAre vs ns) (short : ns.length ≤ sizeLine)
    (F : ∀ base : Heap, K.In base → base.Ns mainGlobals mg → AtTop P w K mg base fa fd x sp) (bind : ∀ (s : Shared) (u : Value), BindsTo s fd ⟨[u], []⟩ [(x, u)])
    (wish : ∀ H : Hp, Only H → SqL K H a (ns.map V.int) → sp [.ref a] H (fun v _ => v = .bl true) fun _ _ _ => False) :
    codeAny (model P w) callerA (.call (.ref fa) ⟨[.ref a], []⟩) (Good t) t := by
  have rvs := vals_ints allInt
  have inner : ∀ H : Hp, Only H → SqL K H a (ns.map V.int) → HOk P w H t.heap → (∀ b, H b ≠ none → b = a) → (H a ≠ none → K.lookup a = none) →
      codeAny (model P w) callerA (.call (.ref fa) ⟨[.ref a], []⟩) (Good t) t := fun H hO hS hok one out => by
    have pass : ∀ {b : Addr} {o : Obj}, t.heap.get? b = some o → H b = none → (hidT t.heap H).get? b = some o := fun z n => hidT_get z n
    have dicts : ∀ {b : Addr} {o : Obj} {es : Array DictEntry} {ep : Nat}, t.heap.get? b = some o → o.data = .dict es ep → H b = none := fun {b o es ep} z dz => by
      cases q : H b with
      | none => rfl
      | some u =>
        obtain rfl : b = a := one b (by rw [q]; simp)
        rw [at_a] at z
        cases z
        have y : Data.seq vs.toArray _ = Data.dict es ep := dz
        cases y
    have nsp : ∀ {b : Addr} {m : Str → Option Value}, t.heap.Ns b m → (hidT t.heap H).Ns b m := fun {b m} ⟨o, es, ep, z, dz, r⟩ => ⟨o, es, ep, pass z (dicts z dz), dz, r⟩
    have Kb : K.In (hidT t.heap H) := fun b o z => pass (KX b o z) (by
      cases q : H b with
      | none => rfl
      | some u =>
        obtain rfl : b = a := one b (by rw [q]; simp)
        rw [out (by rw [q]; simp)] at z
        cases z)
    have md : Mod K mg (hidT t.heap H) := ⟨Kb, nsp gn, ⟨mb, nsp bn, bb⟩, let ⟨mc, q1, q2⟩ := lim; ⟨mc, nsp q1, q2⟩⟩
    have env : Env0 P w K mg (hidT t.heap H) callerA [] t H :=
      ⟨rfl, md, fun b o z => of_hidT z, Nat.le_of_eq (hidT_size _ _), trivial, fun b hb => absurd (show b ∈ ([] : List Addr) from hb) (by simp), hok, .of_eq g0⟩
    refine codeAny_mono (F _ Kb (nsp gn) t H (.ref a) (.ref a) _ _ env (bind t (.ref a)) rfl (wish H hO hS)) fun r t' h => ?_
    cases r with
    | error e => exact False.elim h
    | ok fl =>
     cases fl with
     | next => exact False.elim h
     | brk => exact False.elim h
     | cont => exact False.elim h
     | ret u =>
      obtain ⟨v, H', os, bare, un, hok', r', q⟩ := h
      obtain rfl : v = V.bl true := q
      obtain rfl : u = Value.bool true := r'
      refine ⟨rfl, OldK.of_keep fun b o z => ?_, os, bare⟩
      cases q : H b with
      | none => exact un.keep b o z q (by intro y; exact absurd (show b ∈ ([] : List Addr) from y) (by simp)) (by simp)
      | some u =>
        rcases hO b with y | ⟨ob, xs, y⟩
        · rw [q] at y
          cases y
        · obtain ⟨e1, _⟩ := hok b _ y
          obtain ⟨e2, _⟩ := hok' b _ (un.frzs b ob _ y)
          rw [z] at e1
          cases e1
          exact e2
  cases hk : K.lookup a with
  | some o =>
    have z := KX a o hk
    rw [at_a] at z
    cases z
    have sq : SqL K (fun _ => none) a (ns.map V.int) := .inr ⟨_, vs.toArray, _, hk, rfl, rfl, rfl, by rw [List.size_toArray, allInt.length]; exact short, by simpa using rvs⟩
    exact inner (fun _ => none) (fun _ => .inl rfl) sq (fun b u y => by cases (show (none : Option HO) = some u from y)) (fun b y => absurd rfl y) fun y => absurd rfl y
  | none =>
    let Hs : Hp := fun b => if b = a then some (.frz { cls := .type "list", data := .seq vs.toArray } (.lst (ns.map V.int))) else none
    have on : Hs a = some (.frz { cls := .type "list", data := .seq vs.toArray } (.lst (ns.map V.int))) := if_pos rfl
    have off : ∀ b, b ≠ a → Hs b = none := fun b hb => if_neg hb
    refine inner Hs (fun b => ?_) (.inl (.inr ⟨_, on⟩)) (fun b u z => ?_) (fun b z => ?_) fun _ => hk
    · by_cases hb : b = a
      · subst hb
        exact .inr ⟨_, _, on⟩
      · exact .inl (off b hb)
    · by_cases hb : b = a
      · subst hb
        rw [on] at z
        cases z
        exact ⟨at_a, by rw [List.length_map]; exact short, vs, _, rvs, at_a⟩
      · rw [off b hb] at z
        cases z
    · by_cases hb : b = a
      · exact hb
      · exact absurd (off b hb) z
end
/-- the law's row, from the promise of its def called from the top -/
theorem walk_top {l : PySem.W.OpenLaw} {n : Nat} {q : Program} {loose : List Str} {XP : (Str → Option Value) → Heap → Prop} {YP : World → Heap → Prop} {d : DefRec} {K : Params → PySem.W.Frag} {sp : World → Sp} {x : Str}
    (hn : l.most = some n) (few : n ≤ sizeLine) (hdf : d.params.defaults = []) (hY : ∀ (w : World) (h : Heap), YP w h → (K w.params).In h)
    (F : ∀ (w : World) (mg : Str → Option Value) (fa : Addr) (h : Heap), (K w.params).In h → h.Ns mainGlobals mg → mg d.name = some (.ref fa) →
      ∃ fd : FuncData, (∀ (s : Shared) (u : Value), BindsTo s fd ⟨[u], []⟩ [(x, u)]) ∧
        ∀ base : Heap, (K w.params).In base → base.Ns mainGlobals mg → AtTop l.prog w (K w.params) mg base fa fd x (sp w))
    (wish : ∀ (w : World) (H : Hp) (a : Addr) (ns : List Int), ns.length ≤ n → Only H → SqL (K w.params) H a (ns.map V.int) → sp w [.ref a] H (fun v _ => v = .bl true) fun _ _ _ => False) :
    PySem.W.WalkO q loose XP YP l.row.toRowW d [] (fun f vs => PySem.call f vs) := by
  refine Att.attach_call hn hdf fun w s₀ t mg mb fa o pm cd doc a vs ns G Y ho hd hcd hmg hobj hints hlen g0 => ?_
  have KX := hY w _ Y
  obtain ⟨fd, hb, hF⟩ := F w mg fa _ KX G.T.g hmg
  exact from_top KX G.T.g G.T.b G.T.builtins G.T.nolimit g0 hobj hints (Nat.le_trans hlen few) hF hb fun H hO hS => wish w H a ns hlen hO hS
end L2H
set_option Elab.async false
set_option linter.all false
set_option maxRecDepth 100000
set_option maxHeartbeats 4000000
/-! The law's own def, called from the very top: the table of modules stands apart, too. -/
namespace L2H
open PySem PySem.Spec PyProof.Rows L2
/-- the table of modules is tracked, and locked -/
def SysF (H : Hp) : Prop := ∃ o u, H sysModules = some (.frz o u)
section
variable {P : Program} {w : World} {K : PySem.W.Frag} {mg mb : Str → Option Value} {fa a : Addr} {fd : FuncData} {x : Str} {sp : Sp} {t : Shared} {vs : List Value} {ns : List Int}
theorem from_topB (KX : K.In t.heap) (gn : t.heap.Ns mainGlobals mg) (bn : t.heap.Ns builtinsNs mb) (bb : ∀ y : Str, y ≠ "__name__" → mb y = bootBuiltins y) (lim : t.heap.NoLimit) (g0 : t.gens = #[])
    (sm : ∃ m, t.heap.Ns sysModules m) (km : K.lookup sysModules = none)
    (at_a : t.heap.get? a = some { cls := .type "list", data := .seq vs.toArray }) (allInt : IntsAre vs ns) (short : ns.length ≤ sizeLine)
    (F : ∀ base : Heap, K.In base → base.Ns mainGlobals mg → AtTop P w K mg base fa fd x sp) (bind : ∀ (s : Shared) (u : Value), BindsTo s fd ⟨[u], []⟩ [(x, u)])
    (wish : ∀ H : Hp, SysF H → SqL K H a (ns.map V.int) → sp [.ref a] H (fun v _ => v = .bl true) fun _ _ _ => False) :
    codeAny (model P w) callerA (.call (.ref fa) ⟨[.ref a], []⟩) (Good t) t := by
  have rvs := vals_ints allInt
  obtain ⟨mm, om, esm, epm, hom, hdm, _⟩ := sm
  have na : a ≠ sysModules := fun z => by
    rw [z, hom] at at_a
    cases at_a
    have y : Data.seq vs.toArray _ = Data.dict esm epm := hdm
    cases y
  have inner : ∀ H : Hp, OnlyF H → SysF H → SqL K H a (ns.map V.int) → HOk P w H t.heap → (∀ b, H b ≠ none → b = a ∨ b = sysModules) → (H a ≠ none → K.lookup a = none) →
      codeAny (model P w) callerA (.call (.ref fa) ⟨[.ref a], []⟩) (Good t) t := fun H hO hY hS hok one out => by
    have pass : ∀ {b : Addr} {o : Obj}, t.heap.get? b = some o → H b = none → (hidT t.heap H).get? b = some o := fun z n => hidT_get z n
    have dicts : ∀ {b : Addr} {o : Obj} {es : Array DictEntry} {ep : Nat}, b ≠ sysModules → t.heap.get? b = some o → o.data = .dict es ep → H b = none := fun {b o es ep} nb z dz => by
      cases q : H b with
      | none => rfl
      | some u =>
        rcases one b (by rw [q]; simp) with rfl | y
        · rw [at_a] at z
          cases z
          have y : Data.seq vs.toArray _ = Data.dict es ep := dz
          cases y
        · exact absurd y nb
    have nsp : ∀ {b : Addr} {m : Str → Option Value}, b ≠ sysModules → t.heap.Ns b m → (hidT t.heap H).Ns b m := fun {b m} nb ⟨o, es, ep, z, dz, r⟩ => ⟨o, es, ep, pass z (dicts nb z dz), dz, r⟩
    have Kb : K.In (hidT t.heap H) := fun b o z => pass (KX b o z) (by
      cases q : H b with
      | none => rfl
      | some u =>
        rcases one b (by rw [q]; simp) with rfl | y
        · rw [out (by rw [q]; simp)] at z
          cases z
        · rw [y, km] at z
          cases z)
    have md : Mod K mg (hidT t.heap H) := ⟨Kb, nsp (by decide) gn, ⟨mb, nsp (by decide) bn, bb⟩, let ⟨mc, q1, q2⟩ := lim; ⟨mc, nsp (by decide) q1, q2⟩⟩
    have env : Env0 P w K mg (hidT t.heap H) callerA [] t H :=
      ⟨rfl, md, fun b o z => of_hidT z, Nat.le_of_eq (hidT_size _ _), trivial, fun b hb => absurd (show b ∈ ([] : List Addr) from hb) (by simp), hok, .of_eq g0⟩
    refine codeAny_mono (F _ Kb (nsp (by decide) gn) t H (.ref a) (.ref a) _ _ env (bind t (.ref a)) rfl (wish H hY hS)) fun r t' h => ?_
    cases r with
    | error e => exact False.elim h
    | ok fl =>
     cases fl with
     | next => exact False.elim h
     | brk => exact False.elim h
     | cont => exact False.elim h
     | ret u =>
      obtain ⟨v, H', os, bare, un, hok', r', q⟩ := h
      obtain rfl : v = V.bl true := q
      obtain rfl : u = Value.bool true := r'
      refine ⟨rfl, OldK.of_keep fun b o z => ?_, os, bare⟩
      cases q : H b with
      | none => exact un.keep b o z q (by intro y; exact absurd (show b ∈ ([] : List Addr) from y) (by simp)) (by simp)
      | some u =>
        rcases hO b with y | ⟨ob, xs, y⟩
        · rw [q] at y
          cases y
        · obtain ⟨e1, _⟩ := hok b _ y
          obtain ⟨e2, _⟩ := hok' b _ (un.frzs b ob _ y)
          rw [z] at e1
          cases e1
          exact e2
  have hoks : ∀ {H : Hp} {u : HO}, ObjOk P w H t.heap sysModules (.frz om (.ext fun _ => True)) := fun {H u} => ⟨hom, trivial, ⟨om, hom⟩, fun _ _ _ _ => trivial⟩
  cases hk : K.lookup a with
  | some o =>
    have z := KX a o hk
    rw [at_a] at z
    cases z
    let Hs : Hp := fun b => if b = sysModules then some (.frz om (.ext fun _ => True)) else none
    have ons : Hs sysModules = some (.frz om (.ext fun _ => True)) := if_pos rfl
    have off : ∀ b, b ≠ sysModules → Hs b = none := fun b h1 => if_neg h1
    have sq : SqL K Hs a (ns.map V.int) := .inr ⟨_, vs.toArray, _, hk, rfl, rfl, rfl, by rw [List.size_toArray, allInt.length]; exact short, by simpa using rvs⟩
    refine inner Hs (fun b => ?_) ⟨_, _, ons⟩ sq (fun b u z => ?_) (fun b z => ?_) fun y => absurd (off a na) y
    · by_cases hb : b = sysModules
      · subst hb
        exact .inr ⟨_, _, ons⟩
      · exact .inl (off b hb)
    · by_cases hb : b = sysModules
      · subst hb
        rw [ons] at z
        cases z
        exact hoks (u := .lst [])
      · rw [off b hb] at z
        cases z
    · by_cases hb : b = sysModules
      · exact .inr hb
      · exact absurd (off b hb) z
  | none =>
    let Hs : Hp := fun b => if b = a then some (.frz { cls := .type "list", data := .seq vs.toArray } (.lst (ns.map V.int))) else if b = sysModules then some (.frz om (.ext fun _ => True)) else none
    have on : Hs a = some (.frz { cls := .type "list", data := .seq vs.toArray } (.lst (ns.map V.int))) := if_pos rfl
    have ons : Hs sysModules = some (.frz om (.ext fun _ => True)) := by
      show (if _ then _ else _) = _
      rw [if_neg na.symm, if_pos rfl]
    have off : ∀ b, b ≠ a → b ≠ sysModules → Hs b = none := fun b h1 h2 => by
      show (if _ then _ else _) = _
      rw [if_neg h1, if_neg h2]
    refine inner Hs (fun b => ?_) ⟨_, _, ons⟩ (.inl (.inr ⟨_, on⟩)) (fun b u z => ?_) (fun b z => ?_) fun _ => hk
    · by_cases hb : b = a
      · subst hb
        exact .inr ⟨_, _, on⟩
      · by_cases hc : b = sysModules
        · subst hc
          exact .inr ⟨_, _, ons⟩
        · exact .inl (off b hb hc)
    · by_cases hb : b = a
      · subst hb
        rw [on] at z
        cases z
        exact ⟨at_a, by rw [List.length_map]; exact short, vs, _, rvs, at_a⟩
      · by_cases hc : b = sysModules
        · subst hc
          rw [ons] at z
          cases z
          exact hoks (u := .lst [])
        · rw [off b hb hc] at z
          cases z
    · by_cases hb : b = a
      · exact .inl hb
      · by_cases hc : b = sysModules
        · exact .inr hc
        · exact absurd (off b hb hc) z
end
/-- the law's row, from the promise of its def called from the top; the table of modules is tracked -/
theorem walk_topB {l : PySem.W.OpenLaw} {n : Nat} {q : Program} {loose : List Str} {XP : (Str → Option Value) → Heap → Prop} {YP : World → Heap → Prop} {d : DefRec} {K : Params → PySem.W.Frag} {sp : World → Sp} {x : Str}
    (hn : l.most = some n) (few : n ≤ sizeLine) (hdf : d.params.defaults = []) (hi : importsNone q = true) (hY : ∀ (w : World) (h : Heap), YP w h → (K w.params).In h) (km : ∀ w : World, (K w.params).lookup sysModules = none)
    (F : ∀ (w : World) (mg : Str → Option Value) (fa : Addr) (h : Heap), (K w.params).In h → h.Ns mainGlobals mg → mg d.name = some (.ref fa) →
      ∃ fd : FuncData, (∀ (s : Shared) (u : Value), BindsTo s fd ⟨[u], []⟩ [(x, u)]) ∧
        ∀ base : Heap, (K w.params).In base → base.Ns mainGlobals mg → AtTop l.prog w (K w.params) mg base fa fd x (sp w))
    (wish : ∀ (w : World) (H : Hp) (a : Addr) (ns : List Int), ns.length ≤ n → SysF H → SqL (K w.params) H a (ns.map V.int) → sp w [.ref a] H (fun v _ => v = .bl true) fun _ _ _ => False) :
    PySem.W.WalkO q loose XP YP l.row.toRowW d [] (fun f vs => PySem.call f vs) := by
  refine Att.attach_call hn hdf fun w s₀ t mg mb fa o pm cd doc a vs ns G Y ho hd hcd hmg hobj hints hlen g0 => ?_
  have KX := hY w _ Y
  obtain ⟨fd, hb, hF⟩ := F w mg fa _ KX G.T.g hmg
  have S := G.T.seer hi
  exact from_topB KX G.T.g G.T.b G.T.builtins G.T.nolimit g0 (let ⟨mm, y, _⟩ := S.mods; ⟨mm, y⟩) (km w) hobj hints (Nat.le_trans hlen few) hF hb fun H hO hS => wish w H a ns hlen hO hS
end L2H
set_option Elab.async false
set_option linter.all false
set_option maxRecDepth 100000
set_option maxHeartbeats 4000000
/-! Data as the law passes it: None, bools, ints, texts, lists, tuples, empty dicts; all of it tracked. -/
namespace DQ
open PySem PySem.W PySem.Calls PyProof.Rows L2
theorem same_refl {H : Hp} : Same H H := fun _ _ e => e
theorem same_trans {H H' H'' : Hp} (a : Same H H') (b : Same H' H'') : Same H H'' := fun x o e => b x o (a x o e)
theorem same_new {H : Hp} {a : Addr} {o : HO} (h : H a = none) : Same H (upd H a o) := fun b u e => by
  rw [upd_ne (ne_of_none e h)]
  exact e
theorem same_out {H H' : Hp} (s : Same H H') {b : Addr} (h : H' b = none) : H b = none := by
  cases e : H b with
  | none => rfl
  | some o => rw [s _ _ e] at h; cases h
mutual
inductive Dq (H : Hp) : V → PyData → Prop
  | non : Dq H .non .none
  | bl (b : Bool) : Dq H (.bl b) (.bool b)
  | int (i : Int) : Dq H (.int i) (.int i)
  | str (x : Str) (h : x.length ≤ sizeLine ∧ PyData.strOk x = true) : Dq H (.str x) (.str x)
  | lst {a : Addr} {xs : List V} {ds : List PyData} : H a = some (.lst xs) → DqAll H xs ds → Dq H (.ref a) (.list ds)
  | tup {a : Addr} {xs : List V} {ds : List PyData} : H a = some (.tup xs) → DqAll H xs ds → Dq H (.ref a) (.tuple ds)
  | dic {a : Addr} : H a = some (.dK []) → Dq H (.ref a) (.dict [])
inductive DqAll (H : Hp) : List V → List PyData → Prop
  | nil : DqAll H [] []
  | cons {v : V} {vs : List V} {d : PyData} {ds : List PyData} : Dq H v d → DqAll H vs ds → DqAll H (v :: vs) (d :: ds)
end
mutual
theorem Dq.same {H H' : Hp} (s : Same H H') : ∀ {v : V} {d : PyData}, Dq H v d → Dq H' v d
  | _, _, .non => .non
  | _, _, .bl b => .bl b
  | _, _, .int i => .int i
  | _, _, .str x h => .str x h
  | _, _, .lst h a => .lst (s _ _ h) (a.same s)
  | _, _, .tup h a => .tup (s _ _ h) (a.same s)
  | _, _, .dic h => .dic (s _ _ h)
theorem DqAll.same {H H' : Hp} (s : Same H H') : ∀ {vs : List V} {ds : List PyData}, DqAll H vs ds → DqAll H' vs ds
  | _, _, .nil => .nil
  | _, _, .cons h t => .cons (h.same s) (t.same s)
end
theorem DqAll.len {H : Hp} : ∀ {vs : List V} {ds : List PyData}, DqAll H vs ds → vs.length = ds.length
  | _, _, .nil => rfl
  | _, _, .cons _ t => congrArg Nat.succ t.len
theorem DqAll.at {H : Hp} : ∀ {vs : List V} {ds : List PyData} {i : Nat} {d : PyData}, DqAll H vs ds → ds[i]? = some d → ∃ v, vs[i]? = some v ∧ Dq H v d
  | _, _, _, _, .nil, e => by simp at e
  | _, _, 0, _, .cons h _, e => by
    cases e
    exact ⟨_, rfl, h⟩
  | _, _, i + 1, _, .cons _ t, e => t.at (i := i) e
theorem DqAll.app {H : Hp} : ∀ {vs ws : List V} {ds es : List PyData}, DqAll H vs ds → DqAll H ws es → DqAll H (vs ++ ws) (ds ++ es)
  | _, _, _, _, .nil, b => b
  | _, _, _, _, .cons h t, b => .cons h (t.app b)
theorem DqAll.take {H : Hp} : ∀ {vs : List V} {ds : List PyData} (n : Nat), DqAll H vs ds → DqAll H (vs.take n) (ds.take n)
  | _, _, 0, _ => by simpa using DqAll.nil
  | _, _, n + 1, .nil => .nil
  | _, _, n + 1, .cons h t => .cons h (t.take n)
theorem DqAll.drop {H : Hp} : ∀ {vs : List V} {ds : List PyData} (n : Nat), DqAll H vs ds → DqAll H (vs.drop n) (ds.drop n)
  | _, _, 0, h => h
  | _, _, n + 1, .nil => .nil
  | _, _, n + 1, .cons h t => t.drop n
theorem DqAll.rev {H : Hp} : ∀ {vs : List V} {ds : List PyData}, DqAll H vs ds → DqAll H vs.reverse ds.reverse
  | _, _, .nil => .nil
  | _, _, .cons h t => by
    rw [List.reverse_cons, List.reverse_cons]
    exact t.rev.app (.cons h .nil)
theorem DqAll.strs {H : Hp} : ∀ (ws : List Str), (∀ x ∈ ws, x.length ≤ sizeLine ∧ PyData.strOk x = true) → DqAll H (ws.map V.str) (ws.map PyData.str)
  | [], _ => .nil
  | w :: ws, h => .cons (.str w (h w (List.mem_cons_self ..))) (DqAll.strs ws fun x hx => h x (List.mem_cons_of_mem _ hx))
/-- the list of modules stands apart -/
abbrev Sys (H : Hp) : Prop := L2H.SysF H
theorem _root_.L2H.SysF.same {H H' : Hp} (x : Sys H) (s : Same H H') : Sys H' := let ⟨o, u, e⟩ := x; ⟨o, u, s _ _ e⟩
section
variable {X : Cx} {pins : List (Addr × Obj)} {σ : L2.St} {H : Hp} {s : Shared}
mutual
theorem Dq.reads (I : Inv X pins σ H s) (y : Sys H) : ∀ {v : V} {d : PyData} {u : Value}, Dq H v d → RelV v u → ∃ as, Reads s.heap u d as ∧ sysModules ∉ as
  | _, _, _, .non, r => by
    cases r
    exact ⟨_, .none, by simp⟩
  | _, _, _, .bl b, r => by
    cases r
    exact ⟨_, .bool b, by simp⟩
  | _, _, _, .int i, r => by
    obtain ⟨t, rfl⟩ := r
    exact ⟨_, .int i t, by simp⟩
  | _, _, _, .str x _, r => by
    obtain ⟨t, rfl⟩ := r
    exact ⟨_, .str x t, by simp⟩
  | _, _, _, .lst (a := a) h ha, r => by
    cases r
    obtain ⟨_, its, n, rv, e⟩ := (show ObjOk X.prog X.w H s.heap a (.lst _) from I.hok a _ h)
    obtain ⟨as, ra, na⟩ := ha.reads I y rv
    refine ⟨_, .list e rfl rfl ra, fun z => ?_⟩
    rcases List.mem_cons.mp z with q | q
    · obtain ⟨o, u, ey⟩ := y
      rw [q, h] at ey
      cases ey
    · exact na q
  | _, _, _, .tup (a := a) h ha, r => by
    cases r
    obtain ⟨_, its, rv, o, ho, hc, n, hd⟩ := (show ObjOk X.prog X.w H s.heap a (.tup _) from I.hok a _ h)
    obtain ⟨as, ra, na⟩ := ha.reads I y rv
    exact ⟨_, .tuple ho hc hd ra, na⟩
  | _, _, _, .dic (a := a) h, r => by
    cases r
    obtain ⟨_, hsys, vs, kv, hd⟩ := (show ObjOk X.prog X.w H s.heap a (.dK []) from I.hok a _ h)
    cases kv
    obtain ⟨o, es, ep, h1, h2, h3, _, h4, _⟩ := hd
    have e0 : es.toList = [] := by
      cases e : es.toList with
      | nil => rfl
      | cons x r =>
        rw [e] at h4
        cases h4
    refine ⟨a :: [] ++ [], Reads.dict h1 h2.1 h3 (by rw [e0]; exact .nil) (by rw [e0]; exact .nil), fun z => ?_⟩
    rcases List.mem_cons.mp z with q | q
    · rw [← q] at hsys
      simp at hsys
    · cases q
theorem DqAll.reads (I : Inv X pins σ H s) (y : Sys H) : ∀ {vs : List V} {ds : List PyData} {us : List Value}, DqAll H vs ds → Vals vs us → ∃ as, ReadsAll s.heap us ds as ∧ sysModules ∉ as
  | _, _, _, .nil, r => by
    cases r
    exact ⟨_, .nil, by simp⟩
  | _, _, _, .cons h t, r => by
    cases r with
    | cons r1 r2 =>
      obtain ⟨as, q1, n1⟩ := h.reads I y r1
      obtain ⟨bs, q2, n2⟩ := t.reads I y r2
      exact ⟨_, .cons q1 q2, fun z => by
        rcases List.mem_append.mp z with q | q
        · exact n1 q
        · exact n2 q⟩
end
end
/-- repr of such data -/
def rReprX : List V → Hp → VK → Prop := fun xs H Q => ∃ (v : V) (d : PyData), xs = [v] ∧ Sys H ∧ Dq H v d ∧ d.showable = true ∧ d.depth ≤ 60 ∧ d.shown.length ≤ sizeLine ∧ Q (.str d.shown) H
theorem call_reprX {X : Cx} (hg : X.A.guards = some []) (hu : X.A.units + 100 < cLine) : CallR X (.builtin "repr") rReprX := by
  intro pins s σ H xs us Q I r h
  obtain ⟨v, d, rfl, y, hd, sh, dp, sz, q⟩ := h
  obtain ⟨u, rfl, ru⟩ := vals1 r
  obtain ⟨as, rd, na⟩ := hd.reads I y ru
  cases hd with
  | non =>
    cases (show u = Value.none from ru)
    exact PySem.P.repr_of_none ⟨.str _, H, I.tok _, ⟨_, rfl⟩, q⟩
  | bl b =>
    cases (show u = Value.bool b from ru)
    exact PySem.P.repr_of_bool ⟨.str _, H, I.tok _, ⟨_, rfl⟩, q⟩
  | int i =>
    obtain ⟨t, rfl⟩ := (show ∃ t, u = Value.int i t from ru)
    exact PySem.P.repr_of_int (by simpa [PyData.showable] using sh) ⟨.str _, H, I.tok _, ⟨_, rfl⟩, q⟩
  | str x hx =>
    obtain ⟨t, rfl⟩ := (show ∃ t, u = Value.str x t from ru)
    exact PySem.P.repr_of_str ⟨.str _, H, I.tok _, ⟨_, rfl⟩, q⟩ sz
  | lst hs ha =>
    cases ru
    exact repr_of_reads' rd sh (fun _ => na) hg (by omega) (fun _ _ e => e) (fun h' t tk kp => ⟨.str _, H, I.kept kp, ⟨_, rfl⟩, q⟩) sz
  | tup hs ha =>
    cases ru
    exact repr_of_reads' rd sh (fun _ => na) hg (by omega) (fun _ _ e => e) (fun h' t tk kp => ⟨.str _, H, I.kept kp, ⟨_, rfl⟩, q⟩) sz
  | dic hs =>
    cases ru
    exact repr_of_reads' rd sh (fun _ => na) hg (by omega) (fun _ _ e => e) (fun h' t tk kp => ⟨.str _, H, I.kept kp, ⟨_, rfl⟩, q⟩) sz
/-- of which built-in class data is -/
def tyN : PyData → String
  | .none => "NoneType" | .bool _ => "bool" | .int _ => "int" | .str _ => "str" | .list _ => "list" | .tuple _ => "tuple" | .dict _ => "dict"
theorem Dq.ty {K : Frag} {H : Hp} {v : V} {d : PyData} (h : Dq H v d) : TyX K H v (.type (tyN d)) := by
  cases h with
  | non => exact .base .non
  | bl b => exact .base (.bl b)
  | int i => exact .base (.int i)
  | str x _ => exact .base (.str x)
  | lst e _ => exact .base (.lst e)
  | tup e _ => exact .base (.tup e)
  | dic e => exact .base (.dK e)
def isTup : PyData → Bool | .tuple _ => true | _ => false
def isStr : PyData → Bool | .str _ => true | _ => false
def isInt : PyData → Bool | .int _ => true | .bool _ => true | _ => false
def isBool : PyData → Bool | .bool _ => true | _ => false
theorem kt (d : PyData) : kitB (tyN d) "tuple" = some (isTup d) := by
  cases d
  · exact (by decide +kernel : kitB "NoneType" "tuple" = some false)
  · exact (by decide +kernel : kitB "bool" "tuple" = some false)
  · exact (by decide +kernel : kitB "int" "tuple" = some false)
  · exact (by decide +kernel : kitB "str" "tuple" = some false)
  · exact (by decide +kernel : kitB "list" "tuple" = some false)
  · exact (by decide +kernel : kitB "tuple" "tuple" = some true)
  · exact (by decide +kernel : kitB "dict" "tuple" = some false)
theorem ks (d : PyData) : kitB (tyN d) "str" = some (isStr d) := by
  cases d
  · exact (by decide +kernel : kitB "NoneType" "str" = some false)
  · exact (by decide +kernel : kitB "bool" "str" = some false)
  · exact (by decide +kernel : kitB "int" "str" = some false)
  · exact (by decide +kernel : kitB "str" "str" = some true)
  · exact (by decide +kernel : kitB "list" "str" = some false)
  · exact (by decide +kernel : kitB "tuple" "str" = some false)
  · exact (by decide +kernel : kitB "dict" "str" = some false)
theorem ki (d : PyData) : kitB (tyN d) "int" = some (isInt d) := by
  cases d
  · exact (by decide +kernel : kitB "NoneType" "int" = some false)
  · exact (by decide +kernel : kitB "bool" "int" = some true)
  · exact (by decide +kernel : kitB "int" "int" = some true)
  · exact (by decide +kernel : kitB "str" "int" = some false)
  · exact (by decide +kernel : kitB "list" "int" = some false)
  · exact (by decide +kernel : kitB "tuple" "int" = some false)
  · exact (by decide +kernel : kitB "dict" "int" = some false)
theorem kb (d : PyData) : kitB (tyN d) "bool" = some (isBool d) := by
  cases d
  · exact (by decide +kernel : kitB "NoneType" "bool" = some false)
  · exact (by decide +kernel : kitB "bool" "bool" = some true)
  · exact (by decide +kernel : kitB "int" "bool" = some false)
  · exact (by decide +kernel : kitB "str" "bool" = some false)
  · exact (by decide +kernel : kitB "list" "bool" = some false)
  · exact (by decide +kernel : kitB "tuple" "bool" = some false)
  · exact (by decide +kernel : kitB "dict" "bool" = some false)
/-- what isinstance(x, tuple) and the like ask -/
theorem is_tup {K : Frag} {H : Hp} {v : V} {d : PyData} {Q : VK} (h : Dq H v d) (q : Q (.bl (isTup d)) H) : rIsi K [v, .ty "tuple"] H Q := ⟨v, .ty "tuple", _, _, _, rfl, .ty _, h.ty, kit_ty (kt d), q⟩
theorem is_str {K : Frag} {H : Hp} {v : V} {d : PyData} {Q : VK} (h : Dq H v d) (q : Q (.bl (isStr d)) H) : rIsi K [v, .ty "str"] H Q := ⟨v, .ty "str", _, _, _, rfl, .ty _, h.ty, kit_ty (ks d), q⟩
theorem is_int {K : Frag} {H : Hp} {v : V} {d : PyData} {Q : VK} (h : Dq H v d) (q : Q (.bl (isInt d)) H) : rIsi K [v, .ty "int"] H Q := ⟨v, .ty "int", _, _, _, rfl, .ty _, h.ty, kit_ty (ki d), q⟩
theorem is_bool {K : Frag} {H : Hp} {v : V} {d : PyData} {Q : VK} (h : Dq H v d) (q : Q (.bl (isBool d)) H) : rIsi K [v, .ty "bool"] H Q := ⟨v, .ty "bool", _, _, _, rfl, .ty _, h.ty, kit_ty (kb d), q⟩
end DQ
set_option Elab.async false
set_option linter.all false
set_option maxRecDepth 100000
set_option maxHeartbeats 4000000
namespace K01
open PySem L2 L2H DQ
def top (i : Nat) : Stmt := PySem.Challenge.pw_onlyjoins_k01_whole_trees_told_apart.main.body.getD i (.Pass ⟨0, 0, 0, 0⟩)
abbrev sWord : Stmt := top 7
abbrev sMarks : Stmt := top 8
abbrev sTr : Stmt := top 9
abbrev sBo : Stmt := top 10
abbrev sShape : Stmt := top 11
abbrev sCount : Stmt := top 12
abbrev sNode : Stmt := top 13
abbrev sPair : Stmt := top 14
abbrev sCall : Stmt := top 15
abbrev sBeg : Stmt := top 17
abbrev sNext : Stmt := top 18
abbrev sName : Stmt := top 20
abbrev sOdd : Stmt := top 21
abbrev sBent : Stmt := top 22
abbrev sTree : Stmt := top 23
abbrev sBody : Stmt := top 24
abbrev sCalls : Stmt := top 26
abbrev sHand : Stmt := top 27
abbrev sLaw : Stmt := top 28
def mkv (c l : Addr) (n : Int) : List (Key × V) := [(Sum.inr "cells", .ref c), (Sum.inr "left", .ref l), (Sum.inr "at", .int n)]
/-- the state of the draws at m: its cells, what is left, the counter -/
structure MAt (H : Hp) (m c l : Addr) (cs ls : List Int) (n : Int) : Prop where
  hm : H m = some (.dK (mkv c l n))
  hc : H c = some (.lst (cs.map V.int))
  hl : H l = some (.lst (ls.map V.int))
  ne : c ≠ l
  n0 : 0 ≤ n
  nb : n ≤ 1000000000
  cb : cs.length ≤ 63
  lb : ls.length ≤ 63
theorem MAt.mc {H : Hp} {m c l : Addr} {cs ls : List Int} {n : Int} (M : MAt H m c l cs ls n) : m ≠ c := ne_of M.hm M.hc (by intro z; cases z)
theorem MAt.ml {H : Hp} {m c l : Addr} {cs ls : List Int} {n : Int} (M : MAt H m c l cs ls n) : m ≠ l := ne_of M.hm M.hl (by intro z; cases z)
theorem MAt.same {H H' : Hp} {m c l : Addr} {cs ls : List Int} {n : Int} (M : MAt H m c l cs ls n) (s : Same H H') : MAt H' m c l cs ls n :=
  ⟨s _ _ M.hm, s _ _ M.hc, s _ _ M.hl, M.ne, M.n0, M.nb, M.cb, M.lb⟩
def spBeg (K : PySem.W.Frag) : Sp := fun vs H Q _ => ∃ (a : Addr) (ns : List Int), vs = [.ref a] ∧ SqL K H a (ns.map V.int) ∧ ns.length ≤ 63 ∧
  ∀ H' m c l cs ls, Same H H' → MAt H' m c l cs ls 0 → Q (.ref m) H'
structure TxtB (mg : Str → Option Value) : Prop where
  list : mg "list" = none
  int : mg "int" = none
  len : mg "len" = none
theorem kne1 : ¬ (("cells" : Str) = "left") := by decide +kernel
theorem kne2 : ¬ (("cells" : Str) = "at") := by decide +kernel
theorem kne3 : ¬ (("left" : Str) = "at") := by decide +kernel
theorem kne4 : ¬ (("left" : Str) = "cells") := by decide +kernel
theorem kne5 : ¬ (("at" : Str) = "cells") := by decide +kernel
theorem kne6 : ¬ (("at" : Str) = "left") := by decide +kernel
section
variable {P : Program} {w : World} {K : PySem.W.Frag} {mg : Str → Option Value} {base : Heap}
theorem scB : FnScope ["script", "cell"] ["script"] (defScope sBeg) := ⟨rfl, rfl, rfl, by decide +kernel, rfl, by decide +kernel, by decide +kernel⟩
theorem ok_beg {f : Addr} {fd : FuncData} (F : Fun K "_law_begun" "_law_begun" sBeg f fd) (T : TxtB mg) : FnOk P w K mg base CX0 1 f fd ["script"] (spBeg K) := by
  refine F.ok scB (fun vs H Q E h => ?_) (fun cdv A outer s H vs Q E hr h => ?_)
  · obtain ⟨a, ns, rfl, _⟩ := h
    rfl
  · obtain ⟨a, ns, rfl, hS, hlen, k⟩ := h
    refine ⟨_, pss_one (ps_ret (pe_disp (pps_cons pe_str (pe_callTy call_list_of (by rfl) T.list (by decide +kernel) (pa_cons (pv 0) pa_nil))
      (pps_cons pe_str (pe_lc (own := [("cell", 1)]) (g := gName 1) rfl scB.nd (pi_list (pv 0)) (blkOk_by (own := [("cell", 1)]) (N := ["script", "cell"]) (sc := defScope sBeg) (by decide +kernel))
        (fun _ _ _ _ _ => pg_name (i := 1) scB.nd rfl (Or.inl rfl)) (fun _ _ _ _ _ => pts_one (pt_cmpR op_ge (pv 1) (pe_op op_pow pe_int pe_int) (nomark _))) (fun _ _ _ _ _ => pv 1))
      (pps_cons pe_str pe_int pps_nil))) (by rfl) (by rfl) (fun z => by cases z) (by decide))), ?_⟩
    intro p hp
    refine ⟨_, rfl, a, _, rfl, .inl (same_new hp |>.seq hS), fun c hc => ?_⟩
    have s1 : Same H (upd (upd H p (.dK [])) c (.lst (ns.map V.int))) := same_trans (same_new hp) (same_new hc)
    have pc : p ≠ c := ne_of_none upd_same hc
    generalize hH1 : upd (upd H p (.dK [])) c (.lst (ns.map V.int)) = H1 at s1
    have h1p : H1 p = some (.dK []) := by rw [← hH1, upd_ne pc, upd_same]
    have h1c : H1 c = some (.lst (ns.map V.int)) := by rw [← hH1, upd_same]
    refine ⟨_, rfl, a, rfl, ⟨_, s1.seq hS⟩, fun l nl => ?_⟩
    refine lc_list (K := K) (a := a) (xs := ns.map V.int) (fun i H' => ∃ ls : List Int, ls.length ≤ i ∧ Same H1 H' ∧ H' l = some (.lst (ls.map V.int)))
      ⟨[], Nat.le_refl _, same_new nl, upd_same⟩ (fun i H' _ ⟨_, _, s2, _⟩ => s2.seq (s1.seq hS)) ?_ ?_
    · rintro i y H' hi ⟨ls, ll, s2, e2⟩
      obtain ⟨z, rfl⟩ : ∃ z, y = V.int z := by
        rw [List.getElem?_map] at hi
        cases e : ns[i]? with
        | none => rw [e] at hi; cases hi
        | some z => rw [e] at hi; exact ⟨z, (Option.some.inj hi).symm⟩
      have hil : i < (ns.map V.int).length := (List.getElem?_eq_some_iff.mp hi).1
      rw [List.length_map] at hil
      refine ⟨rfl, _, rfl, _, _, rfl, rfl, ⟨by decide, by decide, by decide⟩, _, _, rfl, rfl, _, rfl, ?_⟩
      refine ite2 (fun _ => ?_) (fun _ => ?_)
      · refine ⟨_, rfl, _, e2, small1000 (by rw [List.length_map]; omega), ls ++ [z], ?_, ?_, ?_⟩
        · rw [List.length_append]
          show ls.length + 1 ≤ i + 1
          omega
        · intro b o e
          rw [upd_ne (ne_of_none e nl)]
          exact s2 b o e
        · rw [upd_same, List.map_append]
          rfl
      · exact ⟨ls, by omega, s2, e2⟩
    · rintro H' ⟨ls, ll, s2, e2⟩
      rw [List.length_map] at ll
      refine ⟨s2 _ _ h1p, mkv c l 0, rfl, by show 3 ≤ 15; decide, ?_⟩
      have hm : mergeK [] (mkv c l 0) = mkv c l 0 := by
        simp [mkv, mergeK, putK, kne1, kne2, kne3]
      rw [hm]
      refine k _ p c l ns ls ?_ ⟨upd_same, ?_, ?_, ?_, by decide, by decide, hlen, by omega⟩
      · intro b o e
        rw [upd_ne (ne_of_none e hp)]
        exact s2 b o (s1 b o e)
      · rw [upd_ne pc.symm]
        exact s2 _ _ h1c
      · rw [upd_ne (ne_of_none h1p nl).symm]
        exact e2
      · exact ne_of_none h1c nl
end
theorem dp_ints {K : PySem.W.Frag} {H : Hp} : ∀ ns : List Int, DpAll K H (ns.map V.int) (ns.map PyData.int)
  | [] => .nil
  | n :: ns => .cons (.int n) (dp_ints ns)
theorem dp_list {K : PySem.W.Frag} {H : Hp} {a : Addr} {ns : List Int} (h : SqL K H a (ns.map V.int)) : Dp K H (.ref a) (.list (ns.map PyData.int)) := .lst h (dp_ints ns)
theorem dp_nil {K : PySem.W.Frag} {H : Hp} {a : Addr} (h : H a = some (.lst [])) : Dp K H (.ref a) (.list []) := .lst (SqL.of h) .nil
theorem shaped_ints (ns : List Int) : SeqAt.shaped (.list (ns.map PyData.int)) = true := by
  have h : ∀ l : List Int, PyData.canLayAll0 (l.map PyData.int) = true ∧ PyData.depthAll (l.map PyData.int) ≤ 1 := by
    intro l
    induction l with
    | nil => exact ⟨rfl, Nat.zero_le _⟩
    | cons a l ih =>
      refine ⟨by simp [PyData.canLayAll0, PyData.canLay0, ih.1], ?_⟩
      simp only [List.map_cons, PyData.depthAll, PyData.depth]
      have := ih.2
      omega
  have z := h ns
  refine Bool.and_eq_true_iff.mpr ⟨by simp only [PyData.canLay0]; exact z.1, decide_eq_true ?_⟩
  simp only [PyData.depth]
  exact Nat.le_trans (Nat.succ_le_succ z.2) (by decide)
theorem eqv_ints (ns : List Int) : (!PyData.eqv (.list (ns.map PyData.int)) (.list [])) = !ns.isEmpty := by
  cases ns <;> simp [PyData.eqv, PyData.eqvAll]
/-- all but two objects stand -/
structure But (H H' : Hp) (m l : Addr) : Prop where
  kp : ∀ b o, H b = some o → b ≠ m → b ≠ l → H' b = some o
  out : ∀ b, H' b = none → H b = none
theorem But.then {H H' H'' : Hp} {m l : Addr} (x : But H H' m l) (s : Same H' H'') : But H H'' m l :=
  ⟨fun b o e h1 h2 => s _ _ (x.kp b o e h1 h2), fun b h => x.out b (same_out s h)⟩
theorem But.at {H H' : Hp} {m l a : Addr} {o : HO} (x : But H H' m l) (h : a = m ∨ a = l ∨ H a = none) (n : H' a ≠ none) : But H (upd H' a o) m l := by
  refine ⟨fun b u e h1 h2 => ?_, fun b hb => ?_⟩
  · have na : b ≠ a := fun z => by
      rcases h with y | y | y
      · exact h1 (z.trans y)
      · exact h2 (z.trans y)
      · rw [z, y] at e; cases e
    rw [upd_ne na]
    exact x.kp b u e h1 h2
  · by_cases e : b = a
    · rw [e, upd_same] at hb
      cases hb
    · rw [upd_ne e] at hb
      exact x.out b hb
theorem But.refl {H : Hp} {m l : Addr} : But H H m l := ⟨fun _ _ e _ _ => e, fun _ e => e⟩
theorem val_c {c l : Addr} {n : Int} : valV (mkv c l n) (Sum.inr "cells") = some (.ref c) := by simp [mkv, valV]
theorem val_l {c l : Addr} {n : Int} : valV (mkv c l n) (Sum.inr "left") = some (.ref l) := by simp [mkv, valV, kne1]
theorem val_a {c l : Addr} {n : Int} : valV (mkv c l n) (Sum.inr "at") = some (.int n) := by simp [mkv, valV, kne2, kne3]
theorem put_l {c l l' : Addr} {n : Int} : putK (mkv c l n) (Sum.inr "left") (.ref l') = mkv c l' n := by simp [mkv, putK, kne1, kne6]
theorem put_a {c l : Addr} {n n' : Int} : putK (mkv c l n) (Sum.inr "at") (.int n') = mkv c l n' := by simp [mkv, putK, kne2, kne3]
theorem MAt.getL {H : Hp} {m c l : Addr} {cs ls : List Int} {n : Int} (M : MAt H m c l cs ls n) : DGet H m (.str "left") (some (.ref l)) := by
  have z := DGet.k (k := Sum.inr "left") M.hm
  rw [val_l] at z
  exact z
theorem MAt.getC {H : Hp} {m c l : Addr} {cs ls : List Int} {n : Int} (M : MAt H m c l cs ls n) : DGet H m (.str "cells") (some (.ref c)) := by
  have z := DGet.k (k := Sum.inr "cells") M.hm
  rw [val_c] at z
  exact z
theorem MAt.getA {H : Hp} {m c l : Addr} {cs ls : List Int} {n : Int} (M : MAt H m c l cs ls n) : DGet H m (.str "at") (some (.int n)) := by
  have z := DGet.k (k := Sum.inr "at") M.hm
  rw [val_a] at z
  exact z
theorem MAt.putL {H : Hp} {m c l l' : Addr} {cs ls ls' : List Int} {n : Int} (M : MAt H m c l cs ls n) (e : H l' = some (.lst (ls'.map V.int))) (ne : c ≠ l') (nb : ls'.length ≤ 63) :
    DPut H m (.str "left") (.ref l') (upd H m (.dK (mkv c l' n))) ∧ MAt (upd H m (.dK (mkv c l' n))) m c l' cs ls' n := by
  constructor
  · have z := DPut.k (k := Sum.inr "left") (v := .ref l') M.hm (by show 3 < sizeLine; decide)
    rw [put_l] at z
    exact z
  · have n1 : c ≠ m := M.mc.symm
    have n2 : l' ≠ m := ne_of e M.hm (by intro z; cases z)
    exact ⟨upd_same, by rw [upd_ne n1]; exact M.hc, by rw [upd_ne n2]; exact e, ne, M.n0, M.nb, M.cb, nb⟩
theorem MAt.putA {H : Hp} {m c l : Addr} {cs ls : List Int} {n n' : Int} (M : MAt H m c l cs ls n) (h0 : 0 ≤ n') (hb : n' ≤ 1000000000) :
    DPut H m (.str "at") (.int n') (upd H m (.dK (mkv c l n'))) ∧ MAt (upd H m (.dK (mkv c l n'))) m c l cs ls n' := by
  constructor
  · have z := DPut.k (k := Sum.inr "at") (v := .int n') M.hm (by show 3 < sizeLine; decide)
    rw [put_a] at z
    exact z
  · exact ⟨upd_same, by rw [upd_ne M.mc.symm]; exact M.hc, by rw [upd_ne M.ml.symm]; exact M.hl, M.ne, h0, hb, M.cb, M.lb⟩
def leftLen (H : Hp) (m : Addr) : Nat :=
  match H m with
  | some (.dK (_ :: (_, .ref l) :: _)) => (match H l with | some (.lst xs) => xs.length | _ => 0)
  | _ => 0
theorem MAt.len {H : Hp} {m c l : Addr} {cs ls : List Int} {n : Int} (M : MAt H m c l cs ls n) : leftLen H m = ls.length := by
  simp [leftLen, M.hm, mkv, M.hl]
theorem cut_one (x : V) (xs : List V) : cutV (x :: xs) (some 1) none = xs := by
  have e : HT.sIx (x :: xs).length 0 (some ((1 : Nat) : Int)) = 1 := by
    rw [HT.sIx_nat, List.length_cons]
    omega
  have e' : HT.sIx (x :: xs).length 0 (some 1) = 1 := e
  unfold cutV
  rw [e', HT.sIx_none, List.drop_succ_cons, List.drop_zero, List.length_cons]
  exact List.take_of_length_le (by omega)
theorem at_some {ns : List Int} {j : Int} (h0 : 0 ≤ j) (h1 : j < (ns.length : Int)) : ∃ y, atI (ns.map V.int) j = some (V.int y) := by
  have hj : j.toNat < ns.length := by omega
  refine ⟨ns[j.toNat], ?_⟩
  have z := atI_nat (xs := ns.map V.int) (j := j.toNat) (v := V.int ns[j.toNat]) (by rw [List.getElem?_map, List.getElem?_eq_getElem hj]; rfl)
  rw [Int.toNat_of_nonneg h0] at z
  exact z
theorem while_two {c : TT} {tb : TS} {D : Ends} {σ : L2.St} {H : Hp} (Pv : L2.St → Hp → Prop) (μ : L2.St → Hp → Nat) (h0 : Pv σ H) (exit : ∀ σ H, Pv σ H → D.nx σ H)
    (mono : ∀ σ H Q Q', (∀ b H1, Q b H1 → Q' b H1) → c σ H Q → c σ H Q')
    (hs : ∀ σ H, Pv σ H → c σ H fun b H1 => if b = true then tb { D with nx := fun σ' H' => Pv σ' H' ∧ μ σ' H' < μ σ H, ct := fun σ' H' => Pv σ' H' ∧ μ σ' H' < μ σ H, bk := D.nx } σ H1 else Pv σ H1) : tWhile c tb D σ H :=
  while_by Pv μ h0 (fun σ H p => mono _ _ _ _ (fun b H1 q => by
    cases b with
    | true => exact q
    | false => exact exit _ _ q) (hs σ H p)) mono
/-- _law_next: a number below many; the state again -/
def spNext : Sp := fun vs H Q _ => ∃ (m c l : Addr) (many : Int) (cs ls : List Int) (n : Int), vs = [.ref m, .int many] ∧ MAt H m c l cs ls n ∧ 0 < many ∧ many < 1000000 ∧ n + 1 ≤ 1000000000 ∧
  ∀ r H' l' ls' n', 0 ≤ r → r < many → MAt H' m c l' cs ls' n' → n' ≤ n + 1 → But H H' m l → (l' = l ∨ H l' = none) → Q (.int r) H'
section
variable {P : Program} {w : World} {K : PySem.W.Frag} {mg : Str → Option Value} {base : Heap}
theorem scN : FnScope ["m", "many", "rest", "at", "bits", "cell", "blend"] ["m", "many"] (defScope sNext) := ⟨rfl, rfl, rfl, by decide +kernel, rfl, by decide +kernel, by decide +kernel⟩
theorem ok_next {f : Addr} {fd : FuncData} (F : Fun K "_law_next" "_law_next" sNext f fd) (T : TxtB mg) : FnOk P w K mg base CX0 1 f fd ["m", "many"] spNext := by
  refine F.ok scN (fun vs H Q E h => ?_) (fun cdv A outer s H vs Q E hr h => ?_)
  · obtain ⟨m, c, l, many, cs, ls, n, rfl, _⟩ := h
    rfl
  · obtain ⟨m, c, l, many, cs, ls, n, rfl, M, q0, q1, qn, k⟩ := h
    have hu := hu_of hr
    have hu2 : (A.deeper (PyProof.Rows.envOfC "_law_next" (defScope sNext) s.heap.objs.size f cdv)).units + 64 < cLine := by have := hr.un; omega
    have bi : bootBuiltins ("int" : Str) = some (.type "int") := by decide +kernel
    refine ⟨_, pss_cons (ps_while PassesOwn.never (PW.pt (pw_and (pt_cmpR (op_neD hu2) (pe_dget hu (pv 0) pe_str (fun _ _ => rfl)) (pe_lst pa_nil) (nomark _))
        (pw_and1 (pt_cmpR op_eq (pe_ix ix_list (pe_dget hu (pv 0) pe_str (fun _ _ => rfl)) pe_int (fun _ _ => rfl)) pe_int (nomark _)))))
        (pss_one (ps_dput hu (pv 0) pe_str (pe_slice sl_list (pe_dget hu (pv 0) pe_str (fun _ _ => rfl)) (po_some pe_int) po_none) rfl)))
      (pss_cons (ps_if (pt_cmpR (op_neD hu2) (pe_dget hu (pv 0) pe_str (fun _ _ => rfl)) (pe_lst pa_nil) (nomark _))
        (pss_cons (ps_set (i := 2) scN.nd rfl (Or.inl rfl) (pe_ix ix_list (pe_dget hu (pv 0) pe_str (fun _ _ => rfl)) pe_int (fun _ _ => rfl)))
          (pss_cons (ps_asg (pe_op op_fdivN (pv 2) (pv 1)) (pg_sub (pe_dget hu (pv 0) pe_str (fun _ _ => rfl)) pe_int set_list))
          (pss_one (ps_ret (pe_op op_modN (pe_callTy call_int1 (by rfl) T.int bi (pa_cons (pv 2) pa_nil)) (pv 1)))))) pss_nil)
      (pss_cons (ps_par rfl scN.nd (i := 3) (j := 4) rfl rfl (by decide) rfl rfl (pa_cons (pe_op op_add (pe_dget hu (pv 0) pe_str (fun _ _ => rfl)) pe_int) (pa_cons (pe_dget hu (pv 0) pe_str (fun _ _ => rfl)) pa_nil)) rfl)
      (pss_cons (ps_dput hu (pv 0) pe_str (pv 3) rfl)
      (pss_cons (ps_set (i := 5) scN.nd rfl (Or.inl rfl) (pe_ifExp (pt_cmpR (op_neD hu2) (pv 4) (pe_lst pa_nil) (nomark _))
        (pe_callTy call_int1 (by rfl) T.int bi (pa_cons (pe_ix ix_list (pv 4) (pe_op op_modN (pe_callTy call_int1 (by rfl) T.int bi (pa_cons (pe_op op_add (pe_op op_mul (pv 3) (pv 3)) (pe_op op_fdivN (pv 3) pe_int)) pa_nil))
          (pe_callB call_len_seq (by rfl) T.len PySem.boot_len (pa_cons (pv 4) pa_nil))) (fun _ _ => rfl)) pa_nil)) pe_int))
      (pss_cons (ps_set (i := 6) scN.nd rfl (Or.inl rfl) (pe_op op_modN (pe_callTy call_int1 (by rfl) T.int bi (pa_cons (pe_op op_add (pe_op op_add (pe_op op_mul (pv 5) pe_int) (pe_op op_mul (pv 3) pe_int)) (pe_op op_mul (pe_op op_mul pe_int (pv 3)) (pv 3))) pa_nil)) pe_int))
      (pss_one (ps_ret (pe_op op_modN (pe_callTy call_int1 (by rfl) T.int bi (pa_cons (pe_op op_fdivN (pe_op op_modN (pe_callTy call_int1 (by rfl) T.int bi (pa_cons (pe_op op_add (pe_op op_mul (pv 6) pe_int) (pe_op op_mul pe_int (pv 3))) pa_nil)) pe_int) pe_int) pa_nil)) (pv 1))))))))), ?_⟩
    refine while_two (fun σ' H' => ∃ l' ls', σ' = [some (V.ref m), some (V.int many), none, none, none, none, none] ∧ MAt H' m c l' cs ls' n ∧ But H H' m l ∧ (l' = l ∨ H l' = none)) (fun _ H' => leftLen H' m)
      ⟨l, ls, rfl, M, .refl, .inl rfl⟩ ?_ ?_ ?_
    · rintro σ' H' ⟨l', ls', rfl, M', bt, hl'⟩
      -- behind the loop
      refine ⟨_, rfl, m, _, rfl, M'.getL, by decide, fun p hp => ⟨_, _, dp_list (SqL.of (same_new hp _ _ M'.hl)), dp_nil upd_same, shaped_ints _, shaped_ints [], _, rfl, ?_⟩⟩
      have M1 := M'.same (same_new (o := .lst []) hp)
      have b1 := bt.then (same_new (o := .lst []) hp)
      generalize hG : upd H' p (HO.lst []) = G at M1 b1
      rw [eqv_ints]
      cases ls' with
      | cons z ls' =>
        refine iteT ⟨_, rfl, m, _, rfl, M1.getL, l', _, 0, .int z, rfl, rfl, SqL.of M1.hl, atI_nat (j := 0) rfl, ?_⟩
        refine ⟨_, rfl, _, rfl, _, _, rfl, rfl, ⟨by omega, by omega⟩, _, rfl, m, _, rfl, M1.getL, l', _, 0, 0, rfl, rfl, M1.hl, ?_, ?_⟩
        · unfold ixN
          rw [if_pos (by omega), List.length_map, List.length_cons]
          rw [if_pos (by omega)]
          rfl
        · refine ⟨_, rfl, .inl ⟨_, rfl, _, rfl, _, _, rfl, rfl, by omega, ?_⟩⟩
          have nl : G l' ≠ none := by rw [M1.hl]; simp
          have e1 : c ≠ l' := M1.ne
          have e2 : m ≠ l' := M1.ml
          refine k _ _ l' (z.fdiv many :: ls') n (Int.fmod_nonneg_of_pos _ q0) (Int.fmod_lt_of_pos _ q0) ⟨by rw [upd_ne e2]; exact M1.hm, by rw [upd_ne e1]; exact M1.hc, upd_same, e1, M1.n0, M1.nb, M1.cb, M1.lb⟩ (by omega) (b1.at (.inr hl') nl) hl'
      | nil =>
        refine iteF ⟨_, rfl, m, _, rfl, M1.getA, _, _, rfl, rfl, _, rfl, m, _, rfl, M1.getC, _, _, rfl, ?_⟩
        obtain ⟨dp, M2⟩ := M1.putA (n' := n + 1) (by have := M.n0; omega) qn
        have b2 := b1.at (o := .dK (mkv c l' (n + 1))) (.inl rfl) (by rw [M1.hm]; simp)
        refine ⟨_, rfl, _, rfl, m, _, rfl, dp, ?_⟩
        generalize hG2 : upd G m (HO.dK (mkv c l' (n + 1))) = G2 at M2 b2
        -- cell
        refine ⟨_, rfl, by decide, fun t ht => ⟨_, _, dp_list (SqL.of (same_new ht _ _ M2.hc)), dp_nil upd_same, shaped_ints _, shaped_ints [], _, rfl, ?_⟩⟩
        have M3 := M2.same (same_new (o := .lst []) ht)
        have b3 := b2.then (same_new (o := .lst []) ht)
        generalize hG3 : upd G2 t (HO.lst []) = G3 at M3 b3
        rw [eqv_ints]
        have big1 : -(2 ^ 64) < n + 1 := by have := M.n0; omega
        have big2 : n + 1 < 2 ^ 64 := by omega
        cases cs with
        | nil =>
          refine iteF ?_
          refine ⟨_, rfl, _, _, rfl, rfl, .inr ⟨by decide, by decide⟩, _, rfl, _, _, rfl, rfl, .inr ⟨by decide, by decide⟩, _, _, rfl, rfl, _, rfl, _, _, rfl, rfl, .inl ⟨by decide, by decide⟩, _, rfl, _, _, rfl, rfl, .inr ⟨big1, big2⟩, _, _, rfl, rfl, .inl ⟨_, rfl, _, _, rfl, rfl, (by show (2147483399 : Int) ≠ 0; decide), ?_⟩⟩
          refine ⟨_, rfl, _, _, rfl, rfl, .inr ⟨by decide, by decide⟩, _, rfl, _, _, rfl, rfl, .inl ⟨by decide, by decide⟩, _, _, rfl, rfl, .inl ⟨_, rfl, _, _, rfl, rfl, (by show (2147483647 : Int) ≠ 0; decide), _, _, rfl, rfl, ⟨by decide, by decide⟩, .inl ⟨_, rfl, _, rfl, _, _, rfl, rfl, by omega, ?_⟩⟩⟩
          exact k _ _ l' [] (n + 1) (Int.fmod_nonneg_of_pos _ q0) (Int.fmod_lt_of_pos _ q0) M3 (Int.le_refl _) b3 hl'
        | cons x cs =>
          have hl0 : (0 : Int) < ((x :: cs).length : Int) := by rw [List.length_cons]; omega
          obtain ⟨y, hy⟩ := at_some (ns := x :: cs) (j := ((n + 1) * (n + 1) + (n + 1).fdiv 2).fmod ((x :: cs).length : Int)) (Int.fmod_nonneg_of_pos _ hl0) (Int.fmod_lt_of_pos _ hl0)
          refine iteT ?_
          refine ⟨_, rfl, _, rfl, _, rfl, _, _, rfl, rfl, .inl ⟨big1, big2⟩, _, rfl, _, _, rfl, rfl, ⟨by decide, by decide⟩, _, _, rfl, rfl, .inl ⟨_, rfl, ?_⟩⟩
          refine ⟨_, rfl, c, _, rfl, .inl (SqL.of M3.hc), _, _, rfl, rfl, by rw [List.length_map]; omega, c, _, _, .int y, rfl, rfl, SqL.of M3.hc, by rw [List.length_map]; exact hy, .inl ⟨_, rfl, ?_⟩⟩
          refine ⟨_, rfl, _, _, rfl, rfl, .inr ⟨by decide, by decide⟩, _, rfl, _, _, rfl, rfl, .inr ⟨by decide, by decide⟩, _, _, rfl, rfl, _, rfl, _, _, rfl, rfl, .inl ⟨by decide, by decide⟩, _, rfl, _, _, rfl, rfl, .inr ⟨big1, big2⟩, _, _, rfl, rfl, .inl ⟨_, rfl, _, _, rfl, rfl, (by show (2147483399 : Int) ≠ 0; decide), ?_⟩⟩
          refine ⟨_, rfl, _, _, rfl, rfl, .inr ⟨by decide, by decide⟩, _, rfl, _, _, rfl, rfl, .inl ⟨by decide, by decide⟩, _, _, rfl, rfl, .inl ⟨_, rfl, _, _, rfl, rfl, (by show (2147483647 : Int) ≠ 0; decide), _, _, rfl, rfl, ⟨by decide, by decide⟩, .inl ⟨_, rfl, _, rfl, _, _, rfl, rfl, by omega, ?_⟩⟩⟩
          exact k _ _ l' [] (n + 1) (Int.fmod_nonneg_of_pos _ q0) (Int.fmod_lt_of_pos _ q0) M3 (Int.le_refl _) b3 hl'
    · intro σ' H' Q1 Q2 hq h
      obtain ⟨v, e1, a, u, e2, e3, e4, h⟩ := h
      refine ⟨v, e1, a, u, e2, e3, e4, fun p hp => ?_⟩
      obtain ⟨d, e, d1, d2, d3, d4, b, e5, h⟩ := h p hp
      refine ⟨d, e, d1, d2, d3, d4, b, e5, ?_⟩
      cases b with
      | false => exact hq _ _ h
      | true =>
        obtain ⟨v, e1, a, u, e2, e3, p2, xs, i, z, f1, f2, f3, f4, f5, k2, e6, h⟩ := h
        exact ⟨v, e1, a, u, e2, e3, p2, xs, i, z, f1, f2, f3, f4, f5, k2, e6, hq _ _ h⟩
    · rintro σ' H' ⟨l', ls', rfl, M', bt, hl'⟩
      refine ⟨_, rfl, m, _, rfl, M'.getL, by decide, fun p hp => ⟨_, _, dp_list (SqL.of (same_new hp _ _ M'.hl)), dp_nil upd_same, shaped_ints _, shaped_ints [], _, rfl, ?_⟩⟩
      have M1 := M'.same (same_new (o := .lst []) hp)
      rw [eqv_ints]
      cases ls' with
      | nil =>
        refine iteF (iteF ⟨l', [], rfl, M1, bt.then (same_new hp), hl'⟩)
      | cons z ls' =>
        refine iteT ⟨_, rfl, m, _, rfl, M1.getL, l', _, 0, .int z, rfl, rfl, SqL.of M1.hl, atI_nat (j := 0) rfl, rfl, _, rfl, ?_⟩
        refine ite2 (fun hz => ?_) (fun hz => ?_)
        · refine ⟨_, rfl, m, _, rfl, M1.getL, 1, rfl, l', _, rfl, SqL.of M1.hl, fun t ht => ?_⟩
          rw [List.map_cons, cut_one]
          have M2 := M1.same (same_new (o := .lst (ls'.map V.int)) ht)
          have ct : c ≠ t := ne_of_none M1.hc ht
          have nb2 : ls'.length ≤ 63 := Nat.le_trans (Nat.le_succ _) M1.lb
          obtain ⟨dp, M3⟩ := M2.putL (l' := t) (ls' := ls') upd_same ct nb2
          have b1 := bt.then (same_new (o := .lst []) hp)
          refine ⟨_, rfl, m, _, rfl, dp, ⟨t, ls', rfl, M3, (b1.then (same_new ht)).at (.inl rfl) (by rw [M2.hm]; simp), .inr (b1.out t ht)⟩, ?_⟩
          show leftLen _ m < leftLen H' m
          rw [M3.len, M'.len]
          exact Nat.lt_succ_self _
        · exact ⟨l', z :: ls', rfl, M1, bt.then (same_new hp), hl'⟩
end
end K01
set_option Elab.async false
set_option linter.all false
set_option maxRecDepth 100000
set_option maxHeartbeats 4000000
namespace K01
open PySem L2 L2H DQ
/-! the program's own defs, as functions of data -/
def low (c : Nat) : Bool := decide (97 ≤ c) && decide (c ≤ 122)
def wordS (x : Str) : Bool := decide (1 ≤ x.length) && (decide (x.length ≤ 8) && x.cps.toList.all low)
def isWord : PyData → Bool | .str x => wordS x | _ => false
theorem lt_one (a b : Nat) : ([a] : List Nat) < [b] ↔ a < b := by
  constructor
  · intro h
    cases h with
    | rel h => exact h
    | cons h => cases h
  · intro h
    exact List.Lex.rel h
theorem le_a (c : Nat) : (!decide ((⟨#[c]⟩ : Str).cps.toList < ("a" : Str).cps.toList)) = decide (97 ≤ c) := by
  have e : ("a" : Str).cps.toList = [97] := by decide +kernel
  rw [e]
  show (!decide ([c] < [97])) = _
  rw [← decide_not]
  exact decide_eq_decide.mpr (by rw [lt_one]; omega)
theorem le_z (c : Nat) : (!decide (("z" : Str).cps.toList < (⟨#[c]⟩ : Str).cps.toList)) = decide (c ≤ 122) := by
  have e : ("z" : Str).cps.toList = [122] := by decide +kernel
  rw [e]
  show (!decide ([122] < [c])) = _
  rw [← decide_not]
  exact decide_eq_decide.mpr (by rw [lt_one]; omega)
structure TP (mg : Str → Option Value) : Prop where
  isi : mg "isinstance" = none
  str : mg "str" = none
  tuple : mg "tuple" = none
  len : mg "len" = none
  all : mg "all" = none
  zip : mg "zip" = none
  w8 : ∃ t, mg "LONGEST_WORD" = some (.int 8 t)
  m3 : ∃ t, mg "MOST_MARKS" = some (.int 3 t)
  b3 : ∃ t, mg "MOST_BRANCHES" = some (.int 3 t)
  n6 : ∃ t, mg "MOST_NODES" = some (.int 6 t)
  l3 : ∃ t, mg "MOST_LEVEL" = some (.int 3 t)
  ca : ∃ t, mg "CALL" = some (.str "call" t)
/-- a def of one argument that tells a truth of its data -/
def spB (φ : PyData → Bool) : Sp := fun vs H Q _ => ∃ (v : V) (d : PyData), vs = [v] ∧ Dq H v d ∧ ∀ H', Same H H' → Q (.bl (φ d)) H'
theorem bisi : bootBuiltins ("isinstance" : Str) = some (.builtin "isinstance") := by decide +kernel
theorem bstr : bootBuiltins ("str" : Str) = some (.type "str") := by decide +kernel
theorem btup : bootBuiltins ("tuple" : Str) = some (.type "tuple") := by decide +kernel
theorem ball : bootBuiltins ("all" : Str) = some (.builtin "all") := by decide +kernel
section
variable {P : Program} {w : World} {K : PySem.W.Frag} {mg : Str → Option Value} {base : Heap}
theorem scW : FnScope ["thing", "letter"] ["thing"] (defScope sWord) := ⟨rfl, rfl, rfl, by decide +kernel, rfl, by decide +kernel, by decide +kernel⟩
theorem ok_word {f : Addr} {fd : FuncData} (F : Fun K "is_word" "is_word" sWord f fd) (T : TP mg) : FnOk P w K mg base CX0 1 f fd ["thing"] (spB isWord) := by
  refine F.ok scW (fun vs H Q E h => ?_) (fun cdv A outer s H vs Q E hr h => ?_)
  · obtain ⟨v, d, rfl, _⟩ := h
    rfl
  · obtain ⟨v, d, rfl, hd, k⟩ := h
    obtain ⟨t8, g8⟩ := T.w8
    refine ⟨_, pss_cons (ps_if (PW.pt (pw_or (pt_not (pt_val (pe_callB call_isi (by rfl) T.isi bisi (pa_cons (pv 0) (pa_cons (pe_bltn (v := .ty "str") (by rfl) T.str bstr rfl) pa_nil)))))
        (pw_or1 (pt_not (pt_chain op_le op_le pe_int (pe_callB call_len_str (by rfl) T.len PySem.boot_len (pa_cons (pv 0) pa_nil)) (pe_glob (v := .int 8) (by rfl) g8 ⟨_, rfl⟩)))))) (pss_one (ps_ret pe_bl)) pss_nil)
      (pss_one (ps_ret (pe_callB (cr_all rfl) (by rfl) T.all ball (pa_cons (pe_lc (own := [("letter", 1)]) (g := gName 1) (tt := tYes) rfl scW.nd (pi_str (pv 0)) (blkOk_by (own := [("letter", 1)]) (N := ["thing", "letter"]) (sc := defScope sWord) (by decide +kernel))
        (fun _ _ _ _ _ => pg_name (i := 1) scW.nd rfl (Or.inl rfl)) (fun _ _ _ _ _ => pts_nil) (fun _ _ _ _ _ => pe_chain op_le_str op_le_str pe_str (pv 1) pe_str)) pa_nil)))), ?_⟩
    refine ⟨_, rfl, _, .ty "str", _, _, _, rfl, .ty _, hd.ty, kit_ty (ks d), _, rfl, ?_⟩
    cases hd with
    | str x hx =>
      refine iteF ⟨_, rfl, x, rfl, hx.1, _, _, rfl, rfl, _, rfl, ?_⟩
      by_cases h1 : 1 ≤ x.length
      · have e1 : decide ((1 : Int) ≤ (x.length : Int)) = true := decide_eq_true (by omega)
        rw [e1]
        refine iteT ⟨_, _, rfl, rfl, _, rfl, ?_⟩
        by_cases h8 : x.length ≤ 8
        · have e8 : decide ((x.length : Int) ≤ 8) = true := decide_eq_true (by omega)
          rw [e8]
          refine iteF ⟨_, rfl, x, rfl, fun D nD => ?_⟩
          refine lc_it walk_str (fun i H' => Same H H' ∧ H' D = some (.lst (((x.cps.toList.take i).map low).map V.bl))) ⟨same_new nD, upd_same⟩ (fun _ _ _ _ => trivial) ?_ ?_
          · rintro i y H1 H2 hi ⟨s1, e⟩ ⟨rfl, c, hc, rfl⟩
            refine ⟨rfl, ?_⟩
            unfold tYes
            try dsimp only
            rw [if_pos rfl]
            have hl : (((x.cps.toList.take i).map low).map V.bl).length < sizeLine := by
              rw [List.length_map, List.length_map, List.length_take]
              exact Nat.lt_of_le_of_lt (Nat.min_le_left _ _) (Nat.lt_of_lt_of_le hi hx.1)
            have tk : x.cps.toList.take (i + 1) = x.cps.toList.take i ++ [c] := by
              have hc' : x.cps.toList[i]? = some c := by rw [Array.getElem?_toList]; exact hc
              rw [List.take_add_one, hc']
              rfl
            refine ⟨_, rfl, _, _, rfl, rfl, _, rfl, ?_⟩
            rw [le_a]
            by_cases ha : 97 ≤ c
            · rw [decide_eq_true ha]
              refine iteT ⟨_, _, rfl, rfl, _, e, hl, fun b o z => ?_, ?_⟩
              · rw [upd_ne (ne_of_none z nD)]
                exact s1 b o z
              · rw [upd_same, tk, List.map_append, List.map_append, le_z]
                simp [low, ha]
            · rw [decide_eq_false ha]
              refine iteF ⟨_, e, hl, fun b o z => ?_, ?_⟩
              · rw [upd_ne (ne_of_none z nD)]
                exact s1 b o z
              · rw [upd_same, tk, List.map_append, List.map_append]
                simp [low, ha]
          · rintro H1 ⟨s1, e⟩
            have tk : x.cps.toList.take x.cps.size = x.cps.toList := List.take_of_length_le (by simp)
            rw [tk] at e
            refine ⟨_, _, rfl, SqL.of e, ?_⟩
            have z := k H1 s1
            have y : isWord (.str x) = (x.cps.toList.map low).all id := by
              show (decide (1 ≤ x.length) && (decide (x.length ≤ 8) && x.cps.toList.all low)) = _
              rw [decide_eq_true h1, decide_eq_true h8, List.all_map]
              rfl
            rw [y] at z
            exact z
        · have e8 : decide ((x.length : Int) ≤ 8) = false := decide_eq_false (by omega)
          rw [e8]
          have z := k H same_refl
          have y : isWord (.str x) = false := by
            show (decide (1 ≤ x.length) && (decide (x.length ≤ 8) && _)) = _
            rw [decide_eq_false h8, Bool.false_and, Bool.and_false]
          rw [y] at z
          exact iteT z
      · have e1 : decide ((1 : Int) ≤ (x.length : Int)) = false := decide_eq_false (by omega)
        rw [e1]
        have z := k H same_refl
        have y : isWord (.str x) = false := by
          show (decide (1 ≤ x.length) && _) = _
          rw [decide_eq_false h1, Bool.false_and]
        rw [y] at z
        exact iteF ⟨_, rfl, iteT z⟩
    | _ => exact iteT (k H same_refl)
end
end K01
set_option Elab.async false
set_option linter.all false
set_option maxRecDepth 100000
set_option maxHeartbeats 4000000
namespace K01
open PySem L2 L2H DQ RZ
def isPair : PyData → Bool | .tuple ds => decide (ds.length = 2) | _ => false
def isCallS : Option PyData → Bool | some (.str x) => decide (V.str x = V.str "call") | _ => false
def isCall : PyData → Bool | .tuple ds => decide (ds.length = 3) && isCallS ds[2]? | _ => false
def ltD : PyData → PyData → Bool | .str x, .str y => decide (x.cps.toList < y.cps.toList) | _, _ => false
def areMarks : PyData → Bool | .tuple ds => decide (ds.length ≤ 3) && (ds.all isWord && (ds.zip ds.tail).all fun p => ltD p.1 p.2) | _ => false
theorem vint {n m : Nat} : n = m ↔ V.int (n : Int) = V.int (m : Int) := ⟨fun e => by rw [e], fun e => Int.ofNat.inj (V.int.inj e)⟩
section
variable {P : Program} {w : World} {K : PySem.W.Frag} {mg : Str → Option Value} {base : Heap}
theorem scP : FnScope ["thing"] ["thing"] (defScope sPair) := ⟨rfl, rfl, rfl, by decide +kernel, rfl, by decide +kernel, by decide +kernel⟩
theorem ok_pair {f : Addr} {fd : FuncData} (F : Fun K "_is_pair" "_is_pair" sPair f fd) (T : TP mg) : FnOk P w K mg base CX0 1 f fd ["thing"] (spB isPair) := by
  refine F.ok scP (fun vs H Q E h => ?_) (fun cdv A outer s H vs Q E hr h => ?_)
  · obtain ⟨v, d, rfl, _⟩ := h
    rfl
  · obtain ⟨v, d, rfl, hd, k⟩ := h
    refine ⟨_, pss_one (ps_ret (pe_and (pe_callB call_isi (by rfl) T.isi bisi (pa_cons (pv 0) (pa_cons (pe_bltn (v := .ty "tuple") (by rfl) T.tuple btup rfl) pa_nil))) (pe_one (pe_cmpR op_eq (pe_callB call_len_seq (by rfl) T.len PySem.boot_len (pa_cons (pv 0) pa_nil)) pe_int (nomark _))))), ?_⟩
    refine ⟨_, rfl, _, .ty "tuple", _, _, _, rfl, .ty _, hd.ty, kit_ty (kt _), _, rfl, ?_⟩
    cases hd with
    | @tup ad xs ds e a =>
      refine iteT ⟨_, rfl, _, _, rfl, .inr (SqT.of e), rfl, ?_⟩
      have z := k H same_refl
      have y : isPair (.tuple ds) = decide (V.int (xs.length : Nat) = V.int 2) := decide_eq_decide.mpr (by rw [← a.len]; exact vint)
      rw [y] at z
      exact z
    | _ => exact iteF (k H same_refl)
theorem scC : FnScope ["thing"] ["thing"] (defScope sCall) := ⟨rfl, rfl, rfl, by decide +kernel, rfl, by decide +kernel, by decide +kernel⟩
theorem ok_call {f : Addr} {fd : FuncData} (F : Fun K "_is_call" "_is_call" sCall f fd) (T : TP mg) : FnOk P w K mg base CX0 1 f fd ["thing"] (spB isCall) := by
  refine F.ok scC (fun vs H Q E h => ?_) (fun cdv A outer s H vs Q E hr h => ?_)
  · obtain ⟨v, d, rfl, _⟩ := h
    rfl
  · obtain ⟨v, d, rfl, hd, k⟩ := h
    obtain ⟨tc, gc⟩ := T.ca
    refine ⟨_, pss_one (ps_ret (pe_and (pe_callB call_isi (by rfl) T.isi bisi (pa_cons (pv 0) (pa_cons (pe_bltn (v := .ty "tuple") (by rfl) T.tuple btup rfl) pa_nil))) (pe_and (pe_cmpR op_eq (pe_callB call_len_seq (by rfl) T.len PySem.boot_len (pa_cons (pv 0) pa_nil)) pe_int (nomark _))
      (pe_and (pe_callB call_isi (by rfl) T.isi bisi (pa_cons (pe_ix ix_tup (pv 0) pe_int (fun _ _ => rfl)) (pa_cons (pe_bltn (v := .ty "str") (by rfl) T.str bstr rfl) pa_nil))) (pe_one (pe_cmpR op_eq (pe_ix ix_tup (pv 0) pe_int (fun _ _ => rfl)) (pe_glob (v := .str "call") (by rfl) gc ⟨_, rfl⟩) (nomark _))))))), ?_⟩
    refine ⟨_, rfl, _, .ty "tuple", _, _, _, rfl, .ty _, hd.ty, kit_ty (kt _), _, rfl, ?_⟩
    cases hd with
    | @tup ad xs ds e a =>
      refine iteT ⟨_, rfl, _, _, rfl, .inr (SqT.of e), rfl, _, rfl, ?_⟩
      have z := k H same_refl
      by_cases h3 : ds.length = 3
      · have e3 : decide (V.int (xs.length : Nat) = V.int 3) = true := decide_eq_true (by rw [a.len, h3]; rfl)
        rw [e3]
        obtain ⟨x2, hx2⟩ : ∃ x2, ds[2]? = some x2 := ⟨ds[2], List.getElem?_eq_getElem (by omega)⟩
        obtain ⟨v2, hv2, q2⟩ := a.at hx2
        refine iteT ⟨_, rfl, ad, _, _, v2, rfl, rfl, SqT.of e, atI_nat (j := 2) hv2, _, .ty "str", _, _, _, rfl, .ty _, q2.ty, kit_ty (ks _), _, rfl, ?_⟩
        have y : isCall (.tuple ds) = isCallS (some x2) := by
          show (decide (ds.length = 3) && isCallS ds[2]?) = _
          rw [decide_eq_true h3, hx2, Bool.true_and]
        rw [y] at z
        cases q2 with
        | str x hx => exact iteT ⟨_, rfl, ad, _, _, .str x, rfl, rfl, SqT.of e, atI_nat (j := 2) hv2, rfl, z⟩
        | _ => exact iteF z
      · have e3 : decide (V.int (xs.length : Nat) = V.int 3) = false := decide_eq_false fun q => h3 (by rw [← a.len]; exact vint.mpr q)
        rw [e3]
        have y : isCall (.tuple ds) = false := by
          show (decide (ds.length = 3) && isCallS ds[2]?) = _
          rw [decide_eq_false h3, Bool.false_and]
        rw [y] at z
        exact iteF z
    | _ => exact iteF (k H same_refl)
theorem walk_zipT {K : PySem.W.Frag} {a b : Addr} {xs ys : List V} {n : Nat} (hn : n = min xs.length ys.length) : Walk (ItzT K a b) n (fun H => SqT K H a xs ∧ SqT K H b ys) (YPair (fun i => xs[i]?) (fun i => ys[i]?)) where
  goes := fun i H hi g => by
    have h1 : i < xs.length := by omega
    have h2 : i < ys.length := by omega
    exact ⟨xs, ys, xs[i], ys[i], g.1, g.2, List.getElem?_eq_getElem h1, List.getElem?_eq_getElem h2⟩
  stops := fun H g => ⟨xs, ys, g.1, g.2, by omega⟩
  yields := fun i H x H' hi g y => by
    obtain ⟨T, x, y, h1, h2, h3, h4, h5⟩ := y
    exact ⟨T, x, y, h1, h2, h3, h4 _ g.1, h5 _ g.2⟩
theorem sqt_same {K : PySem.W.Frag} {H H' : Hp} {a : Addr} {xs : List V} (h : SqT K H a xs) (s : Same H H') : SqT K H' a xs := by
  rcases h with (h | ⟨o, h⟩) | h
  · exact .inl (.inl (s _ _ h))
  · exact .inl (.inr ⟨o, s _ _ h⟩)
  · exact .inr h
theorem _root_.DQ.DqAll.tail {H : Hp} {vs : List V} {ds : List PyData} (h : DqAll H vs ds) : DqAll H vs.tail ds.tail := by
  cases h with
  | nil => exact .nil
  | cons _ t => exact t
theorem all_tail {ds : List PyData} (h : ds.all isWord = true) : ds.tail.all isWord = true := by
  cases ds with
  | nil => rfl
  | cons d ds => exact (Bool.and_eq_true_iff.mp h).2
/-- where all are words, the i-th value is a text -/
theorem strs_at {H : Hp} {vs : List V} {ds : List PyData} {i : Nat} {v : V} (a : DqAll H vs ds) (w : ds.all isWord = true) (hi : i < ds.length) (hv : vs[i]? = some v) : ∃ x, v = .str x ∧ ds[i]? = some (.str x) := by
  obtain ⟨u, hu, q⟩ := a.at (List.getElem?_eq_getElem hi)
  obtain rfl : u = v := Option.some.inj (hu.symm.trans hv)
  have wi : isWord ds[i] = true := List.all_eq_true.mp w _ (List.getElem_mem hi)
  cases e : ds[i] with
  | str x =>
    rw [e] at q
    cases q
    exact ⟨x, rfl, by rw [List.getElem?_eq_getElem hi, e]⟩
  | _ => rw [e] at wi; cases wi
theorem scM : FnScope ["thing", "least", "most", "word", "later"] ["thing", "least", "most"] (defScope sMarks) := ⟨rfl, rfl, rfl, by decide +kernel, rfl, by decide +kernel, by decide +kernel⟩
/-- are_words of a thing, from none to three -/
def spM (φ : PyData → Bool) : Sp := fun vs H Q _ => ∃ (v : V) (d : PyData), vs = [v, .int 0, .int 3] ∧ Dq H v d ∧ ∀ H', Same H H' → Q (.bl (φ d)) H'
theorem ok_marks {f fW : Addr} {fd fdW : FuncData} (F : Fun K "are_words" "are_words" sMarks f fd) (FW : Fun K "is_word" "is_word" sWord fW fdW) (bW : Binds K fdW ["thing"] []) (gW : mg "is_word" = some (.ref fW)) (T : TP mg) :
    FnOk P w K mg base CX0 3 f fd ["thing", "least", "most"] (spM areMarks) := by
  have GW : FnOk P w K mg base CX0 1 fW fdW ["thing"] (spB isWord) := ok_word FW T
  refine F.ok scM (fun vs H Q E h => ?_) (fun cdv A outer s H vs Q E hr h => ?_)
  · obtain ⟨v, d, rfl, _⟩ := h
    rfl
  · obtain ⟨v, d, rfl, hd, k⟩ := h
    refine ⟨_, pss_cons (ps_if (PW.pt (pw_or (pt_not (pt_val (pe_callB call_isi (by rfl) T.isi bisi (pa_cons (pv 0) (pa_cons (pe_bltn (v := .ty "tuple") (by rfl) T.tuple btup rfl) pa_nil))))) (pw_or1 (pt_not (pt_chain op_le op_le (pv 1) (pe_callB call_len_seq (by rfl) T.len PySem.boot_len (pa_cons (pv 0) pa_nil)) (pv 2)))))) (pss_one (ps_ret pe_bl)) pss_nil)
      (pss_cons (ps_if (pt_not (pt_val (pe_callB (cr_all rfl) (by rfl) T.all ball (pa_cons (pe_lc (own := [("word", 3)]) (g := gName 3) (tt := tYes) rfl scM.nd (pi_tup (pv 0)) (blkOk_by (own := [("word", 3)]) (N := ["thing", "least", "most", "word", "later"]) (sc := defScope sMarks) (by decide +kernel))
        (fun _ _ _ _ _ => pg_name (i := 3) scM.nd rfl (Or.inl rfl)) (fun _ _ _ _ _ => pts_nil) (fun _ _ _ _ _ => pe_call GW (hr.mono (by decide)) (by rfl) gW FW.kp bW .nil pass0 (pa_cons (pv 3) pa_nil))) pa_nil)))) (pss_one (ps_ret pe_bl)) pss_nil)
      (pss_one (ps_ret (pe_callB (cr_all rfl) (by rfl) T.all ball (pa_cons (pe_lc (own := [("word", 3), ("later", 4)]) (g := gTup K 2 (gCons (gName 3) (gCons (gName 4) gNil))) (tt := tYes) rfl scM.nd (pi_zipA (by rfl) T.zip (pa_cons (pv 0) (pa_cons (pe_slice sl_tupA (pv 0) (po_some pe_int) po_none) pa_nil)))
        (blkOk_by (own := [("word", 3), ("later", 4)]) (N := ["thing", "least", "most", "word", "later"]) (sc := defScope sMarks) (by decide +kernel))
        (fun _ _ _ _ _ => pg_tup rfl (pgs_cons (pg_name (i := 3) scM.nd rfl (Or.inl rfl)) (pgs_cons (pg_name (i := 4) scM.nd rfl (Or.inl rfl)) pgs_nil))) (fun _ _ _ _ _ => pts_nil) (fun _ _ _ _ _ => pe_cmpR op_lt_str (pv 3) (pv 4) (nomark _))) pa_nil))))), ?_⟩
    refine ⟨_, rfl, _, .ty "tuple", _, _, _, rfl, .ty _, hd.ty, kit_ty (kt _), _, rfl, ?_⟩
    cases hd with
    | @tup ad xs ds e a =>
      refine iteF ⟨_, rfl, _, rfl, _, _, rfl, .inr (SqT.of e), _, _, rfl, rfl, _, rfl, ?_⟩
      rw [decide_eq_true (show (0 : Int) ≤ (xs.length : Int) by omega)]
      refine iteT ⟨_, rfl, _, _, rfl, rfl, _, rfl, ?_⟩
      by_cases h3 : ds.length ≤ 3
      · have e3 : decide ((xs.length : Int) ≤ 3) = true := decide_eq_true (by rw [a.len]; omega)
        rw [e3]
        refine iteF ⟨_, rfl, ad, rfl, ⟨_, SqT.of e⟩, fun D nD => ?_⟩
        refine lc_it (walk_tup (xs := xs)) (fun i H' => Same H H' ∧ H' D = some (.lst (((ds.take i).map isWord).map V.bl))) ⟨same_new nD, upd_same⟩ (fun i H' _ p => SqT.of (p.1 _ _ e)) ?_ ?_
        · rintro i y H1 H2 hi ⟨s1, e1⟩ ⟨rfl, hx⟩
          refine ⟨rfl, ?_⟩
          unfold tYes
          try dsimp only
          rw [if_pos rfl]
          obtain ⟨di, hdi⟩ : ∃ di, ds[i]? = some di := ⟨ds[i]'(by rw [← a.len]; exact hi), List.getElem?_eq_getElem _⟩
          obtain ⟨v, hv, qv⟩ := a.at hdi
          obtain rfl : v = y := Option.some.inj (hv.symm.trans hx)
          refine ⟨_, rfl, v, di, rfl, qv.same s1, fun H3 s3 => ?_⟩
          have tk : ds.take (i + 1) = ds.take i ++ [di] := by rw [List.take_add_one, hdi]; rfl
          refine ⟨_, s3 _ _ e1, small1000 ?_, fun b o z => ?_, ?_⟩
          · rw [List.length_map, List.length_map, List.length_take]
            omega
          · rw [upd_ne (ne_of_none z nD)]
            exact s3 _ _ (s1 _ _ z)
          · rw [upd_same, tk, List.map_append, List.map_append]
            rfl
        rintro H1 ⟨s1, e1⟩
        have tk : ds.take xs.length = ds := List.take_of_length_le (by rw [a.len]; exact Nat.le_refl _)
        rw [tk] at e1
        refine ⟨_, _, rfl, SqL.of e1, _, rfl, ?_⟩
        have al : (ds.map isWord).all id = ds.all isWord := by rw [List.all_map]; rfl
        rw [al]
        cases aw : ds.all isWord with
        | false =>
          have z := k H1 s1
          have y : areMarks (.tuple ds) = false := by
            show (decide (ds.length ≤ 3) && (ds.all isWord && _)) = _
            rw [aw, Bool.false_and, Bool.and_false]
          rw [y] at z
          exact iteT z
        | true =>
        refine iteF ⟨_, rfl, _, rfl, 1, rfl, ad, xs, rfl, SqT.of (s1 _ _ e), fun wh => ?_, fun nw p np => ?_⟩
        · have x0 : xs = [] := by
            cases xs with
            | nil => rfl
            | cons x xs =>
              have z := wh.1
              have y : HT.sIx (x :: xs).length 0 (some ((1 : Nat) : Int)) = 0 := z
              rw [HT.sIx_nat, List.length_cons] at y
              omega
          have sq : SqT K H1 ad xs.tail := by rw [x0]; rw [x0] at e; exact SqT.of (s1 _ _ e)
          refine ⟨ad, ad, xs, xs.tail, rfl, .inr ⟨SqT.of (s1 _ _ e), sq, fun D2 nD2 => lc_it (walk_zipT (xs := xs) (ys := xs.tail) rfl) (fun i H' => Same H1 H' ∧ H' D2 = some (.lst ((((ds.zip ds.tail).take i).map fun p => ltD p.1 p.2).map V.bl))) ⟨same_new nD2, upd_same⟩ (fun i H' _ p => ⟨SqT.of (p.1 _ _ (s1 _ _ e)), sqt_same sq p.1⟩) ?_ ?_⟩⟩
          · rintro i vv H3 H4 hi ⟨s3, e3⟩ ⟨tt, x, y, rfl, ntt, rfl, hx, hy⟩
            refine ⟨tt, _, rfl, SqT.of upd_same, rfl, _, _, rfl, _, _, rfl, rfl, rfl, ?_⟩
            unfold tYes
            try dsimp only
            rw [if_pos rfl]
            have ix : i < ds.length := by
              have := (List.getElem?_eq_some_iff.mp hx).1
              rw [a.len] at this
              exact this
            have iy : i < ds.tail.length := by
              have := (List.getElem?_eq_some_iff.mp hy).1
              rw [List.length_tail, a.len] at this
              rw [List.length_tail]
              exact this
            obtain ⟨x1, rfl, dx⟩ := strs_at a aw ix hx
            obtain ⟨y1, rfl, dy⟩ := strs_at a.tail (all_tail aw) iy (by exact hy)
            have tk : (ds.zip ds.tail).take (i + 1) = (ds.zip ds.tail).take i ++ [(PyData.str x1, PyData.str y1)] := by
              rw [List.take_add_one, List.getElem?_zip_eq_some (z := (PyData.str x1, PyData.str y1)) |>.mpr ⟨dx, dy⟩]
              rfl
            refine ⟨_, rfl, _, rfl, _, _, rfl, rfl, _, same_new ntt _ _ e3, small1000 ?_, fun b o z => ?_, ?_⟩
            · rw [List.length_map, List.length_map, List.length_take]
              have : (ds.zip ds.tail).length ≤ 3 := by rw [List.length_zip]; omega
              omega
            · rw [upd_ne (ne_of_none z nD2)]
              exact same_new ntt _ _ (s3 _ _ z)
            · rw [upd_same, tk, List.map_append, List.map_append]
              rfl
          · rintro H3 ⟨s3, e3⟩
            have n0 : min xs.length xs.tail.length = (ds.zip ds.tail).length := by rw [List.length_zip, List.length_tail, List.length_tail, a.len]
            rw [n0, List.take_length] at e3
            refine ⟨_, _, rfl, SqL.of e3, ?_⟩
            have z := k H3 (same_trans s1 s3)
            have y : areMarks (.tuple ds) = ((ds.zip ds.tail).map fun p => ltD p.1 p.2).all id := by
              show (decide (ds.length ≤ 3) && (ds.all isWord && (ds.zip ds.tail).all fun p => ltD p.1 p.2)) = _
              rw [decide_eq_true h3, aw, List.all_map]
              rfl
            rw [y] at z
            exact z

        · have cu : cutV xs (some 1) none = xs.tail := by
            cases xs with
            | nil => exact absurd ⟨by rfl, rfl⟩ nw
            | cons x xs => exact cut_one x xs
          rw [cu]
          have s2 : Same H (upd H1 p (.tup xs.tail)) := same_trans s1 (same_new np)
          have sq : SqT K (upd H1 p (.tup xs.tail)) p xs.tail := SqT.of upd_same
          generalize upd H1 p (HO.tup xs.tail) = H2 at s2 sq ⊢
          refine ⟨ad, p, xs, xs.tail, rfl, .inr ⟨SqT.of (s2 _ _ e), sq, fun D2 nD2 => lc_it (walk_zipT (xs := xs) (ys := xs.tail) rfl) (fun i H' => Same H2 H' ∧ H' D2 = some (.lst ((((ds.zip ds.tail).take i).map fun p => ltD p.1 p.2).map V.bl))) ⟨same_new nD2, upd_same⟩ (fun i H' _ p => ⟨SqT.of (p.1 _ _ (s2 _ _ e)), sqt_same sq p.1⟩) ?_ ?_⟩⟩
          · rintro i vv H3 H4 hi ⟨s3, e3⟩ ⟨tt, x, y, rfl, ntt, rfl, hx, hy⟩
            refine ⟨tt, _, rfl, SqT.of upd_same, rfl, _, _, rfl, _, _, rfl, rfl, rfl, ?_⟩
            unfold tYes
            try dsimp only
            rw [if_pos rfl]
            have ix : i < ds.length := by
              have := (List.getElem?_eq_some_iff.mp hx).1
              rw [a.len] at this
              exact this
            have iy : i < ds.tail.length := by
              have := (List.getElem?_eq_some_iff.mp hy).1
              rw [List.length_tail, a.len] at this
              rw [List.length_tail]
              exact this
            obtain ⟨x1, rfl, dx⟩ := strs_at a aw ix hx
            obtain ⟨y1, rfl, dy⟩ := strs_at a.tail (all_tail aw) iy (by exact hy)
            have tk : (ds.zip ds.tail).take (i + 1) = (ds.zip ds.tail).take i ++ [(PyData.str x1, PyData.str y1)] := by
              rw [List.take_add_one, List.getElem?_zip_eq_some (z := (PyData.str x1, PyData.str y1)) |>.mpr ⟨dx, dy⟩]
              rfl
            refine ⟨_, rfl, _, rfl, _, _, rfl, rfl, _, same_new ntt _ _ e3, small1000 ?_, fun b o z => ?_, ?_⟩
            · rw [List.length_map, List.length_map, List.length_take]
              have : (ds.zip ds.tail).length ≤ 3 := by rw [List.length_zip]; omega
              omega
            · rw [upd_ne (ne_of_none z nD2)]
              exact same_new ntt _ _ (s3 _ _ z)
            · rw [upd_same, tk, List.map_append, List.map_append]
              rfl
          · rintro H3 ⟨s3, e3⟩
            have n0 : min xs.length xs.tail.length = (ds.zip ds.tail).length := by rw [List.length_zip, List.length_tail, List.length_tail, a.len]
            rw [n0, List.take_length] at e3
            refine ⟨_, _, rfl, SqL.of e3, ?_⟩
            have z := k H3 (same_trans s2 s3)
            have y : areMarks (.tuple ds) = ((ds.zip ds.tail).map fun p => ltD p.1 p.2).all id := by
              show (decide (ds.length ≤ 3) && (ds.all isWord && (ds.zip ds.tail).all fun p => ltD p.1 p.2)) = _
              rw [decide_eq_true h3, aw, List.all_map]
              rfl
            rw [y] at z
            exact z

      · have e3 : decide ((xs.length : Int) ≤ 3) = false := decide_eq_false (by rw [a.len]; omega)
        rw [e3]
        have z := k H same_refl
        have y : areMarks (.tuple ds) = false := by
          show (decide (ds.length ≤ 3) && _) = _
          rw [decide_eq_false h3, Bool.false_and]
        rw [y] at z
        exact iteT z
    | _ => exact iteT (k H same_refl)
end
end K01
set_option Elab.async false
set_option linter.all false
set_option maxRecDepth 100000
set_option maxHeartbeats 4000000
namespace K01
open PySem L2 L2H DQ RZ
def fewB : PyData → Bool | .tuple bs => decide (bs.length ≤ 3) | _ => false
def nodeB : Option PyData → Option PyData → Bool | some a, some b => areMarks a && fewB b | _, _ => false
def isNode (l : Int) (d : PyData) : Bool := (isPair d || (decide (0 < l) && isCall d)) && (match d with | .tuple ds => nodeB ds[0]? ds[1]? | _ => false)
def spNode : Sp := fun vs H Q _ => ∃ (v : V) (d : PyData) (l : Int), vs = [v, .int l] ∧ Dq H v d ∧ ∀ H', Same H H' → Q (.bl (isNode l d)) H'
theorem pair_or_call {l : Int} {d : PyData} (h : (isPair d || (decide (0 < l) && isCall d)) = true) : ∃ a b r, d = .tuple (a :: b :: r) := by
  cases d with
  | tuple ds =>
    have n : 2 ≤ ds.length := by
      rcases Bool.or_eq_true_iff.mp h with z | z
      · have y : ds.length = 2 := of_decide_eq_true z
        omega
      · have z2 := (Bool.and_eq_true_iff.mp z).2
        have y : ds.length = 3 := of_decide_eq_true (Bool.and_eq_true_iff.mp z2).1
        omega
    match ds, n with
    | a :: b :: r, _ => exact ⟨a, b, r, rfl⟩
  | _ => simp [isPair, isCall] at h
theorem le3 {H : Hp} {vs : List V} {bs : List PyData} (a : DqAll H vs bs) : bs.length ≤ 3 ↔ (vs.length : Int) ≤ 3 := by
  rw [← a.len]
  omega
section
variable {P : Program} {w : World} {K : PySem.W.Frag} {mg : Str → Option Value} {base : Heap}
/-- the program's small defs, as they stand -/
structure PF (K : PySem.W.Frag) (mg : Str → Option Value) (fW fP fC fM : Addr) (dW dP dC dM : FuncData) : Prop where
  W : Fun K "is_word" "is_word" sWord fW dW
  bW : Binds K dW ["thing"] []
  gW : mg "is_word" = some (.ref fW)
  P : Fun K "_is_pair" "_is_pair" sPair fP dP
  bP : Binds K dP ["thing"] []
  gP : mg "_is_pair" = some (.ref fP)
  C : Fun K "_is_call" "_is_call" sCall fC dC
  bC : Binds K dC ["thing"] []
  gC : mg "_is_call" = some (.ref fC)
  M : Fun K "are_words" "are_words" sMarks fM dM
  bM : Binds K dM ["thing", "least", "most"] []
  gM : mg "are_words" = some (.ref fM)
theorem scNd : FnScope ["thing", "level", "marks", "branches"] ["thing", "level"] (defScope sNode) := ⟨rfl, rfl, rfl, by decide +kernel, rfl, by decide +kernel, by decide +kernel⟩
theorem ok_node {f fW fP fC fM : Addr} {fd dW dP dC dM : FuncData} (F : Fun K "_is_node" "_is_node" sNode f fd) (PFs : PF K mg fW fP fC fM dW dP dC dM) (T : TP mg) : FnOk P w K mg base CX0 4 f fd ["thing", "level"] spNode := by
  have GP : FnOk P w K mg base CX0 1 fP dP ["thing"] (spB isPair) := ok_pair PFs.P T
  have GC : FnOk P w K mg base CX0 1 fC dC ["thing"] (spB isCall) := ok_call PFs.C T
  have GM : FnOk P w K mg base CX0 3 fM dM ["thing", "least", "most"] (spM areMarks) := ok_marks PFs.M PFs.W PFs.bW PFs.gW T
  refine F.ok scNd (fun vs H Q E h => ?_) (fun cdv A outer s H vs Q E hr h => ?_)
  · obtain ⟨v, d, l, rfl, _⟩ := h
    rfl
  · obtain ⟨v, d, l, rfl, hd, k⟩ := h
    obtain ⟨t3, g3⟩ := T.b3
    obtain ⟨tm, gm⟩ := T.m3
    refine ⟨_, pss_cons (ps_if (PW.pt (pw_and (pt_not (pt_val (pe_call GP (hr.mono (by decide)) (by rfl) PFs.gP PFs.P.kp PFs.bP .nil pass0 (pa_cons (pv 0) pa_nil))))
        (pw_and1 (pt_not (PW.pt (pw_and (pt_cmpR op_gt (pv 1) pe_int (nomark _)) (pw_and1 (pt_val (pe_call GC (hr.mono (by decide)) (by rfl) PFs.gC PFs.C.kp PFs.bC .nil pass0 (pa_cons (pv 0) pa_nil)))))))))) (pss_one (ps_ret pe_bl)) pss_nil)
      (pss_cons (ps_par rfl scNd.nd (i := 2) (j := 3) rfl rfl (by decide) rfl rfl (pa_cons (pe_ix ix_tup (pv 0) pe_int (fun _ _ => rfl)) (pa_cons (pe_ix ix_tup (pv 0) pe_int (fun _ _ => rfl)) pa_nil)) rfl)
      (pss_one (ps_ret (pe_and (pe_call GM hr (by rfl) PFs.gM PFs.M.kp PFs.bM .nil pass0 (pa_cons (pv 2) (pa_cons pe_int (pa_cons (pe_glob (v := .int 3) (by rfl) gm ⟨_, rfl⟩) pa_nil)))) (pe_and (pe_callB call_isi (by rfl) T.isi bisi (pa_cons (pv 3) (pa_cons (pe_bltn (v := .ty "tuple") (by rfl) T.tuple btup rfl) pa_nil))) (pe_one (pe_cmpR op_le (pe_callB call_len_seq (by rfl) T.len PySem.boot_len (pa_cons (pv 3) pa_nil)) (pe_glob (v := .int 3) (by rfl) g3 ⟨_, rfl⟩) (nomark _)))))))), ?_⟩
    have rest : ∀ H1, Same H H1 → (isPair d || (decide (0 < l) && isCall d)) = true → ∃ a b r va vb vr, d = .tuple (a :: b :: r) ∧ v = .ref vr ∧ (∃ vs, H1 vr = some (.tup (va :: vb :: vs))) ∧ Dq H1 va a ∧ Dq H1 vb b := by
      intro H1 s1 hh
      obtain ⟨a, b, r, rfl⟩ := pair_or_call hh
      have hd1 := hd.same s1
      cases hd1 with
      | tup e q =>
        cases q with
        | cons qa q =>
          cases q with
          | cons qb q => exact ⟨a, b, r, _, _, _, rfl, rfl, ⟨_, e⟩, qa, qb⟩
    refine ⟨_, rfl, v, d, rfl, hd, fun H1 s1 => ⟨_, rfl, ?_⟩⟩
    have no : (isPair d || (decide (0 < l) && isCall d)) = false → isNode l d = false := fun e => by unfold isNode; rw [e, Bool.false_and]
    cases hp : isPair d with
    | true =>
      have hc : (isPair d || (decide (0 < l) && isCall d)) = true := by rw [hp, Bool.true_or]
      refine iteF (iteF ?_)
      obtain ⟨a, b, r, va, vb, vr, rfl, rfl, ⟨vs, e⟩, qa, qb⟩ := rest H1 s1 hc
      refine ⟨_, rfl, vr, _, 0, va, rfl, rfl, SqT.of e, atI_nat (j := 0) rfl, _, rfl, vr, _, 1, vb, rfl, rfl, SqT.of e, atI_nat (j := 1) rfl, _, _, rfl, ?_⟩
      refine ⟨_, rfl, va, a, rfl, qa, fun K2 t2 => ⟨_, rfl, ?_⟩⟩
      have qb2 := qb.same t2
      have yes : isNode l (.tuple (a :: b :: r)) = (areMarks a && fewB b) := by
        unfold isNode
        rw [hc, Bool.true_and]
        rfl
      cases ma : areMarks a with
      | false =>
        have z := k K2 (same_trans s1 t2)
        rw [yes, ma, Bool.false_and] at z
        exact iteF z
      | true =>
        refine iteT ⟨_, rfl, _, .ty "tuple", _, _, _, rfl, .ty _, qb2.ty, kit_ty (kt _), _, rfl, ?_⟩
        have z := k K2 (same_trans s1 t2)
        rw [yes, ma, Bool.true_and] at z
        cases qb2 with
        | tup eb ab =>
          refine iteT ⟨_, rfl, _, _, rfl, .inr (SqT.of eb), _, _, rfl, rfl, ?_⟩
          have y : fewB (.tuple _) = decide ((_ : Int) ≤ 3) := decide_eq_decide.mpr (le3 ab)
          rw [y] at z
          exact z
        | _ => exact iteF z
    | false =>
      refine iteT ⟨_, rfl, _, _, rfl, rfl, _, rfl, ?_⟩
      by_cases h0 : 0 < l
      · rw [decide_eq_true h0]
        refine iteT ⟨_, rfl, v, d, rfl, hd.same s1, fun H2 s2 => ⟨_, rfl, ?_⟩⟩
        cases hcl : isCall d with
        | true =>
          have hc : (isPair d || (decide (0 < l) && isCall d)) = true := by rw [hcl, decide_eq_true h0, Bool.and_true, Bool.or_true]
          refine iteF ?_
          obtain ⟨a, b, r, va, vb, vr, rfl, rfl, ⟨vs, e⟩, qa, qb⟩ := rest H2 (same_trans s1 s2) hc
          refine ⟨_, rfl, vr, _, 0, va, rfl, rfl, SqT.of e, atI_nat (j := 0) rfl, _, rfl, vr, _, 1, vb, rfl, rfl, SqT.of e, atI_nat (j := 1) rfl, _, _, rfl, ?_⟩
          refine ⟨_, rfl, va, a, rfl, qa, fun K2 t2 => ⟨_, rfl, ?_⟩⟩
          have qb2 := qb.same t2
          have yes : isNode l (.tuple (a :: b :: r)) = (areMarks a && fewB b) := by
            unfold isNode
            rw [hc, Bool.true_and]
            rfl
          cases ma : areMarks a with
          | false =>
            have z := k K2 (same_trans (same_trans s1 s2) t2)
            rw [yes, ma, Bool.false_and] at z
            exact iteF z
          | true =>
            refine iteT ⟨_, rfl, _, .ty "tuple", _, _, _, rfl, .ty _, qb2.ty, kit_ty (kt _), _, rfl, ?_⟩
            have z := k K2 (same_trans (same_trans s1 s2) t2)
            rw [yes, ma, Bool.true_and] at z
            cases qb2 with
            | tup eb ab =>
              refine iteT ⟨_, rfl, _, _, rfl, .inr (SqT.of eb), _, _, rfl, rfl, ?_⟩
              have y : fewB (.tuple _) = decide ((_ : Int) ≤ 3) := decide_eq_decide.mpr (le3 ab)
              rw [y] at z
              exact z
            | _ => exact iteF z
        | false =>
          have z := k H2 (same_trans s1 s2)
          rw [no (by rw [hp, hcl, Bool.and_false, Bool.or_false])] at z
          exact iteT z
      · rw [decide_eq_false h0]
        have z := k H1 s1
        rw [no (by rw [hp, decide_eq_false h0, Bool.false_and, Bool.or_false])] at z
        exact iteF (iteT z)
end
end K01
set_option Elab.async false
set_option linter.all false
set_option maxRecDepth 100000
set_option maxHeartbeats 4000000
namespace K01
open PySem L2 L2H DQ RZ
def stepB (c : PyData → Option (Int × Int)) (acc : Option (Int × Int)) (b : PyData) : Option (Int × Int) :=
  match acc with
  | none => none
  | some xy => match b with
    | .tuple [.str u, t] => if wordS u = true then (match c t with | some pq => some (xy.1 + pq.1, xy.2 + pq.2) | none => none) else none
    | _ => none
def cntOf (c : PyData → Option (Int × Int)) : PyData → Option (Int × Int)
  | .tuple (_ :: .tuple bs :: r) => bs.foldl (stepB c) (some (1, (r.length : Int)))
  | _ => none
def cnt : Nat → PyData → Option (Int × Int)
  | 0, _ => none
  | n + 1, d => if isNode (3 - (n : Int)) d = true then cntOf (cnt n) d else none
theorem fold_none (c : PyData → Option (Int × Int)) : ∀ bs : List PyData, bs.foldl (stepB c) none = none
  | [] => rfl
  | b :: bs => fold_none c bs
theorem fold_stop {c : PyData → Option (Int × Int)} {bs : List PyData} {i : Nat} {b : PyData} {acc xy : Option (Int × Int)} (hb : bs[i]? = some b) (h : (bs.take i).foldl (stepB c) acc = xy) (hs : stepB c xy b = none) : bs.foldl (stepB c) acc = none := by
  have e : bs = bs.take i ++ b :: bs.drop (i + 1) := by
    have hi : i < bs.length := (List.getElem?_eq_some_iff.mp hb).1
    have eb : bs[i] = b := (List.getElem?_eq_some_iff.mp hb).2
    rw [← eb, ← List.drop_eq_getElem_cons hi, List.take_append_drop]
  rw [e, List.foldl_append, h, List.foldl_cons, hs]
  exact fold_none c _
/-- what _counts hands back -/
def CntV (H : Hp) (r : V) : Option (Int × Int) → Prop
  | none => r = .non
  | some xy => ∃ p, r = .ref p ∧ H p = some (.tup [.int xy.1, .int xy.2])
def spCnt (m : Nat) : Sp := fun vs H Q _ => ∃ (v : V) (d : PyData) (l : Int), vs = [v, .int l] ∧ l + (m : Int) = 4 ∧ Dq H v d ∧ ∀ r H', Same H H' → CntV H' r (cnt m d) → Q r H'
section
variable {P : Program} {w : World} {K : PySem.W.Frag} {mg : Str → Option Value} {base : Heap}
theorem scCt : FnScope ["thing", "level", "nodes", "calls", "branch", "below"] ["thing", "level"] (defScope sCount) := ⟨rfl, rfl, rfl, by decide +kernel, rfl, by decide +kernel, by decide +kernel⟩
theorem ok_counts {f fN fW fP fC fM : Addr} {fd dN dW dP dC dM : FuncData} (F : Fun K "_counts" "_counts" sCount f fd) (bF : Binds K fd ["thing", "level"] []) (gF : mg "_counts" = some (.ref f))
    (FN : Fun K "_is_node" "_is_node" sNode fN dN) (bN : Binds K dN ["thing", "level"] []) (gN : mg "_is_node" = some (.ref fN)) (PFs : PF K mg fW fP fC fM dW dP dC dM) (T : TP mg) :
    ∀ m, m ≤ 4 → FnOk P w K mg base CX0 (5 + m) f fd ["thing", "level"] (spCnt m) := by
  have GN : FnOk P w K mg base CX0 4 fN dN ["thing", "level"] spNode := ok_node FN PFs T
  have GP : FnOk P w K mg base CX0 1 fP dP ["thing"] (spB isPair) := ok_pair PFs.P T
  have GW : FnOk P w K mg base CX0 1 fW dW ["thing"] (spB isWord) := ok_word PFs.W T
  obtain ⟨tl, gl⟩ := T.l3
  intro m
  induction m with
  | zero =>
    intro _
    refine F.ok scCt (fun vs H Q E h => ?_) (fun cdv A outer s H vs Q E hr h => ?_)
    · obtain ⟨v, d, l, rfl, _⟩ := h
      rfl
    · obtain ⟨v, d, l, rfl, hl, hd, k⟩ := h
      refine ⟨_, pss_cons (ps_if (PW.pt (pw_or (pt_cmpR op_gt (pv 1) (pe_glob (v := .int 3) (by rfl) gl ⟨_, rfl⟩) (nomark _)) (pw_or1 (pt_not (pt_val (pe_call GN (hr.mono (by omega)) (by rfl) gN FN.kp bN .nil pass0 (pa_cons (pv 0) (pa_cons (pv 1) pa_nil)))))))) (pss_one (ps_ret pe_non)) pss_nil)
        (pss_cons ps_never (pss_cons ps_never (pss_one ps_never))), ?_⟩
      refine ⟨_, rfl, _, _, rfl, rfl, _, rfl, ?_⟩
      rw [decide_eq_true (show (3 : Int) < l by omega)]
      exact iteT (k .non H same_refl rfl)
  | succ n ih =>
    intro hm
    have GS : FnOk P w K mg base CX0 (5 + n) f fd ["thing", "level"] (spCnt n) := ih (by omega)
    refine F.ok (k := 5 + n) scCt (fun vs H Q E h => ?_) (fun cdv A outer s H vs Q E hr h => ?_)
    · obtain ⟨v, d, l, rfl, _⟩ := h
      rfl
    · obtain ⟨v, d, l, rfl, hl, hd, k⟩ := h
      refine ⟨_, pss_cons (ps_if (PW.pt (pw_or (pt_cmpR op_gt (pv 1) (pe_glob (v := .int 3) (by rfl) gl ⟨_, rfl⟩) (nomark _)) (pw_or1 (pt_not (pt_val (pe_call GN (hr.mono (by omega)) (by rfl) gN FN.kp bN .nil pass0 (pa_cons (pv 0) (pa_cons (pv 1) pa_nil)))))))) (pss_one (ps_ret pe_non)) pss_nil)
        (pss_cons (ps_par rfl scCt.nd (i := 2) (j := 3) rfl rfl (by decide) rfl rfl (pa_cons pe_int (pa_cons (pe_op op_sub (pe_callB call_len_seq (by rfl) T.len PySem.boot_len (pa_cons (pv 0) pa_nil)) pe_int) pa_nil)) rfl)
        (pss_cons (ps_for PassesOwn.never rfl (pi_tup (pe_ix ix_tup (pv 0) pe_int (fun _ _ => rfl))) (pg_name (i := 4) scCt.nd rfl (Or.inl rfl))
          (pss_cons (ps_if (PW.pt (pw_or (pt_not (pt_val (pe_call GP (hr.mono (by omega)) (by rfl) PFs.gP PFs.P.kp PFs.bP .nil pass0 (pa_cons (pv 4) pa_nil)))) (pw_or1 (pt_not (pt_val (pe_call GW (hr.mono (by omega)) (by rfl) PFs.gW PFs.W.kp PFs.bW .nil pass0 (pa_cons (pe_ix ix_tup (pv 4) pe_int (fun _ _ => rfl)) pa_nil))))))) (pss_one (ps_ret pe_non)) pss_nil)
          (pss_cons (ps_set (i := 5) scCt.nd rfl (Or.inl rfl) (pe_call GS hr (by rfl) gF F.kp bF .nil pass0 (pa_cons (pe_ix ix_tup (pv 4) pe_int (fun _ _ => rfl)) (pa_cons (pe_op op_add (pv 1) pe_int) pa_nil))))
          (pss_cons (ps_if (pt_cmpR op_isN (pv 5) pe_non (nomark _)) (pss_one (ps_ret pe_non)) pss_nil)
          (pss_cons (ps_aug (i := 2) scCt.nd rfl (.inl rfl) (pe_ix ix_tup (pv 5) pe_int (fun _ _ => rfl)) ip_add)
          (pss_one (ps_aug (i := 3) scCt.nd rfl (.inl rfl) (pe_ix ix_tup (pv 5) pe_int (fun _ _ => rfl)) ip_add)))))))
        (pss_one (ps_ret (pe_tup (pa_cons (pv 2) (pa_cons (pv 3) pa_nil))))))), ?_⟩
      have l3 : ¬ (3 : Int) < l := by omega
      have ll : l = 3 - (n : Int) := by omega
      refine ⟨_, rfl, _, _, rfl, rfl, _, rfl, ?_⟩
      rw [decide_eq_false l3]
      refine iteF ⟨_, rfl, _, rfl, v, d, l, rfl, hd, fun H1 s1 => ⟨_, rfl, ?_⟩⟩
      cases nd : isNode l d with
      | false =>
        have z : cnt (n + 1) d = none := by
          show (if isNode (3 - (n : Int)) d = true then _ else none) = none
          rw [← ll, nd]
          rfl
        exact iteT (k .non H1 s1 (by rw [z]; rfl))
      | true =>
        have hc : (isPair d || (decide (0 < l) && isCall d)) = true := (Bool.and_eq_true_iff.mp nd).1
        have hn := (Bool.and_eq_true_iff.mp nd).2
        obtain ⟨a, b, r, rfl⟩ := pair_or_call hc
        have hf : (areMarks a && fewB b) = true := hn
        have zc : cnt (n + 1) (.tuple (a :: b :: r)) = cntOf (cnt n) (.tuple (a :: b :: r)) := by
          show (if isNode (3 - (n : Int)) _ = true then _ else none) = _
          rw [← ll, nd]
          rfl
        rw [zc] at k
        have hd1 := hd.same s1
        cases hd1 with
        | @tup vr xs _ e q =>
        cases q with
        | @cons va _ _ _ qa q =>
        cases q with
        | @cons vb vs _ _ qb q =>
        have fb := (Bool.and_eq_true_iff.mp hf).2
        cases qb with
        | @tup pb ys bs eb ab =>
        have b3 : bs.length ≤ 3 := of_decide_eq_true fb
        refine iteF ⟨_, rfl, vr, _, rfl, .inr (SqT.of e), _, _, rfl, rfl, _, _, rfl, ?_⟩
        refine ⟨_, rfl, vr, _, 1, .ref pb, rfl, rfl, SqT.of e, atI_nat (j := 1) rfl, pb, rfl, ⟨_, SqT.of eb⟩, ?_⟩
        have rl : (((va :: V.ref pb :: vs).length : Nat) : Int) - 2 = (r.length : Int) := by
          rw [List.length_cons, List.length_cons, q.len]
          omega
        refine for_tup (K := K) (a := pb) (xs := ys) (fun i σ' H' => ∃ (x y : Int) (w4 w5 : Option V), σ' = [some (V.ref vr), some (V.int l), some (V.int x), some (V.int y), w4, w5] ∧ Same H1 H' ∧ (bs.take i).foldl (stepB (cnt n)) (some (1, (r.length : Int))) = some (x, y))
          ⟨1, (r.length : Int), none, none, ?_, same_refl, rfl⟩ (fun i σ' H' _ ⟨_, _, _, _, _, t, _⟩ => SqT.of (t _ _ eb)) ?_ ?_
        · rw [← rl]
          rfl
        · rintro i y0 σ' H' hi ⟨x, y, w4, w5, rfl, t, hx⟩
          have ib : i < bs.length := by
            have := (List.getElem?_eq_some_iff.mp hi).1
            rw [ab.len] at this
            exact this
          obtain ⟨bi, hbi⟩ : ∃ bi, bs[i]? = some bi := ⟨bs[i], List.getElem?_eq_getElem ib⟩
          obtain ⟨v0, hv0, qv⟩ := ab.at hbi
          obtain rfl : v0 = y0 := Option.some.inj (hv0.symm.trans hi)
          have stop : ∀ H'', Same H1 H'' → stepB (cnt n) (some (x, y)) bi = none → Q .non H'' := fun H'' s2 hs => k .non H'' (same_trans s1 s2) (by
            have z : cntOf (cnt n) (.tuple (a :: .tuple bs :: r)) = none := fold_stop hbi hx hs
            rw [z]
            rfl)
          refine ⟨_, rfl, v0, bi, rfl, qv.same t, fun H2 s2 => ⟨_, rfl, ?_⟩⟩
          cases hp : isPair bi with
          | false =>
            refine iteT (stop H2 (same_trans t s2) ?_)
            unfold stepB
            split
            · rfl
            · split
              · simp [isPair] at hp
              · rfl
          | true =>
            have qv2 := (qv.same t).same s2
            cases qv2 with
            | @tup p2 zs es e2 a2 =>
              have n2 : es.length = 2 := of_decide_eq_true hp
              match es, n2, a2 with
              | [u, tt], _, a2 =>
              cases a2 with
              | @cons vu _ _ _ qu a2 =>
              cases a2 with
              | @cons vt _ _ _ qt a2 =>
              cases a2
              refine iteF ⟨_, rfl, p2, _, 0, vu, rfl, rfl, SqT.of e2, atI_nat (j := 0) rfl, vu, u, rfl, qu, fun H3 s3 => ⟨_, rfl, ?_⟩⟩
              have t3 : Same H1 H3 := same_trans t (same_trans s2 s3)
              cases hw : isWord u with
              | false =>
                refine iteT (stop H3 t3 ?_)
                cases u with
                | str x0 =>
                  have hw' : wordS x0 = false := hw
                  simp [stepB, hw']
                | _ => rfl
              | true =>
                cases u with
                | str x0 =>
                  have hw' : wordS x0 = true := hw
                  refine iteF ⟨_, rfl, p2, _, 1, vt, rfl, rfl, SqT.of (s3 _ _ e2), atI_nat (j := 1) rfl, _, rfl, _, _, rfl, rfl, vt, tt, l + 1, rfl, by omega, qt.same s3, fun r5 H4 s4 cv => ?_⟩
                  have t4 : Same H1 H4 := same_trans t3 s4
                  have st : stepB (cnt n) (some (x, y)) (.tuple [.str x0, tt]) = (match cnt n tt with | some pq => some (x + pq.1, y + pq.2) | none => none) := by
                    simp [stepB, hw']
                  cases hcn : cnt n tt with
                  | none =>
                    rw [hcn] at cv st
                    obtain rfl : r5 = V.non := cv
                    exact ⟨_, rfl, rfl, _, rfl, iteT (stop H4 t4 st)⟩
                  | some pq =>
                    rw [hcn] at cv st
                    obtain ⟨p5, rfl, e5⟩ := cv
                    refine ⟨_, rfl, rfl, _, rfl, iteF ?_⟩
                    refine ⟨_, rfl, _, rfl, p5, _, 0, .int pq.1, rfl, rfl, SqT.of e5, atI_nat (j := 0) rfl, _, _, rfl, rfl, ?_⟩
                    refine ⟨_, rfl, _, rfl, p5, _, 1, .int pq.2, rfl, rfl, SqT.of e5, atI_nat (j := 1) rfl, _, _, rfl, rfl, ?_⟩
                    refine ⟨x + pq.1, y + pq.2, _, _, rfl, t4, ?_⟩
                    rw [List.take_add_one, hbi]
                    show ((bs.take i) ++ [PyData.tuple [.str x0, tt]]).foldl _ _ = _
                    rw [List.foldl_append, hx]
                    exact st
                | _ => cases hw
            | _ => cases hp
        · rintro σ' H' ⟨x, y, w4, w5, rfl, t, hx⟩
          have tk : bs.take ys.length = bs := List.take_of_length_le (by rw [ab.len]; exact Nat.le_refl _)
          rw [tk] at hx
          refine ⟨_, rfl, _, rfl, by show 2 ≤ sizeLine; decide, fun p np => ?_⟩
          have z : cntOf (cnt n) (.tuple (a :: .tuple bs :: r)) = some (x, y) := hx
          exact k (.ref p) _ (same_trans s1 (same_trans t (same_new np))) (by rw [z]; exact ⟨p, rfl, upd_same⟩)
        | _ => cases fb
end
end K01
set_option Elab.async false
set_option linter.all false
set_option maxRecDepth 100000
set_option maxHeartbeats 4000000
namespace K01
open PySem L2 L2H DQ RZ
def shape (c : Int) (d : PyData) : Bool := match cnt 4 d with | some xy => decide (xy.1 ≤ 6) && decide (V.int xy.2 = V.int c) | none => false
def spShape : Sp := fun vs H Q _ => ∃ (v : V) (d : PyData) (c : Int), vs = [v, .int c] ∧ Dq H v d ∧ ∀ H', Same H H' → Q (.bl (shape c d)) H'
section
variable {P : Program} {w : World} {K : PySem.W.Frag} {mg : Str → Option Value} {base : Heap}
theorem scSh : FnScope ["thing", "calls", "counts"] ["thing", "calls"] (defScope sShape) := ⟨rfl, rfl, rfl, by decide +kernel, rfl, by decide +kernel, by decide +kernel⟩
theorem ok_shape {f fc : Addr} {fd dc : FuncData} (F : Fun K "_is_shape" "_is_shape" sShape f fd) (FC : Fun K "_counts" "_counts" sCount fc dc) (bC : Binds K dc ["thing", "level"] []) (gC : mg "_counts" = some (.ref fc))
    (GC : FnOk P w K mg base CX0 9 fc dc ["thing", "level"] (spCnt 4)) (T : TP mg) : FnOk P w K mg base CX0 10 f fd ["thing", "calls"] spShape := by
  refine F.ok scSh (fun vs H Q E h => ?_) (fun cdv A outer s H vs Q E hr h => ?_)
  · obtain ⟨v, d, c, rfl, _⟩ := h
    rfl
  · obtain ⟨v, d, c, rfl, hd, k⟩ := h
    obtain ⟨t6, g6⟩ := T.n6
    refine ⟨_, pss_cons (ps_set (i := 2) scSh.nd rfl (Or.inl rfl) (pe_call GC hr (by rfl) gC FC.kp bC .nil pass0 (pa_cons (pv 0) (pa_cons pe_int pa_nil))))
      (pss_one (ps_ret (pe_and (pe_cmpR op_notN (pv 2) pe_non (nomark _)) (pe_and (pe_cmpR op_le (pe_ix ix_tup (pv 2) pe_int (fun _ _ => rfl)) (pe_glob (v := .int 6) (by rfl) g6 ⟨_, rfl⟩) (nomark _))
        (pe_one (pe_cmpR op_eq (pe_ix ix_tup (pv 2) pe_int (fun _ _ => rfl)) (pv 1) (nomark _))))))), ?_⟩
    refine ⟨_, rfl, v, d, 0, rfl, rfl, hd, fun r H1 s1 cv => ?_⟩
    have z := k H1 s1
    cases hc : cnt 4 d with
    | none =>
      rw [hc] at cv
      obtain rfl : r = V.non := cv
      have y : shape c d = false := by unfold shape; rw [hc]
      rw [y] at z
      exact ⟨_, rfl, rfl, _, rfl, iteF z⟩
    | some xy =>
      rw [hc] at cv
      obtain ⟨p, rfl, e⟩ := cv
      have y : shape c d = (decide (xy.1 ≤ 6) && decide (V.int xy.2 = V.int c)) := by unfold shape; rw [hc]
      rw [y] at z
      refine ⟨_, rfl, rfl, _, rfl, iteT ⟨_, rfl, p, _, 0, .int xy.1, rfl, rfl, SqT.of e, atI_nat (j := 0) rfl, _, _, rfl, rfl, _, rfl, ?_⟩⟩
      by_cases h6 : xy.1 ≤ 6
      · rw [decide_eq_true h6] at z ⊢
        exact iteT ⟨_, rfl, p, _, 1, .int xy.2, rfl, rfl, SqT.of e, atI_nat (j := 1) rfl, _, rfl, rfl, z⟩
      · rw [decide_eq_false h6] at z ⊢
        exact iteF z
theorem scTr : FnScope ["thing"] ["thing"] (defScope sTr) := ⟨rfl, rfl, rfl, by decide +kernel, rfl, by decide +kernel, by decide +kernel⟩
theorem ok_tr {f fs : Addr} {fd ds : FuncData} (F : Fun K "is_tree" "is_tree" sTr f fd) (FS : Fun K "_is_shape" "_is_shape" sShape fs ds) (bS : Binds K ds ["thing", "calls"] []) (gS : mg "_is_shape" = some (.ref fs))
    (GS : FnOk P w K mg base CX0 10 fs ds ["thing", "calls"] spShape) : FnOk P w K mg base CX0 11 f fd ["thing"] (spB (shape 0)) := by
  refine F.ok scTr (fun vs H Q E h => ?_) (fun cdv A outer s H vs Q E hr h => ?_)
  · obtain ⟨v, d, rfl, _⟩ := h
    rfl
  · obtain ⟨v, d, rfl, hd, k⟩ := h
    refine ⟨_, pss_one (ps_ret (pe_call GS hr (by rfl) gS FS.kp bS .nil pass0 (pa_cons (pv 0) (pa_cons pe_int pa_nil)))), ?_⟩
    exact ⟨_, rfl, v, d, 0, rfl, hd, k⟩
theorem scBo : FnScope ["thing"] ["thing"] (defScope sBo) := ⟨rfl, rfl, rfl, by decide +kernel, rfl, by decide +kernel, by decide +kernel⟩
theorem ok_bo {f fs : Addr} {fd ds : FuncData} (F : Fun K "is_body" "is_body" sBo f fd) (FS : Fun K "_is_shape" "_is_shape" sShape fs ds) (bS : Binds K ds ["thing", "calls"] []) (gS : mg "_is_shape" = some (.ref fs))
    (GS : FnOk P w K mg base CX0 10 fs ds ["thing", "calls"] spShape) : FnOk P w K mg base CX0 11 f fd ["thing"] (spB (shape 1)) := by
  refine F.ok scBo (fun vs H Q E h => ?_) (fun cdv A outer s H vs Q E hr h => ?_)
  · obtain ⟨v, d, rfl, _⟩ := h
    rfl
  · obtain ⟨v, d, rfl, hd, k⟩ := h
    refine ⟨_, pss_one (ps_ret (pe_call GS hr (by rfl) gS FS.kp bS .nil pass0 (pa_cons (pv 0) (pa_cons pe_int pa_nil)))), ?_⟩
    exact ⟨_, rfl, v, d, 1, rfl, hd, k⟩
end
end K01
set_option Elab.async false
set_option linter.all false
set_option maxRecDepth 100000
set_option maxHeartbeats 4000000
/-! sets of texts, made of a tuple, gathered, sorted -/
namespace SX
open PySem PySem.Spec PyProof.Rows PySem.Froz L2
/-- the entries' texts are l in some order; the places rise; the order is told -/
structure TP (P : Program) (w : World) (D : SD) (l : List Str) : Prop where
  ok : TxOk P w D l
  pm : (D.1.toList.map fun e => strOf e.2).Perm l
  ri : Ris D.2.2.place.toList
  le : w.params.followText "set-order" = true ∨ D.2.2.led = true
def SetT (P : Program) (w : World) (h : Heap) (a : Addr) (l : List Str) : Prop := ∃ D : SD, h.get? a = some (sObj "set" D) ∧ TP P w D l
theorem tail_keep (ep : Nat) (es1 : Array (Int × Value)) (t2 : SetTable) (wd : Bool) (r : Ris t2.place.toList) :
    (tailTx ep es1 t2 wd).1.toList.Perm es1.toList ∧ Ris (tailTx ep es1 t2 wd).2.2.place.toList ∧ (tailTx ep es1 t2 wd).2.2.led = t2.led := by
  unfold tailTx
  by_cases c : (!wd && t2.tooFull) = true
  · rw [if_pos c]
    exact ⟨relayAll_perm t2 es1 _, relayAll_ris t2 es1 _, relayAll_led t2 es1 _⟩
  · rw [if_neg c]
    exact ⟨.refl _, r, rfl⟩
theorem TP.add {P : Program} {w : World} {D : SD} {l : List Str} {k : Str} (u : Tok) (F : TP P w D l) : TP P w (addTx (hashStr w k) (.str k u) D) (k :: l) := by
  obtain ⟨es, ep, t⟩ := D
  have r1 : Ris (layNew t es (hashStr w k) (.str k u)).2.1.place.toList := layNew_ris t es _ _ F.ri
  have e1 := layNew_led t es (hashStr w k) (.str k u)
  have p1 := layNew_perm t es (hashStr w k) (.str k u)
  let t2 : SetTable := if (layNew t es (hashStr w k) (.str k u)).2.1.plain = true then { (layNew t es (hashStr w k) (.str k u)).2.1 with plain := false } else (layNew t es (hashStr w k) (.str k u)).2.1
  have r2 : Ris t2.place.toList := by
    show Ris (if _ then _ else _ : SetTable).place.toList
    split
    · exact r1
    · exact r1
  have e2 : t2.led = t.led := by
    show (if _ then _ else _ : SetTable).led = _
    split
    · exact e1
    · exact e1
  obtain ⟨q1, q2, q3⟩ := tail_keep ep (layNew t es (hashStr w k) (.str k u)).1 t2 (layNew t es (hashStr w k) (.str k u)).2.2.1 r2
  refine ⟨add_ok u F.ok, ?_, q2, ?_⟩
  · refine (q1.map _).trans ((p1.map _).trans ?_)
    rw [Array.toList_push, List.map_append]
    exact (List.perm_append_comm (l₁ := List.map _ es.toList) (l₂ := [k])).trans (List.Perm.cons k F.pm)
  · rcases F.le with z | z
    · exact .inl z
    · exact .inr (q3.trans (e2.trans z))
section
variable {P : Program} {w : World} {A : Around} {E : Value → Shared → Prop} {s : Shared}
theorem found {a : Addr} {D : SD} {l : List Str} {k : Str} {u : Tok} {Q : Bool → Shared → Prop} (ho : s.heap.get? a = some (sObj "set" D)) (F : TxOk P w D l) (hk : k ∈ l) (hb : l.length < scanBound) (h : Q false s) :
    wpAny (model P w) A (setAddHashed a (.str k u) (hashStr w k)) Q E s := by
  obtain ⟨es, ep, t⟩ := D
  have hd : (sObj "set" (es, ep, t)).data = .set es ep t := rfl
  have el : ElemsOf (PySem.strKind P w) es.toList := F.el
  have f1 : t.fits es.size = true := F.fit
  have n1 : es.size < scanBound := by
    have z : es.size = l.length := F.sz
    omega
  obtain ⟨e, he, ie⟩ := (F.mem k).mp hk
  unfold setAddHashed setAddHashedIn
  refine wpAny_holding (wpAny_bind (wpAny_setState_of ho hd f1 ?_))
  dsimp only
  rw [byScan_of rfl n1 el]
  simp only [↓reduceIte]
  unfold setAddByScan
  refine wpAny_bind (wpAny_bind (wpAny_rule (wpAny_bind (wpAny_setScan_of (knd := PySem.strKind P w) (k := k) (is_str k u) ho hd f1 el ?_))))
  cases hf : List.findIdx? (fun e => (PySem.strKind P w).is k e.2) es.toList with
  | none =>
    have c := List.findIdx?_eq_none_iff.mp hf e he
    rw [ie] at c
    cases c
  | some j =>
    dsimp only
    exact wpAny_pure (wpAny_pure h)
/-- one more text put into it -/
def plus (l : List Str) (k : Str) : List Str := if k ∈ l then l else k :: l
theorem add_one {a : Addr} {l : List Str} {k : Str} {u : Tok} {Q : Bool → Shared → Prop} (S : SetT P w s.heap a l) (hb : l.length + 1 < scanBound)
    (h : ∀ h' b, Heap.SameBut a s.heap h' → SetT P w h' a (plus l k) → Q b { s with heap := h' }) : wpAny (model P w) A (setAddHashed a (.str k u) (hashStr w k)) Q E s := by
  obtain ⟨D, ho, F⟩ := S
  by_cases hk : k ∈ l
  · refine found ho F.ok hk (by omega) (h s.heap false (Heap.SameBut.refl a s.heap) ?_)
    unfold plus
    rw [if_pos hk]
    exact ⟨D, ho, F⟩
  · refine add_x ho F.ok hk hb (h _ true (Heap.SameBut.update s.heap a _) ?_)
    unfold plus
    rw [if_neg hk]
    exact ⟨_, get_upd _ ho rfl, F.add u⟩
theorem SetT.at {h h' : Heap} {a : Addr} {l : List Str} (S : SetT P w h a l) (k : ∀ o, h.get? a = some o → h'.get? a = some o) : SetT P w h' a l := by
  obtain ⟨D, e, F⟩ := S
  exact ⟨D, k _ e, F⟩
/-- the list gathered from the first texts -/
def pack (ns : List Str) : List Str := ns.foldl plus []
theorem pack_take {ns : List Str} {i : Nat} {z : Str} (h : ns[i]? = some z) : pack (ns.take (i + 1)) = plus (pack (ns.take i)) z := by
  unfold pack
  rw [List.take_add_one, h]
  show ((ns.take i) ++ [z]).foldl plus [] = _
  rw [List.foldl_append]
  rfl
theorem plus_len (l : List Str) (k : Str) : (plus l k).length ≤ l.length + 1 := by
  unfold plus
  split
  · omega
  · exact Nat.le_refl _
theorem fold_len : ∀ (ns l : List Str), (ns.foldl plus l).length ≤ l.length + ns.length
  | [], l => Nat.le_refl _
  | n :: ns, l => by
    have a := fold_len ns (plus l n)
    have b := plus_len l n
    show ((ns.foldl plus (plus l n)).length) ≤ _
    rw [List.length_cons]
    omega
theorem pack_len (ns : List Str) : (pack ns).length ≤ ns.length := by
  have z := fold_len ns []
  rw [List.length_nil, Nat.zero_add] at z
  exact z
theorem plus_mem {l : List Str} {k x : Str} : x ∈ plus l k ↔ x ∈ l ∨ x = k := by
  unfold plus
  split
  · rename_i h
    exact ⟨.inl, fun z => z.elim id fun e => e ▸ h⟩
  · rw [List.mem_cons]
    exact Or.comm
theorem plus_nodup {l : List Str} {k : Str} (h : l.Nodup) : (plus l k).Nodup := by
  unfold plus
  split
  · exact h
  · rename_i z
    exact List.nodup_cons.mpr ⟨z, h⟩
theorem fold_mem {x : Str} : ∀ (ns l : List Str), x ∈ ns.foldl plus l ↔ x ∈ l ∨ x ∈ ns
  | [], l => by simp
  | n :: ns, l => by
    show x ∈ ns.foldl plus (plus l n) ↔ _
    rw [fold_mem ns, plus_mem, List.mem_cons, or_assoc]
theorem fold_nodup : ∀ (ns l : List Str), l.Nodup → (ns.foldl plus l).Nodup
  | [], l, h => h
  | n :: ns, l, h => fold_nodup ns _ (plus_nodup h)
theorem pack_mem {x : Str} {ns : List Str} : x ∈ pack ns ↔ x ∈ ns := by
  unfold pack
  rw [fold_mem]
  simp
theorem pack_nodup (ns : List Str) : (pack ns).Nodup := fold_nodup ns [] List.nodup_nil
theorem loop {I : Addr} {fp wr : List Addr} {G : Array GenState → Array GenState → Prop} {n : Nat} {Pv : Nat → Value → Prop} {St : Nat → Shared → Prop} {R : Result → Shared → Prop}
    (W : WalksS P w A.in1 I fp wr G n Pv St) (S : Addr) (nf : S ∉ fp) (ns : List Str) (en : n = ns.length) (hb : ns.length + 1 < scanBound) (val : ∀ i v, Pv i v → ∃ k t, ns[i]? = some k ∧ v = .str k t) :
    ∀ (k i : Nat) (s : Shared), n - i = k → i ≤ n → St i s → SetT P w s.heap S (pack (ns.take i)) →
      (∀ s', Moved (S :: wr) G s s' → SetT P w s'.heap S (pack ns) → R (.ok (.ret .none)) s') → codeAny (model P w) A (.builtin "set.update.loop" ⟨[.ref S, .ref I], []⟩) R s := by
  have nw : S ∉ wr := fun h => nf (W.sub _ h)
  have sub : ∀ b ∈ wr, b ∈ S :: wr := fun b hb => List.mem_cons_of_mem _ hb
  intro k
  induction k with
  | zero =>
    intro i s ek hi st hS fin
    obtain rfl : i = n := by omega
    refine codeAny_builtin PyProof.Rows.F.entry_set_update_loop ?_
    rw [Around.under_plainId PyProof.Rows.F.plain_set_update_loop _]
    show wpAny _ A.in1 (pyNext (Value.ref I) >>= _) _ _ s
    refine wpAny_bind (W.done s _ _ st fun s1 m1 => ?_)
    rw [List.take_of_length_le (show ns.length ≤ i by omega)] at hS
    show wpAny _ A.in1 (ret Value.none) _ _ s1
    exact wpAny_pure (fin s1 (m1.mono sub) (hS.at fun o e => m1.heap S o nw e))
  | succ k ih =>
    intro i s ek hi st hS fin
    have lt : i < n := by omega
    refine codeAny_builtin PyProof.Rows.F.entry_set_update_loop ?_
    rw [Around.under_plainId PyProof.Rows.F.plain_set_update_loop _]
    show wpAny _ A.in1 (pyNext (Value.ref I) >>= _) _ _ s
    refine wpAny_bind (W.item i s _ _ lt st fun v s1 hP st1 m1 => ?_)
    obtain ⟨z, t, hz, rfl⟩ := val i v hP
    have hS1 : SetT P w s1.heap S (pack (ns.take i)) := hS.at fun o e => m1.heap S o nw e
    show wpAny _ A.in1 (holding [Value.str z t] (setAdd S (.str z t)) >>= _) _ _ s1
    refine wpAny_bind (wpAny_holding ?_)
    unfold setAdd
    refine wpAny_holding (wpAny_bind ((PySem.strKind P w).pyHash (k := z) (is_str z t) ?_))
    have pl := pack_len (ns.take i)
    rw [List.length_take] at pl
    refine add_one (s := { s1 with toks := s1.toks + 1 }) hS1 (by omega) fun h2 bb sb S2 => ?_
    rw [← pack_take hz] at S2
    refine wpAny_pure ⟨plainId_quiet PyProof.Rows.F.plain_set_update_loop _, ih (i + 1) _ (by omega) lt (W.frame _ s1 _ _ st1 (Nat.le_succ _) fun b hb o e => ?_) S2 fun s3 m3 S3 => fin s3 (Moved.trans W.gtrans ((m1.mono sub).then_heap (Nat.le_succ _) fun b o hb e => ?_) m3) S3⟩
    · rw [sb.2 b fun z : b = S => nf (z ▸ hb)]
      exact e
    · rw [sb.2 b fun z : b = S => hb (by rw [z]; exact List.mem_cons_self)]
      exact e
end
end SX
set_option Elab.async false
set_option linter.all false
set_option maxRecDepth 100000
set_option maxHeartbeats 6400000
namespace SX
open PySem PySem.Spec PyProof.Rows PySem.Froz L2
/-- a set as it is made, in this world -/
def bare (w : World) : Obj := { cls := .type "set", dict := none, data := .set #[] 0 (.fresh 0 0 (!w.params.followText "set-order")) }
theorem bare_ok {P : Program} {w : World} {h : Heap} {a : Addr} (e : h.get? a = some (bare w)) : SetT P w h a [] := by
  refine ⟨(#[], 0, .fresh 0 0 (!w.params.followText "set-order")), e, TxOk.nil (by rfl), .refl _, List.Pairwise.nil, ?_⟩
  show _ ∨ (!w.params.followText "set-order") = true
  cases w.params.followText "set-order"
  · exact .inr rfl
  · exact .inl rfl
section
variable {P : Program} {w : World} {A : Around} {E : Value → Shared → Prop} {s : Shared}
theorem strs_get : ∀ {us : List Value} {xs : List Str}, StrsAre us xs → ∀ {i : Nat} {v : Value}, us[i]? = some v → ∃ k t, xs[i]? = some k ∧ v = .str k t
  | _, _, .nil, i, v, h => by simp at h
  | _, _, .cons n t r, 0, v, h => by
    rw [List.getElem?_cons_zero] at h
    exact ⟨n, t, rfl, (Option.some.inj h).symm⟩
  | _, _, .cons n t r, i + 1, v, h => by
    rw [List.getElem?_cons_succ] at h ⊢
    exact strs_get r h
theorem of_tuple {l : Addr} {items : Array Value} (ns : List Str) {Q : Value → Shared → Prop} (hh : A.handled = none) (hl : s.heap.IsTuple l items) (it : StrsAre items.toList ns) (hb : ns.length + 1 < scanBound)
    (fin : ∀ (h' : Heap) (tk : Nat), SetT P w h' s.heap.objs.size (pack ns) → (∀ b o, s.heap.get? b = some o → h'.get? b = some o) → Q (.ref s.heap.objs.size) { s with heap := h', toks := tk }) :
    wpAny (model P w) A (call (.type "set") [.ref l]) Q E s := by
  have n1 : items.size = ns.length := by
    have q := StrsAre.len_eq it
    rw [Array.length_toList] at q
    exact q
  have ⟨c, tl, hmro⟩ := PySem.F.called_set.mro
  have hmade := PySem.F.called_set.made
  have hsub := PySem.F.called_set.sub
  refine wpAny_call (codeAny_of_tree ?_)
  show wpAny _ _ (callAny (.type "set") _) _ _ _
  refine wpAny_pure ⟨Code.quiet_builtin _ (by decide +kernel), codeAny_builtin PySem.F.entry_type_call ?_⟩
  rw [Around.under_plain (weight_type_call_type "set" [.ref l] []) rfl]
  have x1 := PySem.F.called_set.notType
  have x2 := PySem.F.called_set.canCreate
  have x3 := PySem.F.typeCall_set_1 (.ref l)
  repeat (any_goals (first | assumption | wp_step))
  refine codeAny_mono (code_set_led1 (.ref l) (E := E) (Q₁ := fun x y => x = .ref s.heap.objs.size ∧ y = { s with heap := s.heap.push (bare w) }) ⟨rfl, rfl⟩) fun r s1 hr => ?_
  cases r with
  | error e => exact hr
  | ok fl =>
    cases fl with
    | ret x =>
      obtain ⟨rfl, rfl⟩ := hr
      have hS : (s.heap.push (bare w)).get? s.heap.objs.size = some (bare w) := Heap.get?_push_size _ rfl
      have hT : Shared.TypeIs { s with heap := s.heap.push (bare w) } (.ref s.heap.objs.size) "set" := ⟨_, hS, rfl⟩
      have y1 := PySem.F.called_set.init.lookup
      have y2 := PySem.F.called_set.init.bind (.ref s.heap.objs.size)
      repeat (any_goals (first | assumption | wp_step))
      refine codeAny_mono (codeAny_call_builtin (R := wants (fun r y => r = .none ∧ ∃ h' tk, y = { s with heap := h', toks := tk } ∧ SetT P w h' s.heap.objs.size (pack ns) ∧ (∀ b o, s.heap.get? b = some o → h'.get? b = some o)) E)
        PySem.F.called_set.init.plain PySem.F.entry_set_init (check_set_init_1 hT ?_)) fun r2 s2 hr2 => ?_
      · obtain ⟨⟨ocls, odict, odata, oslots⟩, hol, hcl, nl, hdl⟩ := hl
        simp only at hcl hdl
        subst hcl hdl
        have hol2 : (s.heap.push (bare w)).get? l = some { cls := .type "tuple", dict := odict, data := .seq items nl, slots := oslots } := Heap.get?_push_of_some _ hol
        have z1 := PySem.F.sub_tuple_set
        have z2 := PySem.F.sub_tuple_frozenset
        have z3 : (Value.type "tuple" == Value.type "dict") = false := by decide
        have hl1 : (s.heap.push (bare w)).IsTuple l items := ⟨_, hol2, rfl, nl, rfl⟩
        unfold Builtin.«set.__init__» noKeywords Builtin.Frozenset.updateFrom
        generalize hPI : pyIter = PI
        wp_walk
        subst hPI
        refine wpAny_pyIter_tuple hl1 (wpAny_bind (wpAny_runValue ?_))
        have lS : l < s.heap.objs.size := Heap.lt_size hol
        have h3 : A.in1.in1.in1.handled = none := by simp [hh]
        have nI : l ≠ (s.heap.push (bare w)).objs.size := by
          rw [Heap.size_push]
          exact Nat.ne_of_lt (Nat.lt_succ_of_lt lS)
        have nf : s.heap.objs.size ∉ [(s.heap.push (bare w)).objs.size, l] := fun z => by
          rw [Heap.size_push] at z
          rcases List.mem_cons.mp z with z | z
          · omega
          · have z := List.mem_singleton.mp z
            exact Nat.ne_of_gt lS z
        refine loop ((Walks.tuple h3 _ l nI items).toS) s.heap.objs.size nf ns n1 hb (fun i v hv => strs_get it (by rw [Array.getElem?_toList]; exact hv)) (items.size - 0) 0 _ (by omega) (Nat.zero_le _)
          ⟨⟨_, Heap.get?_push_size _ rfl, rfl, rfl⟩, hl1.push _⟩ (bare_ok (Heap.get?_push_of_some _ hS)) fun s' hm hS' => ?_
        obtain ⟨h', g', d', tk', os'⟩ := s'
        have eg : g' = s.gens := hm.gens
        have ed : d' = s.drawn := hm.drawn
        have eo : os' = s.os := hm.os
        subst eg ed eo
        show wpAny _ _ _ _ _ _
        refine wpAny_pure ?_
        show wpAny _ _ (ret Value.none) _ _ _
        refine wpAny_pure ⟨rfl, h', tk', rfl, hS', fun b o e => hm.heap b o (fun z => ?_) (Heap.get?_push_of_some _ (Heap.get?_push_of_some _ e))⟩
        have b0 : b < s.heap.objs.size := Heap.lt_size e
        rcases List.mem_cons.mp z with z | z
        · exact Nat.ne_of_lt b0 z
        · have z := List.mem_singleton.mp z
          rw [Heap.size_push] at z
          exact Nat.ne_of_lt (Nat.lt_succ_of_lt b0) z
      · cases r2 with
        | error e => exact hr2
        | ok f2 =>
          cases f2 with
          | ret r =>
            obtain ⟨rfl, h', tk, rfl, S2, k2⟩ := hr2
            repeat (any_goals (first | assumption | wp_step))
            exact fin _ _ S2 k2
          | _ => exact hr2.elim
    | _ => exact hr.elim
/-- sorted of it -/
theorem strs_rev {vs : List Value} (h : ∀ v ∈ vs, ∃ k t, v = Value.str k t) : StrsAre vs (vs.map strOf) := strsAre_map vs h
theorem sorted_of {a : Addr} {l : List Str} {Q : Value → Shared → Prop} (S : SetT P w s.heap a l) (hh : A.handled = none) (n64 : l.length < 64)
    (fin : ∀ s' p (out : Array Value) (c : Nat) (ns : List Str), (∀ b o, s.heap.get? b = some o → s'.heap.get? b = some o) → s'.gens = s.gens → s'.os = s.os → s.heap.objs.size ≤ p →
      s'.heap.get? p = some (seqObj "list" out c) → StrsAre out.toList ns → sortedS ns = true → ns.Perm l → Q (.ref p) s') : wpAny (model P w) A (call (.builtin "sorted") [.ref a]) Q E s := by
  obtain ⟨⟨es, ep, t⟩, ho, F⟩ := S
  have sz : es.size = l.length := F.ok.sz
  have b1 : es.size < scanBound := by
    show es.size < 4096
    omega
  refine Calls.call_function_entry kind_sorted plain_sorted entry_sorted (args_sorted1 _) ?_
  unfold Builtin.«sorted»
  refine wpAny_bind (m := checkCount "sorted" 1 1 _) (wpAny_pure (wpAny_bind (collect_set (A := A.in1) hh ⟨_, ho, rfl, rfl⟩ F.ok.fit b1 F.ri F.le fun s1 vs k1 z1 g1 o1 pm => ?_)))
  have vl : vs.length = l.length := by
    rw [pm.length_eq, List.length_map, Array.length_toList]
    exact sz
  have hI : StrsAre vs (vs.map strOf) := strs_rev fun v hv => by
    obtain ⟨e, he, q⟩ := List.mem_map.mp (pm.mem_iff.mp hv)
    obtain ⟨⟨k, ik, _⟩, _⟩ := F.ok.el e he
    obtain ⟨u, hu⟩ := Value.isStrOf_shape ik
    exact ⟨k, u, q.symm.trans hu⟩
  have pk : (vs.map strOf).Perm l := by
    have q := pm.map strOf
    rw [List.map_map] at q
    exact q.trans F.pm
  refine wpAny_bind (wpAny_newList ?_ (by rw [vl, sizeLine_eq]; omega))
  have hoL : (s1.heap.push (seqObj "list" vs.toArray 0)).get? s1.heap.objs.size = some (seqObj "list" vs.toArray 0) := Heap.get?_push_size _ rfl
  have k0 : KeysOf PyProof.Rows.strKind (pairsOf vs) := fun p hp => by
    rw [pairsOf_toList] at hp
    obtain ⟨x, u, e⟩ := hI.all _ (mem_zip_self hp).2
    exact ⟨x.cps.toList, by rw [e]⟩
  have kk : ∀ v1 v2 rest, vs = v1 :: v2 :: rest → keyKind' (v1 :: v2 :: rest).toArray = pure oneType' := fun v1 v2 rest e => by
    rw [e] at hI
    exact keyKind_strs hI
  refine wpAny_bind (wpAny_holding (wpAny_call_entry slot_list_sort ⟨_, hoL, rfl⟩ entry_list_sort (list_sort_treeK strKind_oneLt hoL k0 kk (by rw [vl]; exact n64) fun st' a1 a2 => ⟨_, rfl, ?_⟩) (args_list_sort _)))
  obtain ⟨c, hc⟩ := sortedHeap_at (vs := vs) (out := (arrOf st').map (·.2)) hoL
  obtain ⟨ss, q1, q2, q3⟩ := sorted_out_str hI a1 a2
  refine wpAny_pure ⟨_, rfl, fin _ s1.heap.objs.size _ c ss (fun b u e => ?_) g1 o1 z1 hc q1 q3 (q2.trans pk)⟩
  have q := k1 b u e
  have lt := Heap.lt_size q
  show (sortedHeap (s1.heap.push (seqObj "list" vs.toArray 0)) s1.heap.objs.size vs _).get? b = some u
  rw [sortedHeap_old (Nat.ne_of_lt lt) (by rw [size_push']; exact Nat.lt_succ_of_lt lt)]
  exact Heap.get?_push_of_some _ q
end
end SX
set_option Elab.async false
set_option linter.all false
set_option maxRecDepth 100000
set_option maxHeartbeats 4000000
namespace SX
open PySem PySem.Spec PyProof.Rows PySem.Froz L2
/-- the set of texts at a -/
def SetTO (P : Program) (w : World) (a : Addr) (l : List Str) : HO := .ext fun h => SetT P w h a l
theorem setTO_new {w : World} {P : Program} {H : Hp} {h : Heap} {a : Addr} {l : List Str} (R : SetT P w h a l) : ObjOk P w H h a (SetTO P w a l) := by
  have ⟨D, ho, _⟩ := R
  exact ⟨R, ⟨_, ho⟩, fun h1 h2 p k => SetT.at p k⟩
theorem vals_of_texts : ∀ {us : List Value} {xs : List Str}, StrsAre us xs → Vals (xs.map V.str) us
  | _, _, .nil => .nil
  | _, _, .cons x t r => .cons ⟨t, rfl⟩ (vals_of_texts r)
theorem texts_of : ∀ {us : List Value} {xs : List Str}, Vals (xs.map V.str) us → StrsAre us xs
  | _, [], r => by
    cases r
    exact .nil
  | _, x :: xs, r => by
    cases r with
    | cons a b =>
      obtain ⟨t, rfl⟩ := a
      exact .cons x t (texts_of b)
section
variable {X : Cx}
/-- set(t) of a tuple of texts -/
def rSetTx (P : Program) (w : World) (K : PySem.W.Frag) : List V → Hp → VK → Prop := fun xs H Q => ∃ (a : Addr) (ws : List Str), xs = [V.ref a] ∧ SqT K H a (ws.map V.str) ∧ ws.length ≤ 1000 ∧
  ∀ p, H p = none → Q (.ref p) (upd H p (SetTO P w p (pack ws)))
theorem cr_setTx (hc : X.calm = true) : CallR X (.type "set") (rSetTx X.prog X.w X.K) := by
  intro pins s σ H xs us Q I r h
  obtain ⟨a, ws, rfl, hq, hn, q⟩ := h
  rw [Vals.ref1 r]
  obtain ⟨its, rv, pl, hz⟩ := I.tuple hq
  refine of_tuple (items := its.toArray) ws (I.ok.hd hc) pl (by rw [List.toList_toArray]; exact texts_of rv) (by show _ < 4096; omega) fun h' tk S k => ?_
  have hn : H s.heap.objs.size = none := I.hok.fresh (Nat.le_refl _)
  exact ⟨.ref _, upd H s.heap.objs.size (SetTO X.prog X.w s.heap.objs.size (pack ws)), I.laid (t' := tk) k (Nat.le_refl _) (setTO_new S), rfl, q _ hn⟩
/-- sorted(s) of a set of fewer than 64 texts -/
def rSortTx (P : Program) (w : World) : List V → Hp → VK → Prop := fun xs H Q => ∃ (a : Addr) (l : List Str), xs = [V.ref a] ∧ H a = some (SetTO P w a l) ∧ l.length < 64 ∧
  ∀ (ns : List Str) (p : Addr), sortedS ns = true → ns.Perm l → H p = none → Q (.ref p) (upd H p (.lst (ns.map V.str)))
theorem cr_sortTx (hc : X.calm = true) : CallR X (.builtin "sorted") (rSortTx X.prog X.w) := by
  intro pins s σ H xs us Q I r h
  obtain ⟨a, l, rfl, ha, n64, q⟩ := h
  have R : SetT X.prog X.w s.heap a l := (I.hok a _ ha).1
  rw [Vals.ref1 r]
  refine sorted_of R (I.ok.hd hc) n64 fun s' p out c ns k g o hp hg hi hs pm => ?_
  have nl : (ns.map V.str).length ≤ sizeLine := by
    rw [List.length_map, pm.length_eq, sizeLine_eq]
    omega
  have np : H p = none := I.hok.fresh hp
  obtain ⟨h2, g2, d2, t2, o2⟩ := s'
  obtain rfl : o2 = s.os := o
  have J : Inv X pins σ (upd H p (.lst (ns.map V.str))) { s with heap := h2, gens := g2, drawn := d2, toks := t2 } :=
    I.call (ch := []) (Un.laid k hp np) (I.hok.laid k hp ⟨nl, out.toList, c, vals_of_texts hi, hg⟩) (by rw [show g2 = s.gens from g]; exact I.bare) (fun _ z => nomatch z)
  exact ⟨.ref p, _, J, rfl, q ns p hs pm np⟩
end
end SX
set_option Elab.async false
set_option linter.all false
set_option maxRecDepth 100000
set_option maxHeartbeats 4000000
namespace K01
open PySem L2 L2H DQ RZ
def sgn (c : Nat) : Str := ⟨#[c]⟩
def abc : Str := "abcdefghijklmnopqrstuvwxyz"
theorem abc_mem (c : Nat) : decide (c ∈ abc.cps.toList) = low c := by
  have e : abc.cps.toList = List.range' 97 26 := by decide +kernel
  rw [e]
  unfold low
  rw [← Bool.decide_and]
  exact decide_eq_decide.mpr (by rw [List.mem_range'_1]; omega)
theorem shaped_strs {ns : List Str} (ok : ∀ n ∈ ns, PyData.strOk n = true) : SeqAt.shaped (.list (ns.map PyData.str)) = true := by
  have h : ∀ l : List Str, (∀ n ∈ l, PyData.strOk n = true) → PyData.canLayAll0 (l.map PyData.str) = true ∧ PyData.depthAll (l.map PyData.str) ≤ 1 := by
    intro l
    induction l with
    | nil => exact fun _ => ⟨rfl, Nat.zero_le _⟩
    | cons a l ih =>
      intro h
      have i := ih fun n hn => h n (List.mem_cons_of_mem _ hn)
      have o := h a (List.mem_cons_self ..)
      refine ⟨by simp [PyData.canLayAll0, PyData.canLay0, i.1, o], ?_⟩
      simp only [List.map_cons, PyData.depthAll, PyData.depth]
      have := i.2
      omega
  have z := h ns ok
  refine Bool.and_eq_true_iff.mpr ⟨by simp only [PyData.canLay0]; exact z.1, decide_eq_true ?_⟩
  simp only [PyData.depth]
  exact Nat.le_trans (Nat.succ_le_succ z.2) (by decide)
theorem ok_sgn {x : Str} (h : PyData.strOk x = true) : ∀ n ∈ (x.cps.toList.filter fun c => !low c).map sgn, PyData.strOk n = true := by
  intro n hn
  obtain ⟨c, hc, rfl⟩ := List.mem_map.mp hn
  have m := (List.mem_filter.mp hc).1
  have z : x.cps.all (fun c => decide (c < 0x110000)) = true := h
  rw [← Array.all_toList] at z
  have y := List.all_eq_true.mp z c m
  show (#[c] : Array Nat).all (fun c => decide (c < 0x110000)) = true
  simpa using y
theorem dp_strs {K : PySem.W.Frag} {H : Hp} : ∀ ns : List Str, DpAll K H (ns.map V.str) (ns.map PyData.str)
  | [] => .nil
  | n :: ns => .cons (.str n) (dp_strs ns)
theorem eqv_strs0 (ns : List Str) : PyData.eqv (.list (ns.map PyData.str)) (.list []) = ns.isEmpty := by
  cases ns <;> simp [PyData.eqv, PyData.eqvAll]
section
variable {P : Program} {w : World} {K : PySem.W.Frag} {mg : Str → Option Value} {base : Heap}
theorem scNm : FnScope ["thing", "sign"] ["thing"] (defScope sName) := ⟨rfl, rfl, rfl, by decide +kernel, rfl, by decide +kernel, by decide +kernel⟩
theorem ok_name {f : Addr} {fd : FuncData} (F : Fun K "_law_is_name" "_law_is_name" sName f fd) (T : TP mg) : FnOk P w K mg base CX0 1 f fd ["thing"] (spB isWord) := by
  refine F.ok scNm (fun vs H Q E h => ?_) (fun cdv A outer s H vs Q E hr h => ?_)
  · obtain ⟨v, d, rfl, _⟩ := h
    rfl
  · obtain ⟨v, d, rfl, hd, k⟩ := h
    have hu2 : (A.deeper (PyProof.Rows.envOfC "_law_is_name" (defScope sName) s.heap.objs.size f cdv)).units + 64 < cLine := by have := hr.un; omega
    refine ⟨_, pss_cons (ps_if (PW.pt (pw_or (pt_not (pt_val (pe_callB call_isi (by rfl) T.isi bisi (pa_cons (pv 0) (pa_cons (pe_bltn (v := .ty "str") (by rfl) T.str bstr rfl) pa_nil)))))
        (pw_or1 (pt_not (pt_chain op_le op_le pe_int (pe_callB call_len_str (by rfl) T.len PySem.boot_len (pa_cons (pv 0) pa_nil)) pe_int))))) (pss_one (ps_ret pe_bl)) pss_nil)
      (pss_one (ps_ret (pe_cmpR (op_eqD hu2) (pe_lc (own := [("sign", 1)]) (g := gName 1) rfl scNm.nd (pi_str (pv 0)) (blkOk_by (own := [("sign", 1)]) (N := ["thing", "sign"]) (sc := defScope sName) (by decide +kernel))
        (fun _ _ _ _ _ => pg_name (i := 1) scNm.nd rfl (Or.inl rfl)) (fun _ _ _ _ _ => pts_one (pt_cmpR op_notInS (pv 1) pe_str (by rfl))) (fun _ _ _ _ _ => pv 1)) (pe_lst pa_nil) (nomark _)))), ?_⟩
    refine ⟨_, rfl, _, .ty "str", _, _, _, rfl, .ty _, hd.ty, kit_ty (ks d), _, rfl, ?_⟩
    cases hd with
    | str x hx =>
      refine iteF ⟨_, rfl, x, rfl, hx.1, _, _, rfl, rfl, _, rfl, ?_⟩
      by_cases h1 : 1 ≤ x.length
      · have e1 : decide ((1 : Int) ≤ (x.length : Int)) = true := decide_eq_true (by omega)
        rw [e1]
        refine iteT ⟨_, _, rfl, rfl, _, rfl, ?_⟩
        by_cases h8 : x.length ≤ 8
        · have e8 : decide ((x.length : Int) ≤ 8) = true := decide_eq_true (by omega)
          rw [e8]
          refine iteF ⟨_, rfl, x, rfl, fun D nD => ?_⟩
          refine lc_it walk_str (fun i H' => Same H H' ∧ H' D = some (.lst (((x.cps.toList.take i).filter fun c => !low c).map fun c => V.str (sgn c)))) ⟨same_new nD, upd_same⟩ (fun _ _ _ _ => trivial) ?_ ?_
          · rintro i y H1 H2 hi ⟨s1, e⟩ ⟨rfl, c, hc, rfl⟩
            have tk : x.cps.toList.take (i + 1) = x.cps.toList.take i ++ [c] := by
              have hc' : x.cps.toList[i]? = some c := by rw [Array.getElem?_toList]; exact hc
              rw [List.take_add_one, hc']
              rfl
            refine ⟨rfl, _, rfl, c, abc, rfl, rfl, _, rfl, ?_⟩
            rw [abc_mem]
            cases hl : low c with
            | true =>
              refine iteF ⟨s1, ?_⟩
              rw [tk, List.filter_append]
              simpa [hl] using e
            | false =>
              refine iteT ⟨_, rfl, _, e, small1000 ?_, fun b o z => ?_, ?_⟩
              · rw [List.length_map]
                have a := List.length_filter_le (fun c => !low c) (x.cps.toList.take i)
                have b : (x.cps.toList.take i).length ≤ x.cps.toList.length := by rw [List.length_take]; omega
                have c8 : x.cps.toList.length ≤ 8 := h8
                omega
              · rw [upd_ne (ne_of_none z nD)]
                exact s1 b o z
              · rw [upd_same, tk, List.filter_append, List.map_append]
                simp [hl, sgn]
          · rintro H1 ⟨s1, e⟩
            have tk : x.cps.toList.take x.cps.size = x.cps.toList := List.take_of_length_le (by simp)
            rw [tk] at e
            have em : ((x.cps.toList.filter fun c => !low c).map fun c => V.str (sgn c)) = ((x.cps.toList.filter fun c => !low c).map sgn).map V.str := by
              rw [List.map_map]
              rfl
            rw [em] at e
            refine ⟨by decide, fun L nL => ?_⟩
            refine ⟨_, _, .lst (SqL.of (same_new nL _ _ e)) (dp_strs _), dp_nil upd_same, shaped_strs (ok_sgn hx.2), rfl, ?_⟩
            have z := k _ (same_trans s1 (same_new (o := HO.lst []) nL))
            have y : isWord (.str x) = PyData.eqv (.list (((x.cps.toList.filter fun c => !low c).map sgn).map PyData.str)) (.list []) := by
              rw [eqv_strs0]
              show (decide (1 ≤ x.length) && (decide (x.length ≤ 8) && x.cps.toList.all low)) = _
              rw [decide_eq_true h1, decide_eq_true h8, Bool.true_and, Bool.true_and]
              generalize x.cps.toList = l
              induction l with
              | nil => rfl
              | cons a l ih =>
                cases ha : low a with
                | true =>
                  rw [List.all_cons, ha, Bool.true_and, ih]
                  simp [ha]
                | false =>
                  rw [List.all_cons, ha, Bool.false_and]
                  simp [ha]
            rw [y] at z
            exact z
        · have e8 : decide ((x.length : Int) ≤ 8) = false := decide_eq_false (by omega)
          rw [e8]
          have z := k H same_refl
          have y : isWord (.str x) = false := by
            show (decide (1 ≤ x.length) && (decide (x.length ≤ 8) && _)) = _
            rw [decide_eq_false h8, Bool.false_and, Bool.and_false]
          rw [y] at z
          exact iteT z
      · have e1 : decide ((1 : Int) ≤ (x.length : Int)) = false := decide_eq_false (by omega)
        rw [e1]
        have z := k H same_refl
        have y : isWord (.str x) = false := by
          show (decide (1 ≤ x.length) && _) = _
          rw [decide_eq_false h1, Bool.false_and]
        rw [y] at z
        exact iteF ⟨_, rfl, iteT z⟩
    | _ => exact iteT (k H same_refl)
end
end K01
set_option Elab.async false
set_option linter.all false
set_option maxRecDepth 100000
set_option maxHeartbeats 4000000
namespace K01
open PySem PySem.Spec L2 L2H DQ RZ PyProof.Rows
def ltS (a b : Str) : Prop := a.cps.toList < b.cps.toList
theorem ltS_trans {a b c : Str} (h : ltS a b) (g : ltS b c) : ltS a c := List.lt_trans h g
theorem ltS_irrefl (a : Str) : ¬ ltS a a := List.lt_irrefl _
theorem str_ext {a b : Str} (h : a.cps.toList = b.cps.toList) : a = b := by
  obtain ⟨x⟩ := a
  obtain ⟨y⟩ := b
  have e : x = y := Array.toList_inj.mp h
  rw [e]
theorem rising_le : ∀ (p : Str) (l : List Str), risingS p l = true → (p :: l).Pairwise fun a b => ¬ ltS b a
  | p, [], _ => List.pairwise_cons.mpr ⟨fun _ h => by simp at h, .nil⟩
  | p, x :: r, h => by
    obtain ⟨h1, h2⟩ := Bool.and_eq_true_iff.mp (show (!ltCps x.cps.toList p.cps.toList && risingS x r) = true from h)
    have n1 : ¬ ltS x p := by
      intro z
      rw [ltCps_eq] at h1
      unfold ltS at z
      rw [decide_eq_true z] at h1
      cases h1
    have ih := rising_le x r h2
    refine List.pairwise_cons.mpr ⟨fun y hy => ?_, ih⟩
    rcases List.mem_cons.mp hy with rfl | hy
    · exact n1
    · have n2 := (List.pairwise_cons.mp ih).1 y hy
      intro z
      rcases Classical.em (ltS x y) with c | c
      · exact n1 (ltS_trans c z)
      · have e : x.cps.toList = y.cps.toList := List.le_antisymm (List.not_lt.mp n2) (List.not_lt.mp c)
        rw [str_ext e] at n1
        exact n1 z
theorem sorted_le {l : List Str} (h : sortedS l = true) : l.Pairwise fun a b => ¬ ltS b a := by
  cases l with
  | nil => exact .nil
  | cons p l => exact rising_le p l h
/-- sorted and without twins: strictly ascending -/
theorem strict_of : ∀ {l : List Str}, (l.Pairwise fun a b => ¬ ltS b a) → l.Nodup → l.Pairwise ltS
  | [], _, _ => .nil
  | x :: l, h, d => by
    obtain ⟨h1, h2⟩ := List.pairwise_cons.mp h
    obtain ⟨d1, d2⟩ := List.nodup_cons.mp d
    refine List.pairwise_cons.mpr ⟨fun y hy => ?_, strict_of h2 d2⟩
    rcases Classical.em (ltS x y) with c | c
    · exact c
    · have e : x.cps.toList = y.cps.toList := List.le_antisymm (List.not_lt.mp (h1 y hy)) (List.not_lt.mp c)
      exact absurd (str_ext e ▸ hy) d1
theorem strict_nodup : ∀ {l : List Str}, l.Pairwise ltS → l.Nodup
  | [], _ => .nil
  | x :: l, h => by
    obtain ⟨h1, h2⟩ := List.pairwise_cons.mp h
    exact List.nodup_cons.mpr ⟨fun z => ltS_irrefl _ (h1 x z), strict_nodup h2⟩
/-- two strictly ascending lists of the same texts are one -/
theorem strict_one : ∀ {l m : List Str}, l.Pairwise ltS → m.Pairwise ltS → (∀ x, x ∈ l ↔ x ∈ m) → l = m
  | [], [], _, _, _ => rfl
  | [], y :: m, _, _, h => by have := (h y).mpr (List.mem_cons_self ..); simp at this
  | x :: l, [], _, _, h => by have := (h x).mp (List.mem_cons_self ..); simp at this
  | x :: l, y :: m, hl, hm, h => by
    obtain ⟨l1, l2⟩ := List.pairwise_cons.mp hl
    obtain ⟨m1, m2⟩ := List.pairwise_cons.mp hm
    have e : x = y := by
      rcases List.mem_cons.mp ((h x).mp (List.mem_cons_self ..)) with z | z
      · exact z
      · rcases List.mem_cons.mp ((h y).mpr (List.mem_cons_self ..)) with u | u
        · exact u.symm
        · exact absurd (ltS_trans (m1 x z) (l1 y u)) (ltS_irrefl _)
    subst e
    congr 1
    refine strict_one l2 m2 fun z => ?_
    constructor
    · intro hz
      rcases List.mem_cons.mp ((h z).mp (List.mem_cons_of_mem _ hz)) with u | u
      · exact absurd (u ▸ l1 z hz) (ltS_irrefl _)
      · exact u
    · intro hz
      rcases List.mem_cons.mp ((h z).mpr (List.mem_cons_of_mem _ hz)) with u | u
      · exact absurd (u ▸ m1 z hz) (ltS_irrefl _)
      · exact u
theorem sorted_pack {ws ns : List Str} (hs : sortedS ns = true) (hp : ns.Perm (SX.pack ws)) : ws = ns ↔ ws.Pairwise ltS := by
  have nd : ns.Nodup := hp.nodup_iff.mpr (SX.pack_nodup ws)
  have st : ns.Pairwise ltS := strict_of (sorted_le hs) nd
  constructor
  · intro e
    rw [e]
    exact st
  · intro h
    refine strict_one h st fun x => ?_
    rw [hp.mem_iff, SX.pack_mem]
theorem chain_strict : ∀ ws : List Str, (((ws.map PyData.str).zip (ws.map PyData.str).tail).all fun p => ltD p.1 p.2) = true ↔ ws.Pairwise ltS
  | [] => by simp
  | [x] => by simp
  | x :: y :: l => by
    have ih := chain_strict (y :: l)
    show (decide (x.cps.toList < y.cps.toList) && (((y :: l).map PyData.str).zip ((y :: l).map PyData.str).tail).all fun p => ltD p.1 p.2) = true ↔ _
    rw [Bool.and_eq_true_iff, decide_eq_true_eq, ih]
    constructor
    · rintro ⟨h1, h2⟩
      refine List.pairwise_cons.mpr ⟨fun z hz => ?_, h2⟩
      rcases List.mem_cons.mp hz with rfl | hz
      · exact h1
      · exact ltS_trans h1 ((List.pairwise_cons.mp h2).1 z hz)
    · intro h
      obtain ⟨h1, h2⟩ := List.pairwise_cons.mp h
      exact ⟨h1 y (List.mem_cons_self ..), h2⟩
theorem eqv_strs : ∀ ws ns : List Str, PyData.eqv (.list (ws.map PyData.str)) (.list (ns.map PyData.str)) = decide (ws = ns)
  | [], [] => by simp [PyData.eqv, PyData.eqvAll]
  | [], n :: ns => by simp [PyData.eqv, PyData.eqvAll]
  | w :: ws, [] => by simp [PyData.eqv, PyData.eqvAll]
  | w :: ws, n :: ns => by
    have ih := eqv_strs ws ns
    simp only [PyData.eqv, List.map_cons, PyData.eqvAll] at ih ⊢
    rw [ih]
    by_cases a : w = n
    · by_cases b : ws = ns
      · simp [a, b]
      · simp [a, b]
    · simp [a]
/-- words are texts -/
theorem words_of : ∀ {ds : List PyData}, ds.all isWord = true → ∃ ws : List Str, ds = ws.map PyData.str ∧ ∀ x ∈ ws, wordS x = true
  | [], _ => ⟨[], rfl, fun _ h => by simp at h⟩
  | d :: ds, h => by
    obtain ⟨h1, h2⟩ := Bool.and_eq_true_iff.mp (show (isWord d && ds.all isWord) = true from h)
    obtain ⟨ws, rfl, hw⟩ := words_of h2
    cases d with
    | str x => exact ⟨x :: ws, rfl, fun y hy => by
        rcases List.mem_cons.mp hy with rfl | hy
        · exact h1
        · exact hw y hy⟩
    | _ => cases h1
theorem word_ok {x : Str} (h : wordS x = true) : PyData.strOk x = true := by
  have z := (Bool.and_eq_true_iff.mp (Bool.and_eq_true_iff.mp h).2).2
  show x.cps.all (fun c => decide (c < 0x110000)) = true
  rw [← Array.all_toList]
  refine List.all_eq_true.mpr fun c hc => ?_
  have y := List.all_eq_true.mp z c hc
  unfold low at y
  have y2 := of_decide_eq_true (Bool.and_eq_true_iff.mp y).2
  exact decide_eq_true (by omega)
/-- the law's look at the marks -/
theorem marks_eq {ws ns : List Str} (h3 : ws.length ≤ 3) (hw : ∀ x ∈ ws, wordS x = true) (hs : sortedS ns = true) (hp : ns.Perm (SX.pack ws)) :
    areMarks (.tuple (ws.map PyData.str)) = PyData.eqv (.list (ws.map PyData.str)) (.list (ns.map PyData.str)) := by
  rw [eqv_strs]
  have al : (ws.map PyData.str).all isWord = true := by
    rw [List.all_map]
    exact List.all_eq_true.mpr hw
  show (decide ((ws.map PyData.str).length ≤ 3) && ((ws.map PyData.str).all isWord && _)) = _
  rw [List.length_map, decide_eq_true h3, al, Bool.true_and, Bool.true_and]
  rw [Bool.eq_iff_iff, decide_eq_true_eq, sorted_pack hs hp]
  exact chain_strict ws
end K01
set_option Elab.async false
set_option linter.all false
set_option maxRecDepth 100000
set_option maxHeartbeats 4000000
/-! a list or a tuple of anything, held against the empty one -/
namespace NI
open PySem PySem.Spec PyProof.Rows L2 PySem.SeqAt
section
variable {X : Cx}
def rNilL (K : PySem.W.Frag) (f : Bool → Bool) : R2 := fun x y H Q => ∃ a b xs, x = .ref a ∧ y = .ref b ∧ SqL K H a xs ∧ SqL K H b [] ∧ Q (.bl (f xs.isEmpty)) H
def rNilT (K : PySem.W.Frag) (f : Bool → Bool) : R2 := fun x y H Q => ∃ a b xs, x = .ref a ∧ y = .ref b ∧ SqT K H a xs ∧ SqT K H b [] ∧ Q (.bl (f xs.isEmpty)) H
theorem op_eqNil (hu : X.A.units < cLine) : OpR X (compareOp .Eq) (rNilL X.K id) := by
  intro pins s σ H x y v u Q I rx ry h
  obtain ⟨a, b, xs, rfl, rfl, ha, hb, q⟩ := h
  cases rx
  cases ry
  obtain ⟨its, r, pl, hz⟩ := I.list ha
  obtain ⟨its2, r2, pl2, hz2⟩ := I.list hb
  cases r2
  cases xs with
  | nil =>
    cases r
    exact eq_listAt (e := fun _ => true) pl.isList pl2.isList rfl hu (fun j h1 _ => absurd h1 (Nat.not_lt_zero j)) ⟨.bl true, H, I, rfl, q⟩
  | cons x xs =>
    cases r with
    | cons r1 r2 => exact eq_list_lengthsAt pl.isList pl2.isList (by simp) hu ⟨.bl false, H, I, rfl, q⟩
theorem op_neNil (hu : X.A.units < cLine) : OpR X (compareOp .NotEq) (rNilL X.K not) := by
  intro pins s σ H x y v u Q I rx ry h
  obtain ⟨a, b, xs, rfl, rfl, ha, hb, q⟩ := h
  cases rx
  cases ry
  obtain ⟨its, r, pl, hz⟩ := I.list ha
  obtain ⟨its2, r2, pl2, hz2⟩ := I.list hb
  cases r2
  cases xs with
  | nil =>
    cases r
    exact RcNeAt.lists (e := fun _ => true) pl.isList pl2.isList rfl hu (fun j h1 _ => absurd h1 (Nat.not_lt_zero j)) _ _ _ _ ⟨.bl false, H, I, rfl, q⟩
  | cons x xs =>
    cases r with
    | cons r1 r2 => exact RcNeAt.lists_lengths pl.isList pl2.isList (by simp) hu _ _ _ _ ⟨.bl true, H, I, rfl, q⟩
theorem op_eqNilT (hu : X.A.units < cLine) : OpR X (compareOp .Eq) (rNilT X.K id) := by
  intro pins s σ H x y v u Q I rx ry h
  obtain ⟨a, b, xs, rfl, rfl, ha, hb, q⟩ := h
  cases rx
  cases ry
  obtain ⟨its, r, pl, hz⟩ := I.tuple ha
  obtain ⟨its2, r2, pl2, hz2⟩ := I.tuple hb
  cases r2
  cases xs with
  | nil =>
    cases r
    exact eq_tupleAt (e := fun _ => true) pl pl2 hu (fun j h1 _ => absurd h1 (Nat.not_lt_zero j)) ⟨.bl true, H, I, rfl, q⟩
  | cons x xs =>
    cases r with
    | cons r1 r2 => exact eq_tupleAt (e := fun _ => true) pl pl2 hu (fun j _ h2 => absurd h2 (Nat.not_lt_zero j)) ⟨.bl false, H, I, rfl, q⟩
end
end NI
namespace NI
open PySem PySem.Spec PyProof.Rows L2 PySem.SeqAt
section
variable {X : Cx}
theorem op_neNilT (hu : X.A.units < cLine) : OpR X (compareOp .NotEq) (rNilT X.K not) := by
  intro pins s σ H x y v u Q I rx ry h
  obtain ⟨a, b, xs, rfl, rfl, ha, hb, q⟩ := h
  cases rx
  cases ry
  obtain ⟨its, r, pl, hz⟩ := I.tuple ha
  obtain ⟨its2, r2, pl2, hz2⟩ := I.tuple hb
  cases r2
  cases xs with
  | nil =>
    cases r
    exact RcNeAt.tuples (e := fun _ => true) pl pl2 hu (fun j h1 _ => absurd h1 (Nat.not_lt_zero j)) _ _ _ _ ⟨.bl false, H, I, rfl, q⟩
  | cons x xs =>
    cases r with
    | cons r1 r2 => exact RcNeAt.tuples (e := fun _ => true) pl pl2 hu (fun j _ h2 => absurd h2 (Nat.not_lt_zero j)) _ _ _ _ ⟨.bl true, H, I, rfl, q⟩
end
end NI
set_option Elab.async false
set_option linter.all false
set_option maxRecDepth 100000
set_option maxHeartbeats 4000000
/-! A def of one argument, called where it is known that no repr is under way. -/
namespace L2H
open PySem PySem.Spec PyProof.Rows L2
def FnG (P : Program) (w : World) (K : PySem.W.Frag) (mg : Str → Option Value) (base : Heap) (k : Nat) (f : Addr) (fd : FuncData) (x : Str) (sp : Sp) : Prop :=
  ∀ (A : Around) (outer : List Env) (s : Shared) (H : Hp) (u : Value) (v : V) (Q : VK) (E : XK), Room k A → A.guards = some [] → Env0 P w K mg base A outer s H → BindsTo s fd ⟨[u], []⟩ [(x, u)] → RelV v u → sp [v] H Q E →
    codeAny (model P w) A (.call (.ref f) ⟨[u], []⟩) (CR CX0 outer P w H s Q E) s
section
variable {P : Program} {w : World} {K : PySem.W.Frag} {mg : Str → Option Value} {base : Heap} {x name : Str} {st : Stmt} {f : Addr} {fd : FuncData} {N : List Str} {k : Nat} {sp : Sp}
theorem fnG_of (F : Fun K name name st f fd) (S : FnScope N [x] (defScope st))
    (body : ∀ (cdv : Value) (A : Around) (outer : List Env) (s : Shared) (H : Hp) (v : V) (Q : VK) (E : XK), Room k (A.deeper (envOfC name (defScope st) s.heap.objs.size f cdv)) → A.guards = some [] → sp [v] H Q E →
      ∃ t, PSs (cxOf CX0 P w K mg base N name (defScope st) f cdv A outer s H E).nox (defBody st) t ∧ t { nx := fun _ H' => Q .non H', rt := Q } (start N [v]) H) :
    FnG P w K mg base (k + 1) f fd x sp := by
  obtain ⟨oc, od, kV, doc, pm, an, cdv, ct, osl, rfl, lk, hcd⟩ := F.ex
  intro A outer s H u v Q E hr hg e0 hb ru hsp
  have KX : K.In s.heap := e0.mod.kin.keeps fun b o z => (e0.bs b o z).1
  have lim : s.heap.NoLimit := e0.mod.nolimit.keeps fun b o z => (e0.bs b o z).1
  have kinds : ∀ y ∈ [(x, u)], (defScope st).names.lookup y.1 = some .local ∨ ((defScope st).names.lookup y.1 = some .cell ∧ ((cellsFrom (s.heap.objs.size + 1) (defScope st).names []).lookup y.1).isSome = true) := fun y hy => by
    rcases List.mem_cons.mp hy with rfl | z
    · rcases S.par x (List.mem_cons_self ..) with q | q
      · exact .inl q
      · exact .inr ⟨q, PySem.W.cellsFrom_some _ _ _ (.inl q)⟩
    · cases z
  refine codeAny_call_function hr.depth (KX _ _ lk) rfl S.co S.gen rfl (PySem.W.codeRec_of KX hcd) (hb _ _ _ _ ?_)
  refine wpAny_newFunctionEnv_cells S.kind kinds fun env he s1 y => ?_
  subst he
  refine ⟨lim.keeps y.toInCall.keep, codeAny_func ?_⟩
  obtain ⟨t, ht, hq⟩ := body cdv A outer s H v Q E (hr.deeper _) hg hsp
  have I : Inv (cxOf CX0 P w K mg base N name (defScope st) f cdv A outer s H E) [] (start N [v]) H s1 := inv_start (ps := [x]) (us := [u]) S hr.hd e0 rfl (.cons ru .nil) y
  refine wpAny_mono (ht.nox.run [] s1 (start N [v]) H _ I hq) (fun fl s' hs => ?_) fun _ _ z => z
  cases fl with
  | ret u' =>
    obtain ⟨v', σ', H', J, rv, q⟩ := hs
    exact ⟨v', H', J.os, J.bare, J.base, J.hok, rv, q⟩
  | next =>
    obtain ⟨σ', H', J, q⟩ := hs
    exact ⟨V.non, H', J.os, J.bare, J.base, J.hok, rfl, q⟩
  | brk =>
    obtain ⟨_, _, _, q⟩ := hs
    exact q.elim
  | cont =>
    obtain ⟨_, _, _, q⟩ := hs
    exact q.elim
end
section
variable {X : Cx} {k : Nat} {f : Addr} {fd : FuncData} {sp : Sp} {x y : Str} {p pos : Pos} {e : Expr} {t : TA}
theorem pe_callG (F : FnG X.prog X.w X.K X.mg X.base k f fd y sp) (hr : Room k X.A) (gd : X.A.guards = some []) (hg : Gl X x) (hm : X.mg x = some (.ref f)) (hk : PySem.W.keepIn X.K (.ref f) = true) (hb : Binds X.K fd [y] [])
    (hx : Passes CX0 X fun _ _ _ => False) (ha : PA X [e] t) (hdb : (x == ("__debug__" : Str)) = false := by decide) (he : starEach [e] X.env = (false, eval e X.env) :: starEach [] X.env := by rfl) (hpl : (backTo pos (starEach [] X.env)).any (·.1) = false := by rfl) :
    PE X (.Call (.Name x p) [e] [] pos) (fun σ H Q => t σ H fun vs H1 => ∃ v, vs = [v] ∧ sp [v] H1 Q fun _ _ _ => False) := by
  refine ⟨fun pins s σ H Q I h => ?_⟩
  refine wpAny_Call_Name_kw (ld_glob I hg hm ?_ hdb)
  refine PySem.W.callWith_K (h₀ := X.base) I.ok.mod.kin hk (thn (ha.run pos pins s σ H _ I h) fun us s1 ⟨vs, H1, I1, r, v, ev, q⟩ => ⟨I1.kIn, ?_⟩) he hpl
  subst ev
  obtain ⟨u, rfl, ru⟩ := vals1 r
  have bt := hb s1 [u] I1.kIn rfl
  refine wpAny_call (codeAny_mono (F X.A X.stack s1 H1 u v Q (fun _ _ _ => False) hr gd I1.env0 bt ru q) fun r s' hq => ?_)
  cases r with
  | error e => exact hx pins σ H1 s1 e s' I1 hq
  | ok fl =>
    cases fl with
    | ret u => exact I1.after hq
    | next => exact False.elim hq
    | brk => exact False.elim hq
    | cont => exact False.elim hq
end
end L2H
set_option Elab.async false
set_option linter.all false
set_option maxRecDepth 100000
set_option maxHeartbeats 4000000
namespace K01
open PySem L2 L2H DQ RZ
/-! the law's count of nodes, calls, calls at the root -/
abbrev T3 := Int × Int × Int
def comb : Option T3 → Option T3 → Option T3
  | some a, some b => some (a.1 + b.1, a.2.1 + b.2.1, a.2.2 + b.2.2)
  | _, _ => none
theorem comb_none (a : Option T3) : comb a none = none := by cases a <;> rfl
theorem comb_comm (a b : Option T3) : comb a b = comb b a := by
  cases a with
  | none => cases b <;> rfl
  | some a =>
    cases b with
    | none => rfl
    | some b => simp [comb, Int.add_comm]
theorem comb_assoc (a b c : Option T3) : comb (comb a b) c = comb a (comb b c) := by
  cases a with
  | none => rfl
  | some a =>
    cases b with
    | none => rfl
    | some b =>
      cases c with
      | none => rfl
      | some c => simp [comb, Int.add_assoc]
theorem comb_zero (a : Option T3) : comb a (some (0, 0, 0)) = a := by
  cases a with
  | none => rfl
  | some a => simp [comb]
def nodeP : PyData → Bool
  | .tuple ds => nodeB ds[0]? ds[1]?
  | _ => false
def nodeL (d : PyData) : Bool := (isPair d || isCall d) && nodeP d
theorem isNode_eq (l : Int) (d : PyData) : isNode l d = ((isPair d || (decide (0 < l) && isCall d)) && nodeP d) := by cases d <;> rfl
def stepL (c : PyData → Option T3) (acc : Option T3) (b : PyData) : Option T3 :=
  match b with
  | .tuple [.str u, t] => if wordS u = true then comb acc (c t) else none
  | _ => none
def start (l : Int) (n : Nat) : T3 := (1, (n : Int), if l ≤ 0 then (n : Int) else 0)
def lvOf (c : PyData → Option T3) (l : Int) : PyData → Option T3
  | .tuple (_ :: .tuple bs :: r) => bs.foldl (stepL c) (some (start l r.length))
  | _ => none
def lv : Nat → Int → PyData → Option T3
  | 0, _, _ => none
  | m + 1, l, d => if nodeL d = true then lvOf (lv m (l + 1)) l d else none
/-- an entry of the law's stack -/
def lvl (e : PyData × Int) : Option T3 := lv (4 - e.2).toNat e.2 e.1
def tot : List (PyData × Int) → Option T3
  | [] => some (0, 0, 0)
  | e :: es => comb (lvl e) (tot es)
theorem tot_app : ∀ es fs : List (PyData × Int), tot (es ++ fs) = comb (tot es) (tot fs)
  | [], fs => by
    rw [List.nil_append, comb_comm]
    exact (comb_zero _).symm
  | e :: es, fs => by
    rw [List.cons_append]
    show comb (lvl e) (tot (es ++ fs)) = comb (comb (lvl e) (tot es)) (tot fs)
    rw [tot_app es fs, comb_assoc]
theorem stepL_none (c : PyData → Option T3) (b : PyData) : stepL c none b = none := by
  unfold stepL
  split
  · split
    · rfl
    · rfl
  · rfl
theorem foldL_none (c : PyData → Option T3) : ∀ bs : List PyData, bs.foldl (stepL c) none = none
  | [] => rfl
  | b :: bs => by
    rw [List.foldl_cons, stepL_none]
    exact foldL_none c bs
theorem foldL_stop {c : PyData → Option T3} {bs : List PyData} {i : Nat} {b : PyData} {acc : Option T3} (hb : bs[i]? = some b) (hs : ∀ a, stepL c a b = none) : bs.foldl (stepL c) acc = none := by
  have e : bs = bs.take i ++ b :: bs.drop (i + 1) := by
    have hi : i < bs.length := (List.getElem?_eq_some_iff.mp hb).1
    have eb : bs[i] = b := (List.getElem?_eq_some_iff.mp hb).2
    rw [← eb, ← List.drop_eq_getElem_cons hi, List.take_append_drop]
  rw [e, List.foldl_append, List.foldl_cons, hs]
  exact foldL_none c _
/-- what a well-formed branch puts on the stack -/
def tgt : PyData → PyData
  | .tuple [_, t] => t
  | _ => .none
def goodB : PyData → Bool
  | .tuple [.str u, _] => wordS u
  | _ => false
theorem fold_tot {l : Int} : ∀ (bs : List PyData) (acc : Option T3), (∀ b ∈ bs, goodB b = true) → bs.foldl (stepL fun t => lvl (t, l)) acc = comb acc (tot (bs.map fun b => (tgt b, l)))
  | [], acc, _ => (comb_zero _).symm
  | b :: bs, acc, h => by
    have hb := h b (List.mem_cons_self ..)
    rw [List.foldl_cons, fold_tot bs _ fun x hx => h x (List.mem_cons_of_mem _ hx)]
    show _ = comb acc (comb (lvl (tgt b, l)) (tot _))
    rw [← comb_assoc]
    congr 1
    match b, hb with
    | .tuple [.str u, t], hb =>
      have hw : wordS u = true := hb
      show (if wordS u = true then comb acc (lvl (t, l)) else none) = _
      rw [if_pos hw]
      rfl
theorem lvl_eq {d : PyData} {l : Int} (h : l ≤ 3) (h0 : 0 ≤ l) : lvl (d, l) = if nodeL d = true then lvOf (fun t => lvl (t, l + 1)) l d else none := by
  have e : (4 - l).toNat = (4 - (l + 1)).toNat + 1 := by omega
  show lv (4 - l).toNat l d = _
  rw [e]
  rfl
theorem lvl_deep {d : PyData} {l : Int} (h : 3 < l) : lvl (d, l) = none := by
  have e : (4 - l).toNat = 0 := by omega
  show lv (4 - l).toNat l d = _
  rw [e]
  rfl
/-! at least one node -/
def ge1 (k : Int) : Option T3 → Prop
  | some t => k ≤ t.1 ∧ 0 ≤ t.2.1 ∧ 0 ≤ t.2.2
  | none => True
theorem ge_comb {a b : Option T3} {i j : Int} (h : ge1 i a) (g : ge1 j b) : ge1 (i + j) (comb a b) := by
  cases a with
  | none => trivial
  | some a =>
    cases b with
    | none => trivial
    | some b =>
      obtain ⟨h1, h2, h3⟩ := h
      obtain ⟨g1, g2, g3⟩ := g
      refine ⟨?_, ?_, ?_⟩
      · show i + j ≤ a.1 + b.1; omega
      · show 0 ≤ a.2.1 + b.2.1; omega
      · show 0 ≤ a.2.2 + b.2.2; omega
theorem ge_weak {i j : Int} {a : Option T3} (h : ge1 i a) (ij : j ≤ i) : ge1 j a := by
  cases a with
  | none => trivial
  | some a => exact ⟨Int.le_trans ij h.1, h.2⟩
theorem ge_fold {c : PyData → Option T3} {k : Int} (hc : ∀ t, ge1 0 (c t)) : ∀ (bs : List PyData) (acc : Option T3), ge1 k acc → ge1 k (bs.foldl (stepL c) acc)
  | [], acc, h => h
  | b :: bs, acc, h => by
    rw [List.foldl_cons]
    refine ge_fold hc bs _ ?_
    unfold stepL
    split
    · split
      · have z := ge_comb h (hc ‹_›)
        rw [Int.add_zero] at z
        exact z
      · trivial
    · trivial
theorem ge_lv : ∀ (m : Nat) (l : Int) (d : PyData), ge1 1 (lv m l d)
  | 0, _, _ => trivial
  | m + 1, l, d => by
    show ge1 1 (if nodeL d = true then lvOf (lv m (l + 1)) l d else none)
    split
    · unfold lvOf
      split
      · refine ge_fold (fun t => ge_weak (ge_lv m (l + 1) t) (by decide)) _ _ ⟨Int.le_refl _, ?_, ?_⟩
        · show (0 : Int) ≤ (_ : Nat)
          omega
        · show (0 : Int) ≤ if l ≤ 0 then ((_ : Nat) : Int) else 0
          split <;> omega
      · trivial
    · trivial
theorem ge_tot : ∀ es : List (PyData × Int), ge1 0 (tot es)
  | [] => ⟨Int.le_refl _, Int.le_refl _, Int.le_refl _⟩
  | e :: es => by
    have z := ge_comb (ge_lv (4 - e.2).toNat e.2 e.1) (ge_tot es)
    exact ge_weak z (by decide)
/-! the program's own count beside it -/
def three (z : Int) (x : Int × Int) : T3 := (x.1, x.2, z)
theorem br_cases (b : PyData) : (∃ u t, b = .tuple [.str u, t]) ∨ ((∀ c a, stepL c a b = none) ∧ ∀ c a, stepB c a b = none) := by
  by_cases h : ∃ u t, b = .tuple [.str u, t]
  · exact .inl h
  · refine .inr ⟨fun c a => ?_, fun c a => ?_⟩
    · unfold stepL
      split
      · exact absurd ⟨_, _, rfl⟩ h
      · rfl
    · unfold stepB
      split
      · rfl
      · split
        · exact absurd ⟨_, _, rfl⟩ h
        · rfl
theorem of_cases (d : PyData) : (∃ a bs r, d = .tuple (a :: .tuple bs :: r)) ∨ ((∀ c l, lvOf c l d = none) ∧ ∀ c, cntOf c d = none) := by
  by_cases h : ∃ a bs r, d = .tuple (a :: .tuple bs :: r)
  · exact .inl h
  · refine .inr ⟨fun c l => ?_, fun c => ?_⟩
    · unfold lvOf
      split
      · exact absurd ⟨_, _, _, rfl⟩ h
      · rfl
    · unfold cntOf
      split
      · exact absurd ⟨_, _, _, rfl⟩ h
      · rfl
theorem fold_three {c : PyData → Option (Int × Int)} {c' : PyData → Option T3} (h : ∀ t, c' t = (c t).map (three 0)) (z : Int) : ∀ (bs : List PyData) (acc : Option (Int × Int)), bs.foldl (stepL c') (acc.map (three z)) = (bs.foldl (stepB c) acc).map (three z)
  | [], acc => rfl
  | b :: bs, acc => by
    rw [List.foldl_cons, List.foldl_cons, ← fold_three h z bs]
    congr 1
    cases acc with
    | none => exact stepL_none c' b
    | some xy =>
      rcases br_cases b with ⟨u, t, rfl⟩ | ⟨h1, h2⟩
      · show (if wordS u = true then comb (some (three z xy)) (c' t) else none) = Option.map (three z) (if wordS u = true then (match c t with | some pq => some (xy.1 + pq.1, xy.2 + pq.2) | none => none) else none)
        cases wordS u with
        | false => rfl
        | true =>
          rw [if_pos rfl, if_pos rfl, h]
          cases c t with
          | none => rfl
          | some pq => simp [comb, three]
      · rw [h1, h2]
        rfl
theorem isNode_pos {l : Int} (h : 0 < l) (d : PyData) : isNode l d = nodeL d := by
  rw [isNode_eq, decide_eq_true h, Bool.true_and]
  rfl
theorem lv_cnt : ∀ (m : Nat) (l : Int) (d : PyData), l + m = 4 → 0 < l → lv m l d = (cnt m d).map (three 0)
  | 0, _, _, _, _ => rfl
  | m + 1, l, d, e, h => by
    have el : 3 - (m : Int) = l := by omega
    show (if nodeL d = true then lvOf (lv m (l + 1)) l d else none) = Option.map (three 0) (if isNode (3 - (m : Int)) d = true then cntOf (cnt m) d else none)
    rw [el, isNode_pos h]
    split
    · rcases of_cases d with ⟨a, bs, r, rfl⟩ | ⟨h1, h2⟩
      · show bs.foldl (stepL (lv m (l + 1))) (some (start l r.length)) = (bs.foldl (stepB (cnt m)) (some (1, (r.length : Int)))).map (three 0)
        rw [← fold_three (fun t => lv_cnt m (l + 1) t (by omega) (by omega)) 0]
        congr 1
        show some (start l _) = some _
        unfold start three
        rw [if_neg (by omega)]
      · rw [h1, h2]
        rfl
    · rfl
/-- the law's verdict at the root -/
def root (d : PyData) : Option T3 := lvl (d, 0)
theorem start_z {c : PyData → Option T3} (hc : ∀ t, ge1 0 (c t)) : ∀ (bs : List PyData) (acc t : T3), 1 ≤ acc.2.2 → bs.foldl (stepL c) (some acc) = some t → 1 ≤ t.2.2
  | [], acc, t, h, e => by
    cases e
    exact h
  | b :: bs, acc, t, h, e => by
    rw [List.foldl_cons] at e
    cases s : stepL c (some acc) b with
    | none =>
      rw [s, foldL_none] at e
      cases e
    | some u =>
      rw [s] at e
      refine start_z hc bs u t ?_ e
      unfold stepL at s
      split at s
      · split at s
        · rename_i t' _
          have g := hc t'
          cases q : c t' with
          | none => rw [q] at s; cases s
          | some v =>
            rw [q] at s g
            cases s
            have := g.2.2
            show 1 ≤ acc.2.2 + v.2.2
            omega
        · cases s
      · cases s
theorem shape_root (c : Int) (d : PyData) : shape c d = true ↔ ∃ n, root d = some (n, c, 0) ∧ n ≤ 6 := by
  unfold shape
  have e : root d = if nodeL d = true then lvOf (fun t => lvl (t, 0 + 1)) 0 d else none := lvl_eq (by decide) (by decide)
  have ec : cnt 4 d = if isNode (3 - ((3 : Nat) : Int)) d = true then cntOf (cnt 3) d else none := rfl
  have i0 : isNode (3 - ((3 : Nat) : Int)) d = (isPair d && nodeP d) := by
    rw [isNode_eq]
    simp
  have hb : ∀ t, (fun t => lvl (t, (0 : Int) + 1)) t = (cnt 3 t).map (three 0) := fun t => lv_cnt 3 1 t rfl (by decide)
  cases hp : isPair d with
  | true =>
    have nl : nodeL d = nodeP d := by
      unfold nodeL
      rw [hp, Bool.true_or, Bool.true_and]
    rw [hp, Bool.true_and, ← nl] at i0
    rw [i0] at ec
    have er : root d = (cnt 4 d).map (three 0) := by
      rw [e, ec]
      split
      · rcases of_cases d with ⟨a, bs, r, rfl⟩ | ⟨h1, h2⟩
        · have r0 : r = [] := by
            have y : (a :: PyData.tuple bs :: r).length = 2 := of_decide_eq_true hp
            cases r with
            | nil => rfl
            | cons x r => simp at y
          subst r0
          show bs.foldl (stepL fun t => lvl (t, 0 + 1)) (some (start 0 0)) = (bs.foldl (stepB (cnt 3)) (some (1, 0))).map (three 0)
          rw [← fold_three hb 0]
          rfl
        · rw [h1, h2]
          rfl
      · rfl
    rw [er]
    cases cnt 4 d with
    | none => simp
    | some xy =>
      obtain ⟨x, y⟩ := xy
      simp only [Option.map_some, three]
      constructor
      · intro h
        obtain ⟨h1, h2⟩ := Bool.and_eq_true_iff.mp h
        have h2' := V.int.inj (of_decide_eq_true h2)
        have h2'' : y = c := h2'
        exact ⟨x, by rw [h2''], of_decide_eq_true h1⟩
      · rintro ⟨n, h1, h2⟩
        cases h1
        rw [decide_eq_true h2, decide_eq_true rfl]
        rfl
  | false =>
    have nn : cnt 4 d = none := by
      rw [ec, i0, hp, Bool.false_and]
      rfl
    rw [nn]
    constructor
    · intro h
      cases h
    · rintro ⟨n, h1, h2⟩
      exfalso
      rw [e] at h1
      split at h1
      · rename_i hn
        unfold nodeL at hn
        rw [hp, Bool.false_or] at hn
        have hcl := (Bool.and_eq_true_iff.mp hn).1
        rcases of_cases d with ⟨a, bs, r, rfl⟩ | ⟨g1, g2⟩
        · have y : (a :: PyData.tuple bs :: r).length = 3 := of_decide_eq_true (Bool.and_eq_true_iff.mp hcl).1
          have r1 : r.length = 1 := by simpa using y
          have z := start_z (fun t => ge_weak (ge_lv _ _ t) (by decide)) bs _ _ (by
            show 1 ≤ if (0 : Int) ≤ 0 then ((r.length : Nat) : Int) else 0
            rw [r1]
            decide) h1
          exact absurd z (by show ¬ (1 : Int) ≤ 0; decide)
        · rw [g1] at h1
          cases h1
      · cases h1
end K01
set_option Elab.async false
set_option linter.all false
set_option maxRecDepth 100000
set_option maxHeartbeats 4000000
namespace K01
open PySem L2 L2H DQ RZ
open PySem.Builtin PySem.Builtin.Str
def qcall : Str := "'call'"
theorem qcall_cps : qcall.cps.toList = [39, 99, 97, 108, 108, 39] := by decide +kernel
theorem call_cps : ("call" : Str).cps.toList = [99, 97, 108, 108] := by decide +kernel
theorem not_last {x y : Str} {c : Nat} (h : y.cps.toList.getLast? = some c) (hc : c ≠ 39) : x ++ y ≠ qcall := by
  intro e
  have z : (x ++ y).cps.toList = qcall.cps.toList := by rw [e]
  have z2 : (x ++ y).cps.toList = x.cps.toList ++ y.cps.toList := Array.toList_append
  rw [z2, qcall_cps] at z
  have g := congrArg List.getLast? z
  rw [List.getLast?_append, h] at g
  exact hc (Option.some.inj g)
theorem char_or (q c : Nat) : reprChar q c = [c] ∨ ∃ r, reprChar q c = 92 :: r := by
  unfold reprChar
  dsimp only
  repeat' split
  all_goals first | exact .inl rfl | exact .inr ⟨_, rfl⟩
theorem flat_self {q : Nat} : ∀ (l out : List Nat), 92 ∉ out → l.flatMap (reprChar q) = out → l = out
  | [], out, _, e => e
  | c :: l, out, h, e => by
    rw [List.flatMap_cons] at e
    rcases char_or q c with z | ⟨r, z⟩
    · rw [z] at e
      cases out with
      | nil => cases e
      | cons o out =>
        rw [List.singleton_append] at e
        obtain ⟨e1, e2⟩ := List.cons.inj e
        rw [e1, flat_self l out (fun hm => h (List.mem_cons_of_mem _ hm)) e2]
    · rw [z] at e
      exact absurd (by rw [← e]; exact List.mem_cons_self ..) h
theorem fold_flat (q : Nat) : ∀ (l : List Nat) (acc : Array Nat), (l.foldl (fun out c => out ++ (reprChar q c).toArray) acc).toList = acc.toList ++ l.flatMap (reprChar q)
  | [], acc => by simp
  | c :: l, acc => by
    rw [List.foldl_cons, fold_flat q l, List.flatMap_cons]
    simp
theorem str_ext' {a b : Str} (h : a.cps.toList = b.cps.toList) : a = b := by
  obtain ⟨x⟩ := a
  obtain ⟨y⟩ := b
  have e : x = y := Array.toList_inj.mp h
  rw [e]
theorem repr_call (x : Str) : reprText x = qcall ↔ x = "call" := by
  constructor
  · intro e
    have z : (reprText x).cps.toList = qcall.cps.toList := by rw [e]
    have z2 : (reprText x).cps.toList = (reprQuote x :: x.cps.toList.flatMap (reprChar (reprQuote x))) ++ [reprQuote x] := by
      unfold reprText
      rw [Array.toList_push, ← Array.foldl_toList, fold_flat]
      rfl
    rw [z2, qcall_cps, List.cons_append] at z
    obtain ⟨_, z3⟩ := List.cons.inj z
    have z4 : x.cps.toList.flatMap (reprChar (reprQuote x)) = [99, 97, 108, 108] := by
      have g := congrArg List.dropLast z3
      rw [List.dropLast_concat] at g
      exact g
    refine str_ext' ?_
    rw [call_cps]
    exact flat_self _ _ (by decide) z4
  · rintro rfl
    decide +kernel
theorem shown_call (d : PyData) : d.shown = qcall ↔ d = .str "call" := by
  constructor
  · intro e
    cases d with
    | none => exact absurd e (by decide +kernel)
    | bool b => cases b <;> exact absurd e (by decide +kernel)
    | int i =>
      exfalso
      have e' : ((toString i : String) : Str) = qcall := e
      have z := PyProof.Rows.int_text_free' 39 ⟨by decide, by decide⟩ i
      rw [e', qcall_cps] at z
      exact z (List.mem_cons_self ..)
    | str x => rw [(repr_call x).mp e]
    | list xs => exact absurd e (not_last (c := 93) (by decide +kernel) (by decide))
    | tuple xs =>
      refine absurd e (not_last (c := 41) ?_ (by decide))
      split
      · decide +kernel
      · decide +kernel
    | dict xs => exact absurd e (not_last (c := 125) (by decide +kernel) (by decide))
  · rintro rfl
    exact (repr_call _).mpr rfl
theorem callS_shown (x : PyData) : isCallS (some x) = decide (V.str x.shown = V.str qcall) := by
  rw [Bool.eq_iff_iff, decide_eq_true_eq]
  constructor
  · intro h
    cases x with
    | str y =>
      have z := V.str.inj (of_decide_eq_true h)
      rw [z]
      exact congrArg V.str ((shown_call _).mpr rfl)
    | _ => cases h
  · intro h
    have z := (shown_call x).mp (V.str.inj h)
    rw [z]
    show decide (V.str ("call" : Str) = V.str "call") = true
    exact decide_eq_true rfl
end K01
set_option Elab.async false
set_option linter.all false
set_option maxRecDepth 100000
set_option maxHeartbeats 4000000
namespace K01
open PySem L2 L2H DQ RZ
theorem bset : bootBuiltins ("set" : Str) = some (.type "set") := by decide +kernel
theorem blist : bootBuiltins ("list" : Str) = some (.type "list") := by decide +kernel
theorem bsorted : bootBuiltins ("sorted" : Str) = some (.builtin "sorted") := by decide +kernel
theorem brepr : bootBuiltins ("repr" : Str) = some (.builtin "repr") := by decide +kernel
structure TC (mg : Str → Option Value) : Prop where
  tp : TP mg
  list : mg "list" = none
  set : mg "set" = none
  sorted : mg "sorted" = none
  repr : mg "repr" = none
section
variable {P : Program} {w : World} {K : PySem.W.Frag} {mg : Str → Option Value} {base : Heap}
theorem cr_setP {X : Cx} (hP : X.prog = P) (hw : X.w = w) (hK : X.K = K) (hc : X.calm = true) : CallR X (.type "set") (SX.rSetTx P w K) := by
  subst hP hw hK
  exact SX.cr_setTx hc
theorem cr_sortP {X : Cx} (hP : X.prog = P) (hw : X.w = w) (hc : X.calm = true) : CallR X (.builtin "sorted") (SX.rSortTx P w) := by
  subst hP hw
  exact SX.cr_sortTx hc
abbrev nCl : List Str := ["thing", "queue", "size", "found", "node", "level", "marks", "branches", "one", "branch"]
theorem scCl : FnScope nCl ["thing"] (defScope sCalls) := ⟨rfl, rfl, rfl, by decide +kernel, rfl, by decide +kernel, by decide +kernel⟩
/-- how repr of such data goes, of it and of all within it -/
def OkD (d : PyData) : Prop := d.showable = true ∧ d.depth ≤ 60 ∧ d.shown.length ≤ sizeLine
inductive Within : PyData → PyData → Prop
  | self (d : PyData) : Within d d
  | tup {x y : PyData} {ds : List PyData} : y ∈ ds → Within x y → Within x (.tuple ds)
  | lst {x y : PyData} {ds : List PyData} : y ∈ ds → Within x y → Within x (.list ds)
def OkT (d : PyData) : Prop := ∀ x, Within x d → OkD x
theorem OkT.self {d : PyData} (h : OkT d) : OkD d := h d (.self d)
theorem OkT.tup {x : PyData} {ds : List PyData} (h : OkT (.tuple ds)) (hx : x ∈ ds) : OkT x := fun y w => h y (.tup hx w)
def zr (fs : List Int) : Int := ((fs.filter fun x => decide (x ≤ 0)).length : Int)
/-- what the law's count hands back -/
def CallsV (H : Hp) (r : V) (d : PyData) : Prop :=
  (r = .non ∧ ∀ n c z, root d = some (n, c, z) → 6 < n) ∨ ∃ p fs n, r = .ref p ∧ H p = some (.lst (fs.map V.int)) ∧ root d = some (n, (fs.length : Int), zr fs) ∧ n ≤ 6
def spCl : Sp := fun vs H Q _ => ∃ (v : V) (d : PyData), vs = [v] ∧ Sys H ∧ Dq H v d ∧ OkT d ∧ ∀ r H', Same H H' → CallsV H' r d → Q r H'
inductive Stk (H H' : Hp) : List V → List (PyData × Int) → Prop
  | nil : Stk H H' [] []
  | cons {e : Addr} {v : V} {d : PyData} {l : Int} {es : List V} {st : List (PyData × Int)} : H' e = some (.tup [v, .int l]) → Dq H v d → OkT d → 0 ≤ l → Stk H H' es st → Stk H H' (.ref e :: es) ((d, l) :: st)
theorem Stk.app {H H' : Hp} : ∀ {es fs : List V} {st tt : List (PyData × Int)}, Stk H H' es st → Stk H H' fs tt → Stk H H' (es ++ fs) (st ++ tt)
  | _, _, _, _, .nil, b => b
  | _, _, _, _, .cons h1 h2 h3 h4 t, b => .cons h1 h2 h3 h4 (t.app b)
theorem Stk.keep {H H' H'' : Hp} (s : ∀ b xs, H' b = some (.tup xs) → H'' b = some (.tup xs)) : ∀ {es : List V} {st : List (PyData × Int)}, Stk H H' es st → Stk H H'' es st
  | _, _, .nil => .nil
  | _, _, .cons h1 h2 h3 h4 t => .cons (s _ _ h1) h2 h3 h4 (t.keep s)
theorem Stk.last {H H' : Hp} : ∀ {es : List V} {st : List (PyData × Int)}, Stk H H' es st → es ≠ [] → ∃ es' e v d l st', es = es' ++ [V.ref e] ∧ st = st' ++ [(d, l)] ∧ H' e = some (.tup [v, .int l]) ∧ Dq H v d ∧ OkT d ∧ 0 ≤ l ∧ Stk H H' es' st'
  | _, _, .nil, h => absurd rfl h
  | _, _, .cons (es := es) h1 h2 h3 h4 t, _ => by
    by_cases hn : es = []
    · subst hn
      cases t
      exact ⟨[], _, _, _, _, [], rfl, rfl, h1, h2, h3, h4, .nil⟩
    · obtain ⟨es', e, v, d, l, st', rfl, rfl, g1, g2, g3, g4, g5⟩ := t.last hn
      exact ⟨_ :: es', e, v, d, l, _ :: st', rfl, rfl, g1, g2, g3, g4, .cons h1 h2 h3 h4 g5⟩
/-- the law's loop: the stack, how many nodes, the levels that were found -/
structure LS (H H' : Hp) (q f : Addr) (es : List V) (st : List (PyData × Int)) (n : Int) (fs : List Int) (d : PyData) : Prop where
  sm : Same H H'
  hq : H' q = some (.lst es)
  hf : H' f = some (.lst (fs.map V.int))
  nq : H q = none
  nf : H f = none
  qf : q ≠ f
  sk : Stk H H' es st
  n0 : 0 ≤ n
  n6 : n ≤ 6
  el : (es.length : Int) ≤ 3 * n + 1
  fl : (fs.length : Int) ≤ n
  eq : comb (some (n, (fs.length : Int), zr fs)) (tot st) = root d
theorem LS.same {H H' H'' : Hp} {q f : Addr} {es : List V} {st : List (PyData × Int)} {n : Int} {fs : List Int} {d : PyData} (L : LS H H' q f es st n fs d) (s : Same H' H'') : LS H H'' q f es st n fs d :=
  ⟨same_trans L.sm s, s _ _ L.hq, s _ _ L.hf, L.nq, L.nf, L.qf, L.sk.keep fun b xs e => s _ _ e, L.n0, L.n6, L.el, L.fl, L.eq⟩
def sizeOf (σ : L2.St) : Nat := match σ[2]? with | some (some (V.int n)) => (7 - n).toNat | _ => 0
/-- t[lo:hi], whichever object it is -/
def rSlE (K : PySem.W.Frag) : V → Option Int → Option Int → Hp → VK → Prop := fun x lo hi H Q => ∃ a xs, x = .ref a ∧ SqT K H a xs ∧ ∀ p H', Same H H' → SqT K H' p (cutV xs lo hi) → Q (.ref p) H'
theorem sl_tupE {X : Cx} : SlR X (rSlE X.K) := by
  intro pins s σ H x v vl vu lo hi sl Q I rx hs pl pu h
  obtain ⟨a, xs, rfl, sq, g⟩ := h
  refine sl_tupA pins s σ H _ v vl vu lo hi sl Q I rx hs pl pu ⟨a, xs, rfl, sq, fun wh => g a H same_refl ?_, fun _ p np => g p _ (same_new np) (SqT.of upd_same)⟩
  have z : cutV xs lo hi = xs := by
    unfold cutV
    rw [wh.1, wh.2, List.drop_zero, Nat.sub_zero, List.take_length]
  rw [z]
  exact sq
theorem cut_two (x y : V) (r : List V) : cutV (x :: y :: r) none (some 2) = [x, y] := by
  have e : HT.sIx (x :: y :: r).length (x :: y :: r).length (some ((2 : Nat) : Int)) = 2 := by
    rw [HT.sIx_nat, List.length_cons, List.length_cons]
    omega
  have e' : HT.sIx (x :: y :: r).length (x :: y :: r).length (some 2) = 2 := e
  unfold cutV
  rw [e', HT.sIx_none]
  rfl
theorem in23 (n : Nat) : inV (V.int (n : Int)) [V.int 2, V.int 3] = decide (n = 2 ∨ n = 3) := by
  rw [Bool.eq_iff_iff, decide_eq_true_eq]
  simp [inV, eqV]
  omega
theorem not_node {d : PyData} {l : Int} (h3 : l ≤ 3) (h0 : 0 ≤ l) (h : nodeL d = false) : lvl (d, l) = none := by
  rw [lvl_eq h3 h0, h]
  rfl
theorem strs_vals {H : Hp} : ∀ {vs : List V} {ws : List Str}, DqAll H vs (ws.map PyData.str) → vs = ws.map V.str
  | _, [], .nil => rfl
  | _, w :: ws, .cons h t => by
    cases h
    rw [strs_vals t]
    rfl
theorem comb4 (a t u b : Option T3) : comb a (comb t (comb u b)) = comb (comb a u) (comb t b) := by
  rw [comb_assoc a u, ← comb_assoc u t b, comb_comm u t, comb_assoc t u b]
theorem stepL_bad {b : PyData} (h : goodB b = false) (c : PyData → Option T3) (a : Option T3) : stepL c a b = none := by
  rcases br_cases b with ⟨u, t, rfl⟩ | ⟨h1, _⟩
  · have hw : wordS u = false := h
    show (if wordS u = true then comb a (c t) else none) = none
    rw [hw]
    rfl
  · exact h1 c a
theorem good_len {es : List PyData} (h : es.length ≠ 2) : goodB (.tuple es) = false := by
  match es, h with
  | [], _ => rfl
  | [.str u], _ => rfl
  | [.none], _ => rfl
  | [.bool _], _ => rfl
  | [.int _], _ => rfl
  | [.list _], _ => rfl
  | [.tuple _], _ => rfl
  | [.dict _], _ => rfl
  | [_, _], h => exact absurd rfl h
  | .str _ :: _ :: _ :: _, _ => rfl
  | .none :: _ :: _ :: _, _ => rfl
  | .bool _ :: _ :: _ :: _, _ => rfl
  | .int _ :: _ :: _ :: _, _ => rfl
  | .list _ :: _ :: _ :: _, _ => rfl
  | .tuple _ :: _ :: _ :: _, _ => rfl
  | .dict _ :: _ :: _ :: _, _ => rfl
theorem good_two (u t : PyData) : goodB (.tuple [u, t]) = isWord u := by cases u <;> rfl
theorem zr_app (fs : List Int) (l : Int) : zr (fs ++ [l]) = zr fs + (if l ≤ 0 then 1 else 0) := by
  unfold zr
  rw [List.filter_append, List.length_append]
  by_cases h : l ≤ 0
  · simp [h]
  · simp [h]
theorem lvl_node {a b : PyData} {bs r : List PyData} {l : Int} (h3 : l ≤ 3) (h0 : 0 ≤ l) (hn : nodeL (.tuple (a :: .tuple bs :: r)) = true) : lvl (.tuple (a :: .tuple bs :: r), l) = bs.foldl (stepL fun t => lvl (t, l + 1)) (some (start l r.length)) := by
  rw [lvl_eq h3 h0, if_pos hn]
  rfl
theorem ok_calls {f fN : Addr} {fd dN : FuncData} (F : Fun K "_law_calls" "_law_calls" sCalls f fd) (FN : Fun K "_law_is_name" "_law_is_name" sName fN dN) (bN : Binds K dN ["thing"] []) (gN : mg "_law_is_name" = some (.ref fN)) (T : TC mg) :
    FnG P w K mg base 3 f fd "thing" spCl := by
  have GN : FnOk P w K mg base CX0 1 fN dN ["thing"] (spB isWord) := ok_name FN T.tp
  refine fnG_of F scCl fun cdv A outer s H v Q E hr hg h => ?_
  have hu2 : (A.deeper (PyProof.Rows.envOfC "_law_calls" (defScope sCalls) s.heap.objs.size f cdv)).units + 64 < cLine := by have := hr.un; omega
  have hu1 : (A.deeper (PyProof.Rows.envOfC "_law_calls" (defScope sCalls) s.heap.objs.size f cdv)).units < cLine := by omega
  have hu3 : (A.deeper (PyProof.Rows.envOfC "_law_calls" (defScope sCalls) s.heap.objs.size f cdv)).units + 100 < cLine := by have := hr.un; omega
  have hgd : (A.deeper (PyProof.Rows.envOfC "_law_calls" (defScope sCalls) s.heap.objs.size f cdv)).guards = some [] := hg
  refine ⟨_, pss_cons (ps_par3 rfl scCl.nd (i := 1) (j := 2) (l := 3) rfl rfl rfl (by decide) (by decide) (by decide) rfl rfl rfl (pa_cons (pe_lst (pa_cons (pe_tup (pa_cons (pv 0) (pa_cons pe_int pa_nil))) pa_nil)) (pa_cons pe_int (pa_cons (pe_lst pa_nil) pa_nil))) rfl)
    (pss_cons (ps_while PassesOwn.never (pt_cmpR (NI.op_neNil hu1) (pv 1) (pe_lst pa_nil) (by rfl))
      (pss_cons (ps_asg (pe_bm0 PySem.F.plainAttrs_list PySem.F.slot_list_pop PySem.F.type_list_pop mt_pop (pv 1)) (pg_tup (n := 2) rfl (pgs_cons (pg_name (i := 4) scCl.nd rfl (Or.inl rfl)) (pgs_cons (pg_name (i := 5) scCl.nd rfl (Or.inl rfl)) pgs_nil))))
      (pss_cons (ps_set (i := 2) scCl.nd rfl (Or.inl rfl) (pe_op op_add (pv 2) pe_int))
      (pss_cons (ps_if (PW.pt (pw_or (pt_cmpR op_gt (pv 2) pe_int (by rfl)) (pw_or (pt_cmpR op_gt (pv 5) pe_int (by rfl)) (pw_or (pt_not (pt_val (pe_callB call_isi (by rfl) T.tp.isi bisi (pa_cons (pv 4) (pa_cons (pe_bltn (v := .ty "tuple") (by rfl) T.tp.tuple btup rfl) pa_nil)))))
          (pw_or1 (pt_cmpR op_notIn_seq (pe_callB call_len_seq (by rfl) T.tp.len PySem.boot_len (pa_cons (pv 4) pa_nil)) (pe_tup (pa_cons pe_int (pa_cons pe_int pa_nil))) (by rfl))))))) (pss_one (ps_ret pe_non)) pss_nil)
      (pss_cons (ps_asg (pe_slice sl_tupE (pv 4) po_none (po_some pe_int)) (pg_tup (n := 2) rfl (pgs_cons (pg_name (i := 6) scCl.nd rfl (Or.inl rfl)) (pgs_cons (pg_name (i := 7) scCl.nd rfl (Or.inl rfl)) pgs_nil))))
      (pss_cons (ps_if (PW.pt (pw_or (pt_not (pt_val (pe_callB call_isi (by rfl) T.tp.isi bisi (pa_cons (pv 6) (pa_cons (pe_bltn (v := .ty "tuple") (by rfl) T.tp.tuple btup rfl) pa_nil))))) (pw_or (pt_cmpR op_gt (pe_callB call_len_seq (by rfl) T.tp.len PySem.boot_len (pa_cons (pv 6) pa_nil)) pe_int (by rfl))
          (pw_or1 (pt_cmpR (NI.op_neNil hu1) (pe_lc (own := [("one", 8)]) (g := gName 8) rfl scCl.nd (pi_tup (pv 6)) (blkOk_by (own := [("one", 8)]) (N := nCl) (sc := defScope sCalls) (by decide +kernel))
            (fun _ _ _ _ _ => pg_name (i := 8) scCl.nd rfl (Or.inl rfl)) (fun _ _ _ _ _ => pts_one (pt_not (pt_val (pe_call GN (hr.mono (by decide)) (by rfl) gN FN.kp bN .nil pass0 (pa_cons (pv 8) pa_nil))))) (fun _ _ _ _ _ => pv 8)) (pe_lst pa_nil) (by rfl)))))) (pss_one (ps_ret pe_non)) pss_nil)
      (pss_cons (ps_if (PW.pt (pw_or (pt_cmpR (op_neD hu2) (pe_callTy call_list_of (by rfl) T.list blist (pa_cons (pv 6) pa_nil)) (pe_callB (cr_sortP (P := P) (w := w) rfl rfl rfl) (by rfl) T.sorted bsorted (pa_cons (pe_callTy (cr_setP (P := P) (w := w) (K := K) rfl rfl rfl rfl) (by rfl) T.set bset (pa_cons (pv 6) pa_nil)) pa_nil)) (by rfl))
          (pw_or (pt_not (pt_val (pe_callB call_isi (by rfl) T.tp.isi bisi (pa_cons (pv 7) (pa_cons (pe_bltn (v := .ty "tuple") (by rfl) T.tp.tuple btup rfl) pa_nil))))) (pw_or1 (pt_cmpR op_gt (pe_callB call_len_seq (by rfl) T.tp.len PySem.boot_len (pa_cons (pv 7) pa_nil)) pe_int (by rfl)))))) (pss_one (ps_ret pe_non)) pss_nil)
      (pss_cons (ps_if (pt_cmpR op_eq (pe_callB call_len_seq (by rfl) T.tp.len PySem.boot_len (pa_cons (pv 4) pa_nil)) pe_int (by rfl))
          (pss_cons (ps_if (pt_cmpR op_ne (pe_callB (call_reprX hgd hu3) (by rfl) T.repr brepr (pa_cons (pe_ix ix_tup (pv 4) pe_int (fun _ _ => rfl)) pa_nil)) pe_str (by rfl)) (pss_one (ps_ret pe_non)) pss_nil)
          (pss_one (ps_expr (pe_bm PySem.F.plainAttrs_list PySem.F.slot_list_append PySem.F.type_list_append mt_append (pv 3) (pa_cons (pv 5) pa_nil))))) pss_nil)
      (pss_one (ps_for PassesOwn.never rfl (pi_tup (pv 7)) (pg_name (i := 9) scCl.nd rfl (Or.inl rfl))
        (pss_cons (ps_if (PW.pt (pw_or (pt_not (pt_val (pe_callB call_isi (by rfl) T.tp.isi bisi (pa_cons (pv 9) (pa_cons (pe_bltn (v := .ty "tuple") (by rfl) T.tp.tuple btup rfl) pa_nil)))))
            (pw_or (pt_cmpR op_ne (pe_callB call_len_seq (by rfl) T.tp.len PySem.boot_len (pa_cons (pv 9) pa_nil)) pe_int (by rfl)) (pw_or1 (pt_not (pt_val (pe_call GN (hr.mono (by decide)) (by rfl) gN FN.kp bN .nil pass0 (pa_cons (pe_ix ix_tup (pv 9) pe_int (fun _ _ => rfl)) pa_nil)))))))) (pss_one (ps_ret pe_non)) pss_nil)
        (pss_one (ps_expr (pe_bm PySem.F.plainAttrs_list PySem.F.slot_list_append PySem.F.type_list_append mt_append (pv 1) (pa_cons (pe_tup (pa_cons (pe_ix ix_tup (pv 9) pe_int (fun _ _ => rfl)) (pa_cons (pe_op op_add (pv 5) pe_int) pa_nil))) pa_nil)))))))))))))))
    (pss_one (ps_ret (pv 3)))), ?_⟩
  obtain ⟨v', d0, e, sy, hd, ok, k⟩ := h
  obtain rfl : v = v' := List.head_eq_of_cons_eq e
  refine ⟨_, rfl, by show 2 ≤ sizeLine; decide, fun e0 ne0 => ⟨by show 1 ≤ sizeLine; decide, fun q nq => ⟨Nat.zero_le _, fun fo nfo => ⟨_, _, _, rfl, ?_⟩⟩⟩⟩
  have s0 : Same H (upd H e0 (.tup [v, .int 0])) := same_new ne0
  have s1 := same_trans s0 (same_new (o := .lst [.ref e0]) nq)
  have s2 := same_trans s1 (same_new (o := .lst []) nfo)
  refine while_by (fun σ' H' => ∃ es st n fs w4 w5 w6 w7 w8 w9, σ' = [some v, some (V.ref q), some (V.int n), some (V.ref fo), w4, w5, w6, w7, w8, w9] ∧ LS H H' q fo es st n fs d0) (fun σ' _ => sizeOf σ')
    ⟨[.ref e0], [(d0, 0)], 0, [], none, none, none, none, none, none, rfl, ?_⟩ ?_ ?_
  · refine ⟨s2, ?_, upd_same, same_out s0 nq, same_out s1 nfo, ?_, .cons ?_ hd ok (Int.le_refl _) .nil, Int.le_refl _, by decide, Int.le_refl 1, Int.le_refl _, ?_⟩
    · exact same_new (o := .lst []) nfo _ _ upd_same
    · exact ne_of_none upd_same nfo
    · exact same_new (o := .lst []) nfo _ _ (same_new (o := .lst [.ref e0]) nq _ _ upd_same)
    · rw [comb_comm]
      show comb (comb (lvl (d0, 0)) (some (0, 0, 0))) (some (0, 0, 0)) = root d0
      rw [comb_zero, comb_zero]
      rfl
  · rintro σ' H' ⟨es, st, n, fs, w4, w5, w6, w7, w8, w9, rfl, L⟩
    refine ⟨_, rfl, Nat.zero_le _, fun p np => ⟨q, p, es, rfl, rfl, SqL.of (same_new np _ _ L.hq), SqL.of upd_same, _, rfl, ?_⟩⟩
    have L1 := L.same (same_new (o := .lst []) np)
    generalize upd H' p (HO.lst []) = H1 at L1
    by_cases he : es = []
    · subst he
      refine iteF ⟨_, rfl, k _ _ L1.sm (.inr ⟨fo, fs, n, rfl, L1.hf, ?_, L1.n6⟩)⟩
      have z := L1.eq
      have st0 : st = [] := by
        have y := L1.sk
        cases y
        rfl
      subst st0
      rw [← z]
      exact comb_zero _
    · have hne : (!es.isEmpty) = true := by cases es with | nil => exact absurd rfl he | cons a b => rfl
      obtain ⟨es', e1, v1, d, l, st', rfl, rfl, g1, g2, g3, g4, g5⟩ := L1.sk.last he
      show (if (!(es' ++ [V.ref e1]).isEmpty) = true then _ else _)
      rw [if_pos hne]
      have hl : (es' ++ [V.ref e1])[(es' ++ [V.ref e1]).length - 1]? = some (V.ref e1) := by simp
      refine ⟨_, rfl, .inl ⟨rfl, _, SqL.of L1.hq⟩, q, _, .ref e1, rfl, rfl, L1.hq, hl, ?_⟩
      rw [List.dropLast_concat]
      have qe : q ≠ e1 := fun z => by rw [← z, L1.hq] at g1; cases g1
      have u1 : ∀ b xs, H1 b = some (.tup xs) → upd H1 q (.lst es') b = some (.tup xs) := fun b xs z => by
        rw [upd_ne fun y => by rw [y, L1.hq] at z; cases z]
        exact z
      refine ⟨e1, _, rfl, SqT.of (u1 _ _ g1), rfl, _, _, rfl, _, _, rfl, rfl, ?_⟩
      refine ⟨_, rfl, _, _, rfl, rfl, ?_⟩
      have sm2 : Same H (upd H1 q (.lst es')) := fun b o z => by
        rw [upd_ne (ne_of_none z L1.nq)]
        exact L1.sm b o z
      have hq2 : upd H1 q (.lst es') q = some (.lst es') := upd_same
      have hf2 : upd H1 q (.lst es') fo = some (.lst (fs.map V.int)) := by
        rw [upd_ne L1.qf.symm]
        exact L1.hf
      have sk2 : Stk H (upd H1 q (.lst es')) es' st' := g5.keep u1
      generalize upd H1 q (HO.lst es') = H2 at sm2 hq2 hf2 sk2
      have eqW : comb (some (n, (fs.length : Int), zr fs)) (comb (tot st') (lvl (d, l))) = root d0 := by
        rw [← L1.eq, tot_app]
        show _ = comb _ (comb (tot st') (comb (lvl (d, l)) (some (0, 0, 0))))
        rw [comb_zero]
      have stop : lvl (d, l) = none → ∀ H3, Same H H3 → Q .non H3 := fun h H3 s3 => k .non H3 s3 (.inl ⟨rfl, fun a b c e => by
        rw [← eqW, h, comb_none, comb_none] at e
        cases e⟩)
      have stop6 : 6 < n + 1 → ∀ H3, Same H H3 → Q .non H3 := fun h H3 s3 => k .non H3 s3 (.inl ⟨rfl, fun a b c e => by
        have y : ge1 (n + (0 + 1)) (root d0) := by
          rw [← eqW]
          refine ge_comb ⟨Int.le_refl _, ?_, ?_⟩ (ge_comb (ge_tot st') (ge_lv _ _ _))
          · show (0 : Int) ≤ (_ : Nat)
            omega
          · show (0 : Int) ≤ ((List.length _ : Nat) : Int)
            omega
        rw [e] at y
        have y1 : n + (0 + 1) ≤ a := y.1
        omega⟩)
      refine ⟨_, rfl, _, _, rfl, rfl, _, rfl, ?_⟩
      by_cases h6 : 6 < n + 1
      · rw [decide_eq_true h6]
        exact iteT (stop6 h6 H2 sm2)
      rw [decide_eq_false h6]
      refine iteF ⟨_, rfl, _, _, rfl, rfl, _, rfl, ?_⟩
      by_cases h3 : 3 < l
      · rw [decide_eq_true h3]
        exact iteT (stop (lvl_deep h3) H2 sm2)
      rw [decide_eq_false h3]
      have l3 : l ≤ 3 := Int.not_lt.mp h3
      refine iteF ⟨_, rfl, _, .ty "tuple", _, _, _, rfl, .ty _, (g2.same sm2).ty, kit_ty (kt _), _, rfl, ?_⟩
      cases g2 with
      | @tup ad xs ds e a =>
        refine iteF ⟨_, rfl, _, _, rfl, .inr (SqT.of (sm2 _ _ e)), by show 2 ≤ sizeLine; decide, fun p3 np3 => ⟨p3, _, rfl, .inr (SqT.of upd_same), rfl, rfl, _, rfl, ?_⟩⟩
        have n3 : Same H2 (upd H2 p3 (.tup [.int 2, .int 3])) := same_new np3
        rw [if_pos rfl, in23, a.len]
        by_cases h32 : ¬ (ds.length = 2 ∨ ds.length = 3)
        · have h23 := h32
          rw [decide_eq_false h23]
          refine iteT (stop (not_node l3 g4 ?_) _ (same_trans sm2 n3))
          unfold nodeL
          have i2 : isPair (.tuple ds) = false := decide_eq_false fun z => h23 (.inl z)
          have i3 : isCall (.tuple ds) = false := by
            show (decide (ds.length = 3) && _) = false
            rw [decide_eq_false fun z => h23 (.inr z), Bool.false_and]
          rw [i2, i3]
          rfl
        have h23 : ds.length = 2 ∨ ds.length = 3 := Classical.not_not.mp h32
        rw [decide_eq_true h23]
        refine iteF ?_
        have sm3 := same_trans sm2 n3
        have hq3 := n3 _ _ hq2
        have hf3 := n3 _ _ hf2
        have sk3 : Stk H (upd H2 p3 (.tup [.int 2, .int 3])) es' st' := sk2.keep fun b xs z => n3 _ _ z
        generalize upd H2 p3 (HO.tup [V.int 2, V.int 3]) = H3 at sm3 hq3 hf3 sk3
        match ds, xs, a, h23, e, g3, eqW, stop with
        | a0 :: b0 :: r, va :: vb :: vs, .cons qa (.cons qb ar), h23, e, g3, eqW, stop =>
        have r01 : r.length = 0 ∨ r.length = 1 := by
          rw [List.length_cons, List.length_cons] at h23
          omega
        have nl : nodeL (.tuple (a0 :: b0 :: r)) = ((r.length = 0 || isCallS r[0]?) && (areMarks a0 && fewB b0)) := by
          unfold nodeL nodeP nodeB isPair isCall
          cases r with
          | nil => rfl
          | cons x r =>
            cases r with
            | nil => rfl
            | cons y r => simp at r01
        refine ⟨_, rfl, 2, rfl, ad, _, rfl, SqT.of (sm3 _ _ e), fun p4 H4 s4 q4 => ?_⟩
        rw [cut_two] at q4
        refine ⟨p4, _, rfl, q4, rfl, _, _, rfl, _, _, rfl, rfl, ?_⟩
        have sm4 := same_trans sm3 s4
        have hq4 := s4 _ _ hq3
        have hf4 := s4 _ _ hf3
        have sk4 : Stk H H4 es' st' := sk3.keep fun b xs z => s4 _ _ z
        clear q4 s4 hq3 hf3 sk3 hq2 hf2 sk2
        have noM : areMarks a0 = false → nodeL (.tuple (a0 :: b0 :: r)) = false := fun z => by rw [nl, z, Bool.false_and, Bool.and_false]
        have noB : fewB b0 = false → nodeL (.tuple (a0 :: b0 :: r)) = false := fun z => by rw [nl, z, Bool.and_false, Bool.and_false]
        refine ⟨_, rfl, _, .ty "tuple", _, _, _, rfl, .ty _, (qa.same sm4).ty, kit_ty (kt _), _, rfl, ?_⟩
        cases qa with
        | @tup am ms md em aM =>
          refine iteF ⟨_, rfl, _, _, rfl, .inr (SqT.of (sm4 _ _ em)), _, _, rfl, rfl, _, rfl, ?_⟩
          by_cases m3 : (3 : Int) < (ms.length : Int)
          · rw [decide_eq_true m3]
            refine iteT (stop (not_node l3 g4 (noM ?_)) _ sm4)
            show (decide (md.length ≤ 3) && _) = false
            rw [decide_eq_false (by rw [← aM.len]; omega), Bool.false_and]
          rw [decide_eq_false m3]
          refine iteF ⟨_, rfl, am, rfl, ⟨_, SqT.of (sm4 _ _ em)⟩, fun D nD => ?_⟩
          refine lc_it (walk_tup (xs := ms)) (fun i H' => Same H4 H' ∧ ∃ ys, H' D = some (.lst ys) ∧ ys.length ≤ i ∧ ys.isEmpty = (md.take i).all isWord) ⟨same_new nD, [], upd_same, Nat.le_refl _, rfl⟩ (fun i H' _ p => SqT.of (p.1 _ _ (sm4 _ _ em))) ?_ ?_
          · rintro i y H5 H6 hi ⟨s5, ys, ey, ly, hy⟩ ⟨rfl, hx⟩
            obtain ⟨di, hdi⟩ : ∃ di, md[i]? = some di := ⟨md[i]'(by rw [← aM.len]; exact hi), List.getElem?_eq_getElem _⟩
            obtain ⟨v5, hv5, qv⟩ := aM.at hdi
            obtain rfl : v5 = y := Option.some.inj (hv5.symm.trans hx)
            refine ⟨rfl, _, rfl, v5, di, rfl, qv.same (same_trans sm4 s5), fun H7 s7 => ⟨_, rfl, ?_⟩⟩
            have tk : (md.take (i + 1)).all isWord = ((md.take i).all isWord && isWord di) := by
              rw [List.take_add_one, hdi]
              show ((md.take i) ++ [di]).all isWord = _
              rw [List.all_append]
              simp
            cases hw : isWord di with
            | false =>
              refine iteT ⟨_, rfl, ys, s7 _ _ ey, small1000 ?_, fun b o z => ?_, ys ++ [v5], upd_same, ?_, ?_⟩
              · have : i < 4 := by omega
                omega
              · rw [upd_ne (ne_of_none z nD)]
                exact s7 _ _ (s5 b o z)
              · rw [List.length_append, List.length_singleton]
                omega
              · rw [tk, hw, Bool.and_false]
                cases ys <;> rfl
            | true =>
              refine iteF ⟨same_trans s5 s7, ys, s7 _ _ ey, Nat.le_succ_of_le ly, ?_⟩
              rw [tk, hw, Bool.and_true]
              exact hy
          rintro H5 ⟨s5, ys, ey, ly, hy⟩
          have tkm : md.take ms.length = md := List.take_of_length_le (by rw [aM.len]; exact Nat.le_refl _)
          rw [tkm] at hy
          refine ⟨Nat.zero_le _, fun p5 np5 => ⟨D, p5, ys, rfl, rfl, SqL.of (same_new np5 _ _ ey), SqL.of upd_same, _, rfl, ?_⟩⟩
          have s6 : Same H4 (upd H5 p5 (.lst [])) := same_trans s5 (same_new np5)
          generalize upd H5 p5 (HO.lst []) = H6 at s6
          rw [hy]
          cases hw : md.all isWord with
          | false =>
            refine iteT (stop (not_node l3 g4 (noM ?_)) _ (same_trans sm4 s6))
            show (decide (md.length ≤ 3) && (md.all isWord && _)) = false
            rw [hw, Bool.false_and, Bool.and_false]
          | true =>
          refine iteF ?_
          obtain ⟨ws, rfl, hws⟩ := words_of hw
          obtain rfl := strs_vals aM
          have sm6 := same_trans sm4 s6
          have hq6 := s6 _ _ hq4
          have hf6 := s6 _ _ hf4
          have sk6 : Stk H H6 es' st' := sk4.keep fun b xs z => s6 _ _ z
          have w3 : ws.length ≤ 3 := by
            rw [List.length_map] at m3
            omega
          refine ⟨_, rfl, am, _, rfl, .inr (SqT.of (sm6 _ _ em)), fun pl npl => ?_⟩
          have sl := same_new (o := .lst (ws.map V.str)) npl
          refine ⟨_, rfl, am, ws, rfl, SqT.of (sl _ _ (sm6 _ _ em)), by omega, fun pt npt => ?_⟩
          have st2 := same_new (o := SX.SetTO P w pt (SX.pack ws)) npt
          refine ⟨pt, _, rfl, upd_same, Nat.lt_of_le_of_lt (SX.pack_len ws) (by omega), fun ns pn hs hp npn => ?_⟩
          have sn := same_new (o := HO.lst (ns.map V.str)) npn
          have okw : ∀ x ∈ ws, PyData.strOk x = true := fun x hx => word_ok (hws x hx)
          have okn : ∀ x ∈ ns, PyData.strOk x = true := fun x hx => okw x (SX.pack_mem.mp (hp.mem_iff.mp hx))
          refine ⟨_, _, .lst (SqL.of (sn _ _ (st2 _ _ upd_same))) (dp_strs ws), .lst (SqL.of upd_same) (dp_strs ns), shaped_strs okw, shaped_strs okn, _, rfl, ?_⟩
          rw [← marks_eq w3 hws hs hp]
          have sm7 := same_trans (same_trans (same_trans sm6 sl) st2) sn
          have hq7 := sn _ _ (st2 _ _ (sl _ _ hq6))
          have hf7 := sn _ _ (st2 _ _ (sl _ _ hf6))
          have sk7 := sk6.keep fun b xs z => sn _ _ (st2 _ _ (sl _ _ z))
          clear sl st2 sn
          generalize upd (upd (upd H6 pl (HO.lst (ws.map V.str))) pt (SX.SetTO P w pt (SX.pack ws))) pn (HO.lst (ns.map V.str)) = H7 at sm7 hq7 hf7 sk7
          cases hm : areMarks (.tuple (ws.map PyData.str)) with
          | false => exact iteT (stop (not_node l3 g4 (noM hm)) _ sm7)
          | true =>
          refine iteF ⟨_, rfl, _, .ty "tuple", _, _, _, rfl, .ty _, (qb.same sm7).ty, kit_ty (kt _), _, rfl, ?_⟩
          cases qb with
          | @tup ab bv bd eb aB =>
            refine iteF ⟨_, rfl, _, _, rfl, .inr (SqT.of (sm7 _ _ eb)), _, _, rfl, rfl, _, rfl, ?_⟩
            by_cases b3 : (3 : Int) < (bv.length : Int)
            · rw [decide_eq_true b3]
              refine iteT (stop (not_node l3 g4 (noB ?_)) _ sm7)
              exact decide_eq_false (by rw [← aB.len]; omega)
            rw [decide_eq_false b3]
            refine iteF ?_
            have okN := g3
            have nlM : nodeL (.tuple (.tuple (ws.map PyData.str) :: .tuple bd :: r)) = (r.length = 0 || isCallS r[0]?) := by
              have hb : fewB (.tuple bd) = true := decide_eq_true (by rw [← aB.len]; omega)
              rw [nl, hm, hb, Bool.and_true, Bool.and_true]
            generalize ha0 : PyData.tuple (ws.map PyData.str) = a0 at *
            refine ⟨_, rfl, _, _, rfl, .inr (SqT.of (sm7 _ _ e)), rfl, _, rfl, ?_⟩
            have arl := ar.len
            rcases r01 with r0 | r1
            · have d3 : decide (V.int (((V.ref am :: V.ref ab :: vs).length : Nat) : Int) = V.int 3) = false := decide_eq_false fun z => by
                have y := vint.mpr z
                rw [List.length_cons, List.length_cons, arl, r0] at y
                cases y
              rw [d3]
              refine iteF ?_
              have hnode : nodeL (.tuple (a0 :: .tuple bd :: r)) = true := by
                rw [nlM]
                simp [r0]
              obtain ⟨fs8, hf8e⟩ : ∃ fs8, fs8 = fs := ⟨fs, rfl⟩
              have hfl : (fs8.length : Int) = (fs.length : Int) + (r.length : Int) := by rw [hf8e, r0]; omega
              have hzr : zr fs8 = zr fs + (if l ≤ 0 then (r.length : Int) else 0) := by rw [hf8e, r0]; split <;> omega
              have sm8 := sm7
              have hq8 := hq7
              have hf8 : H7 fo = some (.lst (fs8.map V.int)) := by rw [hf8e]; exact hf7
              have sk8 := sk7
              have ln : lvl (.tuple (a0 :: .tuple bd :: r), l) = bd.foldl (stepL fun t => lvl (t, l + 1)) (some (start l r.length)) := lvl_node (b := .none) l3 g4 hnode
              refine ⟨_, rfl, ab, rfl, ⟨_, SqT.of (sm8 _ _ eb)⟩, ?_⟩
              refine for_tup (K := K) (a := ab) (xs := bv) (fun i σ' H' => ∃ (news : List V) (w8 w9 : Option V), σ' = [some v, some (V.ref q), some (V.int (n + 1)), some (V.ref fo), some (V.ref ad), some (V.int l), some (V.ref am), some (V.ref ab), w8, w9] ∧
                Same H H' ∧ H' q = some (.lst (es' ++ news)) ∧ H' fo = some (.lst (fs8.map V.int)) ∧ Stk H H' (es' ++ news) (st' ++ (bd.take i).map fun b => (tgt b, l + 1)) ∧ news.length = i ∧ ∀ b ∈ bd.take i, goodB b = true)
                ⟨[], _, _, rfl, sm8, by rw [List.append_nil]; exact hq8, hf8, by rw [List.append_nil]; simpa using sk8, rfl, fun b hb => by simp at hb⟩ (fun i σ' H' _ ⟨_, _, _, _, t, _⟩ => SqT.of (t _ _ eb)) ?_ ?_
              · rintro i y σ' H' hi ⟨news, w8', w9', rfl, t, tq, tf, ts, tl, tg⟩
                have ib : i < bd.length := by
                  have := (List.getElem?_eq_some_iff.mp hi).1
                  rw [aB.len] at this
                  exact this
                obtain ⟨bi, hbi⟩ : ∃ bi, bd[i]? = some bi := ⟨bd[i], List.getElem?_eq_getElem ib⟩
                obtain ⟨v9, hv9, qv⟩ := aB.at hbi
                obtain rfl : v9 = y := Option.some.inj (hv9.symm.trans hi)
                have halt : goodB bi = false → ∀ H9, Same H H9 → Q .non H9 := fun hg H9 s9 => stop (by rw [ln]; exact foldL_stop hbi fun a => stepL_bad hg _ a) H9 s9
                refine ⟨_, rfl, _, .ty "tuple", _, _, _, rfl, .ty _, (qv.same t).ty, kit_ty (kt _), _, rfl, ?_⟩
                cases qv with
                | @tup p9 zs ed e9 a9 =>
                  refine iteF ⟨_, rfl, _, _, rfl, .inr (SqT.of (t _ _ e9)), rfl, _, rfl, ?_⟩
                  by_cases n2 : ed.length = 2
                  · have e2 : decide (V.int (zs.length : Nat) = V.int 2) = true := decide_eq_true (by rw [a9.len, n2]; rfl)
                    rw [e2]
                    match ed, n2, zs, a9, e9 with
                    | [u9, t9], _, [vu, vt], .cons qu (.cons qt .nil), e9 =>
                    refine iteF ⟨_, rfl, p9, _, 0, vu, rfl, rfl, SqT.of (t _ _ e9), atI_nat (j := 0) rfl, vu, u9, rfl, qu.same t, fun H9 s9 => ⟨_, rfl, ?_⟩⟩
                    have t9' := same_trans t s9
                    cases hw9 : isWord u9 with
                    | false => exact iteT (halt (by rw [good_two]; exact hw9) _ t9')
                    | true =>
                      refine iteF ⟨_, rfl, .inl ⟨rfl, _, SqL.of (s9 _ _ tq)⟩, _, rfl, p9, _, 1, vt, rfl, rfl, SqT.of (t9' _ _ e9), atI_nat (j := 1) rfl, _, rfl, _, _, rfl, rfl, by show 2 ≤ sizeLine; decide, fun pp npp => ⟨q, _, .ref pp, rfl, rfl, same_new npp _ _ (s9 _ _ tq), ?_, ?_⟩⟩
                      · rw [List.length_append]
                        have z1 := L1.el
                        have z2 := L1.n6
                        rw [List.length_append, List.length_singleton] at z1
                        have z3 : (bv.length : Int) ≤ 3 := Int.not_lt.mp b3
                        have z4 := aB.len
                        exact small1000 (by omega)
                      · have sp := same_new (o := .tup [vt, .int (l + 1)]) npp
                        have qp : q ≠ pp := ne_of_none (s9 _ _ tq) npp
                        have qfo := L1.qf
                        refine ⟨news ++ [.ref pp], _, _, rfl, fun b o z => ?_, ?_, ?_, ?_, ?_, ?_⟩
                        · rw [upd_ne (ne_of_none z L1.nq)]
                          exact sp _ _ (t9' b o z)
                        · rw [upd_same, List.append_assoc]
                        · rw [upd_ne qfo.symm]
                          exact sp _ _ (s9 _ _ tf)
                        · have tk : (bd.take (i + 1)).map (fun b => (tgt b, l + 1)) = (bd.take i).map (fun b => (tgt b, l + 1)) ++ [(t9, l + 1)] := by
                            rw [List.take_add_one, hbi]
                            show ((bd.take i) ++ [PyData.tuple [u9, t9]]).map _ = _
                            rw [List.map_append]
                            rfl
                          rw [tk, ← List.append_assoc, ← List.append_assoc]
                          have kq : ∀ b xs, H9 b = some (.tup xs) → upd (upd H9 pp (.tup [vt, .int (l + 1)])) q (.lst (es' ++ news ++ [.ref pp])) b = some (.tup xs) := fun b xs z => by
                            rw [upd_ne fun y => by rw [y, s9 _ _ tq] at z; cases z]
                            exact sp _ _ z
                          refine (ts.keep fun b xs z => kq _ _ (s9 _ _ z)).app (.cons (v := vt) ?_ qt ((okN.tup (List.mem_cons_of_mem _ (List.mem_cons_self ..))).tup (List.mem_of_getElem? hbi) |>.tup (by simp)) (by omega) .nil)
                          rw [upd_ne qp.symm, upd_same]
                        · rw [List.length_append, tl]
                          rfl
                        · intro b hb
                          rw [List.take_add_one, hbi] at hb
                          rcases List.mem_append.mp hb with hb | hb
                          · exact tg b hb
                          · obtain rfl : b = _ := by simpa using hb
                            rw [good_two]
                            exact hw9
                  · have e2 : decide (V.int (zs.length : Nat) = V.int 2) = false := decide_eq_false fun z => n2 (by rw [← a9.len]; exact vint.mpr z)
                    rw [e2]
                    exact iteT (halt (good_len n2) _ t)
                | _ => exact iteT (halt rfl _ t)
              · rintro σ' H' ⟨news, w8', w9', rfl, t, tq, tf, ts, tl, tg⟩
                have tk : bd.take bv.length = bd := List.take_of_length_le (by rw [aB.len]; exact Nat.le_refl _)
                rw [tk] at ts tg
                refine ⟨⟨_, _, _, fs8, _, _, _, _, _, _, rfl, t, tq, tf, L1.nq, L1.nf, L1.qf, ts, ?_, ?_, ?_, ?_, ?_⟩, ?_⟩
                · have := L1.n0
                  omega
                · omega
                · have z1 := L1.el
                  have z3 : (bv.length : Int) ≤ 3 := Int.not_lt.mp b3
                  rw [List.length_append, List.length_singleton] at z1
                  rw [List.length_append, tl]
                  omega
                · have := L1.fl
                  omega
                · rw [tot_app, ← eqW, ln, fold_tot bd _ tg, comb4]
                  congr 1
                  show _ = some (n + 1, (fs.length : Int) + (r.length : Int), zr fs + (if l ≤ 0 then (r.length : Int) else 0))
                  rw [hfl, hzr]
                · show (7 - (n + 1)).toNat < (7 - n).toNat
                  omega
            · have d3 : decide (V.int (((V.ref am :: V.ref ab :: vs).length : Nat) : Int) = V.int 3) = true := decide_eq_true (by
                rw [List.length_cons, List.length_cons, arl, r1]
                rfl)
              rw [d3]
              obtain ⟨x, hx⟩ : ∃ x, r[0]? = some x := ⟨r[0]'(by omega), List.getElem?_eq_getElem (by omega)⟩
              obtain ⟨vx, hvx, qx⟩ := ar.at hx
              have okx : OkD x := (okN.tup (List.mem_cons_of_mem _ (List.mem_cons_of_mem _ (List.mem_of_getElem? hx)))).self
              have hv2 : (V.ref am :: V.ref ab :: vs)[2]? = some vx := by
                show vs[0]? = some vx
                exact hvx
              refine iteT ⟨_, rfl, ad, _, 2, vx, rfl, rfl, SqT.of (sm7 _ _ e), atI_nat (j := 2) hv2, vx, x, rfl, sy.same sm7, qx.same sm7, okx.1, okx.2.1, okx.2.2, rfl, _, rfl, ?_⟩
              have nlX : nodeL (.tuple (a0 :: .tuple bd :: r)) = decide (V.str x.shown = V.str qcall) := by
                rw [nlM, hx, callS_shown]
                simp [r1]
              by_cases hs : V.str x.shown = V.str qcall
              · have hs' : decide (V.str x.shown = V.str qcall) = true := decide_eq_true hs
                show (if (!decide (V.str x.shown = V.str qcall)) = true then _ else _)
                rw [hs']
                rw [hs'] at nlX
                have hnode := nlX
                have fb := L1.fl
                have n6' := L1.n6
                refine iteF ⟨_, rfl, .inl ⟨rfl, _, SqL.of hf7⟩, _, rfl, fo, _, .int l, rfl, rfl, hf7, small1000 (by rw [List.length_map]; omega), ?_⟩
                obtain ⟨fs8, hf8e⟩ : ∃ fs8, fs8 = fs ++ [l] := ⟨_, rfl⟩
                have hfl : (fs8.length : Int) = (fs.length : Int) + (r.length : Int) := by rw [hf8e, r1, List.length_append, List.length_singleton]; omega
                have hzr : zr fs8 = zr fs + (if l ≤ 0 then (r.length : Int) else 0) := by rw [hf8e, r1, zr_app]; rfl
                have em' : fs.map V.int ++ [V.int l] = fs8.map V.int := by rw [hf8e, List.map_append]; rfl
                rw [em']
                have sm8 : Same H (upd H7 fo (.lst (fs8.map V.int))) := fun b o z => by
                  rw [upd_ne (ne_of_none z L1.nf)]
                  exact sm7 b o z
                have hq8 : upd H7 fo (.lst (fs8.map V.int)) q = some (.lst es') := by
                  rw [upd_ne L1.qf]
                  exact hq7
                have hf8 : upd H7 fo (.lst (fs8.map V.int)) fo = some (.lst (fs8.map V.int)) := upd_same
                have sk8 : Stk H (upd H7 fo (.lst (fs8.map V.int))) es' st' := sk7.keep fun b xs z => by
                  rw [upd_ne fun y => by rw [y, hf7] at z; cases z]
                  exact z
                generalize upd H7 fo (HO.lst (fs8.map V.int)) = H8 at sm8 hq8 hf8 sk8
                have ln : lvl (.tuple (a0 :: .tuple bd :: r), l) = bd.foldl (stepL fun t => lvl (t, l + 1)) (some (start l r.length)) := lvl_node (b := .none) l3 g4 hnode
                refine ⟨_, rfl, ab, rfl, ⟨_, SqT.of (sm8 _ _ eb)⟩, ?_⟩
                refine for_tup (K := K) (a := ab) (xs := bv) (fun i σ' H' => ∃ (news : List V) (w8 w9 : Option V), σ' = [some v, some (V.ref q), some (V.int (n + 1)), some (V.ref fo), some (V.ref ad), some (V.int l), some (V.ref am), some (V.ref ab), w8, w9] ∧
                  Same H H' ∧ H' q = some (.lst (es' ++ news)) ∧ H' fo = some (.lst (fs8.map V.int)) ∧ Stk H H' (es' ++ news) (st' ++ (bd.take i).map fun b => (tgt b, l + 1)) ∧ news.length = i ∧ ∀ b ∈ bd.take i, goodB b = true)
                  ⟨[], _, _, rfl, sm8, by rw [List.append_nil]; exact hq8, hf8, by rw [List.append_nil]; simpa using sk8, rfl, fun b hb => by simp at hb⟩ (fun i σ' H' _ ⟨_, _, _, _, t, _⟩ => SqT.of (t _ _ eb)) ?_ ?_
                · rintro i y σ' H' hi ⟨news, w8', w9', rfl, t, tq, tf, ts, tl, tg⟩
                  have ib : i < bd.length := by
                    have := (List.getElem?_eq_some_iff.mp hi).1
                    rw [aB.len] at this
                    exact this
                  obtain ⟨bi, hbi⟩ : ∃ bi, bd[i]? = some bi := ⟨bd[i], List.getElem?_eq_getElem ib⟩
                  obtain ⟨v9, hv9, qv⟩ := aB.at hbi
                  obtain rfl : v9 = y := Option.some.inj (hv9.symm.trans hi)
                  have halt : goodB bi = false → ∀ H9, Same H H9 → Q .non H9 := fun hg H9 s9 => stop (by rw [ln]; exact foldL_stop hbi fun a => stepL_bad hg _ a) H9 s9
                  refine ⟨_, rfl, _, .ty "tuple", _, _, _, rfl, .ty _, (qv.same t).ty, kit_ty (kt _), _, rfl, ?_⟩
                  cases qv with
                  | @tup p9 zs ed e9 a9 =>
                    refine iteF ⟨_, rfl, _, _, rfl, .inr (SqT.of (t _ _ e9)), rfl, _, rfl, ?_⟩
                    by_cases n2 : ed.length = 2
                    · have e2 : decide (V.int (zs.length : Nat) = V.int 2) = true := decide_eq_true (by rw [a9.len, n2]; rfl)
                      rw [e2]
                      match ed, n2, zs, a9, e9 with
                      | [u9, t9], _, [vu, vt], .cons qu (.cons qt .nil), e9 =>
                      refine iteF ⟨_, rfl, p9, _, 0, vu, rfl, rfl, SqT.of (t _ _ e9), atI_nat (j := 0) rfl, vu, u9, rfl, qu.same t, fun H9 s9 => ⟨_, rfl, ?_⟩⟩
                      have t9' := same_trans t s9
                      cases hw9 : isWord u9 with
                      | false => exact iteT (halt (by rw [good_two]; exact hw9) _ t9')
                      | true =>
                        refine iteF ⟨_, rfl, .inl ⟨rfl, _, SqL.of (s9 _ _ tq)⟩, _, rfl, p9, _, 1, vt, rfl, rfl, SqT.of (t9' _ _ e9), atI_nat (j := 1) rfl, _, rfl, _, _, rfl, rfl, by show 2 ≤ sizeLine; decide, fun pp npp => ⟨q, _, .ref pp, rfl, rfl, same_new npp _ _ (s9 _ _ tq), ?_, ?_⟩⟩
                        · rw [List.length_append]
                          have z1 := L1.el
                          have z2 := L1.n6
                          rw [List.length_append, List.length_singleton] at z1
                          have z3 : (bv.length : Int) ≤ 3 := Int.not_lt.mp b3
                          have z4 := aB.len
                          exact small1000 (by omega)
                        · have sp := same_new (o := .tup [vt, .int (l + 1)]) npp
                          have qp : q ≠ pp := ne_of_none (s9 _ _ tq) npp
                          have qfo := L1.qf
                          refine ⟨news ++ [.ref pp], _, _, rfl, fun b o z => ?_, ?_, ?_, ?_, ?_, ?_⟩
                          · rw [upd_ne (ne_of_none z L1.nq)]
                            exact sp _ _ (t9' b o z)
                          · rw [upd_same, List.append_assoc]
                          · rw [upd_ne qfo.symm]
                            exact sp _ _ (s9 _ _ tf)
                          · have tk : (bd.take (i + 1)).map (fun b => (tgt b, l + 1)) = (bd.take i).map (fun b => (tgt b, l + 1)) ++ [(t9, l + 1)] := by
                              rw [List.take_add_one, hbi]
                              show ((bd.take i) ++ [PyData.tuple [u9, t9]]).map _ = _
                              rw [List.map_append]
                              rfl
                            rw [tk, ← List.append_assoc, ← List.append_assoc]
                            have kq : ∀ b xs, H9 b = some (.tup xs) → upd (upd H9 pp (.tup [vt, .int (l + 1)])) q (.lst (es' ++ news ++ [.ref pp])) b = some (.tup xs) := fun b xs z => by
                              rw [upd_ne fun y => by rw [y, s9 _ _ tq] at z; cases z]
                              exact sp _ _ z
                            refine (ts.keep fun b xs z => kq _ _ (s9 _ _ z)).app (.cons (v := vt) ?_ qt ((okN.tup (List.mem_cons_of_mem _ (List.mem_cons_self ..))).tup (List.mem_of_getElem? hbi) |>.tup (by simp)) (by omega) .nil)
                            rw [upd_ne qp.symm, upd_same]
                          · rw [List.length_append, tl]
                            rfl
                          · intro b hb
                            rw [List.take_add_one, hbi] at hb
                            rcases List.mem_append.mp hb with hb | hb
                            · exact tg b hb
                            · obtain rfl : b = _ := by simpa using hb
                              rw [good_two]
                              exact hw9
                    · have e2 : decide (V.int (zs.length : Nat) = V.int 2) = false := decide_eq_false fun z => n2 (by rw [← a9.len]; exact vint.mpr z)
                      rw [e2]
                      exact iteT (halt (good_len n2) _ t)
                  | _ => exact iteT (halt rfl _ t)
                · rintro σ' H' ⟨news, w8', w9', rfl, t, tq, tf, ts, tl, tg⟩
                  have tk : bd.take bv.length = bd := List.take_of_length_le (by rw [aB.len]; exact Nat.le_refl _)
                  rw [tk] at ts tg
                  refine ⟨⟨_, _, _, fs8, _, _, _, _, _, _, rfl, t, tq, tf, L1.nq, L1.nf, L1.qf, ts, ?_, ?_, ?_, ?_, ?_⟩, ?_⟩
                  · have := L1.n0
                    omega
                  · omega
                  · have z1 := L1.el
                    have z3 : (bv.length : Int) ≤ 3 := Int.not_lt.mp b3
                    rw [List.length_append, List.length_singleton] at z1
                    rw [List.length_append, tl]
                    omega
                  · have := L1.fl
                    omega
                  · rw [tot_app, ← eqW, ln, fold_tot bd _ tg, comb4]
                    congr 1
                    show _ = some (n + 1, (fs.length : Int) + (r.length : Int), zr fs + (if l ≤ 0 then (r.length : Int) else 0))
                    rw [hfl, hzr]
                  · show (7 - (n + 1)).toNat < (7 - n).toNat
                    omega
              · have hs' : decide (V.str x.shown = V.str qcall) = false := decide_eq_false hs
                show (if (!decide (V.str x.shown = V.str qcall)) = true then _ else _)
                rw [hs']
                rw [hs'] at nlX
                exact iteT (stop (not_node l3 g4 nlX) _ sm7)
          | _ => exact iteT (stop (not_node l3 g4 (noB rfl)) _ sm7)
        | _ => exact iteT (stop (not_node l3 g4 (noM rfl)) _ sm4)
      | _ => exact iteT (stop (not_node l3 g4 rfl) H2 sm2)
  · intro σ' H' Q1 Q2 hq h
    obtain ⟨v9, e1, e2, h⟩ := h
    refine ⟨v9, e1, e2, fun p hp => ?_⟩
    obtain ⟨a, b, xs, f1, f2, f3, f4, c, f5, h⟩ := h p hp
    exact ⟨a, b, xs, f1, f2, f3, f4, c, f5, hq _ _ h⟩
end
end K01
set_option Elab.async false
set_option linter.all false
set_option maxRecDepth 100000
set_option maxHeartbeats 4000000
namespace K01
open PySem L2 L2H DQ RZ
/-! a bound of how long repr of such data is -/
mutual
def sz : PyData → Nat
  | .none => 5
  | .bool _ => 5
  | .int _ => 1921
  | .str x => 10 * x.length + 2
  | .list xs => szAll xs + 4
  | .tuple xs => szAll xs + 4
  | .dict _ => 2
def szAll : List PyData → Nat
  | [] => 0
  | x :: xs => sz x + 2 + szAll xs
end
mutual
/-- ints of at most N, texts of signs, dicts that are empty -/
def gd (N : Nat) : PyData → Bool
  | .none => true
  | .bool _ => true
  | .int i => decide (i.natAbs ≤ N)
  | .str x => PyData.strOk x
  | .list xs => gdAll N xs
  | .tuple xs => gdAll N xs
  | .dict kvs => kvs.isEmpty
def gdAll (N : Nat) : List PyData → Bool
  | [] => true
  | x :: xs => gd N x && gdAll N xs
end
theorem gdAll_iff {N : Nat} : ∀ {xs : List PyData}, gdAll N xs = true ↔ ∀ x ∈ xs, gd N x = true
  | [] => by simp [gdAll]
  | x :: xs => by
    simp only [gdAll, Bool.and_eq_true, List.mem_cons, gdAll_iff (xs := xs)]
    constructor
    · rintro ⟨h1, h2⟩ y (rfl | hy)
      · exact h1
      · exact h2 y hy
    · intro h
      exact ⟨h x (.inl rfl), fun y hy => h y (.inr hy)⟩
theorem sz_mem : ∀ {xs : List PyData} {x : PyData}, x ∈ xs → sz x + 2 ≤ szAll xs
  | y :: xs, x, h => by
    rcases List.mem_cons.mp h with rfl | h
    · simp only [szAll]
      omega
    · have := sz_mem h
      simp only [szAll]
      omega
theorem dp_mem : ∀ {xs : List PyData} {x : PyData}, x ∈ xs → x.depth ≤ PyData.depthAll xs
  | y :: xs, x, h => by
    simp only [PyData.depthAll]
    rcases List.mem_cons.mp h with rfl | h
    · omega
    · have := dp_mem h
      omega
theorem within_le {N : Nat} {x d : PyData} (w : Within x d) : gd N d = true → gd N x = true ∧ sz x ≤ sz d ∧ x.depth ≤ d.depth := by
  induction w with
  | self => exact fun h => ⟨h, Nat.le_refl _, Nat.le_refl _⟩
  | tup hy _ ih =>
    intro h
    simp only [gd] at h
    obtain ⟨a, b, c⟩ := ih (gdAll_iff.mp h _ hy)
    have z1 := sz_mem hy
    have z2 := dp_mem hy
    simp only [sz, PyData.depth]
    exact ⟨a, by omega, by omega⟩
  | lst hy _ ih =>
    intro h
    simp only [gd] at h
    obtain ⟨a, b, c⟩ := ih (gdAll_iff.mp h _ hy)
    have z1 := sz_mem hy
    have z2 := dp_mem hy
    simp only [sz, PyData.depth]
    exact ⟨a, by omega, by omega⟩
theorem from_le : ∀ (ts : List Str) (k : Nat) (acc : Str), (textFrom k acc ts).length ≤ acc.length + piled ts
  | [], k, acc => by
    show acc.length ≤ _
    omega
  | t :: ts, k, acc => by
    have ih := from_le ts (k + 1) (acc ++ (if k > 0 then ", " else "" : String) ++ t)
    rw [strLen_append, strLen_append] at ih
    have e : ((if k > 0 then ", " else "" : String) : Str).length ≤ 2 := by
      split
      · exact (by decide +kernel : ((", " : String) : Str).length ≤ 2)
      · exact (by decide +kernel : (("" : String) : Str).length ≤ 2)
    rw [piled_cons]
    show (textFrom (k + 1) (acc ++ (if k > 0 then ", " else "" : String) ++ t) ts).length ≤ _
    omega
theorem join_le (ts : List Str) : (Str.join ", " ts).length ≤ piled ts := by
  by_cases h : ts = []
  · subst h
    exact (by decide +kernel : (Str.join ", " ([] : List Str)).length ≤ 0)
  · have := join_length_add ts h
    omega
theorem log_le {i : Int} {N : Nat} (h : i.natAbs ≤ N) (hN : N ≤ 10 ^ 40) : i.natAbs.log2 < 1920 := by
  by_cases z : i.natAbs = 0
  · rw [z]
    decide
  · refine (Nat.log2_lt z).mpr (Nat.lt_of_le_of_lt (Nat.le_trans h hN) ?_)
    exact Nat.lt_of_lt_of_le (by decide +kernel : 10 ^ 40 < 2 ^ 200) (Nat.pow_le_pow_right (by decide) (by decide))
mutual
theorem shown_le {N : Nat} (hN : N ≤ 10 ^ 40) : ∀ (d : PyData), gd N d = true → d.showable = true ∧ d.shown.length ≤ sz d
  | .none, _ => ⟨rfl, by decide +kernel⟩
  | .bool b, _ => ⟨rfl, by cases b <;> decide +kernel⟩
  | .int i, h => by
    have z := log_le (of_decide_eq_true (by simpa [gd] using h)) hN
    refine ⟨decide_eq_true z, ?_⟩
    have y := PyProof.Rows.int_text_len_1921 z
    simpa [PyData.shown, sz] using y
  | .str x, h => by
    refine ⟨rfl, ?_⟩
    simp only [PyData.shown, sz]
    have h1 : PyData.strOk x = true := by simpa [gd] using h
    refine StrLaws.reprText_len x fun c hc => ?_
    have z : x.cps.all (fun c => decide (c < 0x110000)) = true := h1
    rw [← Array.all_toList] at z
    have y := of_decide_eq_true (List.all_eq_true.mp z c hc)
    exact Nat.lt_of_lt_of_le y (by decide)
  | .list xs, h => by
    have h' : gdAll N xs = true := by simpa [gd] using h
    obtain ⟨a, b⟩ := shownAll_le hN xs h'
    refine ⟨a, ?_⟩
    simp only [PyData.shown, sz]
    unfold listText
    rw [strLen_append]
    have z := from_le (PyData.shownAll xs) 0 "["
    have e1 : (("[" : String) : Str).length = 1 := by decide +kernel
    have e2 : (("]" : String) : Str).length = 1 := by decide +kernel
    omega
  | .tuple xs, h => by
    have h' : gdAll N xs = true := by simpa [gd] using h
    obtain ⟨a, b⟩ := shownAll_le hN xs h'
    refine ⟨a, ?_⟩
    simp only [PyData.shown, sz]
    unfold tupleText
    rw [strLen_append, strLen_append]
    have z := join_le (PyData.shownAll xs)
    have e1 : (("(" : String) : Str).length = 1 := by decide +kernel
    have e2 : ((if (PyData.shownAll xs).length == 1 then ",)" else ")" : String) : Str).length ≤ 2 := by
      split
      · exact (by decide +kernel : ((",)" : String) : Str).length ≤ 2)
      · exact (by decide +kernel : ((")" : String) : Str).length ≤ 2)
    omega
  | .dict kvs, h => by
    have h' : kvs.isEmpty = true := by simpa [gd] using h
    cases kvs with
    | nil => exact ⟨rfl, by decide +kernel⟩
    | cons a b => cases h'
theorem shownAll_le {N : Nat} (hN : N ≤ 10 ^ 40) : ∀ (xs : List PyData), gdAll N xs = true → PyData.showableAll xs = true ∧ piled (PyData.shownAll xs) ≤ szAll xs
  | [], _ => ⟨rfl, Nat.le_refl _⟩
  | x :: xs, h => by
    have h' := Bool.and_eq_true_iff.mp (by simpa [gdAll] using h)
    obtain ⟨a1, b1⟩ := shown_le hN x h'.1
    obtain ⟨a2, b2⟩ := shownAll_le hN xs h'.2
    refine ⟨?_, ?_⟩
    · simp only [PyData.showableAll, a1, a2, Bool.and_self]
    · simp only [PyData.shownAll, szAll]
      rw [piled_cons]
      omega
end
theorem okT_of {N : Nat} {d : PyData} (hN : N ≤ 10 ^ 40) (h : gd N d = true) (hs : sz d ≤ 1000000) (hd : d.depth ≤ 60) : OkT d := fun x w => by
  obtain ⟨a, b, c⟩ := within_le w h
  obtain ⟨e, f⟩ := shown_le hN x a
  refine ⟨e, Nat.le_trans c hd, Nat.le_trans f (Nat.le_trans b (Nat.le_trans hs (by decide)))⟩
theorem szAll_app : ∀ xs ys : List PyData, szAll (xs ++ ys) = szAll xs + szAll ys
  | [], ys => by simp [szAll]
  | x :: xs, ys => by
    simp only [List.cons_append, szAll, szAll_app xs ys]
    omega
theorem gdAll_app {N : Nat} : ∀ xs ys : List PyData, gdAll N (xs ++ ys) = (gdAll N xs && gdAll N ys)
  | [], ys => by simp [gdAll]
  | x :: xs, ys => by simp only [List.cons_append, gdAll, gdAll_app xs ys, Bool.and_assoc]
theorem depthAll_app : ∀ xs ys : List PyData, PyData.depthAll (xs ++ ys) = max (PyData.depthAll xs) (PyData.depthAll ys)
  | [], ys => by simp [PyData.depthAll]
  | x :: xs, ys => by
    simp only [List.cons_append, PyData.depthAll, depthAll_app xs ys]
    omega
end K01
set_option Elab.async false
set_option linter.all false
set_option maxRecDepth 100000
set_option maxHeartbeats 4000000
namespace K01
open PySem L2 L2H DQ RZ
/-- all but the state of the draws -/
def fr (H : Hp) (m l : Addr) : Hp := fun b => if b = m ∨ b = l then none else H b
theorem fr_same {H : Hp} {m l : Addr} : Same (fr H m l) H := fun b o e => by
  unfold fr at e
  split at e
  · cases e
  · exact e
theorem fr_some {H : Hp} {m l b : Addr} {o : HO} (h : H b = some o) (hm : b ≠ m) (hl : b ≠ l) : fr H m l b = some o := by
  unfold fr
  rw [if_neg fun z => z.elim hm hl]
  exact h
theorem fr_of {H : Hp} {m l b : Addr} {o : HO} (h : fr H m l b = some o) : b ≠ m ∧ b ≠ l ∧ H b = some o := by
  unfold fr at h
  split at h
  · cases h
  · rename_i z
    exact ⟨fun e => z (.inl e), fun e => z (.inr e), h⟩
/-- all but the state of the draws stands, and what was there is there -/
def Fs (H : Hp) (m l : Addr) (H' : Hp) (l' : Addr) : Prop := Same (fr H m l) (fr H' m l') ∧ ∀ b, H' b = none → H b = none
theorem Fs.refl {H : Hp} {m l : Addr} : Fs H m l H l := ⟨same_refl, fun _ h => h⟩
theorem Fs.trans {H H' H'' : Hp} {m l l' l'' : Addr} (x : Fs H m l H' l') (y : Fs H' m l' H'' l'') : Fs H m l H'' l'' := ⟨same_trans x.1 y.1, fun b h => x.2 b (y.2 b h)⟩
theorem Fs.new {H : Hp} {m l : Addr} {H' : Hp} (x : Same H H') (y : Same (fr H m l) (fr H' m l)) : Fs H m l H' l := ⟨y, fun b h => same_out x h⟩
theorem But.fr {H H' : Hp} {m l l' : Addr} (x : But H H' m l) (h : l' = l ∨ H l' = none) : Fs H m l H' l' := by
  refine ⟨fun b o e => ?_, x.out⟩
  obtain ⟨h1, h2, h3⟩ := fr_of e
  refine fr_some (x.kp b o h3 h1 h2) h1 fun z => ?_
  rcases h with y | y
  · exact h2 (z.trans y)
  · rw [← z, h3] at y
    cases y
theorem MAt.fresh {H : Hp} {m c l p : Addr} {cs ls : List Int} {n : Int} {o : HO} (M : MAt H m c l cs ls n) (hp : H p = none) : MAt (upd H p o) m c l cs ls n ∧ Same (fr H m l) (fr (upd H p o) m l) ∧ fr (upd H p o) m l p = some o := by
  refine ⟨M.same (same_new hp), fun b u e => ?_, fr_some upd_same (ne_of_none M.hm hp).symm (ne_of_none M.hl hp).symm⟩
  obtain ⟨h1, h2, h3⟩ := fr_of e
  exact fr_some (same_new hp _ _ h3) h1 h2
/-- a number below many; the state again -/
def spNx : Sp := fun vs H Q _ => ∃ (m c l : Addr) (many : Int) (cs ls : List Int) (n : Int), vs = [.ref m, .int many] ∧ MAt H m c l cs ls n ∧ 0 < many ∧ many < 1000000 ∧ n + 1 ≤ 1000000000 ∧
  ∀ r H' l' ls' n', 0 ≤ r → r < many → MAt H' m c l' cs ls' n' → n' ≤ n + 1 → Fs H m l H' l' → Q (.int r) H'
theorem nx_of {vs : List V} {H : Hp} {Q : VK} {E : XK} (h : spNx vs H Q E) : spNext vs H Q E := by
  obtain ⟨m, c, l, many, cs, ls, n, rfl, M, h1, h2, h3, k⟩ := h
  exact ⟨m, c, l, many, cs, ls, n, rfl, M, h1, h2, h3, fun r H' l' ls' n' r0 r1 M' nn bt hl => k r H' l' ls' n' r0 r1 M' nn (bt.fr hl)⟩
/-- a def that draws data: of k draws at most; what is told of the data -/
def spDr (k : Int) (Φ : PyData → Prop) : Sp := fun vs H Q _ => ∃ (m c l : Addr) (cs ls : List Int) (n : Int), vs = [.ref m] ∧ MAt H m c l cs ls n ∧ n + k ≤ 1000000000 ∧
  ∀ r d H' l' ls' n', MAt H' m c l' cs ls' n' → n' ≤ n + k → Fs H m l H' l' → Dq (fr H' m l') r d → Φ d → Q r H'
def OddD (d : PyData) : Prop := gd (10 ^ 30) d = true ∧ sz d ≤ 5000 ∧ d.depth ≤ 3
instance (d : PyData) : Decidable (OddD d) := by
  unfold OddD
  infer_instance
/-- things of a list that is drawn from -/
inductive DqL (H : Hp) (Φ : PyData → Prop) : List V → Prop
  | nil : DqL H Φ []
  | cons {v : V} {vs : List V} {d : PyData} : Dq H v d → Φ d → DqL H Φ vs → DqL H Φ (v :: vs)
theorem DqL.at {H : Hp} {Φ : PyData → Prop} : ∀ {vs : List V} {i : Nat}, DqL H Φ vs → i < vs.length → ∃ v d, vs[i]? = some v ∧ Dq H v d ∧ Φ d
  | _ :: _, 0, .cons h p _, _ => ⟨_, _, rfl, h, p⟩
  | _ :: _, i + 1, .cons _ _ t, hi => t.at (i := i) (Nat.lt_of_succ_lt_succ hi)
theorem DqL.same {H H' : Hp} {Φ : PyData → Prop} (s : Same H H') : ∀ {vs : List V}, DqL H Φ vs → DqL H' Φ vs
  | _, .nil => .nil
  | _, .cons h p t => .cons (h.same s) p (t.same s)
theorem DqL.app {H : Hp} {Φ : PyData → Prop} : ∀ {vs ws : List V}, DqL H Φ vs → DqL H Φ ws → DqL H Φ (vs ++ ws)
  | _, _, .nil, b => b
  | _, _, .cons h p t, b => .cons h p (t.app b)
/-- the same state of the draws, all else stands -/
structure Gw (m c l : Addr) (cs ls : List Int) (n : Int) (H H' : Hp) : Prop where
  mat : MAt H' m c l cs ls n
  sm : Fs H m l H' l
theorem Gw.new {m c l p : Addr} {cs ls : List Int} {n : Int} {H H' : Hp} {o : HO} (G : Gw m c l cs ls n H H') (hp : H' p = none) : Gw m c l cs ls n H (upd H' p o) ∧ Same (fr H' m l) (fr (upd H' p o) m l) ∧ fr (upd H' p o) m l p = some o := by
  obtain ⟨a, b, d⟩ := G.mat.fresh (o := o) hp
  exact ⟨⟨a, G.sm.trans (.new (same_new hp) b)⟩, b, d⟩
theorem odd_str {x : Str} (h1 : PyData.strOk x = true) (h2 : x.length ≤ 10) : OddD (.str x) := by
  refine ⟨?_, ?_, Nat.zero_le _⟩
  · simp only [gd, h1]
  · simp only [sz]
    omega
theorem dq_str {H : Hp} {x : Str} (h1 : PyData.strOk x = true) (h2 : x.length ≤ 10) : Dq H (.str x) (.str x) := .str x ⟨Nat.le_trans h2 (by decide), h1⟩
section
variable {P : Program} {w : World} {K : PySem.W.Frag} {mg : Str → Option Value} {base : Heap}
theorem scOd : FnScope ["m", "some"] ["m"] (defScope sOdd) := ⟨rfl, rfl, rfl, by decide +kernel, rfl, by decide +kernel, by decide +kernel⟩
theorem ok_odd {f fN : Addr} {fd dN : FuncData} (F : Fun K "_law_odd" "_law_odd" sOdd f fd) (FN : Fun K "_law_next" "_law_next" sNext fN dN) (bN : Binds K dN ["m", "many"] []) (gN : mg "_law_next" = some (.ref fN)) (T : TxtB mg) :
    FnOk P w K mg base CX0 3 f fd ["m"] (spDr 1 OddD) := by
  have GN : FnOk P w K mg base CX0 1 fN dN ["m", "many"] spNx := (ok_next FN T).imp fun _ _ _ _ => nx_of
  refine F.ok scOd (fun vs H Q E h => ?_) (fun cdv A outer s H vs Q E hr h => ?_)
  · obtain ⟨m, c, l, cs, ls, n, rfl, _⟩ := h
    rfl
  · obtain ⟨m, c, l, cs, ls, n, rfl, M, hn, k⟩ := h
    refine ⟨_, pss_cons (ps_set (i := 1) scOd.nd rfl (Or.inl rfl) (pe_lst (pa_cons pe_non (pa_cons pe_int (pa_cons pe_int (pa_cons pe_int (pa_cons pe_int (pa_cons (pe_un un_neg pe_int) (pa_cons pe_int (pa_cons (pe_un un_neg pe_int) (pa_cons pe_bl (pa_cons pe_bl
        (pa_cons pe_str (pa_cons pe_str (pa_cons pe_str (pa_cons pe_str (pa_cons pe_str (pa_cons pe_str (pa_cons (pe_tup pa_nil) (pa_cons (pe_tup (pa_cons (pe_tup pa_nil) pa_nil)) pa_nil))))))))))))))))))))
      (pss_cons (ps_set (i := 1) scOd.nd rfl (Or.inl rfl) (pe_op op_cat (pv 1) (pe_lst (pa_cons (pe_tup (pa_cons pe_str (pa_cons pe_int pa_nil))) (pa_cons (pe_lst pa_nil) (pa_cons pe_dnewK (pa_cons (pe_op op_pow pe_int pe_int)
          (pa_cons (pe_tup (pa_cons (pe_tup pa_nil) (pa_cons (pe_tup pa_nil) pa_nil))) (pa_cons (pe_tup (pa_cons (pe_tup pa_nil) (pa_cons (pe_tup pa_nil) (pa_cons pe_str pa_nil)))) (pa_cons pe_str (pa_cons (pe_tup (pa_cons pe_non pa_nil)) (pa_cons (pe_tup (pa_cons pe_int pa_nil))
          (pa_cons (pe_tup (pa_cons pe_int (pa_cons pe_int pa_nil))) (pa_cons (pe_tup (pa_cons (pe_tup (pa_cons pe_str pa_nil)) (pa_cons (pe_tup pa_nil) pa_nil))) pa_nil))))))))))))))
      (pss_one (ps_ret (pe_ix ix_list (pv 1) (pe_call GN (hr.mono (by decide)) (by rfl) gN FN.kp bN .nil pass0 (pa_cons (pv 0) (pa_cons pe_int pa_nil))) (fun _ _ => rfl))))), ?_⟩
    refine ⟨_, rfl, _, rfl, Nat.zero_le _, fun p1 n1 => ⟨Nat.zero_le _, fun p2 n2 => ⟨by show 1 ≤ sizeLine; decide, fun p3 n3 => ⟨by show 18 ≤ sizeLine; decide, fun q1 m1 => ?_⟩⟩⟩⟩
    have G0 : Gw m c l cs ls n H H := ⟨M, .refl⟩
    obtain ⟨G1, t1, e1⟩ := G0.new (o := .tup []) n1
    obtain ⟨G2, t2, e2⟩ := G1.new (o := .tup []) n2
    obtain ⟨G3, t3, e3⟩ := G2.new (o := .tup [.ref p2]) n3
    obtain ⟨G4, t4, e4⟩ := G3.new (o := .lst _) m1
    have L1 := DqL.same t4 (H := fr _ m l) (Φ := OddD) (vs := [.non, .int 0, .int 1, .int 2, .int 3, .int (-1), .int 41, .int (-10), .bl true, .bl false, .str "", .str "a", .str "call", .str "never", .str "needed", .str "e", .ref p1, .ref p3])
      (.cons .non (by decide +kernel) (.cons (.int 0) (by decide +kernel) (.cons (.int 1) (by decide +kernel) (.cons (.int 2) (by decide +kernel) (.cons (.int 3) (by decide +kernel) (.cons (.int (-1)) (by decide +kernel) (.cons (.int 41) (by decide +kernel) (.cons (.int (-10)) (by decide +kernel)
      (.cons (.bl true) (by decide +kernel) (.cons (.bl false) (by decide +kernel) (.cons (dq_str (by decide +kernel) (by decide +kernel)) (odd_str (by decide +kernel) (by decide +kernel)) (.cons (dq_str (by decide +kernel) (by decide +kernel)) (odd_str (by decide +kernel) (by decide +kernel))
      (.cons (dq_str (by decide +kernel) (by decide +kernel)) (odd_str (by decide +kernel) (by decide +kernel)) (.cons (dq_str (by decide +kernel) (by decide +kernel)) (odd_str (by decide +kernel) (by decide +kernel)) (.cons (dq_str (by decide +kernel) (by decide +kernel)) (odd_str (by decide +kernel) (by decide +kernel))
      (.cons (dq_str (by decide +kernel) (by decide +kernel)) (odd_str (by decide +kernel) (by decide +kernel)) (.cons (.tup (t3 _ _ (t2 _ _ e1)) .nil) (by decide +kernel) (.cons (.tup e3 (.cons (.tup (t3 _ _ e2) .nil) .nil)) (by decide +kernel) .nil))))))))))))))))))
    generalize upd (upd (upd (upd H p1 (HO.tup [])) p2 (HO.tup [])) p3 (HO.tup [V.ref p2])) q1 (HO.lst _) = H4 at G4 L1 e4
    clear e1 e2 e3 t1 t2 t3 t4 G1 G2 G3
    refine ⟨_, rfl, by show 2 ≤ sizeLine; decide, fun a1 n1 => ⟨Nat.zero_le _, fun a2 n2 => fun a3 n3 => ⟨_, _, rfl, rfl, ⟨by decide, by decide, by decide⟩, ?_⟩⟩⟩
    refine ⟨Nat.zero_le _, fun a4 n4 => ⟨Nat.zero_le _, fun a5 n5 => ⟨by show 2 ≤ sizeLine; decide, fun a6 n6 => ⟨Nat.zero_le _, fun a7 n7 => ⟨Nat.zero_le _, fun a8 n8 => ⟨by show 3 ≤ sizeLine; decide, fun a9 n9 => ?_⟩⟩⟩⟩⟩⟩
    refine ⟨by show 1 ≤ sizeLine; decide, fun b1 k1 => ⟨by show 1 ≤ sizeLine; decide, fun b2 k2 => ⟨by show 2 ≤ sizeLine; decide, fun b3 k3 => ⟨by show 1 ≤ sizeLine; decide, fun b4 k4 => ⟨Nat.zero_le _, fun b5 k5 => ⟨by show 2 ≤ sizeLine; decide, fun b6 k6 => ?_⟩⟩⟩⟩⟩⟩
    refine ⟨by show 11 ≤ sizeLine; decide, fun q2 m2 => ?_⟩
    obtain ⟨F1, t1, f1⟩ := G4.new (o := .tup [.str "a", .int 0]) n1
    obtain ⟨F2, t2, f2⟩ := F1.new (o := .lst []) n2
    obtain ⟨F3, t3, f3⟩ := F2.new (o := .dK []) n3
    obtain ⟨F4, t4, f4⟩ := F3.new (o := .tup []) n4
    obtain ⟨F5, t5, f5⟩ := F4.new (o := .tup []) n5
    obtain ⟨F6, t6, f6⟩ := F5.new (o := .tup [.ref a4, .ref a5]) n6
    obtain ⟨F7, t7, f7⟩ := F6.new (o := .tup []) n7
    obtain ⟨F8, t8, f8⟩ := F7.new (o := .tup []) n8
    obtain ⟨F9, t9, f9⟩ := F8.new (o := .tup [.ref a7, .ref a8, .str "call"]) n9
    obtain ⟨E1, u1, g1⟩ := F9.new (o := .tup [.non]) k1
    obtain ⟨E2, u2, g2⟩ := E1.new (o := .tup [.int 0]) k2
    obtain ⟨E3, u3, g3⟩ := E2.new (o := .tup [.int 0, .int 0]) k3
    obtain ⟨E4, u4, g4⟩ := E3.new (o := .tup [.str "a"]) k4
    obtain ⟨E5, u5, g5⟩ := E4.new (o := .tup []) k5
    obtain ⟨E6, u6, g6⟩ := E5.new (o := .tup [.ref b4, .ref b5]) k6
    obtain ⟨E7, u7, g7⟩ := E6.new (o := .lst _) m2
    have v6 := u7
    have v5 := same_trans u6 v6
    have v4 := same_trans u5 v5
    have v3 := same_trans u4 v4
    have v2 := same_trans u3 v3
    have v1 := same_trans u2 v2
    have s9 := same_trans u1 v1
    have s8 := same_trans t9 s9
    have s7 := same_trans t8 s8
    have s6 := same_trans t7 s7
    have s5 := same_trans t6 s6
    have s4 := same_trans t5 s5
    have s3 := same_trans t4 s4
    have s2 := same_trans t3 s3
    have s1 := same_trans t2 s2
    have s0 := same_trans t1 s1
    have da : ∀ {G : Hp}, Dq G (.str "a") (.str "a") := dq_str (by decide +kernel) (by decide +kernel)
    have dc : ∀ {G : Hp}, Dq G (.str "call") (.str "call") := dq_str (by decide +kernel) (by decide +kernel)
    have d1 : ∀ {G : Hp}, Dq G (.str "a1") (.str "a1") := dq_str (by decide +kernel) (by decide +kernel)
    have L2 : DqL (fr _ m l) OddD [.ref a1, .ref a2, .ref a3, .int (10 ^ (30 : Int).toNat), .ref a6, .ref a9, .str "a1", .ref b1, .ref b2, .ref b3, .ref b6] :=
      .cons (.tup (s1 _ _ f1) (.cons da (.cons (.int 0) .nil))) (by decide +kernel) (.cons (.lst (s2 _ _ f2) .nil) (by decide +kernel) (.cons (.dic (s3 _ _ f3)) (by decide +kernel) (.cons (.int _) (by decide +kernel)
      (.cons (.tup (s6 _ _ f6) (.cons (.tup (s4 _ _ f4) .nil) (.cons (.tup (s5 _ _ f5) .nil) .nil))) (by decide +kernel) (.cons (.tup (s9 _ _ f9) (.cons (.tup (s7 _ _ f7) .nil) (.cons (.tup (s8 _ _ f8) .nil) (.cons dc .nil)))) (by decide +kernel)
      (.cons d1 (by decide +kernel) (.cons (.tup (v1 _ _ g1) (.cons .non .nil)) (by decide +kernel) (.cons (.tup (v2 _ _ g2) (.cons (.int 0) .nil)) (by decide +kernel) (.cons (.tup (v3 _ _ g3) (.cons (.int 0) (.cons (.int 0) .nil))) (by decide +kernel)
      (.cons (.tup (v6 _ _ g6) (.cons (.tup (v4 _ _ g4) (.cons da .nil)) (.cons (.tup (v5 _ _ g5) .nil) .nil))) (by decide +kernel) .nil))))))))))
    have L := (L1.same s0).app L2
    refine ⟨q1, q2, _, _, rfl, rfl, (fr_of (s0 _ _ e4)).2.2, (fr_of g7).2.2, by show 18 + 11 ≤ sizeLine; decide, fun q3 m3 => ?_⟩
    obtain ⟨E8, u8, g8⟩ := E7.new (o := .lst _) m3
    have L' := L.same u8
    refine ⟨_, rfl, _, rfl, m, c, l, 29, cs, ls, n, rfl, E8.mat, by decide, by decide, hn, fun r H' l' ls' n' r0 r1 M' nn sm => ?_⟩
    obtain ⟨v, d, hv, dv, dΦ⟩ := (L'.same sm.1).at (i := r.toNat) (by show r.toNat < 29; omega)
    refine ⟨q3, _, r, v, rfl, rfl, SqL.of (fr_of (sm.1 _ _ g8)).2.2, ?_, k v d H' l' ls' n' M' nn (E8.sm.trans sm) dv dΦ⟩
    have z := atI_nat hv
    rw [Int.toNat_of_nonneg r0] at z
    exact z
end
end K01
set_option Elab.async false
set_option linter.all false
set_option maxRecDepth 100000
set_option maxHeartbeats 4000000
namespace K01
open PySem L2 L2H DQ RZ
/-- the marks that the law draws from -/
def abc3 : List Str := ["a", "b", "c"]
def efS (u : Str) : Prop := u = "e" ∨ u = "f"
def restC (c : Nat) (r : List PyData) : Prop := (r = [] ∧ c = 0) ∨ (r = [.str "call"] ∧ c = 1)
mutual
/-- a tree of texts and tuples: at most k levels below its root, n nodes, c calls -/
inductive Tc : Nat → Nat → Nat → PyData → Prop
  | mk {k n c n0 c0 c1 : Nat} {ms : List Str} {bs r : List PyData} : ms.Sublist abc3 → bs.length ≤ 3 → restC c0 r → TcB k n0 c1 bs → n = n0 + 1 → c = c1 + c0 → Tc k n c (.tuple (.tuple (ms.map PyData.str) :: .tuple bs :: r))
/-- branches, the nodes below them at most k - 1 levels high -/
inductive TcB : Nat → Nat → Nat → List PyData → Prop
  | nil {k : Nat} : TcB k 0 0 []
  | cons {k n c n' c' N C : Nat} {u : Str} {t : PyData} {bs : List PyData} : efS u → Tc k n c t → TcB (k + 1) n' c' bs → N = n + n' → C = c + c' → TcB (k + 1) N C (.tuple [.str u, t] :: bs)
end
theorem TcB.app : ∀ {k n c n' c' : Nat} {bs es : List PyData}, TcB k n c bs → TcB k n' c' es → TcB k (n + n') (c + c') (bs ++ es)
  | k, _, _, n', c', _, es, .nil, h => by
    rw [Nat.zero_add, Nat.zero_add]
    exact h
  | _, _, _, _, _, _, _, .cons hu ht hb e1 e2, h => .cons hu ht (hb.app h) (by omega) (by omega)
mutual
theorem Tc.mono : ∀ {k n c : Nat} {d : PyData}, Tc k n c d → Tc (k + 1) n c d
  | _, _, _, _, .mk h1 h2 h3 h4 e1 e2 => .mk h1 h2 h3 h4.mono e1 e2
theorem TcB.mono : ∀ {k n c : Nat} {bs : List PyData}, TcB k n c bs → TcB (k + 1) n c bs
  | _, _, _, _, .nil => .nil
  | _, _, _, _, .cons hu ht hb e1 e2 => .cons hu ht.mono hb.mono e1 e2
end
theorem TcB.take : ∀ {k n c : Nat} {bs : List PyData} (j : Nat), TcB k n c bs → ∃ n1 c1 n2 c2, TcB k n1 c1 (bs.take j) ∧ TcB k n2 c2 (bs.drop j) ∧ n = n1 + n2 ∧ c = c1 + c2
  | _, n, c, _, 0, h => ⟨0, 0, n, c, .nil, h, by omega, by omega⟩
  | _, _, _, _, j + 1, .nil => ⟨0, 0, 0, 0, .nil, .nil, rfl, rfl⟩
  | _, _, _, _, j + 1, .cons hu ht hb e1 e2 => by
    obtain ⟨n1, c1, n2, c2, a, b, d1, d2⟩ := hb.take j
    exact ⟨_, _, n2, c2, .cons hu ht a rfl rfl, b, by omega, by omega⟩
theorem TcB.at : ∀ {k n c : Nat} {bs : List PyData} {j : Nat} {b : PyData}, TcB k n c bs → bs[j]? = some b → ∃ k' u t n1 c1, k = k' + 1 ∧ b = .tuple [.str u, t] ∧ efS u ∧ Tc k' n1 c1 t
  | _, _, _, _, _, _, .nil, h => by simp at h
  | _, _, _, _, 0, _, .cons hu ht _ _ _, h => by
    cases h
    exact ⟨_, _, _, _, _, rfl, rfl, hu, ht⟩
  | _, _, _, _, j + 1, _, .cons _ _ hb _ _, h => hb.at (j := j) h
theorem Tc.pos : ∀ {k n c : Nat} {d : PyData}, Tc k n c d → 1 ≤ n
  | _, _, _, _, .mk _ _ _ _ e1 _ => by omega
def smS (x : Str) : Prop := PyData.strOk x = true ∧ x.length = 1
instance (x : Str) : Decidable (smS x) := by
  unfold smS
  infer_instance
theorem abc_sm {x : Str} (h : x ∈ abc3) : smS x := by
  simp only [abc3, List.mem_cons, List.not_mem_nil, or_false] at h
  rcases h with rfl | rfl | rfl <;> decide +kernel
theorem ef_sm {u : Str} (h : efS u) : smS u := by
  rcases h with rfl | rfl <;> decide +kernel
theorem sub_sm {ms : List Str} (h : ms.Sublist abc3) : ∀ x ∈ ms, smS x := fun x hx => abc_sm (h.subset hx)
theorem sub_len {ms : List Str} (h : ms.Sublist abc3) : ms.length ≤ 3 := h.length_le
/-- how many draws at most -/
def dn : Nat → Int
  | 0 => 10
  | k + 1 => 10 + 3 * (4 + dn k)
def spTr (k : Nat) : Sp := fun vs H Q _ => ∃ (m c l : Addr) (cs ls : List Int) (n size : Int), vs = [.ref m, .int size, .int (k : Int)] ∧ MAt H m c l cs ls n ∧ n + dn k ≤ 1000000000 ∧ 1 ≤ size ∧ size ≤ 1000 ∧
  ∀ r d q H' l' ls' n', MAt H' m c l' cs ls' n' → n' ≤ n + dn k → Fs H m l H' l' → Dq (fr H' m l') r d → Tc k q 0 d → (q : Int) ≤ size → Q r H'
theorem MAt.at {H : Hp} {m c l D : Addr} {cs ls : List Int} {n : Int} {o : HO} (M : MAt H m c l cs ls n) (hm : D ≠ m) (hc : D ≠ c) (hl : D ≠ l) : MAt (upd H D o) m c l cs ls n :=
  ⟨by rw [upd_ne hm.symm]; exact M.hm, by rw [upd_ne hc.symm]; exact M.hc, by rw [upd_ne hl.symm]; exact M.hl, M.ne, M.n0, M.nb, M.cb, M.lb⟩
/-- a list that is written while numbers are drawn -/
structure Dl (H : Hp) (m c l : Addr) (cs : List Int) (n : Int) (k : Int) (D : Addr) (xs : List V) (H' : Hp) (l' : Addr) (ls' : List Int) (n' : Int) : Prop where
  mat : MAt H' m c l' cs ls' n'
  le : n' ≤ n + k
  sm : Fs H m l H' l'
  dd : fr H' m l' D = some (.lst xs)
theorem Dl.next {H H' H6 : Hp} {m c l l' l6 D : Addr} {cs ls' ls6 : List Int} {n k n' n6 j k' : Int} {xs : List V} (d : Dl H m c l cs n k D xs H' l' ls' n') (M : MAt H6 m c l6 cs ls6 n6) (h : n6 ≤ n' + j) (s : Fs H' m l' H6 l6) (hk : k + j ≤ k') : Dl H m c l cs n k' D xs H6 l6 ls6 n6 :=
  ⟨M, by have := d.le; omega, d.sm.trans s, s.1 _ _ d.dd⟩
theorem Dl.put {H H' : Hp} {m c l l' D : Addr} {cs ls' : List Int} {n k n' : Int} {xs ys : List V} (d : Dl H m c l cs n k D xs H' l' ls' n') (hD : H D = none) (hm : D ≠ m) (hc : D ≠ c) : Dl H m c l cs n k D ys (upd H' D (.lst ys)) l' ls' n' := by
  obtain ⟨h1, h2, h3⟩ := fr_of d.dd
  refine ⟨d.mat.at h1 hc h2, d.le, ⟨fun b o e => ?_, fun b hb => ?_⟩, fr_some upd_same h1 h2⟩
  rotate_left
  · refine d.sm.2 b ?_
    by_cases z : b = D
    · rw [z, upd_same] at hb
      cases hb
    · rw [upd_ne z] at hb
      exact hb
  have nb : b ≠ D := fun z => by
    have y := (fr_of e).2.2
    rw [z, hD] at y
    cases y
  obtain ⟨g1, g2, g3⟩ := fr_of (d.sm.1 _ _ e)
  exact fr_some (by rw [upd_ne nb]; exact g3) g1 g2
theorem dn_pos : ∀ j, 0 ≤ dn j
  | 0 => by decide
  | j + 1 => by
    have := dn_pos j
    show 0 ≤ 10 + 3 * (4 + dn j)
    omega
def leftOf (σ : L2.St) : Nat := match σ[5]? with | some (some (V.int n)) => n.toNat | _ => 0
mutual
def tupO : PyData → Bool
  | .str _ => true
  | .tuple ds => tupA ds
  | _ => false
def tupA : List PyData → Bool
  | [] => true
  | d :: ds => tupO d && tupA ds
end
mutual
theorem _root_.DQ.Dq.tups {H H' : Hp} (s : ∀ b xs, H b = some (.tup xs) → H' b = some (.tup xs)) : ∀ {v : V} {d : PyData}, Dq H v d → tupO d = true → Dq H' v d
  | _, _, .non, h => by cases h
  | _, _, .bl b, h => by cases h
  | _, _, .int i, h => by cases h
  | _, _, .str x hx, _ => .str x hx
  | _, _, .lst _ _, h => by cases h
  | _, _, .tup e a, h => .tup (s _ _ e) (a.tups s (by simpa [tupO] using h))
  | _, _, .dic _, h => by cases h
theorem _root_.DQ.DqAll.tups {H H' : Hp} (s : ∀ b xs, H b = some (.tup xs) → H' b = some (.tup xs)) : ∀ {vs : List V} {ds : List PyData}, DqAll H vs ds → tupA ds = true → DqAll H' vs ds
  | _, _, .nil, _ => .nil
  | _, _, .cons a b, h => by
    have h' := Bool.and_eq_true_iff.mp (by simpa [tupA] using h)
    exact .cons (a.tups s h'.1) (b.tups s h'.2)
end
theorem tupA_iff : ∀ {ds : List PyData}, tupA ds = true ↔ ∀ d ∈ ds, tupO d = true
  | [] => by simp [tupA]
  | d :: ds => by
    simp only [tupA, Bool.and_eq_true, List.mem_cons, tupA_iff (ds := ds)]
    constructor
    · rintro ⟨h1, h2⟩ y (rfl | hy)
      · exact h1
      · exact h2 y hy
    · intro h
      exact ⟨h d (.inl rfl), fun y hy => h y (.inr hy)⟩
theorem tup_strs (ms : List Str) : tupA (ms.map PyData.str) = true := tupA_iff.mpr fun d hd => by
  obtain ⟨x, _, rfl⟩ := List.mem_map.mp hd
  rfl
mutual
theorem Tc.tup : ∀ {k n c : Nat} {d : PyData}, Tc k n c d → tupO d = true
  | _, _, _, _, .mk _ _ hr hb _ _ => by
    have z := hb.tup
    rcases hr with ⟨rfl, _⟩ | ⟨rfl, _⟩
    · simp only [tupO, tupA, tup_strs, z, Bool.and_self]
    · simp only [tupO, tupA, tup_strs, z, Bool.and_self]
theorem TcB.tup : ∀ {k n c : Nat} {bs : List PyData}, TcB k n c bs → tupA bs = true
  | _, _, _, _, .nil => rfl
  | _, _, _, _, .cons _ ht hb _ _ => by simp only [tupO, tupA, ht.tup, hb.tup, Bool.and_self]
end
theorem abc_at (y : V) (i : Nat) (h : [V.str "a", V.str "b", V.str "c"][i]? = some y) : ∃ x, y = V.str x ∧ abc3[i]? = some x := by
  have z : (abc3.map V.str)[i]? = some y := h
  rw [List.getElem?_map] at z
  obtain ⟨x, hx, e⟩ := Option.map_eq_some_iff.mp z
  exact ⟨x, e.symm, hx⟩
theorem dq_marks {H : Hp} {ms : List Str} (h : ms.Sublist abc3) : DqAll H (ms.map V.str) (ms.map PyData.str) :=
  DqAll.strs ms fun x hx => ⟨by rw [(sub_sm h x hx).2]; decide, (sub_sm h x hx).1⟩
section
variable {P : Program} {w : World} {K : PySem.W.Frag} {mg : Str → Option Value} {base : Heap}
theorem scTe : FnScope ["m", "size", "deep", "marks", "one", "left", "branches", "part", "below"] ["m", "size", "deep"] (defScope sTree) := ⟨rfl, rfl, rfl, by decide +kernel, rfl, by decide +kernel, by decide +kernel⟩
theorem ok_tree {f fN : Addr} {fd dN : FuncData} (F : Fun K "_law_tree" "_law_tree" sTree f fd) (bF : Binds K fd ["m", "size", "deep"] []) (gF : mg "_law_tree" = some (.ref f)) (FN : Fun K "_law_next" "_law_next" sNext fN dN) (bN : Binds K dN ["m", "many"] []) (gN : mg "_law_next" = some (.ref fN)) (T : TxtB mg) (tT : mg "tuple" = none) :
    ∀ k, k ≤ 4 → FnOk P w K mg base CX0 (3 + k) f fd ["m", "size", "deep"] (spTr k) := by
  have GN : FnOk P w K mg base CX0 1 fN dN ["m", "many"] spNx := (ok_next FN T).imp fun _ _ _ _ => nx_of
  have bi : bootBuiltins ("int" : Str) = some (.type "int") := by decide +kernel
  intro k
  induction k with
  | zero =>
    intro _
    refine F.ok (k := 2) scTe (fun vs H Q E h => ?_) (fun cdv A outer s H vs Q E hr h => ?_)
    · obtain ⟨m, c, l, cs, ls, n, size, rfl, _⟩ := h
      rfl
    · obtain ⟨m, c, l, cs, ls, n, size, rfl, M, hn, sz1, sz9, kk⟩ := h
      refine ⟨_, pss_cons (ps_set (i := 3) scTe.nd rfl (Or.inl rfl) (pe_callTy call_tuple_of (by rfl) tT btup (pa_cons (pe_lc (own := [("one", 4)]) (g := gName 4) rfl scTe.nd (pi_tup (pe_tup (pa_cons pe_str (pa_cons pe_str (pa_cons pe_str pa_nil))))) (blkOk_by (own := [("one", 4)]) (N := ["m", "size", "deep", "marks", "one", "left", "branches", "part", "below"]) (sc := defScope sTree) (by decide +kernel))
          (fun _ _ _ _ _ => pg_name (i := 4) scTe.nd rfl (Or.inl rfl)) (fun _ _ _ _ _ => pts_one (pt_cmpR op_eq (pe_call GN (hr.mono (by omega)) (by rfl) gN FN.kp bN .nil pass0 (pa_cons (pv 0) (pa_cons pe_int pa_nil))) pe_int (by rfl))) (fun _ _ _ _ _ => pv 4)) pa_nil)))
        (pss_cons (ps_par rfl scTe.nd (i := 5) (j := 6) rfl rfl (by decide) rfl rfl (pa_cons (pe_op op_sub (pv 1) pe_int) (pa_cons (pe_lst pa_nil) pa_nil)) rfl)
        (pss_cons (ps_while PassesOwn.never (PW.pt (pw_and (pt_cmpR op_gt (pv 5) pe_int (by rfl)) (pw_and (pt_cmpR op_gt (pv 2) pe_int (by rfl)) (pw_and (pt_cmpR op_lt (pe_callB call_len_seq (by rfl) T.len PySem.boot_len (pa_cons (pv 6) pa_nil)) pe_int (by rfl))
            (pw_and1 (pt_cmpR op_gt (pe_call GN (hr.mono (by omega)) (by rfl) gN FN.kp bN .nil pass0 (pa_cons (pv 0) (pa_cons pe_int pa_nil))) pe_int (by rfl)))))))
          (pss_cons ps_never (pss_cons ps_never (pss_cons ps_never (pss_one ps_never)))))
        (pss_one (ps_ret (pe_tup (pa_cons (pv 3) (pa_cons (pe_callTy call_tuple_of (by rfl) tT btup (pa_cons (pv 6) pa_nil)) pa_nil))))))), ?_⟩
      refine ⟨by show 3 ≤ sizeLine; decide, fun p0 np0 => ⟨p0, rfl, ⟨_, SqT.of upd_same⟩, fun D nD => ?_⟩⟩
      have G0 : Gw m c l cs ls n H H := ⟨M, .refl⟩
      obtain ⟨G1, t1, e1⟩ := G0.new (o := .tup [.str "a", .str "b", .str "c"]) np0
      obtain ⟨G2, t2, e2⟩ := G1.new (o := .lst []) nD
      have hD0 : H D = none := same_out (same_new (o := .tup [.str "a", .str "b", .str "c"]) np0) nD
      have Dm : D ≠ m := (ne_of_none M.hm hD0).symm
      have Dc : D ≠ c := (ne_of_none M.hc hD0).symm
      have sm1 : ∀ y (i : Nat), [V.str "a", V.str "b", V.str "c"][i]? = some y → ∃ x, y = V.str x ∧ abc3[i]? = some x := abc_at
      refine lc_it (walk_tup (xs := [.str "a", .str "b", .str "c"])) (fun i H' => ∃ (l' : Addr) (ls' : List Int) (n' : Int) (ys : List Str), Dl H m c l cs n i D (ys.map V.str) H' l' ls' n' ∧ fr H' m l' p0 = some (.tup [.str "a", .str "b", .str "c"]) ∧ ys.Sublist (abc3.take i))
        ⟨l, ls, n, [], ⟨G2.mat, by omega, G2.sm, e2⟩, t2 _ _ e1, List.nil_sublist _⟩ (fun i H' _ ⟨_, _, _, _, _, e, _⟩ => SqT.of (fr_of e).2.2) ?_ ?_
      · rintro i y H5 H6 hi ⟨l', ls', n', ys, d, e, hy⟩ ⟨rfl, hx⟩
        have i3 : i < 3 := hi
        have dk : (10 : Int) ≤ dn 0 := Int.le_refl _
        refine ⟨rfl, _, rfl, m, c, l', 5, cs, ls', n', rfl, d.mat, by decide, by decide, by have := d.le; omega, fun r H7 l7 ls7 n7 r0 r1 M7 nn s7 => ⟨rfl, _, rfl, ?_⟩⟩
        have d7 : Dl H m c l cs n ((i + 1 : Nat) : Int) D (ys.map V.str) H7 l7 ls7 n7 := d.next M7 nn s7 (by omega)
        obtain ⟨x, rfl, hsx⟩ := sm1 y i hx
        have tk : abc3.take (i + 1) = abc3.take i ++ [x] := by rw [List.take_add_one, hsx]; rfl
        have ly : ys.length ≤ 3 := (hy.trans (List.take_sublist _ _)).length_le
        refine ite2 (fun _ => ?_) (fun _ => ?_)
        · have ld : ((ys.map V.str)).length < sizeLine := small1000 (by rw [List.length_map]; omega)
          refine ⟨_, rfl, _, (fr_of d7.dd).2.2, ld, l7, ls7, n7, ys ++ [x], ?_, ?_, ?_⟩
          · have z := d7.put (ys := (ys ++ [x]).map V.str) hD0 Dm Dc
            rw [List.map_append] at z ⊢
            exact z
          · obtain ⟨g1, g2, g3⟩ := fr_of (s7.1 _ _ e)
            have pD : p0 ≠ D := ne_of_none (upd_same (H := H) (a := p0) (o := .tup [.str "a", .str "b", .str "c"])) nD
            exact fr_some (by rw [upd_ne pD]; exact g3) g1 g2
          · rw [tk]
            exact hy.append (List.Sublist.refl _)
        · exact ⟨l7, ls7, n7, ys, d7, s7.1 _ _ e, by rw [tk]; exact hy.trans (List.sublist_append_left _ _)⟩
      rintro H5 ⟨l5, ls5, n5, ms, d5, e5, hms0⟩
      have hms : ms.Sublist abc3 := hms0
      refine ⟨D, _, rfl, .inl ⟨SqL.of (fr_of d5.dd).2.2, fun p1 np1 => ?_⟩⟩
      refine ⟨_, rfl, _, _, rfl, rfl, Nat.zero_le _, fun br nbr => ⟨_, _, rfl, ?_⟩⟩
      have G5 : Gw m c l5 cs ls5 n5 H5 H5 := ⟨d5.mat, .refl⟩
      obtain ⟨G6, t6, e6⟩ := G5.new (o := .tup (ms.map V.str)) np1
      obtain ⟨G7, t7, e7⟩ := G6.new (o := .lst []) nbr
      have hb0 : H br = none := d5.sm.2 _ (G6.sm.2 _ nbr)
      refine while_by (fun σ' H' => σ' = [some (V.ref m), some (V.int size), some (V.int ((0 : Nat) : Int)), some (V.ref p1), none, some (V.int (size - 1)), some (V.ref br), none, none] ∧ H' = upd (upd H5 p1 (.tup (ms.map V.str))) br (.lst [])) (fun _ _ => 0) ⟨rfl, rfl⟩ ?_ ?_
      · rintro σ' H' ⟨rfl, rfl⟩
        have fin : ∀ p2 p3, upd (upd H5 p1 (.tup (ms.map V.str))) br (.lst []) p2 = none → upd (upd (upd H5 p1 (.tup (ms.map V.str))) br (.lst [])) p2 (.tup []) p3 = none → Q (.ref p3) (upd (upd (upd (upd H5 p1 (.tup (ms.map V.str))) br (.lst [])) p2 (.tup [])) p3 (.tup [.ref p1, .ref p2])) := fun p2 p3 np2 np3 => by
          obtain ⟨GA, tA, eA⟩ := G7.new (o := .tup []) np2
          obtain ⟨GB, tB, eB⟩ := GA.new (o := .tup [.ref p1, .ref p2]) np3
          have h5 : n5 ≤ n + 3 := d5.le
          refine kk (.ref p3) _ _ _ _ _ _ GB.mat (by show n5 ≤ n + 10; omega) (d5.sm.trans GB.sm) (.tup eB (.cons (.tup (tB _ _ (tA _ _ (t7 _ _ e6))) (dq_marks hms)) (.cons (.tup (tB _ _ eA) .nil) .nil))) (.mk hms (Nat.zero_le _) (.inl ⟨rfl, rfl⟩) .nil rfl rfl) (by omega)
        refine ⟨_, rfl, _, _, rfl, rfl, _, rfl, ?_⟩
        refine ite2 (fun _ => ?_) (fun _ => ?_)
        · refine ⟨_, rfl, _, _, rfl, rfl, _, rfl, ?_⟩
          refine iteF (iteF ?_)
          exact ⟨_, rfl, _, rfl, br, _, rfl, .inl ⟨SqL.of (fr_of e7).2.2, fun p2 np2 => ⟨by show 2 ≤ sizeLine; decide, fun p3 np3 => fin p2 p3 np2 np3⟩⟩⟩
        · exact iteF ⟨_, rfl, _, rfl, br, _, rfl, .inl ⟨SqL.of (fr_of e7).2.2, fun p2 np2 => ⟨by show 2 ≤ sizeLine; decide, fun p3 np3 => fin p2 p3 np2 np3⟩⟩⟩
      · intro σ' H' Q1 Q2 hq h
        obtain ⟨v, e1, i, j, e2, e3, b, e4, h⟩ := h
        refine ⟨v, e1, i, j, e2, e3, b, e4, ?_⟩
        cases b with
        | false => exact hq _ _ h
        | true =>
        obtain ⟨v, e1, i, j, e2, e3, b, e4, h⟩ := h
        refine ⟨v, e1, i, j, e2, e3, b, e4, ?_⟩
        cases b with
        | false => exact hq _ _ h
        | true =>
        obtain ⟨v, e1, p, ys, e2, sq, i, j, e3, e4, b, e5, h⟩ := h
        refine ⟨v, e1, p, ys, e2, sq, i, j, e3, e4, b, e5, ?_⟩
        cases b with
        | false => exact hq _ _ h
        | true =>
        obtain ⟨v, e1, m, c, l, many, cs, ls, n, e2, M, h1, h2, h3, kk⟩ := h
        refine ⟨v, e1, m, c, l, many, cs, ls, n, e2, M, h1, h2, h3, fun r H' l' ls' n' r0 r1 M' nn s => ?_⟩
        obtain ⟨i, j, f1, f2, b, f3, q⟩ := kk r H' l' ls' n' r0 r1 M' nn s
        exact ⟨i, j, f1, f2, b, f3, hq _ _ q⟩
  | succ k ih =>
    intro hk
    have GS : FnOk P w K mg base CX0 (3 + k) f fd ["m", "size", "deep"] (spTr k) := ih (by omega)
    refine F.ok (k := 3 + k) scTe (fun vs H Q E h => ?_) (fun cdv A outer s H vs Q E hr h => ?_)
    · obtain ⟨m, c, l, cs, ls, n, size, rfl, _⟩ := h
      rfl
    · obtain ⟨m, c, l, cs, ls, n, size, rfl, M, hn, sz1, sz9, kk⟩ := h
      refine ⟨_, pss_cons (ps_set (i := 3) scTe.nd rfl (Or.inl rfl) (pe_callTy call_tuple_of (by rfl) tT btup (pa_cons (pe_lc (own := [("one", 4)]) (g := gName 4) rfl scTe.nd (pi_tup (pe_tup (pa_cons pe_str (pa_cons pe_str (pa_cons pe_str pa_nil))))) (blkOk_by (own := [("one", 4)]) (N := ["m", "size", "deep", "marks", "one", "left", "branches", "part", "below"]) (sc := defScope sTree) (by decide +kernel))
          (fun _ _ _ _ _ => pg_name (i := 4) scTe.nd rfl (Or.inl rfl)) (fun _ _ _ _ _ => pts_one (pt_cmpR op_eq (pe_call GN (hr.mono (by omega)) (by rfl) gN FN.kp bN .nil pass0 (pa_cons (pv 0) (pa_cons pe_int pa_nil))) pe_int (by rfl))) (fun _ _ _ _ _ => pv 4)) pa_nil)))
        (pss_cons (ps_par rfl scTe.nd (i := 5) (j := 6) rfl rfl (by decide) rfl rfl (pa_cons (pe_op op_sub (pv 1) pe_int) (pa_cons (pe_lst pa_nil) pa_nil)) rfl)
        (pss_cons (ps_while PassesOwn.never (PW.pt (pw_and (pt_cmpR op_gt (pv 5) pe_int (by rfl)) (pw_and (pt_cmpR op_gt (pv 2) pe_int (by rfl)) (pw_and (pt_cmpR op_lt (pe_callB call_len_seq (by rfl) T.len PySem.boot_len (pa_cons (pv 6) pa_nil)) pe_int (by rfl))
            (pw_and1 (pt_cmpR op_gt (pe_call GN (hr.mono (by omega)) (by rfl) gN FN.kp bN .nil pass0 (pa_cons (pv 0) (pa_cons pe_int pa_nil))) pe_int (by rfl)))))))
          (pss_cons (ps_set (i := 7) scTe.nd rfl (Or.inl rfl) (pe_op op_add pe_int (pe_call GN (hr.mono (by omega)) (by rfl) gN FN.kp bN .nil pass0 (pa_cons (pv 0) (pa_cons (pv 5) pa_nil)))))
          (pss_cons (ps_set (i := 8) scTe.nd rfl (Or.inl rfl) (pe_call GS hr (by rfl) gF F.kp bF .nil pass0 (pa_cons (pv 0) (pa_cons (pv 7) (pa_cons (pe_op op_sub (pv 2) pe_int) pa_nil)))))
          (pss_cons (ps_expr (pe_bm PySem.F.plainAttrs_list PySem.F.slot_list_append PySem.F.type_list_append mt_append (pv 6) (pa_cons (pe_tup (pa_cons (pe_ix ix_list (pe_lst (pa_cons pe_str (pa_cons pe_str pa_nil))) (pe_callTy call_int1 (by rfl) T.int bi (pa_cons (pe_cmpR op_eq (pe_call GN (hr.mono (by omega)) (by rfl) gN FN.kp bN .nil pass0 (pa_cons (pv 0) (pa_cons pe_int pa_nil))) pe_int (by rfl)) pa_nil)) (fun _ _ => rfl))
              (pa_cons (pv 8) pa_nil))) pa_nil)))
          (pss_one (ps_set (i := 5) scTe.nd rfl (Or.inl rfl) (pe_op op_sub (pv 5) (pv 7))))))))
        (pss_one (ps_ret (pe_tup (pa_cons (pv 3) (pa_cons (pe_callTy call_tuple_of (by rfl) tT btup (pa_cons (pv 6) pa_nil)) pa_nil))))))), ?_⟩
      refine ⟨by show 3 ≤ sizeLine; decide, fun p0 np0 => ⟨p0, rfl, ⟨_, SqT.of upd_same⟩, fun D nD => ?_⟩⟩
      have G0 : Gw m c l cs ls n H H := ⟨M, .refl⟩
      obtain ⟨G1, t1, e1⟩ := G0.new (o := .tup [.str "a", .str "b", .str "c"]) np0
      obtain ⟨G2, t2, e2⟩ := G1.new (o := .lst []) nD
      have hD0 : H D = none := same_out (same_new (o := .tup [.str "a", .str "b", .str "c"]) np0) nD
      have Dm : D ≠ m := (ne_of_none M.hm hD0).symm
      have Dc : D ≠ c := (ne_of_none M.hc hD0).symm
      have sm1 : ∀ y (i : Nat), [V.str "a", V.str "b", V.str "c"][i]? = some y → ∃ x, y = V.str x ∧ abc3[i]? = some x := abc_at
      refine lc_it (walk_tup (xs := [.str "a", .str "b", .str "c"])) (fun i H' => ∃ (l' : Addr) (ls' : List Int) (n' : Int) (ys : List Str), Dl H m c l cs n i D (ys.map V.str) H' l' ls' n' ∧ fr H' m l' p0 = some (.tup [.str "a", .str "b", .str "c"]) ∧ ys.Sublist (abc3.take i))
        ⟨l, ls, n, [], ⟨G2.mat, by omega, G2.sm, e2⟩, t2 _ _ e1, List.nil_sublist _⟩ (fun i H' _ ⟨_, _, _, _, _, e, _⟩ => SqT.of (fr_of e).2.2) ?_ ?_
      · rintro i y H5 H6 hi ⟨l', ls', n', ys, d, e, hy⟩ ⟨rfl, hx⟩
        have i3 : i < 3 := hi
        have dk : (10 : Int) ≤ dn (k + 1) := by
          have : ∀ j, 0 ≤ dn j := fun j => by induction j with | zero => decide | succ j ih => show 0 ≤ 10 + 3 * (4 + dn j); omega
          have := this k
          show 10 ≤ 10 + 3 * (4 + dn k)
          omega
        refine ⟨rfl, _, rfl, m, c, l', 5, cs, ls', n', rfl, d.mat, by decide, by decide, by have := d.le; omega, fun r H7 l7 ls7 n7 r0 r1 M7 nn s7 => ⟨rfl, _, rfl, ?_⟩⟩
        have d7 : Dl H m c l cs n ((i + 1 : Nat) : Int) D (ys.map V.str) H7 l7 ls7 n7 := d.next M7 nn s7 (by omega)
        obtain ⟨x, rfl, hsx⟩ := sm1 y i hx
        have tk : abc3.take (i + 1) = abc3.take i ++ [x] := by rw [List.take_add_one, hsx]; rfl
        have ly : ys.length ≤ 3 := (hy.trans (List.take_sublist _ _)).length_le
        refine ite2 (fun _ => ?_) (fun _ => ?_)
        · have ld : ((ys.map V.str)).length < sizeLine := small1000 (by rw [List.length_map]; omega)
          refine ⟨_, rfl, _, (fr_of d7.dd).2.2, ld, l7, ls7, n7, ys ++ [x], ?_, ?_, ?_⟩
          · have z := d7.put (ys := (ys ++ [x]).map V.str) hD0 Dm Dc
            rw [List.map_append] at z ⊢
            exact z
          · obtain ⟨g1, g2, g3⟩ := fr_of (s7.1 _ _ e)
            have pD : p0 ≠ D := ne_of_none (upd_same (H := H) (a := p0) (o := .tup [.str "a", .str "b", .str "c"])) nD
            exact fr_some (by rw [upd_ne pD]; exact g3) g1 g2
          · rw [tk]
            exact hy.append (List.Sublist.refl _)
        · exact ⟨l7, ls7, n7, ys, d7, s7.1 _ _ e, by rw [tk]; exact hy.trans (List.sublist_append_left _ _)⟩
      rintro H5 ⟨l5, ls5, n5, ms, d5, e5, hms0⟩
      have hms : ms.Sublist abc3 := hms0
      refine ⟨D, _, rfl, .inl ⟨SqL.of (fr_of d5.dd).2.2, fun p1 np1 => ?_⟩⟩
      refine ⟨_, rfl, _, _, rfl, rfl, Nat.zero_le _, fun br nbr => ⟨_, _, rfl, ?_⟩⟩
      have G5 : Gw m c l5 cs ls5 n5 H5 H5 := ⟨d5.mat, .refl⟩
      obtain ⟨G6, t6, e6⟩ := G5.new (o := .tup (ms.map V.str)) np1
      obtain ⟨G7, t7, e7⟩ := G6.new (o := .lst []) nbr
      have hb0 : H br = none := d5.sm.2 _ (G6.sm.2 _ nbr)
      have brm : br ≠ m := (ne_of_none M.hm hb0).symm
      have brc : br ≠ c := (ne_of_none M.hc hb0).symm
      have dp := dn_pos k
      refine while_by (fun σ' H' => ∃ (left : Int) (l' : Addr) (ls' : List Int) (n' : Int) (vs : List V) (bs : List PyData) (nb : Nat) (w4 w7 w8 : Option V), σ' = [some (V.ref m), some (V.int size), some (V.int ((k + 1 : Nat) : Int)), some (V.ref p1), w4, some (V.int left), some (V.ref br), w7, w8] ∧
        Dl H m c l cs n (3 + (bs.length : Int) * (4 + dn k)) br vs H' l' ls' n' ∧ fr H' m l' p1 = some (.tup (ms.map V.str)) ∧ DqAll (fr H' m l') vs bs ∧ bs.length ≤ 3 ∧ TcB (k + 1) nb 0 bs ∧ left ≤ 1000 ∧ 0 ≤ left ∧ (nb : Int) + 1 + left ≤ size) (fun σ' _ => leftOf σ')
        ⟨_, l5, ls5, n5, [], [], 0, _, _, _, rfl, ⟨G7.mat, by have h5 : n5 ≤ n + 3 := d5.le; rw [List.length_nil]; omega, d5.sm.trans G7.sm, e7⟩, t7 _ _ e6, .nil, by decide, .nil, by omega, by omega, by omega⟩ ?_ ?_
      · rintro σ' H' ⟨left, l', ls', n', vs, bs, nb, w4, w7, w8, rfl, d, eM, qd, b3, hbs, l1000, l0, lsz⟩
        have jn : (0 : Int) ≤ (bs.length : Int) * (4 + dn k) := Int.mul_nonneg (by omega) (by omega)
        have j3 : (bs.length : Int) * (4 + dn k) ≤ 3 * (4 + dn k) := Int.mul_le_mul_of_nonneg_right (by omega) (by omega)
        have hn' : n + (10 + 3 * (4 + dn k)) ≤ 1000000000 := hn
        have nle := d.le
        have vb : vs.length = bs.length := qd.len
        refine ⟨_, rfl, _, _, rfl, rfl, _, rfl, ?_⟩
        by_cases hl : ¬ 0 < left
        · rw [decide_eq_false hl]
          refine iteF ?_
          have dE : Dl H m c l cs n (4 + (bs.length : Int) * (4 + dn k)) br vs H' l' ls' n' := ⟨d.mat, by omega, d.sm, d.dd⟩
          have qE := qd
          refine ⟨_, rfl, _, rfl, br, _, rfl, .inl ⟨SqL.of (fr_of dE.dd).2.2, fun p2 np2 => ⟨by show 2 ≤ sizeLine; decide, fun p3 np3 => ?_⟩⟩⟩
          have GE : Gw m c _ cs _ _ _ _ := ⟨dE.mat, .refl⟩
          obtain ⟨GA, tA, eA⟩ := GE.new (o := .tup vs) np2
          obtain ⟨GB, tB, eB⟩ := GA.new (o := .tup [.ref p1, .ref p2]) np3
          refine kk (.ref p3) _ _ _ _ _ _ GB.mat ?_ (dE.sm.trans GB.sm) (.tup eB (.cons (.tup (tB _ _ (tA _ _ eM)) (dq_marks hms)) (.cons (.tup (tB _ _ eA) ((qE.same tA).same tB)) .nil))) (.mk hms b3 (.inl ⟨rfl, rfl⟩) hbs rfl rfl) (by omega)
          have := dE.le
          have := dn_pos k
          show _ ≤ n + (10 + 3 * (4 + dn k))
          have j3 : (bs.length : Int) * (4 + dn k) ≤ 3 * (4 + dn k) := Int.mul_le_mul_of_nonneg_right (by omega) (by omega)
          omega
        have hl' := Classical.not_not.mp hl
        rw [decide_eq_true hl']
        refine iteT ⟨_, rfl, _, _, rfl, rfl, _, rfl, ?_⟩
        rw [decide_eq_true (show (0 : Int) < ((k + 1 : Nat) : Int) by omega)]
        refine iteT ⟨_, rfl, br, _, rfl, .inl (SqL.of (fr_of d.dd).2.2), _, _, rfl, rfl, _, rfl, ?_⟩
        by_cases hb3 : ¬ (vs.length : Int) < 3
        · rw [decide_eq_false hb3]
          refine iteF ?_
          have dE : Dl H m c l cs n (4 + (bs.length : Int) * (4 + dn k)) br vs H' l' ls' n' := ⟨d.mat, by omega, d.sm, d.dd⟩
          have qE := qd
          refine ⟨_, rfl, _, rfl, br, _, rfl, .inl ⟨SqL.of (fr_of dE.dd).2.2, fun p2 np2 => ⟨by show 2 ≤ sizeLine; decide, fun p3 np3 => ?_⟩⟩⟩
          have GE : Gw m c _ cs _ _ _ _ := ⟨dE.mat, .refl⟩
          obtain ⟨GA, tA, eA⟩ := GE.new (o := .tup vs) np2
          obtain ⟨GB, tB, eB⟩ := GA.new (o := .tup [.ref p1, .ref p2]) np3
          refine kk (.ref p3) _ _ _ _ _ _ GB.mat ?_ (dE.sm.trans GB.sm) (.tup eB (.cons (.tup (tB _ _ (tA _ _ eM)) (dq_marks hms)) (.cons (.tup (tB _ _ eA) ((qE.same tA).same tB)) .nil))) (.mk hms b3 (.inl ⟨rfl, rfl⟩) hbs rfl rfl) (by omega)
          have := dE.le
          have := dn_pos k
          show _ ≤ n + (10 + 3 * (4 + dn k))
          have j3 : (bs.length : Int) * (4 + dn k) ≤ 3 * (4 + dn k) := Int.mul_le_mul_of_nonneg_right (by omega) (by omega)
          omega
        have hb3' := Classical.not_not.mp hb3
        rw [decide_eq_true hb3']
        refine iteT ⟨_, rfl, m, c, l', 3, cs, ls', n', rfl, d.mat, by decide, by decide, by omega, fun r H6 l6 ls6 n6 r0 r1 M6 nn s6 => ⟨_, _, rfl, rfl, _, rfl, ?_⟩⟩
        have d6 : Dl H m c l cs n (4 + (bs.length : Int) * (4 + dn k)) br vs H6 l6 ls6 n6 := d.next M6 nn s6 (by omega)
        have eM6 := s6.1 _ _ eM
        have qd6 := qd.same s6.1
        by_cases hr0 : ¬ 0 < r
        · rw [decide_eq_false hr0]
          refine iteF ?_
          have dE := d6
          have qE := qd6
          have eM := eM6
          refine ⟨_, rfl, _, rfl, br, _, rfl, .inl ⟨SqL.of (fr_of dE.dd).2.2, fun p2 np2 => ⟨by show 2 ≤ sizeLine; decide, fun p3 np3 => ?_⟩⟩⟩
          have GE : Gw m c _ cs _ _ _ _ := ⟨dE.mat, .refl⟩
          obtain ⟨GA, tA, eA⟩ := GE.new (o := .tup vs) np2
          obtain ⟨GB, tB, eB⟩ := GA.new (o := .tup [.ref p1, .ref p2]) np3
          refine kk (.ref p3) _ _ _ _ _ _ GB.mat ?_ (dE.sm.trans GB.sm) (.tup eB (.cons (.tup (tB _ _ (tA _ _ eM)) (dq_marks hms)) (.cons (.tup (tB _ _ eA) ((qE.same tA).same tB)) .nil))) (.mk hms b3 (.inl ⟨rfl, rfl⟩) hbs rfl rfl) (by omega)
          have := dE.le
          have := dn_pos k
          show _ ≤ n + (10 + 3 * (4 + dn k))
          have j3 : (bs.length : Int) * (4 + dn k) ≤ 3 * (4 + dn k) := Int.mul_le_mul_of_nonneg_right (by omega) (by omega)
          omega
        rw [decide_eq_true (Classical.not_not.mp hr0)]
        have eK : ((bs.length : Int) + 1) * (4 + dn k) = (bs.length : Int) * (4 + dn k) + (4 + dn k) := by rw [Int.add_mul, Int.one_mul]
        have nle6 := d6.le
        have j2 : (bs.length : Int) * (4 + dn k) ≤ 2 * (4 + dn k) := Int.mul_le_mul_of_nonneg_right (by omega) (by omega)
        refine iteT ⟨_, rfl, _, rfl, m, c, l6, left, cs, ls6, n6, rfl, M6, hl', by omega, by omega, fun r7 H7 l7 ls7 n7 r70 r71 M7 nn7 s7 => ⟨_, _, rfl, rfl, ?_⟩⟩
        have d7 : Dl H m c l cs n (5 + (bs.length : Int) * (4 + dn k)) br vs H7 l7 ls7 n7 := d6.next M7 nn7 s7 (by omega)
        have nle7 := d7.le
        refine ⟨_, rfl, _, rfl, _, rfl, _, _, rfl, rfl, m, c, l7, cs, ls7, n7, 1 + r7, ?_, M7, by omega, by omega, by omega, fun r8 d8 qn8 H8 l8 ls8 n8 M8 nn8 s8 q8 t8 hq8 => ?_⟩
        · show [V.ref m, V.int (1 + r7), V.int (((k + 1 : Nat) : Int) - 1)] = _
          rw [show ((k + 1 : Nat) : Int) - 1 = (k : Int) by omega]
        have e8 : Dl H m c l cs n (5 + dn k + (bs.length : Int) * (4 + dn k)) br vs H8 l8 ls8 n8 := d7.next M8 nn8 s8 (by omega)
        have nle8 := e8.le
        have eM8 := s8.1 _ _ (s7.1 _ _ eM6)
        have qd8 := (qd6.same s7.1).same s8.1
        refine ⟨_, rfl, .inl ⟨rfl, _, SqL.of (fr_of e8.dd).2.2⟩, by show 2 ≤ sizeLine; decide, fun pl npl => ?_⟩
        have G8 : Gw m c l8 cs ls8 n8 H8 H8 := ⟨M8, .refl⟩
        obtain ⟨G9, t9, e9⟩ := G8.new (o := .lst [.str "e", .str "f"]) npl
        refine ⟨_, rfl, m, c, l8, 4, cs, ls8, n8, rfl, G9.mat, by decide, by decide, by omega, fun r9 H9 l9 ls9 n9 r90 r91 M9 nn9 s9 => ⟨rfl, .inr ⟨_, rfl, ?_⟩⟩⟩
        have d9 : Dl H m c l cs n (6 + dn k + (bs.length : Int) * (4 + dn k)) br vs H9 l9 ls9 n9 := e8.next M9 nn9 (G9.sm.trans s9) (by omega)
        have hx : ∃ u : Str, atI [V.str "e", V.str "f"] (if decide (V.int r9 = V.int 0) = true then 1 else 0) = some (V.str u) ∧ efS u := by
          cases decide (V.int r9 = V.int 0) with
          | true => exact ⟨"f", atI_nat (j := 1) rfl, .inr rfl⟩
          | false => exact ⟨"e", atI_nat (j := 0) rfl, .inl rfl⟩
        obtain ⟨u, hu, hfu⟩ := hx
        have hsu := ef_sm hfu
        have sA : Same (fr H8 m l8) (fr H9 m l9) := same_trans t9 s9.1
        refine ⟨pl, _, _, .str u, rfl, rfl, SqL.of (fr_of (s9.1 _ _ e9)).2.2, hu, _, rfl, by show 2 ≤ sizeLine; decide, fun pt npt => ?_⟩
        have GA : Gw m c l9 cs ls9 n9 H9 H9 := ⟨M9, .refl⟩
        obtain ⟨GB, tB, eB⟩ := GA.new (o := .tup [.str u, r8]) npt
        have dA : Dl H m c l cs n (6 + dn k + (bs.length : Int) * (4 + dn k)) br vs (upd H9 pt (.tup [.str u, r8])) l9 ls9 n9 := d9.next GB.mat (j := 0) (by omega) GB.sm (by omega)
        refine ⟨br, _, .ref pt, rfl, rfl, (fr_of dA.dd).2.2, small1000 (by omega), ?_⟩
        have dB := dA.put (ys := vs ++ [.ref pt]) hb0 brm brc
        have tA9 : TcB (k + 1) (nb + qn8) 0 (bs ++ [.tuple [.str u, d8]]) := hbs.app (.cons hfu t8 .nil rfl rfl)
        have kt : ∀ b xs, fr (upd H9 pt (.tup [.str u, r8])) m l9 b = some (.tup xs) → fr (upd (upd H9 pt (.tup [.str u, r8])) br (.lst (vs ++ [.ref pt]))) m l9 b = some (.tup xs) := fun b xs z => by
          obtain ⟨h1, h2, h3⟩ := fr_of z
          refine fr_some ?_ h1 h2
          rw [upd_ne fun y => by rw [y, dA.dd] at z; cases z]
          exact h3
        refine ⟨_, rfl, _, rfl, _, _, rfl, rfl, ⟨_, l9, ls9, n9, vs ++ [.ref pt], bs ++ [.tuple [.str u, d8]], nb + qn8, _, _, _, rfl, ⟨dB.mat, ?_, dB.sm, dB.dd⟩, kt _ _ (tB _ _ (sA _ _ eM8)), ?_, ?_, tA9, ?_, ?_, ?_⟩, ?_⟩
        · have := dB.le
          rw [List.length_append, List.length_singleton]
          have ec : (((bs.length + 1 : Nat) : Int)) * (4 + dn k) = ((bs.length : Int) + 1) * (4 + dn k) := by rw [Int.natCast_add]; rfl
          rw [ec, eK]
          omega
        · have qAll : DqAll (fr (upd H9 pt (.tup [.str u, r8])) m l9) (vs ++ [.ref pt]) (bs ++ [.tuple [.str u, d8]]) :=
            ((qd8.same sA).same tB).app (.cons (.tup eB (.cons (.str u ⟨by rw [hsu.2]; decide, hsu.1⟩) (.cons ((q8.same sA).same tB) .nil))) .nil)
          exact qAll.tups kt tA9.tup
        · rw [List.length_append, List.length_singleton]
          omega
        · omega
        · omega
        · omega
        · show (left - (1 + r7)).toNat < left.toNat
          omega
      · intro σ' H' Q1 Q2 hq h
        obtain ⟨v, e1, i, j, e2, e3, b, e4, h⟩ := h
        refine ⟨v, e1, i, j, e2, e3, b, e4, ?_⟩
        cases b with
        | false => exact hq _ _ h
        | true =>
        obtain ⟨v, e1, i, j, e2, e3, b, e4, h⟩ := h
        refine ⟨v, e1, i, j, e2, e3, b, e4, ?_⟩
        cases b with
        | false => exact hq _ _ h
        | true =>
        obtain ⟨v, e1, p, ys, e2, sq, i, j, e3, e4, b, e5, h⟩ := h
        refine ⟨v, e1, p, ys, e2, sq, i, j, e3, e4, b, e5, ?_⟩
        cases b with
        | false => exact hq _ _ h
        | true =>
        obtain ⟨v, e1, m, c, l, many, cs, ls, n, e2, M, h1, h2, h3, kk⟩ := h
        refine ⟨v, e1, m, c, l, many, cs, ls, n, e2, M, h1, h2, h3, fun r H' l' ls' n' r0 r1 M' nn s => ?_⟩
        obtain ⟨i, j, f1, f2, b, f3, q⟩ := kk r H' l' ls' n' r0 r1 M' nn s
        exact ⟨i, j, f1, f2, b, f3, hq _ _ q⟩
end
end K01
set_option Elab.async false
set_option linter.all false
set_option maxRecDepth 100000
set_option maxHeartbeats 4000000
/-! text * 2 -/
namespace NI
open PySem PySem.Spec PyProof.Rows L2
section
variable {X : Cx}
def rDbl : R2 := fun a b H Q => ∃ x, a = .str x ∧ b = .int 2 ∧ x.length ≤ 1000000 ∧ ∀ y : Str, y.length ≤ 2 * x.length → (∀ c ∈ y.cps.toList, c ∈ x.cps.toList) → Q (.str y) H
theorem op_dbl : OpR X (binaryOp .Mult) rDbl := by
  intro pins s σ H a b v u Q I ra rb h
  obtain ⟨x, rfl, rfl, hx, q⟩ := h
  obtain ⟨t, rfl⟩ := ra
  obtain ⟨t', rfl⟩ := rb
  refine P.mul_str (by decide) (fun _ _ => by omega) (fun _ _ => ?_) ?_
  · show decide (x.length * (2 : Int).toNat > sizeLine) = false
    refine decide_eq_false ?_
    have e : (2 : Int).toNat = 2 := rfl
    rw [e]
    show ¬ x.length * 2 > 2 ^ 24
    omega
  · rw [if_neg (by decide)]
    split
    · exact ⟨.str x, H, I, ⟨_, rfl⟩, q x (by omega) fun c hc => hc⟩
    · have e : ((List.replicate (2 : Int).toNat x.cps).foldl (· ++ ·) #[]) = x.cps ++ x.cps := by
        show (#[] ++ x.cps) ++ x.cps = _
        rw [Array.empty_append]
      rw [e]
      have l2 : (⟨x.cps ++ x.cps⟩ : Str).length = 2 * x.length := by
        show (x.cps ++ x.cps).size = 2 * x.cps.size
        rw [Array.size_append]
        omega
      refine ⟨by rw [l2]; show _ ≤ 2 ^ 24; omega, ?_⟩
      exact ⟨.str _, H, I.tok _, ⟨_, rfl⟩, q _ (Nat.le_of_eq l2) fun c hc => by
        rw [show ((⟨x.cps ++ x.cps⟩ : Str).cps.toList) = x.cps.toList ++ x.cps.toList from Array.toList_append] at hc
        rcases List.mem_append.mp hc with h | h <;> exact h⟩
end
end NI
set_option Elab.async false
set_option linter.all false
set_option maxRecDepth 100000
set_option maxHeartbeats 4000000
/-! slices and sums of tuples that are tracked -/
namespace K01
open PySem L2 L2H DQ RZ
def rSlF : V → Option Int → Option Int → Hp → VK → Prop := fun x lo hi H Q => ∃ a xs, x = .ref a ∧ H a = some (.tup xs) ∧ ∀ p H', Same H H' → H' p = some (.tup (cutV xs lo hi)) → Q (.ref p) H'
theorem sl_tupF {X : Cx} : SlR X rSlF := by
  intro pins s σ H x v vl vu lo hi sl Q I rx hs pl pu h
  obtain ⟨a, xs, rfl, sq, g⟩ := h
  refine sl_tupA pins s σ H _ v vl vu lo hi sl Q I rx hs pl pu ⟨a, xs, rfl, SqT.of sq, fun wh => g a H same_refl ?_, fun _ p np => g p _ (same_new np) upd_same⟩
  have z : cutV xs lo hi = xs := by
    unfold cutV
    rw [wh.1, wh.2, List.drop_zero, Nat.sub_zero, List.take_length]
  rw [z]
  exact sq
def rCatF : R2 := fun x y H Q => ∃ a b xs ys, x = .ref a ∧ y = .ref b ∧ H a = some (.tup xs) ∧ H b = some (.tup ys) ∧ xs.length + ys.length ≤ sizeLine ∧ ∀ p H', Same H H' → H' p = some (.tup (xs ++ ys)) → Q (.ref p) H'
theorem op_catF {X : Cx} : OpR X (binaryOp .Add) rCatF := by
  intro pins s σ H x y v u Q I rx ry h
  obtain ⟨a, b, xs, ys, rfl, rfl, ha, hb, hz, g⟩ := h
  refine op_catA pins s σ H _ _ v u Q I rx ry ⟨a, b, xs, ys, rfl, rfl, SqT.of ha, SqT.of hb, hz, fun hx => g b H same_refl ?_, fun _ hy => g a H same_refl ?_, fun _ _ p np => g p _ (same_new np) upd_same⟩
  · rw [hx]
    exact hb
  · rw [hy, List.append_nil]
    exact ha
theorem cut_to (xs : List V) {j : Nat} : cutV xs none (some (j : Int)) = xs.take j := by
  unfold cutV
  rw [HT.sIx_nat, HT.sIx_none, List.drop_zero, Nat.sub_zero]
  by_cases h : j ≤ xs.length
  · rw [Nat.min_eq_left h]
  · rw [Nat.min_eq_right (by omega), List.take_length, List.take_of_length_le (by omega)]
theorem cut_from (xs : List V) {j : Nat} : cutV xs (some (j : Int)) none = xs.drop j := by
  unfold cutV
  rw [HT.sIx_nat, HT.sIx_none]
  by_cases h : j ≤ xs.length
  · rw [Nat.min_eq_left h]
    exact List.take_of_length_le (by rw [List.length_drop]; exact Nat.le_refl _)
  · rw [Nat.min_eq_right (by omega), List.drop_of_length_le (Nat.le_refl _), List.drop_of_length_le (by omega)]
    exact List.take_nil
theorem cut_at (xs : List V) {j : Nat} (h : j < xs.length) : cutV xs (some (j : Int)) (some ((j : Int) + 1)) = (xs.drop j).take 1 := by
  unfold cutV
  have e : ((j : Int) + 1) = ((j + 1 : Nat) : Int) := by omega
  rw [e, HT.sIx_nat, HT.sIx_nat, Nat.min_eq_left (by omega), Nat.min_eq_left (by omega)]
  congr 1
  omega
end K01
set_option Elab.async false
set_option linter.all false
set_option maxRecDepth 100000
set_option maxHeartbeats 4000000
/-! t[::-1] of a tuple -/
namespace RT
open PySem PySem.Spec PyProof.Rows L2 HT
section
variable {prog : Program} {w : World} {A : Around} {E : Value → Shared → Prop} {s : Shared}
theorem applied_rev {sl : Addr} {u : Tok} {n : Nat} {Q : Int × Int × Nat → Shared → Prop} (hs : s.heap.IsSliceOf sl .none .none (.int (-1) u)) (h : Q ((n : Int) - 1, -1, n) s) :
    wpAny (model prog w) A (Builtin.Slice.sliceApplied (.ref sl) (pure (n : Int))) Q E s := by
  obtain ⟨os, hos, hcs, hds⟩ := id hs
  unfold Builtin.Slice.sliceApplied Builtin.Slice.sliceFields
  refine wpAny_bind (wpAny_bind (wpAny_field hos hds (x := .none) rfl (wpAny_bind (wpAny_field hos hds (x := .none) rfl (wpAny_bind (wpAny_field hos hds (x := .int (-1) u) rfl (wpAny_pure ?_)))))))
  refine wpAny_bind (slicePart_int ?_)
  show wpAny _ _ (if ((-1 : Int) == 0) = true then _ else _) _ _ s
  rw [if_neg (by decide)]
  refine wpAny_bind (slicePart_none (wpAny_bind (slicePart_none (wpAny_bind (wpAny_pure ?_)))))
  have e : Builtin.Slice.sliceAdjust none none (-1) (n : Int) = ((n : Int) - 1, -1) := by
    unfold Builtin.Slice.sliceAdjust
    simp
  show wpAny _ _ (match Builtin.Slice.sliceAdjust none none (-1) (n : Int) with | (lo, hi) => pure (lo, (-1 : Int), Builtin.Slice.slicePlaces lo hi (-1))) _ _ s
  rw [e]
  show wpAny _ _ (pure ((n : Int) - 1, (-1 : Int), Builtin.Slice.slicePlaces ((n : Int) - 1) (-1) (-1))) _ _ s
  have p : Builtin.Slice.slicePlaces ((n : Int) - 1) (-1) (-1) = n := by
    unfold Builtin.Slice.slicePlaces
    simp
    omega
  rw [p]
  exact wpAny_pure h
theorem fm_congr {α β : Type} {f g : α → Option β} : ∀ {l : List α}, (∀ x ∈ l, f x = g x) → l.filterMap f = l.filterMap g
  | [], _ => rfl
  | x :: l, h => by
    rw [List.filterMap_cons, List.filterMap_cons, h x (List.mem_cons_self ..), fm_congr fun y hy => h y (List.mem_cons_of_mem _ hy)]
theorem pick_rev (xs : Array Value) : ((List.range xs.size).filterMap fun (m : Nat) => xs[((xs.size : Int) - 1 + (m : Int) * -1).toNat]?).toArray = xs.toList.reverse.toArray := by
  congr 1
  have z := pick_run xs.toList.reverse.toArray 0 xs.size
  rw [List.filterMap_map] at z
  rw [List.drop_zero, List.take_of_length_le (by simp)] at z
  refine Eq.trans (fm_congr fun m hm => ?_) z
  have hm' : m < xs.size := List.mem_range.mp hm
  have e : ((xs.size : Int) - 1 + (m : Int) * -1).toNat = xs.size - 1 - m := by omega
  rw [e]
  show _ = (xs.toList.reverse.toArray)[0 + m]?
  have e2 : (xs.toList.reverse.toArray)[m]? = xs.toList.reverse[m]? := by
    rw [← Array.getElem?_toList]
  rw [Nat.zero_add, e2, List.getElem?_reverse (by simpa using hm'), Array.length_toList, Array.getElem?_toList]
theorem getItem_rev {t sl : Addr} {items : Array Value} {u : Tok} {Q : Value → Shared → Prop} (ht : IsTup s.heap t items) (hs : s.heap.IsSliceOf sl .none .none (.int (-1) u)) (hsz : items.size ≤ sizeLine)
    (h : Q (.ref s.heap.objs.size) { s with heap := s.heap.push { cls := .type "tuple", data := .seq items.toList.reverse.toArray } }) : wpAny (model prog w) A (getItem (.ref t) (.ref sl)) Q E s := by
  obtain ⟨os, hos, hcs, hds⟩ := id hs
  have ts : s.TypeIs (.ref sl) "slice" := ⟨os, hos, hcs⟩
  unfold getItem
  try with_reducible refine wpAny_holding ?_
  first | refine wpAny_bind (wpAny_pure ?_) | skip
  refine wpAny_bind (wpAny_sequenceKey ht.typeIs (by decide) ?_)
  refine wpAny_bind (wpAny_callSpecial?_slot (name := Str.ofString "__getitem__") ht.typeIs PyProof.Rows.slot_tuple_getitem (wpAny_call_entry PyProof.Rows.slot_tuple_getitem ht.typeIs entry_tuple_getitem ?_ (args_tuple_getitem _ _)))
  show wpAny _ _ (Builtin.Tuple.tupleItemsOf (.ref t) >>= _) _ _ s
  refine wpAny_bind (tupleItemsOf_ ht (wpAny_bind (wpAny_typeOf ts ?_)))
  rw [if_pos (by decide)]
  refine wpAny_bind (applied_rev hs ?_)
  have no : ¬ ((((items.size : Int) - 1) == 0 && (-1 : Int) == 1 && items.size == items.size) = true) := by simp
  show wpAny _ _ (if (((items.size : Int) - 1) == 0 && (-1 : Int) == 1 && items.size == items.size) = true then _ else _) _ _ s
  rw [if_neg no, pick_rev]
  have ok : sizeOk (.seq items.toList.reverse.toArray) := by
    show items.toList.reverse.toArray.size ≤ sizeLine
    simpa using hsz
  first
    | exact wpAny_bind (m := Builtin.Tuple.tupleExact _) (wpAny_newObj_type (wpAny_pure ⟨_, rfl, wpAny_pure h⟩) ok)
    | exact wpAny_bind (m := Builtin.Tuple.tupleExact _) (wpAny_newObj_type (wpAny_bind (wpAny_pure (wpAny_pure ⟨_, rfl, wpAny_pure h⟩))) ok)
    | exact wpAny_bind (wpAny_bind (m := Builtin.Tuple.tupleExact _) (wpAny_newObj_type (wpAny_pure (wpAny_pure ⟨_, rfl, wpAny_pure h⟩)) ok))
    | exact wpAny_bind (wpAny_bind (m := Builtin.Tuple.tupleExact _) (wpAny_newObj_type (wpAny_pure ⟨_, rfl, wpAny_pure h⟩) ok))
end
section
variable {X : Cx}
def tRevT (te : TE) : TE := fun σ H Q => te σ H fun x H1 => ∃ a xs, x = .ref a ∧ H1 a = some (.tup xs) ∧ ∀ p, H1 p = none → Q (.ref p) (upd H1 p (.tup xs.reverse))
theorem pe_revT {e : Expr} {te : TE} {k : Nat} {p1 p2 p3 pos : Pos} (he : PE X e te) : PE X (.Subscript e (.Slice none none (some (.UnaryOp .USub (.Constant (.int 1) k p1) p2)) p3) pos) (tRevT te) := by
  refine ⟨fun pins s σ H Q I h => Subscript_ (thn (he.run pins s σ H _ I h) fun v s1 ⟨x, H1, I1, r1, a, xs, ex, hx, q⟩ => ?_)⟩
  subst ex
  cases r1
  have st : PO X (some (.UnaryOp .USub (.Constant (.int 1) k p1) p2)) (tPart (tUn (rU fun i => .int (-i)) (tC (.int 1)))) := po_some (pe_un un_neg pe_int)
  refine wpAny_Slice (thn (po_none.run pins s1 σ H1 (fun o H2 => o = none ∧ H2 = H1) I1 ⟨rfl, rfl⟩) fun vl s2 ⟨l, H2, I2, pl, el, e2⟩ => ?_)
  subst el e2
  refine thn (po_none.run pins s2 σ H2 (fun o H3 => o = none ∧ H3 = H2) I2 ⟨rfl, rfl⟩) fun vu s3 ⟨u, H3, I3, pu, eu, e3⟩ => ?_
  subst eu e3
  refine thn (st.run pins s3 σ H3 (fun o H4 => o = some (-1) ∧ H4 = H3) I3 ⟨1, rfl, -1, rfl, rfl, rfl⟩) fun vs s4 ⟨o, H4, I4, ps, eo, e4⟩ => ?_
  subst eo e4
  have I5 : Inv X pins σ H4 { s4 with heap := s4.heap.push { cls := .type "slice", data := .fields #[vl, vu, vs] } } := I4.kept (t' := s4.toks) fun b ob q => Heap.get?_push_of_some _ q
  obtain ⟨its, r, ht, hz⟩ := I5.tuple (SqT.of (K := X.K) hx)
  show wpAny (model X.prog X.w) X.A (subscriptTail e (.Slice none none (some (.UnaryOp .USub (.Constant (.int 1) k p1) p2)) p3) (.ref a) (.ref s4.heap.objs.size)) (EP X pins σ Q) X.xe { s4 with heap := s4.heap.push { cls := .type "slice", data := .fields #[vl, vu, vs] } }
  cases pl
  cases pu
  cases ps
  refine tail_any (ops := [.ref a, .ref s4.heap.objs.size]) ht.typeIs (PyProof.Rows.slot_tuple_getitem.lookup) ?_ (by with_unfolding_all rfl)
  refine getItem_rev ht (Heap.IsSliceOf.new _ _ _ _) (by rw [List.size_toArray, ← r.length]; exact hz) ?_
  refine ⟨.ref _, _, I5.laid (t' := s4.toks) (o := .tup xs.reverse) (fun b ob q => Heap.get?_push_of_some _ q) (Nat.le_refl _) ?_, rfl, q _ (I5.hok.fresh (Nat.le_refl _))⟩
  exact ⟨by rw [List.length_reverse]; exact hz, its.reverse, r.reverse, ⟨_, Heap.get?_push_size _ rfl, rfl, _, rfl⟩⟩
end
end RT
set_option Elab.async false
set_option linter.all false
set_option maxRecDepth 100000
set_option maxHeartbeats 4000000
namespace K01
open PySem L2 L2H DQ RZ
theorem Gw.grow {m c l : Addr} {cs ls : List Int} {n : Int} {H H' H'' : Hp} (G : Gw m c l cs ls n H H') (s : Same H' H'') : Gw m c l cs ls n H H'' ∧ Same (fr H' m l) (fr H'' m l) := by
  have y : Same (fr H' m l) (fr H'' m l) := fun b o e => by
    obtain ⟨h1, h2, h3⟩ := fr_of e
    exact fr_some (s _ _ h3) h1 h2
  exact ⟨⟨G.mat.same s, G.sm.trans (.new s y)⟩, y⟩
theorem Gw.tupAt {m c l p : Addr} {cs ls : List Int} {n : Int} {H H' : Hp} {xs : List V} (G : Gw m c l cs ls n H H') (e : H' p = some (.tup xs)) : fr H' m l p = some (.tup xs) :=
  fr_some e (ne_of e G.mat.hm (by intro z; cases z)) (ne_of e G.mat.hl (by intro z; cases z))
/-- what bending does to data: bounds -/
def Bnt (N n : Nat) (d d' : PyData) : Prop := gd (N + 10) d' = true ∧ sz d' ≤ 2 * sz d + 6000 ∧ d'.depth ≤ n + 3
mutual
theorem gd_mono {N M : Nat} (h : N ≤ M) : ∀ d : PyData, gd N d = true → gd M d = true
  | .none, _ => rfl
  | .bool _, _ => rfl
  | .int i, z => by
    have y : i.natAbs ≤ N := of_decide_eq_true (by simpa [gd] using z)
    simp only [gd]
    exact decide_eq_true (Nat.le_trans y h)
  | .str _, z => by simpa [gd] using z
  | .list xs, z => by
    simp only [gd] at z ⊢
    exact gdAll_mono h xs z
  | .tuple xs, z => by
    simp only [gd] at z ⊢
    exact gdAll_mono h xs z
  | .dict _, z => by simpa [gd] using z
theorem gdAll_mono {N M : Nat} (h : N ≤ M) : ∀ ds : List PyData, gdAll N ds = true → gdAll M ds = true
  | [], _ => rfl
  | d :: ds, z => by
    have z' := Bool.and_eq_true_iff.mp (by simpa [gdAll] using z)
    simp only [gdAll, gd_mono h d z'.1, gdAll_mono h ds z'.2, Bool.and_self]
end
theorem bnt_odd {N n : Nat} (hN : 10 ^ 30 ≤ N) {d d' : PyData} (h : OddD d') : Bnt N n d d' := by
  obtain ⟨h1, h2, h3⟩ := h
  exact ⟨gd_mono (by omega) _ h1, by omega, by omega⟩
theorem szAll_len : ∀ ds : List PyData, 2 * ds.length ≤ szAll ds
  | [] => Nat.le_refl _
  | d :: ds => by
    have := szAll_len ds
    simp only [szAll, List.length_cons]
    omega
theorem szAll_split (ds : List PyData) (j : Nat) : szAll (ds.take j) + szAll (ds.drop j) = szAll ds := by
  rw [← szAll_app, List.take_append_drop]
theorem szAll_rev : ∀ ds : List PyData, szAll ds.reverse = szAll ds
  | [] => rfl
  | d :: ds => by
    rw [List.reverse_cons, szAll_app, szAll_rev ds]
    simp only [szAll]
    omega
theorem dp_all {ds : List PyData} {k : Nat} : PyData.depthAll ds ≤ k ↔ ∀ d ∈ ds, d.depth ≤ k := by
  induction ds with
  | nil => simp [PyData.depthAll]
  | cons d ds ih =>
    simp only [PyData.depthAll, List.mem_cons, forall_eq_or_imp, ← ih]
    omega
theorem drop_at {ds : List PyData} {j : Nat} {e : PyData} (h : ds[j]? = some e) : ds.drop j = e :: ds.drop (j + 1) := by
  obtain ⟨h1, h2⟩ := List.getElem?_eq_some_iff.mp h
  rw [← h2, ← List.drop_eq_getElem_cons h1]
section
variable {N n : Nat} {ds : List PyData} (hg : gdAll N ds = true) (hd : PyData.depthAll ds + 1 + 1 ≤ n)
include hg hd
theorem bnt_cut (j : Nat) : Bnt N n (.tuple ds) (.tuple (ds.take j ++ ds.drop (j + 1))) := by
  have h := gdAll_iff.mp hg
  have hk := dp_all.mp (Nat.le_refl (PyData.depthAll ds))
  have mem : ∀ x ∈ ds.take j ++ ds.drop (j + 1), x ∈ ds := fun x hx => (List.mem_append.mp hx).elim List.mem_of_mem_take List.mem_of_mem_drop
  refine ⟨?_, ?_, ?_⟩
  · simp only [gd]
    exact gdAll_iff.mpr fun x hx => gd_mono (by omega) _ (h x (mem x hx))
  · have z := szAll_split ds j
    have z2 := szAll_split (ds.drop j) 1
    rw [List.drop_drop] at z2
    simp only [sz, szAll_app]
    omega
  · have : PyData.depthAll (ds.take j ++ ds.drop (j + 1)) ≤ PyData.depthAll ds := dp_all.mpr fun x hx => hk x (mem x hx)
    simp only [PyData.depth]
    omega
theorem bnt_twice (j : Nat) : Bnt N n (.tuple ds) (.tuple (ds ++ (ds.drop j).take 1)) := by
  have h := gdAll_iff.mp hg
  have hk := dp_all.mp (Nat.le_refl (PyData.depthAll ds))
  have mem : ∀ x ∈ ds ++ (ds.drop j).take 1, x ∈ ds := fun x hx => (List.mem_append.mp hx).elim id fun y => List.mem_of_mem_drop (List.mem_of_mem_take y)
  refine ⟨?_, ?_, ?_⟩
  · simp only [gd]
    exact gdAll_iff.mpr fun x hx => gd_mono (by omega) _ (h x (mem x hx))
  · have z := szAll_split ds j
    have z2 := szAll_split (ds.drop j) 1
    simp only [sz, szAll_app]
    omega
  · have : PyData.depthAll (ds ++ (ds.drop j).take 1) ≤ PyData.depthAll ds := dp_all.mpr fun x hx => hk x (mem x hx)
    simp only [PyData.depth]
    omega
theorem bnt_list : Bnt N n (.tuple ds) (.list ds) := by
  refine ⟨?_, ?_, ?_⟩
  · simp only [gd]
    exact gdAll_mono (by omega) _ hg
  · simp only [sz]
    omega
  · simp only [PyData.depth]
    omega
theorem bnt_rev : Bnt N n (.tuple ds) (.tuple ds.reverse) := by
  have h := gdAll_iff.mp hg
  have hk := dp_all.mp (Nat.le_refl (PyData.depthAll ds))
  refine ⟨?_, ?_, ?_⟩
  · simp only [gd]
    exact gdAll_iff.mpr fun x hx => gd_mono (by omega) _ (h x (List.mem_reverse.mp hx))
  · simp only [sz, szAll_rev]
    omega
  · have : PyData.depthAll ds.reverse ≤ PyData.depthAll ds := dp_all.mpr fun x hx => hk x (List.mem_reverse.mp hx)
    simp only [PyData.depth]
    omega
theorem bnt_put (j : Nat) {o : PyData} (hN : 10 ^ 30 ≤ N) (ho : OddD o) : Bnt N n (.tuple ds) (.tuple (ds.take j ++ [o] ++ ds.drop j)) := by
  have h := gdAll_iff.mp hg
  have hk := dp_all.mp (Nat.le_refl (PyData.depthAll ds))
  obtain ⟨h1, h2, h3⟩ := ho
  have mem : ∀ x ∈ ds.take j ++ [o] ++ ds.drop j, x ∈ ds ∨ x = o := fun x hx => by
    rcases List.mem_append.mp hx with hx | hx
    · rcases List.mem_append.mp hx with hx | hx
      · exact .inl (List.mem_of_mem_take hx)
      · exact .inr (List.mem_singleton.mp hx)
    · exact .inl (List.mem_of_mem_drop hx)
  refine ⟨?_, ?_, ?_⟩
  · simp only [gd]
    refine gdAll_iff.mpr fun x hx => ?_
    rcases mem x hx with z | rfl
    · exact gd_mono (by omega) _ (h x z)
    · exact gd_mono (by omega) _ h1
  · have z := szAll_split ds j
    simp only [sz, szAll_app, szAll]
    omega
  · have : PyData.depthAll (ds.take j ++ [o] ++ ds.drop j) ≤ max (PyData.depthAll ds) 3 := dp_all.mpr fun x hx => by
      rcases mem x hx with z | rfl
      · have := hk x z
        omega
      · omega
    simp only [PyData.depth]
    omega
theorem bnt_in {j : Nat} {e o : PyData} (he : ds[j]? = some e) (ho : Bnt N (n - 1) e o) : Bnt N n (.tuple ds) (.tuple (ds.take j ++ [o] ++ ds.drop (j + 1))) := by
  have h := gdAll_iff.mp hg
  have hk := dp_all.mp (Nat.le_refl (PyData.depthAll ds))
  obtain ⟨h1, h2, h3⟩ := ho
  have mem : ∀ x ∈ ds.take j ++ [o] ++ ds.drop (j + 1), x ∈ ds ∨ x = o := fun x hx => by
    rcases List.mem_append.mp hx with hx | hx
    · rcases List.mem_append.mp hx with hx | hx
      · exact .inl (List.mem_of_mem_take hx)
      · exact .inr (List.mem_singleton.mp hx)
    · exact .inl (List.mem_of_mem_drop hx)
  refine ⟨?_, ?_, ?_⟩
  · simp only [gd]
    refine gdAll_iff.mpr fun x hx => ?_
    rcases mem x hx with z | rfl
    · exact gd_mono (by omega) _ (h x z)
    · exact h1
  · have z := szAll_split ds j
    rw [drop_at he] at z
    simp only [szAll] at z
    simp only [sz, szAll_app, szAll]
    omega
  · have : PyData.depthAll (ds.take j ++ [o] ++ ds.drop (j + 1)) ≤ n + 2 := dp_all.mpr fun x hx => by
      rcases mem x hx with z | rfl
      · have := hk x z
        omega
      · omega
    simp only [PyData.depth]
    omega
end
theorem ok_app {x y : Str} (hx : PyData.strOk x = true) (hy : PyData.strOk y = true) : PyData.strOk (x ++ y) = true := by
  have e : ((x ++ y : Str).cps) = x.cps ++ y.cps := rfl
  unfold PyData.strOk at *
  rw [e]
  simp only [Array.all_append, Bool.and_eq_true]
  exact ⟨hx, hy⟩
theorem ok_sub {x y : Str} (hx : PyData.strOk x = true) (h : ∀ c ∈ y.cps.toList, c ∈ x.cps.toList) : PyData.strOk y = true := by
  unfold PyData.strOk at *
  rw [← Array.all_toList] at hx ⊢
  exact List.all_eq_true.mpr fun c hc => List.all_eq_true.mp hx c (h c hc)
theorem ok_cut {x : Str} {lo hi : Option Int} (hx : PyData.strOk x = true) : PyData.strOk (cutS x lo hi) = true := by
  refine ok_sub hx fun c hc => ?_
  have hc' : c ∈ (x.cps.toList.drop (HT.sIx x.length 0 lo)).take (HT.sIx x.length x.length hi - HT.sIx x.length 0 lo) := hc
  exact List.mem_of_mem_drop (List.mem_of_mem_take hc')
theorem bnt_str {N n : Nat} {x y : Str} (ok : PyData.strOk y = true) (hl : y.length ≤ 2 * x.length + 10) : Bnt N n (.str x) (.str y) := by
  refine ⟨?_, ?_, Nat.zero_le _⟩
  · simpa [gd] using ok
  · simp only [sz]
    omega
theorem bnt_int {N n : Nat} {i j : Int} (h : gd N (.int i) = true) (hj : j.natAbs ≤ 10) : Bnt N n (.int i) (.int (i + j)) := by
  have y : i.natAbs ≤ N := of_decide_eq_true (by simpa [gd] using h)
  refine ⟨?_, ?_, Nat.zero_le _⟩
  · simp only [gd]
    exact decide_eq_true (by omega)
  · simp only [sz]
    omega
end K01
set_option Elab.async false
set_option linter.all false
set_option maxRecDepth 100000
set_option maxHeartbeats 4000000
namespace K01
open PySem L2 L2H DQ RZ
/-- _law_bent: data of depth below n; the same with something otherwise -/
def spBe (N n : Nat) : Sp := fun vs H Q _ => ∃ (m c l : Addr) (cs ls : List Int) (k : Int) (v : V) (d : PyData), vs = [.ref m, v] ∧ MAt H m c l cs ls k ∧ k + 10 * (n : Int) ≤ 1000000000 ∧ Dq (fr H m l) v d ∧ gd N d = true ∧ sz d ≤ 400000 ∧ d.depth + 1 ≤ n ∧
  ∀ r d' H' l' ls' k', MAt H' m c l' cs ls' k' → k' ≤ k + 10 * (n : Int) → Fs H m l H' l' → Dq (fr H' m l') r d' → Bnt N n d d' → Q r H'
section
variable {P : Program} {w : World} {K : PySem.W.Frag} {mg : Str → Option Value} {base : Heap}
theorem scBe : FnScope ["m", "thing", "at", "pick"] ["m", "thing"] (defScope sBent) := ⟨rfl, rfl, rfl, by decide +kernel, rfl, by decide +kernel, by decide +kernel⟩
theorem ok_bent {f fN fO : Addr} {fd dN dO : FuncData} (F : Fun K "_law_bent" "_law_bent" sBent f fd) (bF : Binds K fd ["m", "thing"] []) (gF : mg "_law_bent" = some (.ref f)) (FN : Fun K "_law_next" "_law_next" sNext fN dN) (bN : Binds K dN ["m", "many"] []) (gN : mg "_law_next" = some (.ref fN))
    (FO : Fun K "_law_odd" "_law_odd" sOdd fO dO) (bO : Binds K dO ["m"] []) (gO : mg "_law_odd" = some (.ref fO)) (T : TxtB mg) (TT : TP mg) (tB : mg "bool" = none) {N : Nat} (hN : 10 ^ 30 ≤ N) : ∀ n, n ≤ 40 → FnOk P w K mg base CX0 (4 + n) f fd ["m", "thing"] (spBe N n) := by
  have GN : FnOk P w K mg base CX0 1 fN dN ["m", "many"] spNx := (ok_next FN T).imp fun _ _ _ _ => nx_of
  have GO : FnOk P w K mg base CX0 3 fO dO ["m"] (spDr 1 OddD) := ok_odd FO FN bN gN T
  have bb : bootBuiltins ("bool" : Str) = some (.type "bool") := by decide +kernel
  have bi : bootBuiltins ("int" : Str) = some (.type "int") := by decide +kernel
  intro n
  induction n with
  | zero =>
    intro _
    refine ⟨fun vs H Q E h => ?_, fun A outer s H args us vs Q E hr he hb hv h => ?_⟩
    · obtain ⟨m, c, l, cs, ls, k, v, d, rfl, _⟩ := h
      rfl
    · obtain ⟨m, c, l, cs, ls, k, v, d, rfl, _, _, _, _, _, h0, _⟩ := h
      omega
  | succ n ih =>
    intro hk
    have GS : FnOk P w K mg base CX0 (4 + n) f fd ["m", "thing"] (spBe N n) := ih (by omega)
    refine F.ok (k := 4 + n) scBe (fun vs H Q E h => ?_) (fun cdv A outer s H vs Q E hr h => ?_)
    · obtain ⟨m, c, l, cs, ls, k, v, d, rfl, _⟩ := h
      rfl
    · have hu1 : (A.deeper (PyProof.Rows.envOfC "_law_bent" (defScope sBent) s.heap.objs.size f cdv)).units < cLine := by have := hr.un; omega
      refine ⟨_, pss_cons (ps_if (PW.pt (pw_and (pt_val (pe_callB call_isi (by rfl) TT.isi bisi (pa_cons (pv 1) (pa_cons (pe_bltn (v := .ty "str") (by rfl) TT.str bstr rfl) pa_nil)))) (pw_and1 (pt_cmpR op_eq (pe_call GN (hr.mono (by omega)) (by rfl) gN FN.kp bN .nil pass0 (pa_cons (pv 0) (pa_cons pe_int pa_nil))) pe_int (by rfl)))))
          (pss_one (ps_ret (pe_ix ix_list (pe_lst (pa_cons (pe_op op_add_str (pv 1) pe_str) (pa_cons (pe_slice sl_str (pv 1) (po_some pe_int) po_none) (pa_cons (pe_op op_add_str (pv 1) pe_str) (pa_cons (pe_op op_add_str (pv 1) pe_str) (pa_cons (pe_op NI.op_dbl (pv 1) pe_int) (pa_cons (pe_op op_add_str (pv 1) pe_str) pa_nil)))))))
            (pe_call GN (hr.mono (by omega)) (by rfl) gN FN.kp bN .nil pass0 (pa_cons (pv 0) (pa_cons pe_int pa_nil))) (fun _ _ => rfl)))) pss_nil)
        (pss_cons (ps_if (PW.pt (pw_and (pt_val (pe_callB call_isi (by rfl) TT.isi bisi (pa_cons (pv 1) (pa_cons (pe_bltn (v := .ty "int") (by rfl) T.int bi rfl) pa_nil)))) (pw_and (pt_not (pt_val (pe_callB call_isi (by rfl) TT.isi bisi (pa_cons (pv 1) (pa_cons (pe_bltn (v := .ty "bool") (by rfl) tB bb rfl) pa_nil)))))
            (pw_and1 (pt_cmpR op_eq (pe_call GN (hr.mono (by omega)) (by rfl) gN FN.kp bN .nil pass0 (pa_cons (pv 0) (pa_cons pe_int pa_nil))) pe_int (by rfl))))))
          (pss_one (ps_ret (pe_op op_add (pv 1) (pe_ix ix_list (pe_lst (pa_cons pe_int (pa_cons (pe_un un_neg pe_int) (pa_cons pe_int (pa_cons (pe_un un_neg pe_int) (pa_cons pe_int (pa_cons (pe_un un_neg pe_int) pa_nil)))))))
            (pe_call GN (hr.mono (by omega)) (by rfl) gN FN.kp bN .nil pass0 (pa_cons (pv 0) (pa_cons pe_int pa_nil))) (fun _ _ => rfl))))) pss_nil)
        (pss_cons (ps_if (PW.pt (pw_or (pt_not (pt_val (pe_callB call_isi (by rfl) TT.isi bisi (pa_cons (pv 1) (pa_cons (pe_bltn (v := .ty "tuple") (by rfl) TT.tuple btup rfl) pa_nil))))) (pw_or (pt_cmpR (NI.op_eqNilT hu1) (pv 1) (pe_tup pa_nil) (by rfl))
            (pw_or1 (pt_cmpR op_eq (pe_call GN (hr.mono (by omega)) (by rfl) gN FN.kp bN .nil pass0 (pa_cons (pv 0) (pa_cons pe_int pa_nil))) pe_int (by rfl))))))
          (pss_one (ps_ret (pe_call GO (hr.mono (by omega)) (by rfl) gO FO.kp bO .nil pass0 (pa_cons (pv 0) pa_nil)))) pss_nil)
        (pss_cons (ps_par rfl scBe.nd (i := 2) (j := 3) rfl rfl (by decide) rfl rfl (pa_cons (pe_call GN (hr.mono (by omega)) (by rfl) gN FN.kp bN .nil pass0 (pa_cons (pv 0) (pa_cons (pe_callB call_len_seq (by rfl) T.len PySem.boot_len (pa_cons (pv 1) pa_nil)) pa_nil)))
            (pa_cons (pe_call GN (hr.mono (by omega)) (by rfl) gN FN.kp bN .nil pass0 (pa_cons (pv 0) (pa_cons pe_int pa_nil))) pa_nil)) rfl)
        (pss_cons (ps_if (pt_cmpR op_eq (pv 3) pe_int (by rfl)) (pss_one (ps_ret (pe_op op_catF (pe_slice sl_tupF (pv 1) po_none (po_some (pv 2))) (pe_slice sl_tupF (pv 1) (po_some (pe_op op_add (pv 2) pe_int)) po_none)))) pss_nil)
        (pss_cons (ps_if (pt_cmpR op_eq (pv 3) pe_int (by rfl)) (pss_one (ps_ret (pe_op op_catF (pv 1) (pe_slice sl_tupF (pv 1) (po_some (pv 2)) (po_some (pe_op op_add (pv 2) pe_int)))))) pss_nil)
        (pss_cons (ps_if (pt_cmpR op_eq (pv 3) pe_int (by rfl)) (pss_one (ps_ret (pe_callTy call_list_of (by rfl) T.list blist (pa_cons (pv 1) pa_nil)))) pss_nil)
        (pss_cons (ps_if (pt_cmpR op_eq (pv 3) pe_int (by rfl)) (pss_one (ps_ret (pe_op op_catF (pe_op op_catF (pe_slice sl_tupF (pv 1) po_none (po_some (pv 2))) (pe_tup (pa_cons (pe_call GO (hr.mono (by omega)) (by rfl) gO FO.kp bO .nil pass0 (pa_cons (pv 0) pa_nil)) pa_nil))) (pe_slice sl_tupF (pv 1) (po_some (pv 2)) po_none)))) pss_nil)
        (pss_cons (ps_if (pt_cmpR op_eq (pv 3) pe_int (by rfl)) (pss_one (ps_ret (RT.pe_revT (pv 1)))) pss_nil)
        (pss_one (ps_ret (pe_op op_catF (pe_op op_catF (pe_slice sl_tupF (pv 1) po_none (po_some (pv 2))) (pe_tup (pa_cons (pe_call GS hr (by rfl) gF F.kp bF .nil pass0 (pa_cons (pv 0) (pa_cons (pe_ix ix_tup (pv 1) (pv 2) (fun _ _ => rfl)) pa_nil))) pa_nil))) (pe_slice sl_tupF (pv 1) (po_some (pe_op op_add (pv 2) pe_int)) po_none)))))))))))), ?_⟩
      obtain ⟨m, c, l, cs, ls, k0, v, d, rfl, M, hn, hd, hg, hz, hdp, k⟩ := h
      have odd : ∀ H1 l1 ls1 k1, MAt H1 m c l1 cs ls1 k1 → k1 ≤ k0 + 5 → Fs H m l H1 l1 → spDr 1 OddD [V.ref m] H1 Q (fun _ _ _ => False) := fun H1 l1 ls1 k1 M1 h1 s1 =>
        ⟨m, c, l1, cs, ls1, k1, rfl, M1, by omega, fun r d' H' l' ls' k' M' hk' s' hq' ho => k r d' H' l' ls' k' M' (by omega) (s1.trans s') hq' (bnt_odd hN ho)⟩
      have hdF : ∀ {H1 l1}, Fs H m l H1 l1 → Dq H1 v d := fun s => (hd.same s.1).same fr_same
      refine ⟨_, rfl, _, .ty "str", _, _, _, rfl, .ty _, (hdF .refl).ty, kit_ty (ks d), _, rfl, ?_⟩
      cases d with
      | none => 
        refine iteF (iteF ⟨_, rfl, _, .ty "int", _, _, _, rfl, .ty _, (hdF .refl).ty, kit_ty (ki _), _, rfl, iteF (iteF ⟨_, rfl, _, .ty "tuple", _, _, _, rfl, .ty _, (hdF .refl).ty, kit_ty (kt _), _, rfl, iteT (iteT ⟨_, rfl, odd H l ls k0 M (by omega) .refl⟩)⟩)⟩)
      | bool b =>
        refine iteF (iteF ⟨_, rfl, _, .ty "int", _, _, _, rfl, .ty _, (hdF .refl).ty, kit_ty (ki _), _, rfl, iteT ⟨_, rfl, _, .ty "bool", _, _, _, rfl, .ty _, (hdF .refl).ty, kit_ty (kb _), _, rfl, iteF (iteF ⟨_, rfl, _, .ty "tuple", _, _, _, rfl, .ty _, (hdF .refl).ty, kit_ty (kt _), _, rfl, iteT (iteT ⟨_, rfl, odd H l ls k0 M (by omega) .refl⟩)⟩)⟩⟩)
      | list xs =>
        refine iteF (iteF ⟨_, rfl, _, .ty "int", _, _, _, rfl, .ty _, (hdF .refl).ty, kit_ty (ki _), _, rfl, iteF (iteF ⟨_, rfl, _, .ty "tuple", _, _, _, rfl, .ty _, (hdF .refl).ty, kit_ty (kt _), _, rfl, iteT (iteT ⟨_, rfl, odd H l ls k0 M (by omega) .refl⟩)⟩)⟩)
      | dict xs =>
        refine iteF (iteF ⟨_, rfl, _, .ty "int", _, _, _, rfl, .ty _, (hdF .refl).ty, kit_ty (ki _), _, rfl, iteF (iteF ⟨_, rfl, _, .ty "tuple", _, _, _, rfl, .ty _, (hdF .refl).ty, kit_ty (kt _), _, rfl, iteT (iteT ⟨_, rfl, odd H l ls k0 M (by omega) .refl⟩)⟩)⟩)
      | int i =>
        refine iteF (iteF ⟨_, rfl, _, .ty "int", _, _, _, rfl, .ty _, (hdF .refl).ty, kit_ty (ki _), _, rfl, iteT ⟨_, rfl, _, .ty "bool", _, _, _, rfl, .ty _, (hdF .refl).ty, kit_ty (kb _), _, rfl, iteT ?_⟩⟩)
        refine ⟨_, rfl, m, c, l, 2, cs, ls, k0, rfl, M, by decide, by decide, by omega, fun r H1 l1 ls1 k1 r0 r1 M1 nn1 s1 => ⟨rfl, _, rfl, ?_⟩⟩
        refine ite2 (fun _ => ?_) (fun _ => ?_)
        · have ev : v = V.int i := by cases hd; rfl
          subst ev
          refine ⟨_, rfl, _, rfl, _, rfl, _, rfl, by show 6 ≤ sizeLine; decide, fun pl npl => ?_⟩
          have G1 : Gw m c l1 cs ls1 k1 H1 H1 := ⟨M1, .refl⟩
          obtain ⟨G2, t2, e2⟩ := G1.new (o := .lst [.int 1, .int (-1), .int 2, .int (-2), .int 10, .int (-10)]) npl
          refine ⟨_, rfl, m, c, l1, 6, cs, ls1, k1, rfl, G2.mat, by decide, by decide, by omega, fun r2 H2 l2 ls2 k2 r20 r21 M2 nn2 s2 => ?_⟩
          obtain ⟨j, hj, hj10⟩ : ∃ j : Int, atI [V.int 1, V.int (-1), V.int 2, V.int (-2), V.int 10, V.int (-10)] r2 = some (V.int j) ∧ j.natAbs ≤ 10 := by
            obtain ⟨u, hu⟩ : ∃ u : Nat, r2 = (u : Int) := ⟨r2.toNat, by omega⟩
            subst hu
            have h6 : u < 6 := by omega
            match u, h6 with
            | 0, _ => exact ⟨_, atI_nat (j := 0) rfl, by decide⟩
            | 1, _ => exact ⟨_, atI_nat (j := 1) rfl, by decide⟩
            | 2, _ => exact ⟨_, atI_nat (j := 2) rfl, by decide⟩
            | 3, _ => exact ⟨_, atI_nat (j := 3) rfl, by decide⟩
            | 4, _ => exact ⟨_, atI_nat (j := 4) rfl, by decide⟩
            | 5, _ => exact ⟨_, atI_nat (j := 5) rfl, by decide⟩
          refine ⟨pl, _, r2, _, rfl, rfl, SqL.of (fr_of (s2.1 _ _ e2)).2.2, hj, _, _, rfl, rfl, ?_⟩
          exact k _ (.int (i + j)) H2 l2 ls2 k2 M2 (by omega) (s1.trans (G2.sm.trans s2)) (.int _) (bnt_int hg hj10)
        · refine ⟨_, rfl, _, .ty "tuple", _, _, _, rfl, .ty _, (hdF s1).ty, kit_ty (kt _), _, rfl, iteT (iteT ⟨_, rfl, odd H1 l1 ls1 k1 M1 (by omega) s1⟩)⟩
      | str x =>
        refine iteT ⟨_, rfl, m, c, l, 2, cs, ls, k0, rfl, M, by decide, by decide, by omega, fun r H1 l1 ls1 k1 r0 r1 M1 nn1 s1 => ⟨rfl, _, rfl, ?_⟩⟩
        refine ite2 (fun _ => ?_) (fun _ => ?_)
        · have ev : v = V.str x ∧ x.length ≤ sizeLine := by
            cases hd with
            | str _ hx => exact ⟨rfl, hx.1⟩
          obtain ⟨ev, _⟩ := ev
          subst ev
          have okx : PyData.strOk x = true := by simpa [gd] using hg
          have hx : x.length ≤ 40000 := by
            simp only [sz] at hz
            omega
          have app : ∀ y : Str, y.length = 1 → (x ++ y).length = x.length + 1 := fun y hy => by rw [strLen_append, hy]
          have l1' : ∀ y : Str, y.length = 1 → x.length + y.length ≤ sizeLine := fun y hy => by
            rw [hy]
            exact Nat.le_trans (show x.length + 1 ≤ 40001 by omega) (by decide)
          refine ⟨_, rfl, _, _, rfl, rfl, l1' _ (by decide +kernel), _, rfl, 1, rfl, x, rfl, Nat.le_trans hx (by decide), _, rfl, _, _, rfl, rfl, l1' _ (by decide +kernel), _, rfl, _, _, rfl, rfl, l1' _ (by decide +kernel), _, rfl, x, rfl, rfl, by omega, fun y hy1 hy2 => ?_⟩
          refine ⟨_, rfl, _, _, rfl, rfl, l1' _ (by decide +kernel), by show 6 ≤ sizeLine; decide, fun pl npl => ?_⟩
          have G1 : Gw m c l1 cs ls1 k1 H1 H1 := ⟨M1, .refl⟩
          obtain ⟨G2, t2, e2⟩ := G1.new (o := .lst [.str (x ++ "b"), .str (cutS x (some 1) none), .str (x ++ "A"), .str (x ++ " "), .str y, .str (x ++ "1")]) npl
          refine ⟨_, rfl, m, c, l1, 6, cs, ls1, k1, rfl, G2.mat, by decide, by decide, by omega, fun r2 H2 l2 ls2 k2 r20 r21 M2 nn2 s2 => ?_⟩
          obtain ⟨z, hj, okz, hzl⟩ : ∃ z : Str, atI [V.str (x ++ "b"), V.str (cutS x (some 1) none), V.str (x ++ "A"), V.str (x ++ " "), V.str y, V.str (x ++ "1")] r2 = some (V.str z) ∧ PyData.strOk z = true ∧ z.length ≤ 2 * x.length + 10 := by
            obtain ⟨u, hu⟩ : ∃ u : Nat, r2 = (u : Int) := ⟨r2.toNat, by omega⟩
            subst hu
            have h6 : u < 6 := by omega
            match u, h6 with
            | 0, _ => exact ⟨_, atI_nat (j := 0) rfl, ok_app okx (by decide +kernel), by rw [app _ (by decide +kernel)]; omega⟩
            | 1, _ => exact ⟨_, atI_nat (j := 1) rfl, ok_cut okx, by have := cutS_length x (some 1) none; omega⟩
            | 2, _ => exact ⟨_, atI_nat (j := 2) rfl, ok_app okx (by decide +kernel), by rw [app _ (by decide +kernel)]; omega⟩
            | 3, _ => exact ⟨_, atI_nat (j := 3) rfl, ok_app okx (by decide +kernel), by rw [app _ (by decide +kernel)]; omega⟩
            | 4, _ => exact ⟨_, atI_nat (j := 4) rfl, ok_sub okx hy2, by omega⟩
            | 5, _ => exact ⟨_, atI_nat (j := 5) rfl, ok_app okx (by decide +kernel), by rw [app _ (by decide +kernel)]; omega⟩
          refine ⟨pl, _, r2, _, rfl, rfl, SqL.of (fr_of (s2.1 _ _ e2)).2.2, hj, ?_⟩
          exact k _ (.str z) H2 l2 ls2 k2 M2 (by omega) (s1.trans (G2.sm.trans s2)) (.str z ⟨Nat.le_trans (show z.length ≤ 80010 by omega) (by decide), okz⟩) (bnt_str okz hzl)
        · refine ⟨_, rfl, _, .ty "int", _, _, _, rfl, .ty _, (hdF s1).ty, kit_ty (ki _), _, rfl, iteF (iteF ⟨_, rfl, _, .ty "tuple", _, _, _, rfl, .ty _, (hdF s1).ty, kit_ty (kt _), _, rfl, iteT (iteT ⟨_, rfl, odd H1 l1 ls1 k1 M1 (by omega) s1⟩)⟩)⟩
      | tuple ds =>
        have hcs : ∃ ad xs, v = .ref ad ∧ fr H m l ad = some (.tup xs) ∧ DqAll (fr H m l) xs ds := by
          cases hd with
          | tup e a => exact ⟨_, _, rfl, e, a⟩
        obtain ⟨ad, xs, rfl, e, a⟩ := hcs
        have hgA : gdAll N ds = true := by simpa [gd] using hg
        have hdA : PyData.depthAll ds + 1 + 1 ≤ n + 1 := hdp
        have hlen : ds.length ≤ 200000 := by
          have := szAll_len ds
          simp only [sz] at hz
          omega
        have xl : xs.length = ds.length := a.len
        refine iteF (iteF ⟨_, rfl, _, .ty "int", _, _, _, rfl, .ty _, (hdF .refl).ty, kit_ty (ki _), _, rfl, iteF (iteF ⟨_, rfl, _, .ty "tuple", _, _, _, rfl, .ty _, (hdF .refl).ty, kit_ty (kt _), _, rfl, iteF ?_⟩)⟩)
        refine ⟨_, rfl, Nat.zero_le _, fun p np => ⟨ad, p, xs, rfl, rfl, SqT.of (same_new np _ _ (fr_of e).2.2), SqT.of upd_same, _, rfl, ?_⟩⟩
        have G0 : Gw m c l cs ls k0 H H := ⟨M, .refl⟩
        obtain ⟨G1, t1, _⟩ := G0.new (o := .tup []) np
        generalize upd H p (HO.tup []) = H1 at G1 t1
        by_cases he : xs = []
        · subst he
          exact iteT (iteT ⟨_, rfl, odd H1 l ls k0 G1.mat (by omega) G1.sm⟩)
        have hpos : 0 < xs.length := List.length_pos_iff.mpr he
        have hne : xs.isEmpty = false := by cases xs with | nil => exact absurd rfl he | cons _ _ => rfl
        rw [show id xs.isEmpty = false from hne]
        refine iteF ⟨_, rfl, m, c, l, 6, cs, ls, k0, rfl, G1.mat, by decide, by decide, by omega, fun r H2 l2 ls2 k2 r0 r1 M2 nn2 s2 => ⟨rfl, _, rfl, ?_⟩⟩
        refine ite2 (fun _ => ⟨_, rfl, odd H2 l2 ls2 k2 M2 (by omega) (G1.sm.trans s2)⟩) (fun _ => ?_)
        have e2 := s2.1 _ _ (t1 _ _ e)
        refine ⟨_, rfl, _, rfl, ad, _, rfl, .inr (SqT.of (fr_of e2).2.2), m, c, l2, _, cs, ls2, k2, rfl, M2, by omega, by omega, by omega, fun ia H3 l3 ls3 k3 ia0 ia1 M3 nn3 s3 => ?_⟩
        refine ⟨_, rfl, m, c, l3, 11, cs, ls3, k3, rfl, M3, by decide, by decide, by omega, fun pick H4 l4 ls4 k4 pk0 pk1 M4 nn4 s4 => ⟨_, _, rfl, ?_⟩⟩
        obtain ⟨j, rfl⟩ : ∃ j : Nat, ia = (j : Int) := ⟨ia.toNat, by omega⟩
        have hj : j < ds.length := by omega
        have F4 : Fs H m l H4 l4 := G1.sm.trans (s2.trans (s3.trans s4))
        have e4 : fr H4 m l4 ad = some (.tup xs) := s4.1 _ _ (s3.1 _ _ e2)
        have a4 : DqAll (fr H4 m l4) xs ds := a.same F4.1
        have G4 : Gw m c l4 cs ls4 k4 H4 H4 := ⟨M4, .refl⟩
        clear e2 s2 s3 s4 M2 M3
        have big : ∀ q : Nat, q ≤ 3 → ds.length + q ≤ sizeLine := fun q hq => Nat.le_trans (show ds.length + q ≤ 200003 by omega) (by decide)
        have fin : ∀ r d' H5, Same H4 H5 → Dq (fr H5 m l4) r d' → Bnt N (n + 1) (.tuple ds) d' → Q r H5 := fun r d' H5 s5 q5 b5 =>
          k r d' H5 l4 ls4 k4 (M4.same s5) (by omega) (F4.trans (G4.grow s5).1.sm) q5 b5
        refine ⟨_, rfl, rfl, _, rfl, ite2 (fun _ => ?_) (fun _ => ?_)⟩
        · refine ⟨_, rfl, _, rfl, j, rfl, ad, xs, rfl, (fr_of e4).2.2, fun p1 H5 s5 e5 => ?_⟩
          refine ⟨_, rfl, _, rfl, _, _, rfl, rfl, _, rfl, ad, xs, rfl, s5 _ _ (fr_of e4).2.2, fun p2 H6 s6 e6 => ?_⟩
          rw [cut_to] at e5
          rw [show ((j : Int) + 1) = ((j + 1 : Nat) : Int) by omega, cut_from] at e6
          refine ⟨p1, p2, _, _, rfl, rfl, s6 _ _ e5, e6, by rw [List.length_take, List.length_drop]; have := big 0 (by omega); omega, fun p3 H7 s7 e7 => ?_⟩
          have s47 := same_trans s5 (same_trans s6 s7)
          obtain ⟨G7, t7⟩ := G4.grow s47
          exact fin _ _ H7 s47 (.tup (G7.tupAt e7) (((a4.take j).app (a4.drop (j + 1))).same t7)) (bnt_cut hgA hdA j)
        refine ⟨_, rfl, rfl, _, rfl, ite2 (fun _ => ?_) (fun _ => ?_)⟩
        · refine ⟨_, rfl, _, rfl, _, rfl, j, rfl, _, rfl, _, _, rfl, rfl, _, rfl, ad, xs, rfl, (fr_of e4).2.2, fun p2 H6 s6 e6 => ?_⟩
          rw [cut_at xs (by omega)] at e6
          refine ⟨ad, p2, _, _, rfl, rfl, s6 _ _ (fr_of e4).2.2, e6, by rw [List.length_take]; have := big 1 (by omega); omega, fun p3 H7 s7 e7 => ?_⟩
          have s47 := same_trans s6 s7
          obtain ⟨G7, t7⟩ := G4.grow s47
          exact fin _ _ H7 s47 (.tup (G7.tupAt e7) ((a4.app ((a4.drop j).take 1)).same t7)) (bnt_twice hgA hdA j)
        refine ⟨_, rfl, rfl, _, rfl, ite2 (fun _ => ?_) (fun _ => ?_)⟩
        · refine ⟨_, rfl, ad, _, rfl, .inr (SqT.of (fr_of e4).2.2), fun p3 np3 => ?_⟩
          obtain ⟨G7, t7, e7⟩ := G4.new (o := .lst xs) np3
          exact fin _ _ _ (same_new np3) (.lst e7 (a4.same t7)) (bnt_list hgA hdA)
        refine ⟨_, rfl, rfl, _, rfl, ite2 (fun _ => ?_) (fun _ => ?_)⟩
        · refine ⟨_, rfl, _, rfl, j, rfl, ad, xs, rfl, (fr_of e4).2.2, fun p1 H5 s5 e5 => ?_⟩
          rw [cut_to] at e5
          obtain ⟨G5, t5⟩ := G4.grow s5
          refine ⟨_, rfl, m, c, l4, cs, ls4, k4, rfl, G5.mat, by omega, fun ro od H6 l6 ls6 k6 M6 nn6 s6 q6 ho => ?_⟩
          refine ⟨by show 1 ≤ sizeLine; decide, fun p2 np2 => ?_⟩
          have G6 : Gw m c l6 cs ls6 k6 H6 H6 := ⟨M6, .refl⟩
          obtain ⟨G7, t7, e7⟩ := G6.new (o := .tup [ro]) np2
          generalize upd H6 p2 (HO.tup [ro]) = H7 at G7 t7 e7
          have e5' := t7 _ _ (s6.1 _ _ (G5.tupAt e5))
          have e4' := t7 _ _ (s6.1 _ _ (t5 _ _ e4))
          have a7 := ((a4.same t5).same s6.1).same t7
          refine ⟨p1, p2, _, _, rfl, rfl, (fr_of e5').2.2, (fr_of e7).2.2, by rw [List.length_take]; have := big 1 (by omega); show _ + 1 ≤ _; omega, fun p3 H8 s8 e8 => ?_⟩
          refine ⟨_, rfl, _, rfl, j, rfl, ad, xs, rfl, s8 _ _ (fr_of e4').2.2, fun p4 H9 s9 e9 => ?_⟩
          rw [cut_from] at e9
          refine ⟨p3, p4, _, _, rfl, rfl, s9 _ _ e8, e9, by rw [List.length_append, List.length_take, List.length_drop]; have := big 1 (by omega); show _ + 1 + _ ≤ _; omega, fun p5 Ha sa ea => ?_⟩
          obtain ⟨Ga, ta⟩ := G7.grow (same_trans s8 (same_trans s9 sa))
          exact k _ _ Ha l6 ls6 k6 Ga.mat (by omega) (F4.trans (G5.sm.trans (s6.trans Ga.sm))) (.tup (Ga.tupAt ea) ((((a7.take j).app (.cons (q6.same t7) .nil)).app (a7.drop j)).same ta)) (bnt_put hgA hdA j hN ho)
        refine ⟨_, rfl, rfl, _, rfl, ite2 (fun _ => ?_) (fun _ => ?_)⟩
        · refine ⟨_, rfl, ad, xs, rfl, (fr_of e4).2.2, fun p3 np3 => ?_⟩
          obtain ⟨G7, t7, e7⟩ := G4.new (o := .tup xs.reverse) np3
          exact fin _ _ _ (same_new np3) (.tup e7 (a4.rev.same t7)) (bnt_rev hgA hdA)
        · refine ⟨_, rfl, _, rfl, j, rfl, ad, xs, rfl, (fr_of e4).2.2, fun p1 H5 s5 e5 => ?_⟩
          rw [cut_to] at e5
          obtain ⟨G5, t5⟩ := G4.grow s5
          obtain ⟨ve, hve, qe⟩ := (a4.same t5).at (List.getElem?_eq_getElem hj)
          have hej : ds[j]? = some ds[j] := List.getElem?_eq_getElem hj
          have memj : ds[j] ∈ ds := List.getElem_mem hj
          have gj := gdAll_iff.mp hgA _ memj
          have zj := sz_mem memj
          have dj := dp_mem memj
          generalize ds[j] = dj0 at qe hej gj zj dj
          have szj : sz dj0 ≤ 400000 := by
            simp only [sz] at hz
            omega
          refine ⟨_, rfl, _, rfl, _, rfl, ad, xs, (j : Int), ve, rfl, rfl, SqT.of (fr_of (t5 _ _ e4)).2.2, atI_nat hve, ?_⟩
          refine ⟨m, c, l4, cs, ls4, k4, ve, dj0, rfl, G5.mat, by omega, qe, gj, szj, by omega, fun ro od H6 l6 ls6 k6 M6 nn6 s6 q6 ho => ?_⟩
          refine ⟨by show 1 ≤ sizeLine; decide, fun p2 np2 => ?_⟩
          have G6 : Gw m c l6 cs ls6 k6 H6 H6 := ⟨M6, .refl⟩
          obtain ⟨G7, t7, e7⟩ := G6.new (o := .tup [ro]) np2
          generalize upd H6 p2 (HO.tup [ro]) = H7 at G7 t7 e7
          have e5' := t7 _ _ (s6.1 _ _ (G5.tupAt e5))
          have e4' := t7 _ _ (s6.1 _ _ (t5 _ _ e4))
          have a7 := ((a4.same t5).same s6.1).same t7
          refine ⟨p1, p2, _, _, rfl, rfl, (fr_of e5').2.2, (fr_of e7).2.2, by rw [List.length_take]; have := big 1 (by omega); show _ + 1 ≤ _; omega, fun p3 H8 s8 e8 => ?_⟩
          refine ⟨_, rfl, _, rfl, _, _, rfl, rfl, _, rfl, ad, xs, rfl, s8 _ _ (fr_of e4').2.2, fun p4 H9 s9 e9 => ?_⟩
          rw [show ((j : Int) + 1) = ((j + 1 : Nat) : Int) by omega, cut_from] at e9
          refine ⟨p3, p4, _, _, rfl, rfl, s9 _ _ e8, e9, by rw [List.length_append, List.length_take, List.length_drop]; have := big 1 (by omega); show _ + 1 + _ ≤ _; omega, fun p5 Ha sa ea => ?_⟩
          obtain ⟨Ga, ta⟩ := G7.grow (same_trans s8 (same_trans s9 sa))
          exact k _ _ Ha l6 ls6 k6 Ga.mat (by omega) (F4.trans (G5.sm.trans (s6.trans Ga.sm))) (.tup (Ga.tupAt ea) ((((a7.take j).app (.cons (q6.same t7) .nil)).app (a7.drop (j + 1))).same ta)) (bnt_in hgA hdA hej ho)
end
end K01
set_option Elab.async false
set_option linter.all false
set_option maxRecDepth 100000
set_option maxHeartbeats 4000000
/-! readings hand on what is wanted: monotone -/
namespace MO
open PySem L2
def MonoE (te : TE) : Prop := ∀ (σ : L2.St) (H : Hp) (Q Q' : VK), (∀ v H1, Q v H1 → Q' v H1) → te σ H Q → te σ H Q'
def MonoA (ta : TA) : Prop := ∀ (σ : L2.St) (H : Hp) (Q Q' : List V → Hp → Prop), (∀ v H1, Q v H1 → Q' v H1) → ta σ H Q → ta σ H Q'
def MonoT (tt : TT) : Prop := ∀ (σ : L2.St) (H : Hp) (Q Q' : Bool → Hp → Prop), (∀ b H1, Q b H1 → Q' b H1) → tt σ H Q → tt σ H Q'
def MonoR (r : R2) : Prop := ∀ (x y : V) (H : Hp) (Q Q' : VK), (∀ v H1, Q v H1 → Q' v H1) → r x y H Q → r x y H Q'
def MonoC (r : List V → Hp → VK → Prop) : Prop := ∀ (vs : List V) (H : Hp) (Q Q' : VK), (∀ v H1, Q v H1 → Q' v H1) → r vs H Q → r vs H Q'
theorem mo_var {i : Nat} : MonoE (tVar i) := fun σ H Q Q' h ⟨v, e, q⟩ => ⟨v, e, h _ _ q⟩
theorem mo_c {v : V} : MonoE (tC v) := fun σ H Q Q' h q => h _ _ q
theorem mo_nil : MonoA tNil := fun σ H Q Q' h q => h _ _ q
theorem mo_cons {te : TE} {ta : TA} (a : MonoE te) (b : MonoA ta) : MonoA (tCons te ta) := fun σ H Q Q' h q => a σ H _ _ (fun v H1 q1 => b σ H1 _ _ (fun vs H2 q2 => h _ _ q2) q1) q
theorem mo_tup {ta : TA} (a : MonoA ta) : MonoE (tTup ta) := fun σ H Q Q' h q => a σ H _ _ (fun vs H1 q1 => ⟨q1.1, fun p np => h _ _ (q1.2 p np)⟩) q
theorem mo_lst {ta : TA} (a : MonoA ta) : MonoE (tLst ta) := fun σ H Q Q' h q => a σ H _ _ (fun vs H1 q1 => ⟨q1.1, fun p np => h _ _ (q1.2 p np)⟩) q
theorem mo_op {r : R2} {ta tb : TE} (hr : MonoR r) (a : MonoE ta) (b : MonoE tb) : MonoE (tOp r ta tb) := fun σ H Q Q' h q => a σ H _ _ (fun v H1 q1 => b σ H1 _ _ (fun u H2 q2 => hr _ _ _ _ _ h q2) q1) q
theorem mo_test {te : TE} (a : MonoE te) : MonoT (tTest te) := fun σ H Q Q' h q => a σ H _ _ (fun v H1 ⟨k, e, q1⟩ => ⟨k, e, h _ _ q1⟩) q
theorem mo_and {t u : TT} (a : MonoT t) (b : MonoT u) : MonoT (tAnd t u) := fun σ H Q Q' h q => a σ H _ _ (fun c H1 q1 => by
  cases c with
  | true =>
    rw [if_pos rfl] at q1 ⊢
    exact b σ H1 _ _ h q1
  | false => exact h _ _ q1) q
theorem mo_or {t u : TT} (a : MonoT t) (b : MonoT u) : MonoT (tOr t u) := fun σ H Q Q' h q => a σ H _ _ (fun c H1 q1 => by
  cases c with
  | true => exact h _ _ q1
  | false => exact b σ H1 _ _ h q1) q
theorem mo_if {t : TT} {ta tb : TE} (a : MonoT t) (b : MonoE ta) (c : MonoE tb) : MonoE (tIf t ta tb) := fun σ H Q Q' h q => a σ H _ _ (fun k H1 q1 => by
  cases k with
  | true =>
    rw [if_pos rfl] at q1 ⊢
    exact b σ H1 _ _ h q1
  | false => exact c σ H1 _ _ h q1) q
theorem mr_ix {K : PySem.W.Frag} : MonoR (rIxT K) := fun x y H Q Q' h ⟨p, xs, i, v, e1, e2, e3, e4, q⟩ => ⟨p, xs, i, v, e1, e2, e3, e4, h _ _ q⟩
theorem mr_nilT {K : PySem.W.Frag} {f : Bool → Bool} : MonoR (NI.rNilT K f) := fun x y H Q Q' h ⟨a, b, xs, e1, e2, e3, e4, q⟩ => ⟨a, b, xs, e1, e2, e3, e4, h _ _ q⟩
theorem mr_i0 {g : Int → Int → V} : MonoR (rI0 g) := fun x y H Q Q' h ⟨i, j, e1, e2, q⟩ => ⟨i, j, e1, e2, h _ _ q⟩
theorem mc_nx (E : XK) : ∀ (vs : List V) (H : Hp) (Q Q' : VK), (∀ v H1, Q v H1 → Q' v H1) → K01.spNx vs H Q E → K01.spNx vs H Q' E := fun vs H Q Q' h ⟨m, c, l, many, cs, ls, n, e, M, h1, h2, h3, k⟩ =>
  ⟨m, c, l, many, cs, ls, n, e, M, h1, h2, h3, fun r H' l' ls' n' r0 r1 M' nn s => h _ _ (k r H' l' ls' n' r0 r1 M' nn s)⟩
end MO
namespace MO
open PySem L2
theorem mo_cb {r : List V → Hp → VK → Prop} {ta : TA} (hr : MonoC r) (a : MonoA ta) : MonoE (tCB r ta) := fun σ H Q Q' h q => a σ H _ _ (fun vs H1 q1 => hr _ _ _ _ h q1) q
theorem mo_call {sp : Sp} {dvs : List V} {E : XK} {ta : TA} (hr : ∀ vs H Q Q', (∀ v H1, Q v H1 → Q' v H1) → sp vs H Q E → sp vs H Q' E) (a : MonoA ta) : MonoE (tCall sp dvs E ta) := fun σ H Q Q' h q => a σ H _ _ (fun vs H1 q1 => hr _ _ _ _ h q1) q
theorem mc_len {K : PySem.W.Frag} : MonoC (fun xs H Q => ∃ p ys, xs = [.ref p] ∧ (SqL K H p ys ∨ SqT K H p ys) ∧ Q (.int ys.length) H) := fun vs H Q Q' h ⟨p, ys, e, s, q⟩ => ⟨p, ys, e, s, h _ _ q⟩
end MO
set_option Elab.async false
set_option linter.all false
set_option maxRecDepth 100000
set_option maxHeartbeats 4000000
namespace K01
open PySem L2 L2H DQ RZ
/-- a pair: a tree that is no call, n nodes, c calls -/
def Tp (k n c : Nat) (d : PyData) : Prop := ∃ (ms : List Str) (bs : List PyData) (n0 : Nat), d = .tuple [.tuple (ms.map PyData.str), .tuple bs] ∧ ms.Sublist abc3 ∧ bs.length ≤ 3 ∧ TcB k n0 c bs ∧ n = n0 + 1
theorem Tp.tc {k n c : Nat} {d : PyData} (h : Tp k n c d) : Tc k n c d := by
  obtain ⟨ms, bs, n0, rfl, h1, h2, h3, h4⟩ := h
  exact .mk h1 h2 (.inl ⟨rfl, rfl⟩) h3 h4 rfl
theorem Tc.tp {k n : Nat} {d : PyData} (h : Tc k n 0 d) : Tp k n 0 d := by
  cases h with
  | @mk _ _ _ n0 c0 c1 ms bs r h1 h2 h3 h4 e1 e2 =>
    rcases h3 with ⟨rfl, rfl⟩ | ⟨rfl, rfl⟩
    · obtain rfl : c1 = 0 := by omega
      exact ⟨ms, bs, n0, rfl, h1, h2, h4, e1⟩
    · omega
theorem tp_tup {ms : List Str} {bs : List PyData} (h : tupA bs = true) : tupO (.tuple [.tuple (ms.map PyData.str), .tuple bs]) = true := by
  simp only [tupO, tupA, tup_strs, h, Bool.and_self]
/-- the way down: what stands above, level by level; o nodes beside the way -/
inductive Spn (H : Hp) : List V → Nat → Nat → Prop
  | nil : Spn H [] 3 0
  | snoc {es : List V} {k o a b o' : Nat} {e : Addr} {v : V} {j : Nat} {ms : List Str} {bs : List PyData} {u : Str} {t : PyData} : Spn H es (k + 1) o → H e = some (.tup [v, .int (j : Int)]) → Dq H v (.tuple [.tuple (ms.map PyData.str), .tuple bs]) → tupA bs = true →
      ms.Sublist abc3 → bs.length ≤ 3 → bs[j]? = some (.tuple [.str u, t]) → efS u → TcB (k + 1) a 0 (bs.take j) → TcB (k + 1) b 0 (bs.drop (j + 1)) → o' = o + 1 + a + b → Spn H (es ++ [.ref e]) k o'
theorem Spn.keep {H H' : Hp} (s : ∀ b xs, H b = some (.tup xs) → H' b = some (.tup xs)) {es : List V} {k o : Nat} (h : Spn H es k o) : Spn H' es k o := by
  induction h with
  | nil => exact .nil
  | snoc h h1 h2 ht h3 h4 h5 h6 h7 h8 h9 ih => exact .snoc ih (s _ _ h1) (h2.tups s (tp_tup ht)) ht h3 h4 h5 h6 h7 h8 h9
theorem Spn.same {H H' : Hp} (s : Same H H') {es : List V} {k o : Nat} (h : Spn H es k o) : Spn H' es k o := h.keep fun b xs e => s _ _ e
theorem TcB.cut {k n c : Nat} {bs : List PyData} {j : Nat} (h : TcB k n c bs) (hj : j < bs.length) : ∃ k' u t n1 c1 a ca b cb, k = k' + 1 ∧ bs[j]? = some (.tuple [.str u, t]) ∧ efS u ∧ Tc k' n1 c1 t ∧ TcB k a ca (bs.take j) ∧ TcB k b cb (bs.drop (j + 1)) ∧ n = a + n1 + b ∧ c = ca + c1 + cb := by
  obtain ⟨n1, c1, n2, c2, hA, hB, e1, e2⟩ := h.take j
  have hd : bs.drop j = bs[j] :: bs.drop (j + 1) := List.drop_eq_getElem_cons hj
  rw [hd] at hB
  have hb : bs[j]? = some bs[j] := List.getElem?_eq_getElem hj
  generalize bs[j] = x at hB hb
  cases hB with
  | @cons k n c n' c' N C u t r hu ht hr f1 f2 => exact ⟨k, u, t, n, c, n1, c1, n', c', rfl, hb, hu, ht, hA, hr, by omega, by omega⟩
/-- trees of at most one level below the root -/
def spT1 : Sp := fun vs H Q _ => ∃ (m c l : Addr) (cs ls : List Int) (n e : Int), vs = [.ref m, .int 2, .int e] ∧ (e = 0 ∨ e = 1) ∧ MAt H m c l cs ls n ∧ n + 52 ≤ 1000000000 ∧
  ∀ r d q H' l' ls' n', MAt H' m c l' cs ls' n' → n' ≤ n + 52 → Fs H m l H' l' → Dq (fr H' m l') r d → Tc 1 q 0 d → (q : Int) ≤ 2 → Q r H'
theorem t1_or {vs : List V} {H : Hp} {Q : VK} {E : XK} (h : spT1 vs H Q E) : spTr 0 vs H Q E ∨ spTr 1 vs H Q E := by
  obtain ⟨m, c, l, cs, ls, n, e, rfl, he, M, hn, k⟩ := h
  have d0 : dn 0 = 10 := by decide
  have d1 : dn 1 = 52 := by decide
  rcases he with rfl | rfl
  · exact .inl ⟨m, c, l, cs, ls, n, 2, rfl, M, by omega, by decide, by decide, fun r d q H' l' ls' n' M' nn s q' t hq => k r d q H' l' ls' n' M' (by omega) s q' t.mono hq⟩
  · exact .inr ⟨m, c, l, cs, ls, n, 2, rfl, M, by omega, by decide, by decide, fun r d q H' l' ls' n' M' nn s q' t hq => k r d q H' l' ls' n' M' (by omega) s q' t hq⟩
theorem dq_tup {H : Hp} {v : V} {ds : List PyData} (h : Dq H v (.tuple ds)) : ∃ p xs, v = .ref p ∧ H p = some (.tup xs) ∧ DqAll H xs ds := by
  cases h with
  | tup e a => exact ⟨_, _, rfl, e, a⟩
theorem dq_pair {H : Hp} {v : V} {a b : PyData} (h : Dq H v (.tuple [a, b])) : ∃ p va vb, v = .ref p ∧ H p = some (.tup [va, vb]) ∧ Dq H va a ∧ Dq H vb b := by
  obtain ⟨p, xs, rfl, e, a⟩ := dq_tup h
  cases a with
  | cons qa q =>
  cases q with
  | cons qb q =>
  cases q
  exact ⟨p, _, _, rfl, e, qa, qb⟩
theorem dq_node {H : Hp} {v : V} {A B : List PyData} (h : Dq H v (.tuple [.tuple A, .tuple B])) : ∃ p va pb xs, v = .ref p ∧ H p = some (.tup [va, .ref pb]) ∧ Dq H va (.tuple A) ∧ H pb = some (.tup xs) ∧ DqAll H xs B := by
  obtain ⟨p, va, vb, rfl, e, qa, qb⟩ := dq_pair h
  obtain ⟨pb, xs, rfl, e2, a⟩ := dq_tup qb
  exact ⟨p, va, pb, xs, rfl, e, qa, e2, a⟩
def lenAt (H : Hp) (p : Addr) : Nat := match H p with | some (.lst xs) => xs.length | _ => 0
theorem gw_put {H : Hp} {m l D : Addr} {xs ys : List V} (h : fr H m l D = some (.lst xs)) : ∀ b zs, fr H m l b = some (.tup zs) → fr (upd H D (.lst ys)) m l b = some (.tup zs) := fun b zs z => by
  obtain ⟨h1, h2, h3⟩ := fr_of z
  refine fr_some ?_ h1 h2
  rw [upd_ne fun y => by rw [y, h] at z; cases z]
  exact h3
/-- a drawn body -/
def spBy : Sp := fun vs H Q _ => ∃ (m c l : Addr) (cs ls : List Int) (n size : Int), vs = [.ref m, .int size] ∧ MAt H m c l cs ls n ∧ n + 700 ≤ 1000000000 ∧ 2 ≤ size ∧ size ≤ 1000 ∧
  ∀ r d q H' l' ls' n', MAt H' m c l' cs ls' n' → n' ≤ n + 700 → Fs H m l H' l' → Dq (fr H' m l') r d → Tp 3 q 1 d → (q : Int) ≤ size + 1 → Q r H'
abbrev nBy : List Str := ["m", "size", "tree", "spine", "call", "at", "word", "above"]
theorem drop_atV {es : List V} {j : Nat} {e : V} (h : es[j]? = some e) : es.drop j = e :: es.drop (j + 1) := by
  obtain ⟨h1, h2⟩ := List.getElem?_eq_some_iff.mp h
  rw [← h2, ← List.drop_eq_getElem_cons h1]
section
variable {P : Program} {w : World} {K : PySem.W.Frag} {mg : Str → Option Value} {base : Heap}
theorem scBy : FnScope nBy ["m", "size"] (defScope sBody) := ⟨rfl, rfl, rfl, by decide +kernel, rfl, by decide +kernel, by decide +kernel⟩
theorem ok_body {f fN fT : Addr} {fd dN dT : FuncData} (F : Fun K "_law_body" "_law_body" sBody f fd) (FN : Fun K "_law_next" "_law_next" sNext fN dN) (bN : Binds K dN ["m", "many"] []) (gN : mg "_law_next" = some (.ref fN))
    (FT : Fun K "_law_tree" "_law_tree" sTree fT dT) (bT : Binds K dT ["m", "size", "deep"] []) (gT : mg "_law_tree" = some (.ref fT)) (T : TxtB mg) (tT : mg "tuple" = none) : FnOk P w K mg base CX0 7 f fd ["m", "size"] spBy := by
  have GN : FnOk P w K mg base CX0 1 fN dN ["m", "many"] spNx := (ok_next FN T).imp fun _ _ _ _ => nx_of
  have GT : FnOk P w K mg base CX0 6 fT dT ["m", "size", "deep"] (spTr 3) := ok_tree FT bT gT FN bN gN T tT 3 (by decide)
  have GA : FnOk P w K mg base CX0 3 fT dT ["m", "size", "deep"] (spTr 0) := ok_tree FT bT gT FN bN gN T tT 0 (by decide)
  have GB : FnOk P w K mg base CX0 4 fT dT ["m", "size", "deep"] (spTr 1) := ok_tree FT bT gT FN bN gN T tT 1 (by decide)
  have G1 : FnOk P w K mg base CX0 4 fT dT ["m", "size", "deep"] spT1 := ⟨fun vs H Q E h => (t1_or h).elim (GA.len vs H Q E) (GB.len vs H Q E), fun A outer s H args us vs Q E hr he hb hv h => (t1_or h).elim (GA.run A outer s H args us vs Q E (hr.mono (by decide)) he hb hv) (GB.run A outer s H args us vs Q E hr he hb hv)⟩
  have bi : bootBuiltins ("int" : Str) = some (.type "int") := by decide +kernel
  refine F.ok (k := 6) scBy (fun vs H Q E h => ?_) (fun cdv A outer s H vs Q E hr h => ?_)
  · obtain ⟨m, c, l, cs, ls, n, size, rfl, _⟩ := h
    rfl
  · obtain ⟨m, c, l, cs, ls, n, size, rfl, M, hn, sz2, sz9, kk⟩ := h
    have hu1 : (A.deeper (PyProof.Rows.envOfC "_law_body" (defScope sBody) s.heap.objs.size f cdv)).units < cLine := by have := hr.un; omega
    refine ⟨_, pss_cons (ps_set (i := 2) scBy.nd rfl (Or.inl rfl) (pe_call GT hr (by rfl) gT FT.kp bT .nil pass0 (pa_cons (pv 0) (pa_cons (pe_op op_sub (pv 1) pe_int) (pa_cons pe_int pa_nil)))))
      (pss_cons (ps_par rfl scBy.nd (i := 3) (j := 4) rfl rfl (by decide) rfl rfl (pa_cons (pe_lst pa_nil) (pa_cons (pe_op op_catF (pe_call G1 (hr.mono (by decide)) (by rfl) gT FT.kp bT .nil pass0 (pa_cons (pv 0) (pa_cons pe_int (pa_cons (pe_callTy call_int1 (by rfl) T.int bi (pa_cons (pe_cmpR op_eq (pe_call GN (hr.mono (by decide)) (by rfl) gN FN.kp bN .nil pass0 (pa_cons (pv 0) (pa_cons pe_int pa_nil))) pe_int (by rfl)) pa_nil)) pa_nil))))
          (pe_tup (pa_cons pe_str pa_nil))) pa_nil)) rfl)
      (pss_cons (ps_while PassesOwn.never (PW.pt (pw_and (pt_cmpR (NI.op_neNilT hu1) (pe_ix ix_tup (pv 2) pe_int (fun _ _ => rfl)) (pe_tup pa_nil) (by rfl)) (pw_and (pt_cmpR op_lt (pe_callB call_len_seq (by rfl) T.len PySem.boot_len (pa_cons (pv 3) pa_nil)) (pe_ifExp (pt_cmpR (NI.op_eqNilT hu1) (pe_ix ix_tup (pv 4) pe_int (fun _ _ => rfl)) (pe_tup pa_nil) (by rfl)) pe_int pe_int) (by rfl))
          (pw_and1 (pt_cmpR op_gt (pe_call GN (hr.mono (by decide)) (by rfl) gN FN.kp bN .nil pass0 (pa_cons (pv 0) (pa_cons pe_int pa_nil))) pe_int (by rfl))))))
        (pss_cons (ps_set (i := 5) scBy.nd rfl (Or.inl rfl) (pe_call GN (hr.mono (by decide)) (by rfl) gN FN.kp bN .nil pass0 (pa_cons (pv 0) (pa_cons (pe_callB call_len_seq (by rfl) T.len PySem.boot_len (pa_cons (pe_ix ix_tup (pv 2) pe_int (fun _ _ => rfl)) pa_nil)) pa_nil))))
        (pss_cons (ps_expr (pe_bm PySem.F.plainAttrs_list PySem.F.slot_list_append PySem.F.type_list_append mt_append (pv 3) (pa_cons (pe_tup (pa_cons (pv 2) (pa_cons (pv 5) pa_nil))) pa_nil)))
        (pss_one (ps_set (i := 2) scBy.nd rfl (Or.inl rfl) (pe_ix ix_tup (pe_ix ix_tup (pe_ix ix_tup (pv 2) pe_int (fun _ _ => rfl)) (pv 5) (fun _ _ => rfl)) pe_int (fun _ _ => rfl)))))))
      (pss_cons (ps_set (i := 6) scBy.nd rfl (Or.inl rfl) (pe_ix ix_list (pe_lst (pa_cons pe_str (pa_cons pe_str pa_nil))) (pe_callTy call_int1 (by rfl) T.int bi (pa_cons (pe_cmpR op_eq (pe_call GN (hr.mono (by decide)) (by rfl) gN FN.kp bN .nil pass0 (pa_cons (pv 0) (pa_cons pe_int pa_nil))) pe_int (by rfl)) pa_nil)) (fun _ _ => rfl)))
      (pss_cons (ps_set (i := 2) scBy.nd rfl (Or.inl rfl) (pe_tup (pa_cons (pe_ix ix_tup (pv 2) pe_int (fun _ _ => rfl)) (pa_cons (pe_op op_catF (pe_slice sl_tupF (pe_ix ix_tup (pv 2) pe_int (fun _ _ => rfl)) po_none (po_some pe_int)) (pe_tup (pa_cons (pe_tup (pa_cons (pv 6) (pa_cons (pv 4) pa_nil))) pa_nil))) pa_nil))))
      (pss_cons (ps_for PassesOwn.never rfl (pi_list (pe_revL (pv 3))) (pg_tup (n := 2) rfl (pgs_cons (pg_name (i := 7) scBy.nd rfl (Or.inl rfl)) (pgs_cons (pg_name (i := 5) scBy.nd rfl (Or.inl rfl)) pgs_nil)))
        (pss_one (ps_set (i := 2) scBy.nd rfl (Or.inl rfl) (pe_tup (pa_cons (pe_ix ix_tup (pv 7) pe_int (fun _ _ => rfl)) (pa_cons (pe_op op_catF (pe_op op_catF (pe_slice sl_tupF (pe_ix ix_tup (pv 7) pe_int (fun _ _ => rfl)) po_none (po_some (pv 5)))
            (pe_tup (pa_cons (pe_tup (pa_cons (pe_ix ix_tup (pe_ix ix_tup (pe_ix ix_tup (pv 7) pe_int (fun _ _ => rfl)) (pv 5) (fun _ _ => rfl)) pe_int (fun _ _ => rfl)) (pa_cons (pv 2) pa_nil))) pa_nil))) (pe_slice sl_tupF (pe_ix ix_tup (pv 7) pe_int (fun _ _ => rfl)) (po_some (pe_op op_add (pv 5) pe_int)) po_none)) pa_nil))))))
      (pss_one (ps_ret (pv 2)))))))), ?_⟩
    have d3 : dn 3 = 556 := by decide
    refine ⟨_, rfl, _, rfl, _, _, rfl, rfl, m, c, l, cs, ls, n, size - 1, rfl, M, by omega, by omega, by omega, fun vt dt nt H1 l1 ls1 n1 M1 nn1 s1 q1 t1 ht1 => ?_⟩
    refine ⟨Nat.zero_le _, fun sp nsp => ?_⟩
    have G1 : Gw m c l1 cs ls1 n1 H1 H1 := ⟨M1, .refl⟩
    obtain ⟨G2, u2, e2⟩ := G1.new (o := .lst []) nsp
    have q2 := q1.same u2
    have sp0 : H sp = none := s1.2 _ nsp
    have F2 := s1.trans G2.sm
    generalize upd H1 sp (HO.lst []) = H2 at G2 u2 e2 q2 F2
    have M2 := G2.mat
    clear G1 G2 u2 q1 s1 nsp
    refine ⟨_, rfl, _, rfl, m, c, l1, 4, cs, ls1, n1, rfl, M2, by decide, by decide, by omega, fun rb H3 l3 ls3 n3 rb0 rb1 M3 nn3 s3 => ⟨rfl, .inr ⟨_, rfl, ?_⟩⟩⟩
    refine ⟨m, c, l3, cs, ls3, n3, _, rfl, by split <;> simp, M3, by omega, fun vc0 dc0 nc H4 l4 ls4 n4 M4 nn4 s4 q4 t4 hc4 => ?_⟩
    refine ⟨by show 1 ≤ sizeLine; decide, fun pk npk => ?_⟩
    obtain ⟨msC, bsC, nbC, rfl, hmC, lbC, tbC, enC⟩ := t4.tp
    obtain ⟨pc, xc, rfl, ec, ac⟩ := dq_tup q4
    have G4 : Gw m c l4 cs ls4 n4 H4 H4 := ⟨M4, .refl⟩
    obtain ⟨G5, u5, e5⟩ := G4.new (o := .tup [.str "call"]) npk
    refine ⟨pc, pk, _, _, rfl, rfl, (fr_of (u5 _ _ ec)).2.2, upd_same, by rw [ac.len]; show 2 + 1 ≤ sizeLine; decide, fun vcA H6 s6 e6 => ⟨_, _, rfl, ?_⟩⟩
    obtain ⟨G6, u6⟩ := G5.grow s6
    have dcall : Dq (fr H6 m l4) (.ref vcA) (.tuple (.tuple (msC.map PyData.str) :: .tuple bsC :: [.str "call"])) :=
      .tup (G6.tupAt e6) (((ac.same u5).same u6).app (.cons (.str _ ⟨by decide +kernel, by decide +kernel⟩) .nil))
    have tcall : ∀ k, (bsC = [] ∨ 1 ≤ k) → Tc k nc 1 (.tuple (.tuple (msC.map PyData.str) :: .tuple bsC :: [.str "call"])) := fun k hk => by
      have zero : bsC = [] → Tc 0 nc 1 (.tuple (.tuple (msC.map PyData.str) :: .tuple bsC :: [.str "call"])) := fun z => by
        subst z
        cases tbC
        exact .mk hmC (Nat.zero_le _) (.inr ⟨rfl, rfl⟩) .nil enC rfl
      have one : Tc 1 nc 1 (.tuple (.tuple (msC.map PyData.str) :: .tuple bsC :: [.str "call"])) := .mk hmC lbC (.inr ⟨rfl, rfl⟩) tbC enC rfl
      have up : ∀ {a b d : _} (j : Nat), Tc a b 1 d → Tc (a + j) b 1 d := fun j h => by
        induction j with
        | zero => exact h
        | succ j ih => exact ih.mono
      rcases hk with z | z
      · have := up k (zero z)
        rwa [Nat.zero_add] at this
      · have := up (k - 1) one
        rwa [show 1 + (k - 1) = k by omega] at this
    have F6 : Fs H m l H6 l4 := F2.trans (s3.trans (s4.trans (G5.sm.trans (.new s6 u6))))
    have e6s : fr H6 m l4 sp = some (.lst []) := u6 _ _ (u5 _ _ (s4.1 _ _ (s3.1 _ _ e2)))
    have q6 : Dq (fr H6 m l4) vt dt := ((((q2.same s3.1).same s4.1).same u5).same u6)
    have spm : sp ≠ m := (ne_of_none M.hm sp0).symm
    have spc : sp ≠ c := (ne_of_none M.hc sp0).symm
    obtain ⟨dC, hdC⟩ : ∃ dC, dC = PyData.tuple (.tuple (msC.map PyData.str) :: .tuple bsC :: [.str "call"]) := ⟨_, rfl⟩
    rw [← hdC] at dcall
    have tcall' := tcall
    rw [← hdC] at tcall'
    have M6 := G6.mat
    have n4' : n4 ≤ n + 609 := by omega
    clear tcall G4 G5 G6 u5 u6 s6 e6 e5 ac ec M4 q4 t4 s4 s3 M3 e2 q2 F2 M2
    let lim : Nat := if bsC = [] then 2 else 1
    refine while_by (fun σ' H' => ∃ (vt : V) (dt : PyData) (k o nt : Nat) (es : List V) (l' : Addr) (ls' : List Int) (n' : Int) (w5 : Option V), σ' = [some (V.ref m), some (V.int size), some vt, some (V.ref sp), some (V.ref vcA), w5, none, none] ∧
        Dl H m c l cs n (609 + 2 * (es.length : Int)) sp es H' l' ls' n' ∧ Dq (fr H' m l') vt dt ∧ Tp k nt 0 dt ∧ Spn (fr H' m l') es k o ∧ es.length + k = 3 ∧ (o : Int) + nt ≤ size - 1 ∧ Dq (fr H' m l') (.ref vcA) dC ∧ es.length ≤ lim)
      (fun _ H' => 3 - lenAt H' sp) ⟨vt, dt, 3, 0, nt, [], l4, ls4, n4, _, rfl, ⟨M6, by rw [List.length_nil]; omega, F6, e6s⟩, q6, t1.tp, .nil, rfl, by omega, dcall, Nat.zero_le _⟩ ?_ ?_
    · rintro σ' H' ⟨vt, dt, k, o, nt, es, l', ls', n', w5, rfl, d, qt, tp, spn, ek, osz, qc, elim⟩
      have lim2 : lim ≤ 2 := by show (if bsC = [] then 2 else 1) ≤ 2; split <;> decide
      have dle := d.le
      obtain ⟨ms, bs, nb, rfl, hms, lb, tb, en⟩ := tp
      obtain ⟨pt, va, pb, xb, rfl, ept, qa, epb, ab⟩ := dq_node qt
      refine ⟨_, rfl, pt, _, 1, .ref pb, rfl, rfl, SqT.of (fr_of ept).2.2, atI_nat (j := 1) rfl, Nat.zero_le _, fun p np => ⟨pb, p, xb, rfl, rfl, SqT.of (same_new np _ _ (fr_of epb).2.2), SqT.of upd_same, _, rfl, ?_⟩⟩
      have Gx : Gw m c l' cs ls' n' H' H' := ⟨d.mat, .refl⟩
      obtain ⟨Gy, ty, _⟩ := Gx.new (o := .tup []) np
      have d1 : Dl H m c l cs n (609 + 2 * (es.length : Int)) sp es (upd H' p (.tup [])) l' ls' n' := d.next Gy.mat (j := 0) (by omega) Gy.sm (by omega)
      have ept1 := ty _ _ ept
      have epb1 := ty _ _ epb
      have ab1 := ab.same ty
      have qa1 := qa.same ty
      have spn1 := spn.same ty
      have qc1 := qc.same ty
      generalize upd H' p (HO.tup []) = H1 at d1 ept1 epb1 ab1 qa1 spn1 qc1
      clear Gx Gy ty np
      by_cases hx : xb = []
      · rw [show (not xb.isEmpty) = false by rw [hx]; rfl]
        refine iteF ?_
        have dE : Dl H m c l cs n (610 + 2 * (es.length : Int)) sp es H1 l' ls' n' := d1.next d1.mat (j := 0) (by omega) .refl (by omega)
        have eptE := ept1
        have epbE := epb1
        have abE := ab1
        have qaE := qa1
        have spnE := spn1
        have qcE := qc1
        have dleE := dE.le
        refine ⟨by show 2 ≤ sizeLine; decide, fun pl npl => ?_⟩
        have GE : Gw m c _ cs _ _ _ _ := ⟨dE.mat, .refl⟩
        obtain ⟨GF, tF, eF⟩ := GE.new (o := .lst [.str "e", .str "f"]) npl
        refine ⟨_, rfl, m, c, _, 4, cs, _, _, rfl, GF.mat, by decide, by decide, by omega, fun r9 H9 l9 ls9 n9 r90 r91 M9 nn9 s9 => ⟨rfl, .inr ⟨_, rfl, ?_⟩⟩⟩
        have hx : ∃ u : Str, atI [V.str "e", V.str "f"] (if decide (V.int r9 = V.int 0) = true then 1 else 0) = some (V.str u) ∧ efS u := by
          cases decide (V.int r9 = V.int 0) with
          | true => exact ⟨"f", atI_nat (j := 1) rfl, .inr rfl⟩
          | false => exact ⟨"e", atI_nat (j := 0) rfl, .inl rfl⟩
        obtain ⟨u, hu, hfu⟩ := hx
        have hsu := ef_sm hfu
        have sA := same_trans tF s9.1
        have F9 : Fs H m l H9 l9 := dE.sm.trans (GF.sm.trans s9)
        have ept9 := sA _ _ eptE
        have epb9 := sA _ _ epbE
        refine ⟨pl, _, _, .str u, rfl, rfl, SqL.of (fr_of (s9.1 _ _ eF)).2.2, hu, ?_⟩
        refine ⟨_, rfl, pt, _, 0, va, rfl, rfl, SqT.of (fr_of ept9).2.2, atI_nat (j := 0) rfl, _, rfl, pt, _, 1, .ref pb, rfl, rfl, SqT.of (fr_of ept9).2.2, atI_nat (j := 1) rfl, 2, rfl, pb, xb, rfl, (fr_of epb9).2.2, fun p1 Ha sa ea => ?_⟩
        rw [show (2 : Int) = ((2 : Nat) : Int) from rfl, cut_to] at ea
        have G9 : Gw m c l9 cs ls9 n9 H9 H9 := ⟨M9, .refl⟩
        obtain ⟨Ga, ta⟩ := G9.grow sa
        have ea' := Ga.tupAt ea
        refine ⟨_, rfl, _, rfl, by show 2 ≤ sizeLine; decide, fun p2 np2 => ⟨by show 1 ≤ sizeLine; decide, fun p3 np3 => ?_⟩⟩
        obtain ⟨Gb, tb2, eb2⟩ := Ga.new (o := .tup [.str u, .ref vcA]) np2
        obtain ⟨Gc, tc3, ec3⟩ := Gb.new (o := .tup [.ref p2]) np3
        refine ⟨p1, p3, _, _, rfl, rfl, (fr_of (tc3 _ _ (tb2 _ _ ea'))).2.2, upd_same, by rw [List.length_take]; exact Nat.le_trans (Nat.add_le_add_right (Nat.min_le_left _ _) _) (show 2 + 1 ≤ sizeLine by decide), fun p4 Hb sb eb => ⟨by show 2 ≤ sizeLine; decide, fun p5 np5 => ?_⟩⟩
        obtain ⟨Gd, td⟩ := Gc.grow sb
        obtain ⟨Gf, tf, ef⟩ := Gd.new (o := .tup [va, .ref p4]) np5
        have c9 : Same (fr H9 m l9) (fr (upd Hb p5 (.tup [va, .ref p4])) m l9) := same_trans ta (same_trans tb2 (same_trans tc3 (same_trans td tf)))
        have cE := same_trans sA c9
        have e4f := tf _ _ (Gd.tupAt eb)
        have e2f := tf _ _ (td _ _ (tc3 _ _ eb2))
        obtain ⟨n1, c1, n2, c2, tB1, tB2, eN, eC⟩ := tb.take 2
        obtain ⟨k', rfl⟩ : ∃ k', k = k' + 1 := ⟨k - 1, by omega⟩
        have tcl : Tc k' nc 1 dC := tcall' k' (by
          by_cases z : bsC = []
          · exact .inl z
          · have e1 : lim = 1 := if_neg z
            exact .inr (by omega))
        have dNew : Dq (fr (upd Hb p5 (.tup [va, .ref p4])) m l9) (.ref p5) (.tuple [.tuple (ms.map PyData.str), .tuple (bs.take 2 ++ [.tuple [.str u, dC]])]) :=
          .tup ef (.cons (qaE.same cE) (.cons (.tup e4f (((abE.take 2).same cE).app (.cons (.tup e2f (.cons (.str u ⟨by rw [hsu.2]; decide, hsu.1⟩) (.cons (qcE.same cE) .nil))) .nil))) .nil))
        have tNew : Tp (k' + 1) (n1 + nc + 1) 1 (.tuple [.tuple (ms.map PyData.str), .tuple (bs.take 2 ++ [.tuple [.str u, dC]])]) :=
          ⟨ms, _, n1 + nc, rfl, hms, by rw [List.length_append, List.length_take]; show _ + 1 ≤ 3; omega, by
            have z := tB1.app (.cons hfu tcl .nil rfl rfl)
            rw [show c1 + (1 + 0) = 1 by omega] at z
            exact z, rfl⟩
        have spn9 := spnE.same cE
        have sp9 := cE _ _ dE.dd
        have FL : Fs H m l (upd Hb p5 (.tup [va, .ref p4])) l9 := F9.trans (Ga.sm.trans ⟨same_trans tb2 (same_trans tc3 (same_trans td tf)), fun b z => same_out (same_trans (same_new np2) (same_trans (same_new np3) (same_trans sb (same_new np5)))) z⟩)
        have ML := Gf.mat
        have szN : (o : Int) + ((n1 + nc + 1 : Nat) : Int) ≤ size + 1 := by omega
        generalize PyData.tuple [.tuple (ms.map PyData.str), .tuple (bs.take 2 ++ [.tuple [.str u, dC]])] = dtN at dNew tNew
        generalize upd Hb p5 (HO.tup [va, .ref p4]) = HL0 at dNew spn9 sp9 FL ML
        refine ⟨_, rfl, sp, es, rfl, SqL.of (fr_of sp9).2.2, fun pr npr => ?_⟩
        have GL0 : Gw m c l9 cs ls9 n9 HL0 HL0 := ⟨ML, .refl⟩
        obtain ⟨GL, tL, eL⟩ := GL0.new (o := .lst es.reverse) npr
        have FL2 := FL.trans GL.sm
        have MLL := GL.mat
        generalize upd HL0 pr (HO.lst es.reverse) = HL at GL tL eL FL2 MLL
        refine ⟨pr, rfl, ⟨_, SqL.of (fr_of eL).2.2⟩, for_list (xs := es.reverse) (fun i σ' H' => ∃ (es' : List V) (k o nt : Nat) (vt : V) (dt : PyData) (w5 w7 : Option V), es.reverse.drop i = es'.reverse ∧ σ' = [some (V.ref m), some (V.int size), some vt, some (V.ref sp), some (V.ref vcA), w5, some (V.str u), w7] ∧
            Gw m c l9 cs ls9 n9 HL H' ∧ Dq (fr H' m l9) vt dt ∧ Tp k nt 1 dt ∧ Spn (fr H' m l9) es' k o ∧ es'.length + k = 3 ∧ (o : Int) + nt ≤ size + 1)
          ⟨es, k' + 1, o, n1 + nc + 1, .ref p5, dtN, _, _, rfl, rfl, ⟨MLL, .refl⟩, dNew.same tL, tNew, spn9.same tL, ek, szN⟩ (fun i σ H _ ⟨_, _, _, _, _, _, _, _, _, _, G, _⟩ => SqL.of (fr_of (G.sm.1 _ _ eL)).2.2) ?_ ?_⟩
        · rintro i x σ' H' hix ⟨es', k, o, nt, vt, dt, w5, w7, hdr, rfl, G, qt, tp, spn, ek, osz⟩
          cases spn with
          | nil =>
            rw [List.reverse_nil] at hdr
            have := List.drop_eq_nil_iff.mp hdr
            have := (List.getElem?_eq_some_iff.mp hix).1
            omega
          | @snoc es0 _ o0 a b _ e v j ms bs uu tt sp0 h1 h2 h2t h3 h4 h5 h6 h7 h8 h9 =>
          have hx : x = V.ref e ∧ es.reverse.drop (i + 1) = es0.reverse := by
            rw [List.reverse_append, List.reverse_singleton, List.singleton_append, drop_atV hix] at hdr
            exact List.cons.inj hdr
          obtain ⟨rfl, hdr'⟩ := hx
          obtain ⟨pt, va, pb, xb, rfl, ept, qa, epb, ab⟩ := dq_node h2
          obtain ⟨vj, hvj, qj⟩ := ab.at h5
          obtain ⟨pj, vu, vtt, rfl, epj, qu, qtt⟩ := dq_pair qj
          have lx : xb.length ≤ 3 := by rw [ab.len]; exact h4
          refine ⟨e, _, rfl, SqT.of (fr_of h1).2.2, rfl, _, _, rfl, _, _, rfl, rfl, ?_⟩
          have ixA : ∀ {H5 : Hp}, Same H' H5 → SqT K H5 pt [va, .ref pb] := fun s => SqT.of (s _ _ (fr_of ept).2.2)
          refine ⟨_, rfl, pt, _, 0, va, rfl, rfl, SqT.of (fr_of ept).2.2, atI_nat (j := 0) rfl, _, rfl, pt, _, 1, .ref pb, rfl, rfl, SqT.of (fr_of ept).2.2, atI_nat (j := 1) rfl, _, rfl, j, rfl, pb, xb, rfl, (fr_of epb).2.2, fun p1 H5 s5 e5 => ?_⟩
          rw [cut_to] at e5
          obtain ⟨G5, t5⟩ := G.grow s5
          refine ⟨_, rfl, pt, _, 1, .ref pb, rfl, rfl, SqT.of (fr_of (t5 _ _ ept)).2.2, atI_nat (j := 1) rfl, _, rfl, pb, xb, (j : Int), .ref pj, rfl, rfl, SqT.of (fr_of (t5 _ _ epb)).2.2, atI_nat hvj, pj, _, 0, vu, rfl, rfl, SqT.of (fr_of (t5 _ _ epj)).2.2, atI_nat (j := 0) rfl, _, rfl, by show 2 ≤ sizeLine; decide, fun p2 np2 => ⟨by show 1 ≤ sizeLine; decide, fun p3 np3 => ?_⟩⟩
          obtain ⟨G6, t6, e6⟩ := G5.new (o := .tup [vu, vt]) np2
          obtain ⟨G7, t7, e7⟩ := G6.new (o := .tup [.ref p2]) np3
          refine ⟨p1, p3, _, _, rfl, rfl, (fr_of (t7 _ _ (t6 _ _ (G5.tupAt e5)))).2.2, upd_same, by rw [List.length_take]; exact Nat.le_trans (show min j xb.length + 1 ≤ 4 by omega) (by decide), fun p4 H8 s8 e8 => ?_⟩
          obtain ⟨G8, t8⟩ := G7.grow s8
          have t48 := same_trans t5 (same_trans t6 (same_trans t7 t8))
          refine ⟨_, rfl, pt, _, 1, .ref pb, rfl, rfl, SqT.of (fr_of (t48 _ _ ept)).2.2, atI_nat (j := 1) rfl, _, rfl, _, _, rfl, rfl, _, rfl, pb, xb, rfl, (fr_of (t48 _ _ epb)).2.2, fun p5 H9 s9 e9 => ?_⟩
          rw [show ((j : Int) + 1) = ((j + 1 : Nat) : Int) by omega, cut_from] at e9
          obtain ⟨G9, t9⟩ := G8.grow s9
          refine ⟨p4, p5, _, _, rfl, rfl, s9 _ _ e8, e9, by rw [List.length_append, List.length_take, List.length_drop]; exact Nat.le_trans (show min j xb.length + 1 + (xb.length - (j + 1)) ≤ 7 by omega) (by decide), fun p6 Ha sa ea => ⟨by show 2 ≤ sizeLine; decide, fun p7 np7 => ?_⟩⟩
          obtain ⟨Ga, ta⟩ := G9.grow sa
          obtain ⟨Gb, tb, eb⟩ := Ga.new (o := .tup [va, .ref p6]) np7
          have tab := same_trans t9 (same_trans ta tb)
          have tall := same_trans t48 tab
          have e2f := (same_trans t7 (same_trans t8 tab)) _ _ e6
          have dN : Dq (fr (upd Ha p7 (.tup [va, .ref p6])) m l9) (.ref p7) (.tuple [.tuple (ms.map PyData.str), .tuple (bs.take j ++ [.tuple [.str uu, dt]] ++ bs.drop (j + 1))]) :=
            .tup eb (.cons (qa.same tall) (.cons (.tup (tb _ _ (Ga.tupAt ea)) (((((ab.take j).same tall).app (.cons (.tup e2f (.cons (qu.same tall) (.cons (qt.same tall) .nil))) .nil)).app ((ab.drop (j + 1)).same tall)))) .nil))
          refine ⟨es0, k + 1, o0, _, .ref p7, _, _, _, hdr', rfl, Gb, dN, ⟨ms, _, a + nt + b, rfl, h3, ?_, ?_, rfl⟩, sp0.same tall, ?_, ?_⟩
          · have hj := (List.getElem?_eq_some_iff.mp h5).1
            rw [List.length_append, List.length_append, List.length_take, List.length_drop]
            show _ + 1 + _ ≤ 3
            omega
          · have z := (h7.app (.cons h6 tp.tc .nil rfl rfl)).app h8
            rw [show 0 + (1 + 0) + 0 = 1 by omega, show a + (nt + 0) + b = a + nt + b by omega] at z
            exact z
          · rw [List.length_append, List.length_singleton] at ek
            omega
          · omega
        · rintro σ' H' ⟨es', k, o, nt, vt, dt, w5, w7, hdr, rfl, G, qt, tp, spn, ek, osz⟩
          rw [List.drop_length] at hdr
          obtain rfl : es' = [] := List.reverse_eq_nil_iff.mp hdr.symm
          obtain rfl : k = 3 := by simpa using ek
          exact ⟨_, rfl, kk vt dt nt H' l9 ls9 n9 G.mat (by omega) (FL2.trans G.sm) qt tp (by omega)⟩
      have xpos : 0 < xb.length := List.length_pos_iff.mpr hx
      rw [show (not xb.isEmpty) = true by cases xb with | nil => exact absurd rfl hx | cons _ _ => rfl]
      rw [hdC] at qc1
      obtain ⟨vcA', xc, evc, ec, ac⟩ := dq_tup qc1
      obtain rfl : vcA = vcA' := V.ref.inj evc
      have hc1 : ∃ cb xcb, xc[1]? = some (.ref cb) ∧ fr H1 m l' cb = some (.tup xcb) ∧ (xcb = [] ↔ bsC = []) := by
        obtain ⟨u, hu, qu⟩ := ac.at (i := 1) rfl
        obtain ⟨cb, xcb, rfl, e, a⟩ := dq_tup qu
        refine ⟨cb, xcb, hu, e, ?_⟩
        constructor
        · intro z
          have := a.len
          rw [z] at this
          exact List.length_eq_zero_iff.mp this.symm
        · intro z
          have := a.len
          rw [z] at this
          exact List.length_eq_zero_iff.mp this
      obtain ⟨cb, xcb, hcb, ecb, iffC⟩ := hc1
      rw [← hdC] at qc1
      refine iteT ⟨_, rfl, sp, es, rfl, .inl (SqL.of (fr_of d1.dd).2.2), _, rfl, vcA, xc, 1, .ref cb, rfl, rfl, SqT.of (fr_of ec).2.2, atI_nat (j := 1) hcb, Nat.zero_le _, fun p np => ⟨cb, p, xcb, rfl, rfl, SqT.of (same_new np _ _ (fr_of ecb).2.2), SqT.of upd_same, _, rfl, ?_⟩⟩
      have Gx : Gw m c l' cs ls' n' H1 H1 := ⟨d1.mat, .refl⟩
      obtain ⟨Gy, ty, _⟩ := Gx.new (o := .tup []) np
      have d2 : Dl H m c l cs n (609 + 2 * (es.length : Int)) sp es (upd H1 p (.tup [])) l' ls' n' := d1.next Gy.mat (j := 0) (by omega) Gy.sm (by omega)
      have ept2 := ty _ _ ept1
      have epb2 := ty _ _ epb1
      have ab2 := ab1.same ty
      have qa2 := qa1.same ty
      have spn2 := spn1.same ty
      have qc2 := qc1.same ty
      generalize upd H1 p (HO.tup []) = H2 at d2 ept2 epb2 ab2 qa2 spn2 qc2
      clear Gx Gy ty np d1 ept1 epb1 ab1 qa1 spn1 qc1 ec ac ecb hcb evc
      have hl : (if xcb = [] then (2 : Int) else 1) = (lim : Int) := by
        show _ = (((if bsC = [] then 2 else 1 : Nat)) : Int)
        by_cases z : xcb = []
        · rw [if_pos z, if_pos (iffC.mp z)]
          rfl
        · rw [if_neg z, if_neg fun y => z (iffC.mpr y)]
          rfl
      have test2 : ∀ {A B : Prop}, (decide ((es.length : Int) < (lim : Int)) = true → A) → (decide ((es.length : Int) < (lim : Int)) = false → B) → if decide ((es.length : Int) < (lim : Int)) = true then A else B := fun a b => by
        cases hd : decide ((es.length : Int) < (lim : Int)) with
        | true => exact iteT (a hd)
        | false => exact iteF (b hd)
      have pick : ∀ {σ : L2.St} {H : Hp} {Q : VK}, Q (V.int (lim : Int)) H → (if id xcb.isEmpty = true then tC (V.int 2) σ H Q else tC (V.int 1) σ H Q) := fun {σ H Q} h => by
        rw [← hl] at h
        cases xcb with
        | nil => exact iteT h
        | cons a b => exact iteF h
      refine pick ⟨_, _, rfl, rfl, _, rfl, ?_⟩
      refine test2 (fun hd => ?_) (fun hd => ?_)
      rotate_left
      · have dE : Dl H m c l cs n (610 + 2 * (es.length : Int)) sp es H2 l' ls' n' := d2.next d2.mat (j := 0) (by omega) .refl (by omega)
        have eptE := ept2
        have epbE := epb2
        have abE := ab2
        have qaE := qa2
        have spnE := spn2
        have qcE := qc2
        have dleE := dE.le
        refine ⟨by show 2 ≤ sizeLine; decide, fun pl npl => ?_⟩
        have GE : Gw m c _ cs _ _ _ _ := ⟨dE.mat, .refl⟩
        obtain ⟨GF, tF, eF⟩ := GE.new (o := .lst [.str "e", .str "f"]) npl
        refine ⟨_, rfl, m, c, _, 4, cs, _, _, rfl, GF.mat, by decide, by decide, by omega, fun r9 H9 l9 ls9 n9 r90 r91 M9 nn9 s9 => ⟨rfl, .inr ⟨_, rfl, ?_⟩⟩⟩
        have hx : ∃ u : Str, atI [V.str "e", V.str "f"] (if decide (V.int r9 = V.int 0) = true then 1 else 0) = some (V.str u) ∧ efS u := by
          cases decide (V.int r9 = V.int 0) with
          | true => exact ⟨"f", atI_nat (j := 1) rfl, .inr rfl⟩
          | false => exact ⟨"e", atI_nat (j := 0) rfl, .inl rfl⟩
        obtain ⟨u, hu, hfu⟩ := hx
        have hsu := ef_sm hfu
        have sA := same_trans tF s9.1
        have F9 : Fs H m l H9 l9 := dE.sm.trans (GF.sm.trans s9)
        have ept9 := sA _ _ eptE
        have epb9 := sA _ _ epbE
        refine ⟨pl, _, _, .str u, rfl, rfl, SqL.of (fr_of (s9.1 _ _ eF)).2.2, hu, ?_⟩
        refine ⟨_, rfl, pt, _, 0, va, rfl, rfl, SqT.of (fr_of ept9).2.2, atI_nat (j := 0) rfl, _, rfl, pt, _, 1, .ref pb, rfl, rfl, SqT.of (fr_of ept9).2.2, atI_nat (j := 1) rfl, 2, rfl, pb, xb, rfl, (fr_of epb9).2.2, fun p1 Ha sa ea => ?_⟩
        rw [show (2 : Int) = ((2 : Nat) : Int) from rfl, cut_to] at ea
        have G9 : Gw m c l9 cs ls9 n9 H9 H9 := ⟨M9, .refl⟩
        obtain ⟨Ga, ta⟩ := G9.grow sa
        have ea' := Ga.tupAt ea
        refine ⟨_, rfl, _, rfl, by show 2 ≤ sizeLine; decide, fun p2 np2 => ⟨by show 1 ≤ sizeLine; decide, fun p3 np3 => ?_⟩⟩
        obtain ⟨Gb, tb2, eb2⟩ := Ga.new (o := .tup [.str u, .ref vcA]) np2
        obtain ⟨Gc, tc3, ec3⟩ := Gb.new (o := .tup [.ref p2]) np3
        refine ⟨p1, p3, _, _, rfl, rfl, (fr_of (tc3 _ _ (tb2 _ _ ea'))).2.2, upd_same, by rw [List.length_take]; exact Nat.le_trans (Nat.add_le_add_right (Nat.min_le_left _ _) _) (show 2 + 1 ≤ sizeLine by decide), fun p4 Hb sb eb => ⟨by show 2 ≤ sizeLine; decide, fun p5 np5 => ?_⟩⟩
        obtain ⟨Gd, td⟩ := Gc.grow sb
        obtain ⟨Gf, tf, ef⟩ := Gd.new (o := .tup [va, .ref p4]) np5
        have c9 : Same (fr H9 m l9) (fr (upd Hb p5 (.tup [va, .ref p4])) m l9) := same_trans ta (same_trans tb2 (same_trans tc3 (same_trans td tf)))
        have cE := same_trans sA c9
        have e4f := tf _ _ (Gd.tupAt eb)
        have e2f := tf _ _ (td _ _ (tc3 _ _ eb2))
        obtain ⟨n1, c1, n2, c2, tB1, tB2, eN, eC⟩ := tb.take 2
        obtain ⟨k', rfl⟩ : ∃ k', k = k' + 1 := ⟨k - 1, by omega⟩
        have tcl : Tc k' nc 1 dC := tcall' k' (by
          by_cases z : bsC = []
          · exact .inl z
          · have e1 : lim = 1 := if_neg z
            exact .inr (by omega))
        have dNew : Dq (fr (upd Hb p5 (.tup [va, .ref p4])) m l9) (.ref p5) (.tuple [.tuple (ms.map PyData.str), .tuple (bs.take 2 ++ [.tuple [.str u, dC]])]) :=
          .tup ef (.cons (qaE.same cE) (.cons (.tup e4f (((abE.take 2).same cE).app (.cons (.tup e2f (.cons (.str u ⟨by rw [hsu.2]; decide, hsu.1⟩) (.cons (qcE.same cE) .nil))) .nil))) .nil))
        have tNew : Tp (k' + 1) (n1 + nc + 1) 1 (.tuple [.tuple (ms.map PyData.str), .tuple (bs.take 2 ++ [.tuple [.str u, dC]])]) :=
          ⟨ms, _, n1 + nc, rfl, hms, by rw [List.length_append, List.length_take]; show _ + 1 ≤ 3; omega, by
            have z := tB1.app (.cons hfu tcl .nil rfl rfl)
            rw [show c1 + (1 + 0) = 1 by omega] at z
            exact z, rfl⟩
        have spn9 := spnE.same cE
        have sp9 := cE _ _ dE.dd
        have FL : Fs H m l (upd Hb p5 (.tup [va, .ref p4])) l9 := F9.trans (Ga.sm.trans ⟨same_trans tb2 (same_trans tc3 (same_trans td tf)), fun b z => same_out (same_trans (same_new np2) (same_trans (same_new np3) (same_trans sb (same_new np5)))) z⟩)
        have ML := Gf.mat
        have szN : (o : Int) + ((n1 + nc + 1 : Nat) : Int) ≤ size + 1 := by omega
        generalize PyData.tuple [.tuple (ms.map PyData.str), .tuple (bs.take 2 ++ [.tuple [.str u, dC]])] = dtN at dNew tNew
        generalize upd Hb p5 (HO.tup [va, .ref p4]) = HL0 at dNew spn9 sp9 FL ML
        refine ⟨_, rfl, sp, es, rfl, SqL.of (fr_of sp9).2.2, fun pr npr => ?_⟩
        have GL0 : Gw m c l9 cs ls9 n9 HL0 HL0 := ⟨ML, .refl⟩
        obtain ⟨GL, tL, eL⟩ := GL0.new (o := .lst es.reverse) npr
        have FL2 := FL.trans GL.sm
        have MLL := GL.mat
        generalize upd HL0 pr (HO.lst es.reverse) = HL at GL tL eL FL2 MLL
        refine ⟨pr, rfl, ⟨_, SqL.of (fr_of eL).2.2⟩, for_list (xs := es.reverse) (fun i σ' H' => ∃ (es' : List V) (k o nt : Nat) (vt : V) (dt : PyData) (w5 w7 : Option V), es.reverse.drop i = es'.reverse ∧ σ' = [some (V.ref m), some (V.int size), some vt, some (V.ref sp), some (V.ref vcA), w5, some (V.str u), w7] ∧
            Gw m c l9 cs ls9 n9 HL H' ∧ Dq (fr H' m l9) vt dt ∧ Tp k nt 1 dt ∧ Spn (fr H' m l9) es' k o ∧ es'.length + k = 3 ∧ (o : Int) + nt ≤ size + 1)
          ⟨es, k' + 1, o, n1 + nc + 1, .ref p5, dtN, _, _, rfl, rfl, ⟨MLL, .refl⟩, dNew.same tL, tNew, spn9.same tL, ek, szN⟩ (fun i σ H _ ⟨_, _, _, _, _, _, _, _, _, _, G, _⟩ => SqL.of (fr_of (G.sm.1 _ _ eL)).2.2) ?_ ?_⟩
        · rintro i x σ' H' hix ⟨es', k, o, nt, vt, dt, w5, w7, hdr, rfl, G, qt, tp, spn, ek, osz⟩
          cases spn with
          | nil =>
            rw [List.reverse_nil] at hdr
            have := List.drop_eq_nil_iff.mp hdr
            have := (List.getElem?_eq_some_iff.mp hix).1
            omega
          | @snoc es0 _ o0 a b _ e v j ms bs uu tt sp0 h1 h2 h2t h3 h4 h5 h6 h7 h8 h9 =>
          have hx : x = V.ref e ∧ es.reverse.drop (i + 1) = es0.reverse := by
            rw [List.reverse_append, List.reverse_singleton, List.singleton_append, drop_atV hix] at hdr
            exact List.cons.inj hdr
          obtain ⟨rfl, hdr'⟩ := hx
          obtain ⟨pt, va, pb, xb, rfl, ept, qa, epb, ab⟩ := dq_node h2
          obtain ⟨vj, hvj, qj⟩ := ab.at h5
          obtain ⟨pj, vu, vtt, rfl, epj, qu, qtt⟩ := dq_pair qj
          have lx : xb.length ≤ 3 := by rw [ab.len]; exact h4
          refine ⟨e, _, rfl, SqT.of (fr_of h1).2.2, rfl, _, _, rfl, _, _, rfl, rfl, ?_⟩
          have ixA : ∀ {H5 : Hp}, Same H' H5 → SqT K H5 pt [va, .ref pb] := fun s => SqT.of (s _ _ (fr_of ept).2.2)
          refine ⟨_, rfl, pt, _, 0, va, rfl, rfl, SqT.of (fr_of ept).2.2, atI_nat (j := 0) rfl, _, rfl, pt, _, 1, .ref pb, rfl, rfl, SqT.of (fr_of ept).2.2, atI_nat (j := 1) rfl, _, rfl, j, rfl, pb, xb, rfl, (fr_of epb).2.2, fun p1 H5 s5 e5 => ?_⟩
          rw [cut_to] at e5
          obtain ⟨G5, t5⟩ := G.grow s5
          refine ⟨_, rfl, pt, _, 1, .ref pb, rfl, rfl, SqT.of (fr_of (t5 _ _ ept)).2.2, atI_nat (j := 1) rfl, _, rfl, pb, xb, (j : Int), .ref pj, rfl, rfl, SqT.of (fr_of (t5 _ _ epb)).2.2, atI_nat hvj, pj, _, 0, vu, rfl, rfl, SqT.of (fr_of (t5 _ _ epj)).2.2, atI_nat (j := 0) rfl, _, rfl, by show 2 ≤ sizeLine; decide, fun p2 np2 => ⟨by show 1 ≤ sizeLine; decide, fun p3 np3 => ?_⟩⟩
          obtain ⟨G6, t6, e6⟩ := G5.new (o := .tup [vu, vt]) np2
          obtain ⟨G7, t7, e7⟩ := G6.new (o := .tup [.ref p2]) np3
          refine ⟨p1, p3, _, _, rfl, rfl, (fr_of (t7 _ _ (t6 _ _ (G5.tupAt e5)))).2.2, upd_same, by rw [List.length_take]; exact Nat.le_trans (show min j xb.length + 1 ≤ 4 by omega) (by decide), fun p4 H8 s8 e8 => ?_⟩
          obtain ⟨G8, t8⟩ := G7.grow s8
          have t48 := same_trans t5 (same_trans t6 (same_trans t7 t8))
          refine ⟨_, rfl, pt, _, 1, .ref pb, rfl, rfl, SqT.of (fr_of (t48 _ _ ept)).2.2, atI_nat (j := 1) rfl, _, rfl, _, _, rfl, rfl, _, rfl, pb, xb, rfl, (fr_of (t48 _ _ epb)).2.2, fun p5 H9 s9 e9 => ?_⟩
          rw [show ((j : Int) + 1) = ((j + 1 : Nat) : Int) by omega, cut_from] at e9
          obtain ⟨G9, t9⟩ := G8.grow s9
          refine ⟨p4, p5, _, _, rfl, rfl, s9 _ _ e8, e9, by rw [List.length_append, List.length_take, List.length_drop]; exact Nat.le_trans (show min j xb.length + 1 + (xb.length - (j + 1)) ≤ 7 by omega) (by decide), fun p6 Ha sa ea => ⟨by show 2 ≤ sizeLine; decide, fun p7 np7 => ?_⟩⟩
          obtain ⟨Ga, ta⟩ := G9.grow sa
          obtain ⟨Gb, tb, eb⟩ := Ga.new (o := .tup [va, .ref p6]) np7
          have tab := same_trans t9 (same_trans ta tb)
          have tall := same_trans t48 tab
          have e2f := (same_trans t7 (same_trans t8 tab)) _ _ e6
          have dN : Dq (fr (upd Ha p7 (.tup [va, .ref p6])) m l9) (.ref p7) (.tuple [.tuple (ms.map PyData.str), .tuple (bs.take j ++ [.tuple [.str uu, dt]] ++ bs.drop (j + 1))]) :=
            .tup eb (.cons (qa.same tall) (.cons (.tup (tb _ _ (Ga.tupAt ea)) (((((ab.take j).same tall).app (.cons (.tup e2f (.cons (qu.same tall) (.cons (qt.same tall) .nil))) .nil)).app ((ab.drop (j + 1)).same tall)))) .nil))
          refine ⟨es0, k + 1, o0, _, .ref p7, _, _, _, hdr', rfl, Gb, dN, ⟨ms, _, a + nt + b, rfl, h3, ?_, ?_, rfl⟩, sp0.same tall, ?_, ?_⟩
          · have hj := (List.getElem?_eq_some_iff.mp h5).1
            rw [List.length_append, List.length_append, List.length_take, List.length_drop]
            show _ + 1 + _ ≤ 3
            omega
          · have z := (h7.app (.cons h6 tp.tc .nil rfl rfl)).app h8
            rw [show 0 + (1 + 0) + 0 = 1 by omega, show a + (nt + 0) + b = a + nt + b by omega] at z
            exact z
          · rw [List.length_append, List.length_singleton] at ek
            omega
          · omega
        · rintro σ' H' ⟨es', k, o, nt, vt, dt, w5, w7, hdr, rfl, G, qt, tp, spn, ek, osz⟩
          rw [List.drop_length] at hdr
          obtain rfl : es' = [] := List.reverse_eq_nil_iff.mp hdr.symm
          obtain rfl : k = 3 := by simpa using ek
          exact ⟨_, rfl, kk vt dt nt H' l9 ls9 n9 G.mat (by omega) (FL2.trans G.sm) qt tp (by omega)⟩
      have hlt : es.length < lim := by
        have := of_decide_eq_true hd
        omega
      refine ⟨_, rfl, m, c, l', 3, cs, ls', n', rfl, d2.mat, by decide, by decide, by omega, fun r3 H3 l3 ls3 n3 r30 r31 M3 nn3 s3 => ⟨_, _, rfl, rfl, _, rfl, ?_⟩⟩
      have d3' : Dl H m c l cs n (610 + 2 * (es.length : Int)) sp es H3 l3 ls3 n3 := d2.next M3 nn3 s3 (by omega)
      have ept3 := s3.1 _ _ ept2
      have epb3 := s3.1 _ _ epb2
      have ab3 := ab2.same s3.1
      have qa3 := qa2.same s3.1
      have spn3 := spn2.same s3.1
      have qc3 := qc2.same s3.1
      refine ite2 (fun _ => ?_) (fun _ => ?_)
      rotate_left
      · have dE := d3'
        have eptE := ept3
        have epbE := epb3
        have abE := ab3
        have qaE := qa3
        have spnE := spn3
        have qcE := qc3
        have dleE := dE.le
        refine ⟨by show 2 ≤ sizeLine; decide, fun pl npl => ?_⟩
        have GE : Gw m c _ cs _ _ _ _ := ⟨dE.mat, .refl⟩
        obtain ⟨GF, tF, eF⟩ := GE.new (o := .lst [.str "e", .str "f"]) npl
        refine ⟨_, rfl, m, c, _, 4, cs, _, _, rfl, GF.mat, by decide, by decide, by omega, fun r9 H9 l9 ls9 n9 r90 r91 M9 nn9 s9 => ⟨rfl, .inr ⟨_, rfl, ?_⟩⟩⟩
        have hx : ∃ u : Str, atI [V.str "e", V.str "f"] (if decide (V.int r9 = V.int 0) = true then 1 else 0) = some (V.str u) ∧ efS u := by
          cases decide (V.int r9 = V.int 0) with
          | true => exact ⟨"f", atI_nat (j := 1) rfl, .inr rfl⟩
          | false => exact ⟨"e", atI_nat (j := 0) rfl, .inl rfl⟩
        obtain ⟨u, hu, hfu⟩ := hx
        have hsu := ef_sm hfu
        have sA := same_trans tF s9.1
        have F9 : Fs H m l H9 l9 := dE.sm.trans (GF.sm.trans s9)
        have ept9 := sA _ _ eptE
        have epb9 := sA _ _ epbE
        refine ⟨pl, _, _, .str u, rfl, rfl, SqL.of (fr_of (s9.1 _ _ eF)).2.2, hu, ?_⟩
        refine ⟨_, rfl, pt, _, 0, va, rfl, rfl, SqT.of (fr_of ept9).2.2, atI_nat (j := 0) rfl, _, rfl, pt, _, 1, .ref pb, rfl, rfl, SqT.of (fr_of ept9).2.2, atI_nat (j := 1) rfl, 2, rfl, pb, xb, rfl, (fr_of epb9).2.2, fun p1 Ha sa ea => ?_⟩
        rw [show (2 : Int) = ((2 : Nat) : Int) from rfl, cut_to] at ea
        have G9 : Gw m c l9 cs ls9 n9 H9 H9 := ⟨M9, .refl⟩
        obtain ⟨Ga, ta⟩ := G9.grow sa
        have ea' := Ga.tupAt ea
        refine ⟨_, rfl, _, rfl, by show 2 ≤ sizeLine; decide, fun p2 np2 => ⟨by show 1 ≤ sizeLine; decide, fun p3 np3 => ?_⟩⟩
        obtain ⟨Gb, tb2, eb2⟩ := Ga.new (o := .tup [.str u, .ref vcA]) np2
        obtain ⟨Gc, tc3, ec3⟩ := Gb.new (o := .tup [.ref p2]) np3
        refine ⟨p1, p3, _, _, rfl, rfl, (fr_of (tc3 _ _ (tb2 _ _ ea'))).2.2, upd_same, by rw [List.length_take]; exact Nat.le_trans (Nat.add_le_add_right (Nat.min_le_left _ _) _) (show 2 + 1 ≤ sizeLine by decide), fun p4 Hb sb eb => ⟨by show 2 ≤ sizeLine; decide, fun p5 np5 => ?_⟩⟩
        obtain ⟨Gd, td⟩ := Gc.grow sb
        obtain ⟨Gf, tf, ef⟩ := Gd.new (o := .tup [va, .ref p4]) np5
        have c9 : Same (fr H9 m l9) (fr (upd Hb p5 (.tup [va, .ref p4])) m l9) := same_trans ta (same_trans tb2 (same_trans tc3 (same_trans td tf)))
        have cE := same_trans sA c9
        have e4f := tf _ _ (Gd.tupAt eb)
        have e2f := tf _ _ (td _ _ (tc3 _ _ eb2))
        obtain ⟨n1, c1, n2, c2, tB1, tB2, eN, eC⟩ := tb.take 2
        obtain ⟨k', rfl⟩ : ∃ k', k = k' + 1 := ⟨k - 1, by omega⟩
        have tcl : Tc k' nc 1 dC := tcall' k' (by
          by_cases z : bsC = []
          · exact .inl z
          · have e1 : lim = 1 := if_neg z
            exact .inr (by omega))
        have dNew : Dq (fr (upd Hb p5 (.tup [va, .ref p4])) m l9) (.ref p5) (.tuple [.tuple (ms.map PyData.str), .tuple (bs.take 2 ++ [.tuple [.str u, dC]])]) :=
          .tup ef (.cons (qaE.same cE) (.cons (.tup e4f (((abE.take 2).same cE).app (.cons (.tup e2f (.cons (.str u ⟨by rw [hsu.2]; decide, hsu.1⟩) (.cons (qcE.same cE) .nil))) .nil))) .nil))
        have tNew : Tp (k' + 1) (n1 + nc + 1) 1 (.tuple [.tuple (ms.map PyData.str), .tuple (bs.take 2 ++ [.tuple [.str u, dC]])]) :=
          ⟨ms, _, n1 + nc, rfl, hms, by rw [List.length_append, List.length_take]; show _ + 1 ≤ 3; omega, by
            have z := tB1.app (.cons hfu tcl .nil rfl rfl)
            rw [show c1 + (1 + 0) = 1 by omega] at z
            exact z, rfl⟩
        have spn9 := spnE.same cE
        have sp9 := cE _ _ dE.dd
        have FL : Fs H m l (upd Hb p5 (.tup [va, .ref p4])) l9 := F9.trans (Ga.sm.trans ⟨same_trans tb2 (same_trans tc3 (same_trans td tf)), fun b z => same_out (same_trans (same_new np2) (same_trans (same_new np3) (same_trans sb (same_new np5)))) z⟩)
        have ML := Gf.mat
        have szN : (o : Int) + ((n1 + nc + 1 : Nat) : Int) ≤ size + 1 := by omega
        generalize PyData.tuple [.tuple (ms.map PyData.str), .tuple (bs.take 2 ++ [.tuple [.str u, dC]])] = dtN at dNew tNew
        generalize upd Hb p5 (HO.tup [va, .ref p4]) = HL0 at dNew spn9 sp9 FL ML
        refine ⟨_, rfl, sp, es, rfl, SqL.of (fr_of sp9).2.2, fun pr npr => ?_⟩
        have GL0 : Gw m c l9 cs ls9 n9 HL0 HL0 := ⟨ML, .refl⟩
        obtain ⟨GL, tL, eL⟩ := GL0.new (o := .lst es.reverse) npr
        have FL2 := FL.trans GL.sm
        have MLL := GL.mat
        generalize upd HL0 pr (HO.lst es.reverse) = HL at GL tL eL FL2 MLL
        refine ⟨pr, rfl, ⟨_, SqL.of (fr_of eL).2.2⟩, for_list (xs := es.reverse) (fun i σ' H' => ∃ (es' : List V) (k o nt : Nat) (vt : V) (dt : PyData) (w5 w7 : Option V), es.reverse.drop i = es'.reverse ∧ σ' = [some (V.ref m), some (V.int size), some vt, some (V.ref sp), some (V.ref vcA), w5, some (V.str u), w7] ∧
            Gw m c l9 cs ls9 n9 HL H' ∧ Dq (fr H' m l9) vt dt ∧ Tp k nt 1 dt ∧ Spn (fr H' m l9) es' k o ∧ es'.length + k = 3 ∧ (o : Int) + nt ≤ size + 1)
          ⟨es, k' + 1, o, n1 + nc + 1, .ref p5, dtN, _, _, rfl, rfl, ⟨MLL, .refl⟩, dNew.same tL, tNew, spn9.same tL, ek, szN⟩ (fun i σ H _ ⟨_, _, _, _, _, _, _, _, _, _, G, _⟩ => SqL.of (fr_of (G.sm.1 _ _ eL)).2.2) ?_ ?_⟩
        · rintro i x σ' H' hix ⟨es', k, o, nt, vt, dt, w5, w7, hdr, rfl, G, qt, tp, spn, ek, osz⟩
          cases spn with
          | nil =>
            rw [List.reverse_nil] at hdr
            have := List.drop_eq_nil_iff.mp hdr
            have := (List.getElem?_eq_some_iff.mp hix).1
            omega
          | @snoc es0 _ o0 a b _ e v j ms bs uu tt sp0 h1 h2 h2t h3 h4 h5 h6 h7 h8 h9 =>
          have hx : x = V.ref e ∧ es.reverse.drop (i + 1) = es0.reverse := by
            rw [List.reverse_append, List.reverse_singleton, List.singleton_append, drop_atV hix] at hdr
            exact List.cons.inj hdr
          obtain ⟨rfl, hdr'⟩ := hx
          obtain ⟨pt, va, pb, xb, rfl, ept, qa, epb, ab⟩ := dq_node h2
          obtain ⟨vj, hvj, qj⟩ := ab.at h5
          obtain ⟨pj, vu, vtt, rfl, epj, qu, qtt⟩ := dq_pair qj
          have lx : xb.length ≤ 3 := by rw [ab.len]; exact h4
          refine ⟨e, _, rfl, SqT.of (fr_of h1).2.2, rfl, _, _, rfl, _, _, rfl, rfl, ?_⟩
          have ixA : ∀ {H5 : Hp}, Same H' H5 → SqT K H5 pt [va, .ref pb] := fun s => SqT.of (s _ _ (fr_of ept).2.2)
          refine ⟨_, rfl, pt, _, 0, va, rfl, rfl, SqT.of (fr_of ept).2.2, atI_nat (j := 0) rfl, _, rfl, pt, _, 1, .ref pb, rfl, rfl, SqT.of (fr_of ept).2.2, atI_nat (j := 1) rfl, _, rfl, j, rfl, pb, xb, rfl, (fr_of epb).2.2, fun p1 H5 s5 e5 => ?_⟩
          rw [cut_to] at e5
          obtain ⟨G5, t5⟩ := G.grow s5
          refine ⟨_, rfl, pt, _, 1, .ref pb, rfl, rfl, SqT.of (fr_of (t5 _ _ ept)).2.2, atI_nat (j := 1) rfl, _, rfl, pb, xb, (j : Int), .ref pj, rfl, rfl, SqT.of (fr_of (t5 _ _ epb)).2.2, atI_nat hvj, pj, _, 0, vu, rfl, rfl, SqT.of (fr_of (t5 _ _ epj)).2.2, atI_nat (j := 0) rfl, _, rfl, by show 2 ≤ sizeLine; decide, fun p2 np2 => ⟨by show 1 ≤ sizeLine; decide, fun p3 np3 => ?_⟩⟩
          obtain ⟨G6, t6, e6⟩ := G5.new (o := .tup [vu, vt]) np2
          obtain ⟨G7, t7, e7⟩ := G6.new (o := .tup [.ref p2]) np3
          refine ⟨p1, p3, _, _, rfl, rfl, (fr_of (t7 _ _ (t6 _ _ (G5.tupAt e5)))).2.2, upd_same, by rw [List.length_take]; exact Nat.le_trans (show min j xb.length + 1 ≤ 4 by omega) (by decide), fun p4 H8 s8 e8 => ?_⟩
          obtain ⟨G8, t8⟩ := G7.grow s8
          have t48 := same_trans t5 (same_trans t6 (same_trans t7 t8))
          refine ⟨_, rfl, pt, _, 1, .ref pb, rfl, rfl, SqT.of (fr_of (t48 _ _ ept)).2.2, atI_nat (j := 1) rfl, _, rfl, _, _, rfl, rfl, _, rfl, pb, xb, rfl, (fr_of (t48 _ _ epb)).2.2, fun p5 H9 s9 e9 => ?_⟩
          rw [show ((j : Int) + 1) = ((j + 1 : Nat) : Int) by omega, cut_from] at e9
          obtain ⟨G9, t9⟩ := G8.grow s9
          refine ⟨p4, p5, _, _, rfl, rfl, s9 _ _ e8, e9, by rw [List.length_append, List.length_take, List.length_drop]; exact Nat.le_trans (show min j xb.length + 1 + (xb.length - (j + 1)) ≤ 7 by omega) (by decide), fun p6 Ha sa ea => ⟨by show 2 ≤ sizeLine; decide, fun p7 np7 => ?_⟩⟩
          obtain ⟨Ga, ta⟩ := G9.grow sa
          obtain ⟨Gb, tb, eb⟩ := Ga.new (o := .tup [va, .ref p6]) np7
          have tab := same_trans t9 (same_trans ta tb)
          have tall := same_trans t48 tab
          have e2f := (same_trans t7 (same_trans t8 tab)) _ _ e6
          have dN : Dq (fr (upd Ha p7 (.tup [va, .ref p6])) m l9) (.ref p7) (.tuple [.tuple (ms.map PyData.str), .tuple (bs.take j ++ [.tuple [.str uu, dt]] ++ bs.drop (j + 1))]) :=
            .tup eb (.cons (qa.same tall) (.cons (.tup (tb _ _ (Ga.tupAt ea)) (((((ab.take j).same tall).app (.cons (.tup e2f (.cons (qu.same tall) (.cons (qt.same tall) .nil))) .nil)).app ((ab.drop (j + 1)).same tall)))) .nil))
          refine ⟨es0, k + 1, o0, _, .ref p7, _, _, _, hdr', rfl, Gb, dN, ⟨ms, _, a + nt + b, rfl, h3, ?_, ?_, rfl⟩, sp0.same tall, ?_, ?_⟩
          · have hj := (List.getElem?_eq_some_iff.mp h5).1
            rw [List.length_append, List.length_append, List.length_take, List.length_drop]
            show _ + 1 + _ ≤ 3
            omega
          · have z := (h7.app (.cons h6 tp.tc .nil rfl rfl)).app h8
            rw [show 0 + (1 + 0) + 0 = 1 by omega, show a + (nt + 0) + b = a + nt + b by omega] at z
            exact z
          · rw [List.length_append, List.length_singleton] at ek
            omega
          · omega
        · rintro σ' H' ⟨es', k, o, nt, vt, dt, w5, w7, hdr, rfl, G, qt, tp, spn, ek, osz⟩
          rw [List.drop_length] at hdr
          obtain rfl : es' = [] := List.reverse_eq_nil_iff.mp hdr.symm
          obtain rfl : k = 3 := by simpa using ek
          exact ⟨_, rfl, kk vt dt nt H' l9 ls9 n9 G.mat (by omega) (FL2.trans G.sm) qt tp (by omega)⟩
      have d3le := d3'.le
      have lx : xb.length ≤ 3 := by rw [ab.len]; exact lb
      refine ⟨_, rfl, _, rfl, pt, _, 1, .ref pb, rfl, rfl, SqT.of (fr_of ept3).2.2, atI_nat (j := 1) rfl, pb, xb, rfl, .inr (SqT.of (fr_of epb3).2.2), m, c, l3, _, cs, ls3, n3, rfl, M3, by omega, by omega, by omega, fun ia H4 l4 ls4 n4 ia0 ia1 M4 nn4 s4 => ?_⟩
      obtain ⟨j, rfl⟩ : ∃ j : Nat, ia = (j : Int) := ⟨ia.toNat, by omega⟩
      have hj : j < bs.length := by rw [← ab.len]; omega
      obtain ⟨k', u, t, nt', ct', ja, ca, jb, cb', rfl, hbj, hfu, ttj, tbA, tbB, eN, eC⟩ := tb.cut hj
      obtain rfl : ct' = 0 := by omega
      obtain rfl : ca = 0 := by omega
      obtain rfl : cb' = 0 := by omega
      have d4 : Dl H m c l cs n (611 + 2 * (es.length : Int)) sp es H4 l4 ls4 n4 := d3'.next M4 nn4 s4 (by omega)
      have ept4 := s4.1 _ _ ept3
      have epb4 := s4.1 _ _ epb3
      have ab4 := ab3.same s4.1
      have qa4 := qa3.same s4.1
      have spn4 := spn3.same s4.1
      have qc4 := qc3.same s4.1
      have G4 : Gw m c l4 cs ls4 n4 H4 H4 := ⟨M4, .refl⟩
      refine ⟨_, rfl, .inl ⟨rfl, _, SqL.of (fr_of d4.dd).2.2⟩, _, rfl, _, rfl, by show 2 ≤ sizeLine; decide, fun pe npe => ?_⟩
      obtain ⟨G5, t5, e5⟩ := G4.new (o := .tup [.ref pt, .int (j : Int)]) npe
      have d5 : Dl H m c l cs n (611 + 2 * (es.length : Int)) sp es (upd H4 pe (.tup [.ref pt, .int (j : Int)])) l4 ls4 n4 := d4.next G5.mat (j := 0) (by omega) G5.sm (by omega)
      refine ⟨sp, _, .ref pe, rfl, rfl, (fr_of d5.dd).2.2, small1000 (by omega), ?_⟩
      have d6 := d5.put (ys := es ++ [.ref pe]) sp0 spm spc
      have kt := gw_put (m := m) (l := l4) (ys := es ++ [.ref pe]) d5.dd
      have ept6 := kt _ _ (t5 _ _ ept4)
      have epb6 := kt _ _ (t5 _ _ epb4)
      have e6 := kt _ _ e5
      have tupB := tb.tup
      have qt6 : Dq (fr (upd (upd H4 pe (.tup [.ref pt, .int (j : Int)])) sp (.lst (es ++ [.ref pe]))) m l4) (.ref pt) (.tuple [.tuple (ms.map PyData.str), .tuple bs]) :=
        (Dq.tup (t5 _ _ ept4) (.cons (qa4.same t5) (.cons (.tup (t5 _ _ epb4) (ab4.same t5)) .nil))).tups kt (tp_tup tupB)
      have spn6 := (spn4.same t5).keep kt
      have qc6 : Dq (fr (upd (upd H4 pe (.tup [.ref pt, .int (j : Int)])) sp (.lst (es ++ [.ref pe]))) m l4) (.ref vcA) dC := (qc4.same t5).tups kt (tcall' 1 (.inr (Nat.le_refl _))).tup
      generalize upd (upd H4 pe (HO.tup [V.ref pt, V.int (j : Int)])) sp (HO.lst (es ++ [.ref pe])) = H6 at d6 ept6 epb6 e6 qt6 spn6 qc6
      obtain ⟨p6, va6, pb6, xb6, ep6, ept7, qa7, epb7, ab7⟩ := dq_node qt6
      obtain rfl : pt = p6 := V.ref.inj ep6
      rw [ept6] at ept7
      cases ept7
      rw [epb6] at epb7
      cases epb7
      obtain ⟨vj, hvj, qj⟩ := ab7.at hbj
      obtain ⟨pj, vu, vtt, rfl, epj, qu, qtt⟩ := dq_pair qj
      refine ⟨_, rfl, pt, _, 1, .ref pb, rfl, rfl, SqT.of (fr_of ept6).2.2, atI_nat (j := 1) rfl, _, rfl, pb, xb, (j : Int), .ref pj, rfl, rfl, SqT.of (fr_of epb6).2.2, atI_nat hvj, pj, _, 1, vtt, rfl, rfl, SqT.of (fr_of epj).2.2, atI_nat (j := 1) rfl, ?_⟩
      refine ⟨⟨vtt, t, k', _, nt', es ++ [.ref pe], l4, ls4, n4, _, rfl, ⟨d6.mat, ?_, d6.sm, d6.dd⟩, qtt, ttj.tp, .snoc spn6 e6 qt6 tupB hms lb hbj hfu tbA tbB rfl, ?_, ?_, qc6, ?_⟩, ?_⟩
      · have := d6.le
        rw [List.length_append, List.length_singleton]
        omega
      · rw [List.length_append, List.length_singleton]
        omega
      · omega
      · rw [List.length_append, List.length_singleton]
        omega
      · show 3 - lenAt H6 sp < 3 - lenAt H' sp
        have e1 : lenAt H6 sp = (es ++ [V.ref pe]).length := by unfold lenAt; rw [(fr_of d6.dd).2.2]
        have e2 : lenAt H' sp = es.length := by unfold lenAt; rw [(fr_of d.dd).2.2]
        rw [e1, e2, List.length_append, List.length_singleton]
        omega
    · exact MO.mo_and (MO.mo_test (MO.mo_op MO.mr_nilT (MO.mo_op MO.mr_ix MO.mo_var MO.mo_c) (MO.mo_tup MO.mo_nil)))
        (MO.mo_and (MO.mo_test (MO.mo_op MO.mr_i0 (MO.mo_cb MO.mc_len (MO.mo_cons MO.mo_var MO.mo_nil)) (MO.mo_if (MO.mo_test (MO.mo_op MO.mr_nilT (MO.mo_op MO.mr_ix MO.mo_var MO.mo_c) (MO.mo_tup MO.mo_nil))) MO.mo_c MO.mo_c)))
          (MO.mo_test (MO.mo_op MO.mr_i0 (MO.mo_call (MO.mc_nx _) (MO.mo_cons MO.mo_var (MO.mo_cons MO.mo_c MO.mo_nil))) MO.mo_c)))
end
end K01
set_option Elab.async false
set_option linter.all false
set_option maxRecDepth 100000
set_option maxHeartbeats 4000000
/-! Expressions that give new data: what they give, whatever is wanted of it. -/
namespace GV
open PySem L2 L2H DQ
/-- in the heap H0 and in each that grew of it, the expression gives data d -/
def Gives (te : TE) (σ : L2.St) (H0 : Hp) (d : PyData) : Prop := ∀ (H : Hp) (Q : VK), Same H0 H → (∀ v H', Same H H' → Dq H' v d → Q v H') → te σ H Q
def GivesA (ta : TA) (σ : L2.St) (H0 : Hp) (ds : List PyData) : Prop := ∀ (H : Hp) (Q : List V → Hp → Prop), Same H0 H → (∀ vs H', Same H H' → DqAll H' vs ds → Q vs H') → ta σ H Q
variable {σ : L2.St} {H0 : Hp}
theorem g_str {x : Str} (h : PyData.strOk x = true) (hl : x.length ≤ 100) : Gives (tC (.str x)) σ H0 (.str x) := fun H Q s q => q _ _ same_refl (.str x ⟨Nat.le_trans hl (by decide), h⟩)
theorem g_int {i : Int} : Gives (tC (.int i)) σ H0 (.int i) := fun H Q s q => q _ _ same_refl (.int i)
theorem g_non : Gives (tC .non) σ H0 .none := fun H Q s q => q _ _ same_refl .non
theorem g_bl {b : Bool} : Gives (tC (.bl b)) σ H0 (.bool b) := fun H Q s q => q _ _ same_refl (.bl b)
theorem g_var {i : Nat} {v : V} {d : PyData} (h : σ[i]? = some (some v)) (hd : Dq H0 v d) : Gives (tVar i) σ H0 d := fun H Q s q => ⟨v, h, q _ _ same_refl (hd.same s)⟩
theorem ga_nil : GivesA tNil σ H0 [] := fun H Q s q => q _ _ same_refl .nil
theorem ga_cons {te : TE} {ta : TA} {d : PyData} {ds : List PyData} (h : Gives te σ H0 d) (t : GivesA ta σ H0 ds) : GivesA (tCons te ta) σ H0 (d :: ds) := fun H Q s q =>
  h H _ s fun v H1 s1 q1 => t H1 _ (same_trans s s1) fun vs H2 s2 q2 => q _ _ (same_trans s1 s2) (.cons (q1.same s2) q2)
theorem g_tup {ta : TA} {ds : List PyData} (h : GivesA ta σ H0 ds) (hl : ds.length ≤ 1000) : Gives (tTup ta) σ H0 (.tuple ds) := fun H Q s q =>
  h H _ s fun vs H1 s1 q1 => ⟨by rw [q1.len]; exact Nat.le_trans hl (by decide), fun p np => q _ _ (same_trans s1 (same_new np)) (.tup upd_same (q1.same (same_new np)))⟩
theorem g_lst {ta : TA} {ds : List PyData} (h : GivesA ta σ H0 ds) (hl : ds.length ≤ 1000) : Gives (tLst ta) σ H0 (.list ds) := fun H Q s q =>
  h H _ s fun vs H1 s1 q1 => ⟨by rw [q1.len]; exact Nat.le_trans hl (by decide), fun p np => q _ _ (same_trans s1 (same_new np)) (.lst upd_same (q1.same (same_new np)))⟩
theorem g_cat {ta tb : TE} {xs ys : List PyData} (ha : Gives ta σ H0 (.list xs)) (hb : Gives tb σ H0 (.list ys)) (hl : xs.length + ys.length ≤ 1000) : Gives (tOp rCat ta tb) σ H0 (.list (xs ++ ys)) := fun H Q s q =>
  ha H _ s fun v H1 s1 q1 => hb H1 _ (same_trans s s1) fun u H2 s2 q2 => by
    cases q1 with
    | lst e1 a1 =>
    cases q2 with
    | lst e2 a2 =>
    exact ⟨_, _, _, _, rfl, rfl, s2 _ _ e1, e2, by rw [a1.len, a2.len]; exact Nat.le_trans hl (by decide), fun p np => q _ _ (same_trans (same_trans s1 s2) (same_new np)) (.lst upd_same (((a1.same s2).app a2).same (same_new np)))⟩
theorem g_rep {K : PySem.W.Frag} {ta tb : TE} {xs : List PyData} (ha : Gives ta σ H0 (.tuple xs)) (hb : Gives tb σ H0 (.int 3)) (h0 : xs ≠ []) (hl : xs.length ≤ 300) : Gives (tOp (rRepT K) ta tb) σ H0 (.tuple (xs ++ (xs ++ xs))) := fun H Q s q =>
  ha H _ s fun v H1 s1 q1 => hb H1 _ (same_trans s s1) fun u H2 s2 q2 => by
    cases q1 with
    | @tup a vs _ e1 a1 =>
    cases q2
    have a2 := a1.same s2
    have n0 : vs ≠ [] := fun z => by
      have := a1.len
      rw [z] at this
      exact h0 (List.length_eq_zero_iff.mp this.symm)
    refine ⟨_, _, _, rfl, rfl, SqT.of (s2 _ _ e1), n0, by decide, by decide, by rw [a1.len]; omega, fun p np => q _ _ (same_trans (same_trans s1 s2) (same_new np)) (.tup upd_same (DqAll.same (same_new np) ?_))⟩
    show DqAll H2 (List.replicate 3 vs).flatten _
    have z : (List.replicate 3 vs).flatten = vs ++ (vs ++ vs) := by simp [List.replicate]
    rw [z]
    exact a2.app (a2.app a2)
theorem g_ix {K : PySem.W.Frag} {ta : TE} {xs : List PyData} {j : Nat} {d : PyData} (ha : Gives ta σ H0 (.tuple xs)) (hj : xs[j]? = some d) : Gives (tOp (rIxT K) ta (tC (.int (j : Int)))) σ H0 d := fun H Q s q =>
  ha H _ s fun v H1 s1 q1 => by
    cases q1 with
    | tup e1 a1 =>
    obtain ⟨u, hu, qu⟩ := a1.at hj
    exact ⟨_, _, _, _, rfl, rfl, SqT.of e1, atI_nat hu, q _ _ s1 qu⟩
theorem st_set {te : TE} {u : TS} {D : Ends} {i : Nat} {d : PyData} (g : Gives te σ H0 d) (k : ∀ v H', Same H0 H' → Dq H' v d → u D (σ.set i (some v)) H') : tSeq (tAsg te (gName i)) u D σ H0 :=
  g H0 _ same_refl k
theorem st_par {ta : TA} {u : TS} {D : Ends} {i j : Nat} {d e : PyData} (g : GivesA ta σ H0 [d, e]) (k : ∀ v w H', Same H0 H' → Dq H' v d → Dq H' w e → u D ((σ.set i (some v)).set j (some w)) H') : tSeq (tPar i j ta) u D σ H0 :=
  g H0 _ same_refl fun vs H' s q => by
    cases q with
    | cons q1 q =>
    cases q with
    | cons q2 q =>
    cases q
    exact ⟨_, _, rfl, k _ _ _ s q1 q2⟩
theorem st_one {te : TE} {D : Ends} {i : Nat} {d : PyData} (g : Gives te σ H0 d) (k : ∀ v H', Same H0 H' → Dq H' v d → D.nx (σ.set i (some v)) H') : tAsg te (gName i) D σ H0 :=
  g H0 _ same_refl k
theorem st_ret {te : TE} {D : Ends} {d : PyData} (g : Gives te σ H0 d) (k : ∀ v H', Same H0 H' → Dq H' v d → D.rt v H') : tRet te D σ H0 := g H0 _ same_refl k
end GV
set_option Elab.async false
set_option linter.all false
set_option maxRecDepth 100000
set_option maxHeartbeats 4000000
namespace GV
open PySem L2 L2H DQ K01
variable {σ : L2.St} {H0 : Hp}
theorem g_catF {ta tb : TE} {xs ys : List PyData} (ha : Gives ta σ H0 (.tuple xs)) (hb : Gives tb σ H0 (.tuple ys)) (hl : xs.length + ys.length ≤ 1000) : Gives (tOp rCatF ta tb) σ H0 (.tuple (xs ++ ys)) := fun H Q s q =>
  ha H _ s fun v H1 s1 q1 => hb H1 _ (same_trans s s1) fun u H2 s2 q2 => by
    cases q1 with
    | tup e1 a1 =>
    cases q2 with
    | tup e2 a2 =>
    exact ⟨_, _, _, _, rfl, rfl, s2 _ _ e1, e2, by rw [a1.len, a2.len]; exact Nat.le_trans hl (by decide), fun p H3 s3 e3 => q _ _ (same_trans (same_trans s1 s2) s3) (.tup e3 (((a1.same s2).app a2).same s3))⟩
theorem g_slTo {ta : TE} {xs : List PyData} {j : Nat} {tl : TO} (ha : Gives ta σ H0 (.tuple xs)) (hl : ∀ H (Q : Option Int → Hp → Prop), Q none H → tl σ H Q) : Gives (tSl rSlF ta tl (tPart (tC (.int (j : Int))))) σ H0 (.tuple (xs.take j)) := fun H Q s q =>
  ha H _ s fun v H1 s1 q1 => by
    cases q1 with
    | tup e1 a1 =>
    refine hl _ _ ⟨_, rfl, _, _, rfl, e1, fun p H2 s2 e2 => q _ _ (same_trans s1 s2) (.tup e2 ?_)⟩
    rw [cut_to]
    exact (a1.take j).same s2
end GV
namespace K01
open PySem L2 L2H DQ RZ GV
abbrev nHa : List Str := ["leaf", "wide", "deep", "k", "some", "call"]
theorem scHa : FnScope nHa [] (defScope sHand) := ⟨rfl, rfl, rfl, by decide +kernel, rfl, by decide +kernel, by decide +kernel⟩
def t0 : PyData := .tuple []
def leafD : PyData := .tuple [t0, t0]
def eB (t : PyData) : PyData := .tuple [.str "e", t]
def wideB : List PyData := [eB leafD] ++ ([eB leafD] ++ [eB leafD])
def wideD : PyData := .tuple [t0, .tuple wideB]
def upD (t : PyData) : PyData := .tuple [.tuple [.str "a"], .tuple [.tuple [.str "f", t]]]
def deepD : Nat → PyData | 0 => leafD | k + 1 => upD (deepD k)
def ofB (bs : List PyData) : PyData := .tuple [t0, .tuple bs]
def ofM (ms : List Str) : PyData := .tuple [.tuple (ms.map PyData.str), t0]
def callD : PyData := .tuple [t0, t0, .str "call"]
def hand1 : List PyData := [leafD, wideD, ofB (wideB ++ wideB.take 1), deepD 3, ofB [eB (deepD 3)], ofM ["a", "b", "c"], ofM ["b", "a"]]
def hand2 : List PyData := [ofM ["a", "b", "c", "d"], ofB [eB wideD, eB leafD], ofB [eB wideD, eB leafD, eB leafD]]
def hand3 : List PyData := [ofM ["abcdefghi"], ofM ["abcdefgh"], ofB [.tuple [.str "abcdefghi", leafD]], ofB [.tuple [.str "abcdefgh", leafD]]]
def hand4 : List PyData := [callD, ofB [eB callD], ofB [eB callD, eB callD], ofB [.tuple [.str "E", leafD]], ofB [eB (.tuple [t0, t0, .str "Call"])]]
def hand5 : List PyData := [ofB [eB (.tuple [t0, t0, .str "call", .int 1])], ofB [eB (.tuple [t0, t0, .none])], ofM ["a", "a"], ofB [.str "e", leafD]]
def handL : List PyData := ((hand1 ++ hand2) ++ hand3) ++ hand4
def handA : List PyData := handL ++ hand5
/-- the law's things by hand: a new list of them -/
def spHa : Sp := fun vs H Q _ => vs = [] ∧ ∀ v H', Same H H' → Dq H' v (.list handA) → Q v H'
section
variable {P : Program} {w : World} {K : PySem.W.Frag} {mg : Str → Option Value} {base : Heap}
theorem ok_hand {f : Addr} {fd : FuncData} (F : Fun K "_law_by_hand" "_law_by_hand" sHand f fd) (tR : mg "range" = none) : FnOk P w K mg base CX0 1 f fd [] spHa := by
  refine F.ok scHa (fun vs H Q E h => by obtain ⟨rfl, _⟩ := h; rfl) (fun cdv A outer s H vs Q E hr h => ?_)
  obtain ⟨rfl, kk⟩ := h
  refine ⟨_, (pss_cons (ps_set (i := 0) scHa.nd rfl (Or.inl rfl) (pe_tup (pa_cons (pe_tup pa_nil) (pa_cons (pe_tup pa_nil) pa_nil))))
    (pss_cons (ps_par rfl scHa.nd (i := 1) (j := 2) rfl rfl (by decide) rfl rfl (pa_cons (pe_tup (pa_cons (pe_tup pa_nil) (pa_cons (pe_op op_repT (pe_tup (pa_cons (pe_tup (pa_cons pe_str (pa_cons (pv 0) pa_nil))) pa_nil)) pe_int) pa_nil))) (pa_cons (pv 0) pa_nil)) rfl)
    (pss_cons (ps_for PassesOwn.never rfl (pi_range1 (by rfl) tR (pa_cons pe_int pa_nil)) (pg_name (i := 3) scHa.nd rfl (Or.inl rfl))
      (pss_one (ps_set (i := 2) scHa.nd rfl (Or.inl rfl) (pe_tup (pa_cons (pe_tup (pa_cons pe_str pa_nil)) (pa_cons (pe_tup (pa_cons (pe_tup (pa_cons pe_str (pa_cons (pv 2) pa_nil))) pa_nil)) pa_nil))))))
    (pss_cons (ps_set (i := 4) scHa.nd rfl (Or.inl rfl) (pe_lst (pa_cons (pv 0) (pa_cons (pv 1) (pa_cons (pe_tup (pa_cons (pe_tup pa_nil) (pa_cons (pe_op op_catF (pe_ix ix_tup (pv 1) pe_int (fun _ _ => rfl)) (pe_slice sl_tupF (pe_ix ix_tup (pv 1) pe_int (fun _ _ => rfl)) po_none (po_some pe_int))) pa_nil))) (pa_cons (pv 2) (pa_cons (pe_tup (pa_cons (pe_tup pa_nil) (pa_cons (pe_tup (pa_cons (pe_tup (pa_cons pe_str (pa_cons (pv 2) pa_nil))) pa_nil)) pa_nil))) (pa_cons (pe_tup (pa_cons (pe_tup (pa_cons pe_str (pa_cons pe_str (pa_cons pe_str pa_nil)))) (pa_cons (pe_tup pa_nil) pa_nil))) (pa_cons (pe_tup (pa_cons (pe_tup (pa_cons pe_str (pa_cons pe_str pa_nil))) (pa_cons (pe_tup pa_nil) pa_nil))) pa_nil)))))))))
    (pss_cons (ps_set (i := 4) scHa.nd rfl (Or.inl rfl) (pe_op op_cat (pv 4) (pe_lst (pa_cons (pe_tup (pa_cons (pe_tup (pa_cons pe_str (pa_cons pe_str (pa_cons pe_str (pa_cons pe_str pa_nil))))) (pa_cons (pe_tup pa_nil) pa_nil))) (pa_cons (pe_tup (pa_cons (pe_tup pa_nil) (pa_cons (pe_tup (pa_cons (pe_tup (pa_cons pe_str (pa_cons (pv 1) pa_nil))) (pa_cons (pe_tup (pa_cons pe_str (pa_cons (pv 0) pa_nil))) pa_nil))) pa_nil))) (pa_cons (pe_tup (pa_cons (pe_tup pa_nil) (pa_cons (pe_tup (pa_cons (pe_tup (pa_cons pe_str (pa_cons (pv 1) pa_nil))) (pa_cons (pe_tup (pa_cons pe_str (pa_cons (pv 0) pa_nil))) (pa_cons (pe_tup (pa_cons pe_str (pa_cons (pv 0) pa_nil))) pa_nil)))) pa_nil))) pa_nil))))))
    (pss_cons (ps_set (i := 4) scHa.nd rfl (Or.inl rfl) (pe_op op_cat (pv 4) (pe_lst (pa_cons (pe_tup (pa_cons (pe_tup (pa_cons pe_str pa_nil)) (pa_cons (pe_tup pa_nil) pa_nil))) (pa_cons (pe_tup (pa_cons (pe_tup (pa_cons pe_str pa_nil)) (pa_cons (pe_tup pa_nil) pa_nil))) (pa_cons (pe_tup (pa_cons (pe_tup pa_nil) (pa_cons (pe_tup (pa_cons (pe_tup (pa_cons pe_str (pa_cons (pv 0) pa_nil))) pa_nil)) pa_nil))) (pa_cons (pe_tup (pa_cons (pe_tup pa_nil) (pa_cons (pe_tup (pa_cons (pe_tup (pa_cons pe_str (pa_cons (pv 0) pa_nil))) pa_nil)) pa_nil))) pa_nil)))))))
    (pss_cons (ps_set (i := 5) scHa.nd rfl (Or.inl rfl) (pe_tup (pa_cons (pe_tup pa_nil) (pa_cons (pe_tup pa_nil) (pa_cons pe_str pa_nil)))))
    (pss_cons (ps_set (i := 4) scHa.nd rfl (Or.inl rfl) (pe_op op_cat (pv 4) (pe_lst (pa_cons (pv 5) (pa_cons (pe_tup (pa_cons (pe_tup pa_nil) (pa_cons (pe_tup (pa_cons (pe_tup (pa_cons pe_str (pa_cons (pv 5) pa_nil))) pa_nil)) pa_nil))) (pa_cons (pe_tup (pa_cons (pe_tup pa_nil) (pa_cons (pe_tup (pa_cons (pe_tup (pa_cons pe_str (pa_cons (pv 5) pa_nil))) (pa_cons (pe_tup (pa_cons pe_str (pa_cons (pv 5) pa_nil))) pa_nil))) pa_nil))) (pa_cons (pe_tup (pa_cons (pe_tup pa_nil) (pa_cons (pe_tup (pa_cons (pe_tup (pa_cons pe_str (pa_cons (pv 0) pa_nil))) pa_nil)) pa_nil))) (pa_cons (pe_tup (pa_cons (pe_tup pa_nil) (pa_cons (pe_tup (pa_cons (pe_tup (pa_cons pe_str (pa_cons (pe_tup (pa_cons (pe_tup pa_nil) (pa_cons (pe_tup pa_nil) (pa_cons pe_str pa_nil)))) pa_nil))) pa_nil)) pa_nil))) pa_nil))))))))
    (pss_one (ps_ret (pe_op op_cat (pv 4) (pe_lst (pa_cons (pe_tup (pa_cons (pe_tup pa_nil) (pa_cons (pe_tup (pa_cons (pe_tup (pa_cons pe_str (pa_cons (pe_tup (pa_cons (pe_tup pa_nil) (pa_cons (pe_tup pa_nil) (pa_cons pe_str (pa_cons pe_int pa_nil))))) pa_nil))) pa_nil)) pa_nil))) (pa_cons (pe_tup (pa_cons (pe_tup pa_nil) (pa_cons (pe_tup (pa_cons (pe_tup (pa_cons pe_str (pa_cons (pe_tup (pa_cons (pe_tup pa_nil) (pa_cons (pe_tup pa_nil) (pa_cons pe_non pa_nil)))) pa_nil))) pa_nil)) pa_nil))) (pa_cons (pe_tup (pa_cons (pe_tup (pa_cons pe_str (pa_cons pe_str pa_nil))) (pa_cons (pe_tup pa_nil) pa_nil))) (pa_cons (pe_tup (pa_cons (pe_tup pa_nil) (pa_cons (pe_tup (pa_cons pe_str (pa_cons (pv 0) pa_nil))) pa_nil))) pa_nil)))))))))))))))), ?_⟩
  refine st_set (d := leafD) (by (repeat' (first | exact ga_nil | refine ga_cons ?_ ?_ | exact g_int | exact g_non | exact g_str (by decide +kernel) (by decide +kernel) | exact g_var rfl (by assumption) | refine g_tup ?_ (Nat.le_of_ble_eq_true rfl) | refine g_lst ?_ (Nat.le_of_ble_eq_true rfl)))) fun v0 H1 s1 q0 => ?_
  refine st_par (d := wideD) (e := leafD) ?_ fun v1 v2 H2 s2 q1 q2 => ?_
  · refine ga_cons (g_tup (ga_cons (by (repeat' (first | exact ga_nil | refine ga_cons ?_ ?_ | exact g_int | exact g_non | exact g_str (by decide +kernel) (by decide +kernel) | exact g_var rfl (by assumption) | refine g_tup ?_ (Nat.le_of_ble_eq_true rfl) | refine g_lst ?_ (Nat.le_of_ble_eq_true rfl)))) (ga_cons (g_rep (xs := [eB leafD]) (by (repeat' (first | exact ga_nil | refine ga_cons ?_ ?_ | exact g_int | exact g_non | exact g_str (by decide +kernel) (by decide +kernel) | exact g_var rfl (by assumption) | refine g_tup ?_ (Nat.le_of_ble_eq_true rfl) | refine g_lst ?_ (Nat.le_of_ble_eq_true rfl)))) g_int (by simp) (by decide)) ga_nil)) (by decide)) (by (repeat' (first | exact ga_nil | refine ga_cons ?_ ?_ | exact g_int | exact g_non | exact g_str (by decide +kernel) (by decide +kernel) | exact g_var rfl (by assumption) | refine g_tup ?_ (Nat.le_of_ble_eq_true rfl) | refine g_lst ?_ (Nat.le_of_ble_eq_true rfl))))
  replace q0 := q0.same s2
  refine ⟨3, rfl, by decide, by decide, for_range (n := 3) (fun i σ' H' => ∃ vk v2, σ' = [some v0, some v1, some v2, vk, none, none] ∧ Same H2 H' ∧ Dq H' v2 (deepD i)) ⟨_, _, rfl, same_refl, q2⟩ ?_ ?_⟩
  · rintro i σ' H' hi ⟨vk, v2, rfl, s3, q⟩
    show tAsg _ (gName 2) _ _ _
    refine st_one (d := upD (deepD i)) (by (repeat' (first | exact ga_nil | refine ga_cons ?_ ?_ | exact g_int | exact g_non | exact g_str (by decide +kernel) (by decide +kernel) | exact g_var rfl (by assumption) | refine g_tup ?_ (Nat.le_of_ble_eq_true rfl) | refine g_lst ?_ (Nat.le_of_ble_eq_true rfl)))) fun v H4 s4 q4 => ?_
    exact ⟨_, v, rfl, same_trans s3 s4, q4⟩
  rintro σ' H3 ⟨vk, v2, rfl, s3, q2⟩
  replace q0 := q0.same s3
  replace q1 := q1.same s3
  dsimp only
  refine st_set (d := .list hand1) ?_ fun v4 H4 s4 q4 => ?_
  · exact g_lst (ga_cons (by (repeat' (first | exact ga_nil | refine ga_cons ?_ ?_ | exact g_int | exact g_non | exact g_str (by decide +kernel) (by decide +kernel) | exact g_var rfl (by assumption) | refine g_tup ?_ (Nat.le_of_ble_eq_true rfl) | refine g_lst ?_ (Nat.le_of_ble_eq_true rfl)))) (ga_cons (by (repeat' (first | exact ga_nil | refine ga_cons ?_ ?_ | exact g_int | exact g_non | exact g_str (by decide +kernel) (by decide +kernel) | exact g_var rfl (by assumption) | refine g_tup ?_ (Nat.le_of_ble_eq_true rfl) | refine g_lst ?_ (Nat.le_of_ble_eq_true rfl)))) (ga_cons (g_tup (ga_cons (by (repeat' (first | exact ga_nil | refine ga_cons ?_ ?_ | exact g_int | exact g_non | exact g_str (by decide +kernel) (by decide +kernel) | exact g_var rfl (by assumption) | refine g_tup ?_ (Nat.le_of_ble_eq_true rfl) | refine g_lst ?_ (Nat.le_of_ble_eq_true rfl)))) (ga_cons (g_catF (xs := wideB) (ys := wideB.take 1) (g_ix (j := 1) (xs := [t0, .tuple wideB]) (by (repeat' (first | exact ga_nil | refine ga_cons ?_ ?_ | exact g_int | exact g_non | exact g_str (by decide +kernel) (by decide +kernel) | exact g_var rfl (by assumption) | refine g_tup ?_ (Nat.le_of_ble_eq_true rfl) | refine g_lst ?_ (Nat.le_of_ble_eq_true rfl)))) rfl) (g_slTo (j := 1) (g_ix (j := 1) (xs := [t0, .tuple wideB]) (by (repeat' (first | exact ga_nil | refine ga_cons ?_ ?_ | exact g_int | exact g_non | exact g_str (by decide +kernel) (by decide +kernel) | exact g_var rfl (by assumption) | refine g_tup ?_ (Nat.le_of_ble_eq_true rfl) | refine g_lst ?_ (Nat.le_of_ble_eq_true rfl)))) rfl) fun H Q q => q) (by decide)) ga_nil)) (by decide)) (by (repeat' (first | exact ga_nil | refine ga_cons ?_ ?_ | exact g_int | exact g_non | exact g_str (by decide +kernel) (by decide +kernel) | exact g_var rfl (by assumption) | refine g_tup ?_ (Nat.le_of_ble_eq_true rfl) | refine g_lst ?_ (Nat.le_of_ble_eq_true rfl))))))) (by decide)
  replace q0 := q0.same s4
  replace q1 := q1.same s4
  refine st_set (d := .list (hand1 ++ hand2)) ?_ fun v4 H5 s5 q4 => ?_
  · exact g_cat (by (repeat' (first | exact ga_nil | refine ga_cons ?_ ?_ | exact g_int | exact g_non | exact g_str (by decide +kernel) (by decide +kernel) | exact g_var rfl (by assumption) | refine g_tup ?_ (Nat.le_of_ble_eq_true rfl) | refine g_lst ?_ (Nat.le_of_ble_eq_true rfl)))) (by (repeat' (first | exact ga_nil | refine ga_cons ?_ ?_ | exact g_int | exact g_non | exact g_str (by decide +kernel) (by decide +kernel) | exact g_var rfl (by assumption) | refine g_tup ?_ (Nat.le_of_ble_eq_true rfl) | refine g_lst ?_ (Nat.le_of_ble_eq_true rfl)))) (by decide)
  replace q0 := q0.same s5
  refine st_set (d := .list ((hand1 ++ hand2) ++ hand3)) ?_ fun v4 H6 s6 q4 => ?_
  · exact g_cat (by (repeat' (first | exact ga_nil | refine ga_cons ?_ ?_ | exact g_int | exact g_non | exact g_str (by decide +kernel) (by decide +kernel) | exact g_var rfl (by assumption) | refine g_tup ?_ (Nat.le_of_ble_eq_true rfl) | refine g_lst ?_ (Nat.le_of_ble_eq_true rfl)))) (by (repeat' (first | exact ga_nil | refine ga_cons ?_ ?_ | exact g_int | exact g_non | exact g_str (by decide +kernel) (by decide +kernel) | exact g_var rfl (by assumption) | refine g_tup ?_ (Nat.le_of_ble_eq_true rfl) | refine g_lst ?_ (Nat.le_of_ble_eq_true rfl)))) (by decide)
  replace q0 := q0.same s6
  refine st_set (d := callD) (by (repeat' (first | exact ga_nil | refine ga_cons ?_ ?_ | exact g_int | exact g_non | exact g_str (by decide +kernel) (by decide +kernel) | exact g_var rfl (by assumption) | refine g_tup ?_ (Nat.le_of_ble_eq_true rfl) | refine g_lst ?_ (Nat.le_of_ble_eq_true rfl)))) fun v5 H7 s7 q5 => ?_
  replace q0 := q0.same s7
  replace q4 := q4.same s7
  refine st_set (d := .list handL) ?_ fun v4 H8 s8 q4 => ?_
  · exact g_cat (by (repeat' (first | exact ga_nil | refine ga_cons ?_ ?_ | exact g_int | exact g_non | exact g_str (by decide +kernel) (by decide +kernel) | exact g_var rfl (by assumption) | refine g_tup ?_ (Nat.le_of_ble_eq_true rfl) | refine g_lst ?_ (Nat.le_of_ble_eq_true rfl)))) (by (repeat' (first | exact ga_nil | refine ga_cons ?_ ?_ | exact g_int | exact g_non | exact g_str (by decide +kernel) (by decide +kernel) | exact g_var rfl (by assumption) | refine g_tup ?_ (Nat.le_of_ble_eq_true rfl) | refine g_lst ?_ (Nat.le_of_ble_eq_true rfl)))) (by decide)
  replace q0 := q0.same s8
  refine st_ret (d := .list handA) ?_ fun v H9 s9 q9 => ?_
  · exact g_cat (by (repeat' (first | exact ga_nil | refine ga_cons ?_ ?_ | exact g_int | exact g_non | exact g_str (by decide +kernel) (by decide +kernel) | exact g_var rfl (by assumption) | refine g_tup ?_ (Nat.le_of_ble_eq_true rfl) | refine g_lst ?_ (Nat.le_of_ble_eq_true rfl)))) (by (repeat' (first | exact ga_nil | refine ga_cons ?_ ?_ | exact g_int | exact g_non | exact g_str (by decide +kernel) (by decide +kernel) | exact g_var rfl (by assumption) | refine g_tup ?_ (Nat.le_of_ble_eq_true rfl) | refine g_lst ?_ (Nat.le_of_ble_eq_true rfl)))) (by decide)
  exact kk v H9 (same_trans s1 (same_trans s2 (same_trans s3 (same_trans s4 (same_trans s5 (same_trans s6 (same_trans s7 (same_trans s8 s9)))))))) q9
end
end K01
set_option Elab.async false
set_option linter.all false
set_option maxRecDepth 100000
set_option maxHeartbeats 4000000
namespace K01
open PySem L2 L2H DQ RZ
/-! bounds of drawn trees -/
theorem sz_marks {ms : List Str} (h : ms.Sublist abc3) : szAll (ms.map PyData.str) ≤ 42 := by
  have z : ∀ l : List Str, (∀ x ∈ l, x.length = 1) → szAll (l.map PyData.str) = 14 * l.length := fun l => by
    induction l with
    | nil => intro _; rfl
    | cons x l ih =>
      intro hl
      have h1 := hl x (List.mem_cons_self ..)
      have h2 := ih fun y hy => hl y (List.mem_cons_of_mem _ hy)
      simp only [List.map_cons, szAll, sz, List.length_cons, h1, h2]
      omega
  rw [z ms fun x hx => (sub_sm h x hx).2]
  have := sub_len h
  omega
theorem dp_marks (ms : List Str) : PyData.depthAll (ms.map PyData.str) = 0 := by
  induction ms with
  | nil => rfl
  | cons x l ih => simp only [List.map_cons, PyData.depthAll, PyData.depth, ih, Nat.max_self]
theorem gd_marks {ms : List Str} (h : ms.Sublist abc3) : gdAll 0 (ms.map PyData.str) = true := gdAll_iff.mpr fun d hd => by
  obtain ⟨x, hx, rfl⟩ := List.mem_map.mp hd
  simpa [gd] using (sub_sm h x hx).1
mutual
theorem Tc.bound : ∀ {k n c : Nat} {d : PyData}, Tc k n c d → gd 0 d = true ∧ sz d + 22 ≤ 130 * n ∧ d.depth ≤ 3 * k + 2
  | k, n, c, _, .mk (ms := ms) (bs := bs) hm hl hr hb e1 e2 => by
    obtain ⟨b1, b2, b3⟩ := hb.bound
    have m1 := sz_marks hm
    have m2 := dp_marks ms
    have m3 := gd_marks hm
    rcases hr with ⟨rfl, _⟩ | ⟨rfl, _⟩
    · refine ⟨?_, ?_, ?_⟩
      · simp only [gd, gdAll, m3, b1, Bool.and_self]
      · simp only [sz, szAll]
        omega
      · simp only [PyData.depth, PyData.depthAll, m2]
        omega
    · have ok : PyData.strOk ("call" : Str) = true := by decide +kernel
      have ln : ("call" : Str).length = 4 := by decide +kernel
      refine ⟨?_, ?_, ?_⟩
      · simp only [gd, gdAll, m3, b1, ok, Bool.and_self]
      · simp only [sz, szAll, ln]
        omega
      · simp only [PyData.depth, PyData.depthAll, m2]
        omega
theorem TcB.bound : ∀ {k n c : Nat} {bs : List PyData}, TcB k n c bs → gdAll 0 bs = true ∧ szAll bs ≤ 130 * n ∧ PyData.depthAll bs ≤ 3 * k
  | _, _, _, _, .nil => ⟨rfl, Nat.zero_le _, Nat.zero_le _⟩
  | _, _, _, _, .cons (u := u) hu ht hb e1 e2 => by
    obtain ⟨a1, a2, a3⟩ := ht.bound
    obtain ⟨b1, b2, b3⟩ := hb.bound
    have hs := ef_sm hu
    refine ⟨?_, ?_, ?_⟩
    · simp only [gd, gdAll, hs.1, a1, b1, Bool.and_self]
    · simp only [sz, szAll, hs.2]
      omega
    · simp only [PyData.depth, PyData.depthAll]
      omega
end
mutual
/-- no list and no dict within -/
def noL : PyData → Bool
  | .list _ => false
  | .dict _ => false
  | .tuple ds => noLs ds
  | _ => true
def noLs : List PyData → Bool
  | [] => true
  | d :: ds => noL d && noLs ds
end
mutual
theorem _root_.DQ.Dq.flat {H H' : Hp} (s : ∀ b xs, H b = some (.tup xs) → H' b = some (.tup xs)) : ∀ {v : V} {d : PyData}, Dq H v d → noL d = true → Dq H' v d
  | _, _, .non, _ => .non
  | _, _, .bl b, _ => .bl b
  | _, _, .int i, _ => .int i
  | _, _, .str x hx, _ => .str x hx
  | _, _, .lst _ _, h => by simp [noL] at h
  | _, _, .tup e a, h => .tup (s _ _ e) (a.flat s (by simpa [noL] using h))
  | _, _, .dic _, h => by simp [noL] at h
theorem _root_.DQ.DqAll.flat {H H' : Hp} (s : ∀ b xs, H b = some (.tup xs) → H' b = some (.tup xs)) : ∀ {vs : List V} {ds : List PyData}, DqAll H vs ds → noLs ds = true → DqAll H' vs ds
  | _, _, .nil, _ => .nil
  | _, _, .cons a b, h => by
    have h' := Bool.and_eq_true_iff.mp (by simpa [noLs] using h)
    exact .cons (a.flat s h'.1) (b.flat s h'.2)
end
theorem hand_no : noLs handA = true := by decide +kernel
def N1 : Nat := 10 ^ 30
/-- what is told of each thing that is looked at -/
def okB (d : PyData) : Bool := gd (N1 + 10 + 10) d && (decide (sz d ≤ 400000) && decide (d.depth ≤ 40))
theorem okB_iff {d : PyData} : okB d = true ↔ gd (N1 + 10 + 10) d = true ∧ sz d ≤ 400000 ∧ d.depth ≤ 40 := by
  unfold okB
  simp only [Bool.and_eq_true, decide_eq_true_eq]
theorem okB_T {d : PyData} (h : okB d = true) : OkT d := by
  obtain ⟨h1, h2, h3⟩ := okB_iff.mp h
  exact okT_of (by unfold N1; exact Nat.le_of_lt (by decide +kernel)) h1 (by omega) (by omega)
theorem okB_of {d : PyData} (h1 : gd 0 d = true) (h2 : sz d ≤ 400000) (h3 : d.depth ≤ 40) : okB d = true := okB_iff.mpr ⟨gd_mono (Nat.zero_le _) _ h1, h2, h3⟩
theorem hand_ok : handA.all okB = true := by decide +kernel
theorem odd_ok {d : PyData} (h : OddD d) : okB d = true := okB_iff.mpr ⟨gd_mono (by unfold N1; omega) _ h.1, by have := h.2.1; omega, by have := h.2.2; omega⟩
theorem bmin : bootBuiltins ("min" : Str) = some (.builtin "min") := by decide +kernel
theorem eqv_intsNil (fs : List Int) : PyData.eqv (.list (fs.map PyData.int)) (.list []) = fs.isEmpty := by
  cases fs with
  | nil => rfl
  | cons a b => simp [PyData.eqv, PyData.eqvAll]
theorem shape_bool (c : Int) {d : PyData} {b : Bool} (h : (∃ n, root d = some (n, c, 0) ∧ n ≤ 6) ↔ b = true) : shape c d = b := by
  cases b with
  | true => exact (shape_root c d).mpr (h.mpr rfl)
  | false =>
    cases e : shape c d with
    | false => rfl
    | true => exact absurd (h.mp ((shape_root c d).mp e)) (by simp)
def spLaw (K : PySem.W.Frag) : Sp := fun vs H Q _ => ∃ (a : Addr) (ns : List Int), vs = [.ref a] ∧ SqL K H a (ns.map V.int) ∧ ns.length ≤ 63 ∧ SysF H ∧ ∀ H', Q (.bl true) H'
abbrev nLw : List Str := ["script", "m", "turn", "one", "body", "things", "k", "bad", "thing", "kept", "levels", "due"]
/-- what stands at the top, for the law -/
structure LTx (mg : Str → Option Value) (fB fN fT fY fO fH fE fC fTr fBo : Addr) : Prop where
  tc : TC mg
  min : mg "min" = none
  range : mg "range" = none
  int : mg "int" = none
  bool : mg "bool" = none
  gB : mg "_law_begun" = some (.ref fB)
  gN : mg "_law_next" = some (.ref fN)
  gT : mg "_law_tree" = some (.ref fT)
  gY : mg "_law_body" = some (.ref fY)
  gO : mg "_law_odd" = some (.ref fO)
  gH : mg "_law_by_hand" = some (.ref fH)
  gE : mg "_law_bent" = some (.ref fE)
  gC : mg "_law_calls" = some (.ref fC)
  gTr : mg "is_tree" = some (.ref fTr)
  gBo : mg "is_body" = some (.ref fBo)
section
variable {P : Program} {w : World} {K : PySem.W.Frag} {mg : Str → Option Value} {base : Heap}
theorem scLw : FnScope nLw ["script"] (defScope sLaw) := ⟨rfl, rfl, rfl, by decide +kernel, rfl, by decide +kernel, by decide +kernel⟩
theorem ok_law {f fB fN fT fY fO fH fE fC fTr fBo : Addr} {fd dB dN dT dY dO dH dE dC dTr dBo : FuncData} (F : Fun K "law" "law" sLaw f fd) (LT : LTx mg fB fN fT fY fO fH fE fC fTr fBo)
    (FB : Fun K "_law_begun" "_law_begun" sBeg fB dB) (bB : Binds K dB ["script"] []) (GB : FnOk P w K mg base CX0 1 fB dB ["script"] (spBeg K))
    (FN : Fun K "_law_next" "_law_next" sNext fN dN) (bN : Binds K dN ["m", "many"] []) (GN : FnOk P w K mg base CX0 1 fN dN ["m", "many"] spNx)
    (FT : Fun K "_law_tree" "_law_tree" sTree fT dT) (bT : Binds K dT ["m", "size", "deep"] []) (GT : FnOk P w K mg base CX0 6 fT dT ["m", "size", "deep"] (spTr 3))
    (FY : Fun K "_law_body" "_law_body" sBody fY dY) (bY : Binds K dY ["m", "size"] []) (GY : FnOk P w K mg base CX0 7 fY dY ["m", "size"] spBy)
    (FO : Fun K "_law_odd" "_law_odd" sOdd fO dO) (bO : Binds K dO ["m"] []) (GO : FnOk P w K mg base CX0 3 fO dO ["m"] (spDr 1 OddD))
    (FH : Fun K "_law_by_hand" "_law_by_hand" sHand fH dH) (bH : Binds K dH [] []) (GH : FnOk P w K mg base CX0 1 fH dH [] spHa)
    (FE : Fun K "_law_bent" "_law_bent" sBent fE dE) (bE : Binds K dE ["m", "thing"] []) (GE1 : FnOk P w K mg base CX0 16 fE dE ["m", "thing"] (spBe N1 12)) (GE2 : FnOk P w K mg base CX0 20 fE dE ["m", "thing"] (spBe (N1 + 10) 16))
    (FC : Fun K "_law_calls" "_law_calls" sCalls fC dC) (bC : Binds K dC ["thing"] []) (GC : FnG P w K mg base 3 fC dC "thing" spCl)
    (FTr : Fun K "is_tree" "is_tree" sTr fTr dTr) (bTr : Binds K dTr ["thing"] []) (GTr : FnOk P w K mg base CX0 11 fTr dTr ["thing"] (spB (shape 0)))
    (FBo : Fun K "is_body" "is_body" sBo fBo dBo) (bBo : Binds K dBo ["thing"] []) (GBo : FnOk P w K mg base CX0 11 fBo dBo ["thing"] (spB (shape 1))) :
    AtTop P w K mg base f fd "script" (spLaw K) := by
  refine atTop_of (k := 20) F scLw ⟨rfl, by decide, by decide⟩ fun cdv s H v Q E hr h => ?_
  obtain ⟨a, ns, ev, hS, hlen, hY, kk⟩ := h
  obtain rfl := (List.cons.inj ev).1
  have hu2 : (callerA.deeper (PyProof.Rows.envOfC "law" (defScope sLaw) s.heap.objs.size f cdv)).units + 64 < cLine := by have := hr.un; omega
  have hu3 : (callerA.deeper (PyProof.Rows.envOfC "law" (defScope sLaw) s.heap.objs.size f cdv)).units + 100 < cLine := by have := hr.un; omega
  have hgd : (callerA.deeper (PyProof.Rows.envOfC "law" (defScope sLaw) s.heap.objs.size f cdv)).guards = some [] := rfl
  refine ⟨_, (pss_cons (ps_set (i := 1) scLw.nd rfl (Or.inl rfl) (pe_call GB (hr.mono (by decide)) (by rfl) LT.gB FB.kp bB .nil pass0 (pa_cons (pv 0) pa_nil)))
    (pss_cons (ps_for PassesOwn.never rfl (pi_range1 rfl LT.range (pa_cons (pe_op op_add pe_int (pe_callB (call_min2 rfl) (by rfl) LT.min bmin (pa_cons (pe_callB call_len_seq (by rfl) LT.tc.tp.len PySem.boot_len (pa_cons (pv 0) pa_nil)) (pa_cons pe_int pa_nil)))) pa_nil)) (pg_name (i := 2) scLw.nd rfl (Or.inl rfl))
      (pss_cons (ps_par rfl scLw.nd (i := 3) (j := 4) rfl rfl (by decide) rfl rfl (pa_cons (pe_call GT (hr.mono (by decide)) (by rfl) LT.gT FT.kp bT .nil pass0 (pa_cons (pv 1) (pa_cons pe_int (pa_cons pe_int pa_nil)))) (pa_cons (pe_call GY (hr.mono (by decide)) (by rfl) LT.gY FY.kp bY .nil pass0 (pa_cons (pv 1) (pa_cons (pe_op op_add pe_int (pe_call GN (hr.mono (by decide)) (by rfl) LT.gN FN.kp bN .nil pass0 (pa_cons (pv 1) (pa_cons pe_int pa_nil)))) pa_nil))) pa_nil)) rfl)
      (pss_cons (ps_set (i := 5) scLw.nd rfl (Or.inl rfl) (pe_op op_cat (pe_lst (pa_cons (pv 3) (pa_cons (pv 4) (pa_cons (pe_callTy call_list_of (by rfl) LT.tc.list blist (pa_cons (pv 3) pa_nil)) (pa_cons (pe_slice sl_tupF (pv 3) po_none (po_some pe_int)) (pa_cons (pe_op op_catF (pv 3) (pe_tup (pa_cons pe_int pa_nil))) (pa_cons (pe_op op_catF (pv 3) (pe_tup (pa_cons pe_str pa_nil))) (pa_cons (pe_tup pa_nil) (pa_cons pe_non (pa_cons pe_int (pa_cons pe_str (pa_cons pe_dnewK (pa_cons (pe_call GO (hr.mono (by decide)) (by rfl) LT.gO FO.kp bO .nil pass0 (pa_cons (pv 1) pa_nil)) pa_nil))))))))))))) (pe_call0 GH (hr.mono (by decide)) (by rfl) LT.gH FH.kp bH .nil pass0)))
      (pss_cons (ps_for PassesOwn.never rfl (pi_range1 rfl LT.range (pa_cons pe_int pa_nil)) (pg_name (i := 6) scLw.nd rfl (Or.inl rfl))
        (pss_cons (ps_set (i := 7) scLw.nd rfl (Or.inl rfl) (pe_call GE1 (hr.mono (by decide)) (by rfl) LT.gE FE.kp bE .nil pass0 (pa_cons (pv 1) (pa_cons (pe_ix ix_list (pe_lst (pa_cons (pv 3) (pa_cons (pv 4) pa_nil))) (pe_op op_modN (pv 6) pe_int) (fun _ _ => rfl)) pa_nil))))
        (pss_one (ps_set (i := 5) scLw.nd rfl (Or.inl rfl) (pe_op op_cat (pv 5) (pe_lst (pa_cons (pv 7) (pa_cons (pe_call GE2 hr (by rfl) LT.gE FE.kp bE .nil pass0 (pa_cons (pv 1) (pa_cons (pv 7) pa_nil))) pa_nil))))))))
      (pss_one (ps_for PassesOwn.never rfl (pi_list (pv 5)) (pg_name (i := 8) scLw.nd rfl (Or.inl rfl))
        (pss_cons (ps_par rfl scLw.nd (i := 9) (j := 10) rfl rfl (by decide) rfl rfl (pa_cons (pe_callB (call_reprX hgd hu3) (by rfl) LT.tc.repr brepr (pa_cons (pv 8) pa_nil)) (pa_cons (pe_callG GC (hr.mono (by decide)) hgd (by rfl) LT.gC FC.kp bC pass0 (pa_cons (pv 8) pa_nil)) pa_nil)) rfl)
        (pss_cons (ps_set (i := 11) scLw.nd rfl (Or.inl rfl) (pe_lst (pa_cons (pe_cmpR (op_eqD hu2) (pv 10) (pe_lst pa_nil) (by rfl)) (pa_cons (pe_and (pe_cmpR op_notN (pv 10) pe_non (by rfl)) (pe_and (pe_cmpR op_eq (pe_callB call_len_seq (by rfl) LT.tc.tp.len PySem.boot_len (pa_cons (pv 10) pa_nil)) pe_int (by rfl)) (pe_one (pe_cmpR op_gt (pe_ix ix_list (pv 10) pe_int (fun _ _ => rfl)) pe_int (by rfl))))) pa_nil))))
        (pss_one (ps_if (PW.pt (pw_or (pt_cmpR op_ne (pe_callB (call_reprX hgd hu3) (by rfl) LT.tc.repr brepr (pa_cons (pe_lst (pa_cons (pe_call GTr (hr.mono (by decide)) (by rfl) LT.gTr FTr.kp bTr .nil pass0 (pa_cons (pv 8) pa_nil)) (pa_cons (pe_call GBo (hr.mono (by decide)) (by rfl) LT.gBo FBo.kp bBo .nil pass0 (pa_cons (pv 8) pa_nil)) pa_nil))) pa_nil)) (pe_callB (call_reprX hgd hu3) (by rfl) LT.tc.repr brepr (pa_cons (pv 11) pa_nil)) (by rfl)) (pw_or1 (pt_cmpR op_ne (pe_callB (call_reprX hgd hu3) (by rfl) LT.tc.repr brepr (pa_cons (pv 8) pa_nil)) (pv 9) (by rfl))))) (pss_one (ps_ret pe_bl)) pss_nil))))))))))
    (pss_one (ps_ret pe_bl)))), ?_⟩
  refine ⟨_, rfl, a, ns, rfl, hS, hlen, fun H1 m c l cs ls sm1 M1 => ?_⟩
  have sys1 : SysF (fr H1 m l) := by
    obtain ⟨o, u, e⟩ := hY
    have e1 := sm1 _ _ e
    exact ⟨o, u, fr_some e1 (ne_of e1 M1.hm (by intro z; cases z)) (ne_of e1 M1.hl (by intro z; cases z))⟩
  refine ⟨_, rfl, a, _, rfl, .inl (sm1.seq hS), _, _, rfl, _, _, rfl, rfl, _, rfl, ?_, ?_, ?_⟩
  · split <;> omega
  · split <;> omega
  refine for_range (lo := 0) (fun i σ' H' => ∃ (l' : Addr) (ls' : List Int) (n' : Int) (v2 v3 v4 v5 v6 v7 v8 v9 v10 v11 : Option V), σ' = [some (V.ref a), some (V.ref m), v2, v3, v4, v5, v6, v7, v8, v9, v10, v11] ∧ MAt H' m c l' cs ls' n' ∧ n' ≤ 5000 * (i : Int) ∧ SysF (fr H' m l'))
    ⟨l, ls, 0, none, none, none, none, none, none, none, none, none, none, rfl, M1, by omega, sys1⟩ ?_ ?_
  rotate_left
  · rintro σ' H' ⟨l', ls', n', v2, v3, v4, v5, v6, v7, v8, v9, v10, v11, rfl, _, _⟩
    exact kk H'
  rintro i σ' H' hi ⟨l', ls', n', v2, v3, v4, v5, v6, v7, v8, v9, v10, v11, rfl, M', hn', sys'⟩
  have hi8 : i < 14 := by
    refine Nat.lt_of_lt_of_le hi ?_
    split <;> omega
  clear hS hlen hY sm1 M1 sys1
  have d3 : dn 3 = 556 := by decide
  -- one, body
  refine ⟨_, rfl, m, c, l', cs, ls', n', 6, rfl, M', by omega, by decide, by decide, fun v1 d1 q1 H2 l2 ls2 n2 M2 nn2 s2 qv1 t1 hq1 => ?_⟩
  refine ⟨_, rfl, _, rfl, m, c, l2, 4, cs, ls2, n2, rfl, M2, by decide, by decide, by omega, fun r3 H3 l3 ls3 n3 r30 r31 M3 nn3 s3 => ⟨_, _, rfl, rfl, ?_⟩⟩
  refine ⟨m, c, l3, cs, ls3, n3, 2 + r3, rfl, M3, by omega, by omega, by omega, fun vb db qb H4 l4 ls4 n4 M4 nn4 s4 qvb tb hqb => ⟨_, _, rfl, ?_⟩⟩
  have sys4 : SysF (fr H4 m l4) := ((sys'.same s2.1).same s3.1).same s4.1
  have qv4 : Dq (fr H4 m l4) v1 d1 := (qv1.same s3.1).same s4.1
  have n4' : n4 ≤ 5000 * (i : Int) + 1300 := by omega
  obtain ⟨g1, z1, p1⟩ := t1.bound
  obtain ⟨gb, zb, dpb⟩ := tb.tc.bound
  have q16 : q1 ≤ 6 := by omega
  have qb6 : qb ≤ 7 := by omega
  clear M2 s2 M3 s3 M' sys' s4 nn2 nn3 nn4 qv1
  obtain ⟨mo, bo, no, rfl, hmo, lbo, tbo, eno⟩ := t1.tp
  obtain ⟨po, xo, rfl, eo, ao⟩ := dq_tup qv4
  have xo2 : xo.length = 2 := ao.len
  have G4 : Gw m c l4 cs ls4 n4 H4 H4 := ⟨M4, .refl⟩
  -- things
  refine ⟨_, rfl, _, rfl, _, rfl, po, xo, rfl, .inr (SqT.of (fr_of eo).2.2), fun p3 np3 => ?_⟩
  obtain ⟨G5, t5, e5⟩ := G4.new (o := .lst xo) np3
  generalize upd H4 p3 (HO.lst xo) = H5 at G5 t5 e5
  have eo5 := t5 _ _ eo
  refine ⟨_, rfl, 1, rfl, po, xo, rfl, (fr_of eo5).2.2, fun p4 H6 s6 e6 => ?_⟩
  rw [show (1 : Int) = ((1 : Nat) : Int) from rfl, cut_to] at e6
  obtain ⟨G6, t6⟩ := G5.grow s6
  have e6' := G6.tupAt e6
  have eo6 := t6 _ _ eo5
  refine ⟨_, rfl, by show 1 ≤ sizeLine; decide, fun pa npa => ?_⟩
  obtain ⟨G7, t7, e7⟩ := G6.new (o := .tup [.int 5]) npa
  refine ⟨po, pa, xo, _, rfl, rfl, (fr_of (t7 _ _ eo6)).2.2, upd_same, by rw [xo2]; show 2 + 1 ≤ sizeLine; decide, fun p5 H8 s8 e8 => ?_⟩
  obtain ⟨G8, t8⟩ := G7.grow s8
  have e8' := G8.tupAt e8
  have eo8 := t8 _ _ (t7 _ _ eo6)
  refine ⟨_, rfl, by show 1 ≤ sizeLine; decide, fun pb npb => ?_⟩
  obtain ⟨G9, t9, e9⟩ := G8.new (o := .tup [.str "call"]) npb
  refine ⟨po, pb, xo, _, rfl, rfl, (fr_of (t9 _ _ eo8)).2.2, upd_same, by rw [xo2]; show 2 + 1 ≤ sizeLine; decide, fun p6 Ha sa ea => ?_⟩
  obtain ⟨Ga, ta⟩ := G9.grow sa
  have ea' := Ga.tupAt ea
  have eoa := ta _ _ (t9 _ _ eo8)
  refine ⟨Nat.zero_le _, fun p7 np7 => ?_⟩
  obtain ⟨Gb, tb', eb⟩ := Ga.new (o := .tup []) np7
  refine fun p11 np11 => ?_
  obtain ⟨Gc, tc, ec⟩ := Gb.new (o := .dK []) np11
  have s4c : Same (fr H4 m l4) (fr _ m l4) := same_trans t5 (same_trans t6 (same_trans t7 (same_trans t8 (same_trans t9 (same_trans ta (same_trans tb' tc))))))
  have s5c := same_trans t6 (same_trans t7 (same_trans t8 (same_trans t9 (same_trans ta (same_trans tb' tc)))))
  have s6c := same_trans t7 (same_trans t8 (same_trans t9 (same_trans ta (same_trans tb' tc))))
  have s8c := same_trans t9 (same_trans ta (same_trans tb' tc))
  have sac := same_trans tb' tc
  have dcl : ∀ {G : Hp}, Dq G (.str "call") (.str "call") := dq_str (by decide +kernel) (by decide +kernel)
  have dca : ∀ {G : Hp}, Dq G (.str "a") (.str "a") := dq_str (by decide +kernel) (by decide +kernel)
  obtain ⟨dsA, hdsA, qA⟩ : ∃ dsA : List PyData, dsA.all okB = true ∧ DqAll (fr (upd (upd Ha p7 (.tup [])) p11 (.dK [])) m l4) [.ref po, vb, .ref p3, .ref p4, .ref p5, .ref p6, .ref p7, .non, .int 5, .str "a", .ref p11] dsA := by
    have gA : gdAll 0 [PyData.tuple (mo.map PyData.str), PyData.tuple bo] = true := by simpa [gd] using g1
    have zA : szAll [PyData.tuple (mo.map PyData.str), PyData.tuple bo] ≤ 800 := by
      have : szAll [PyData.tuple (mo.map PyData.str), PyData.tuple bo] + 4 + 22 ≤ 130 * q1 := z1
      omega
    have pA : PyData.depthAll [PyData.tuple (mo.map PyData.str), PyData.tuple bo] ≤ 10 := by
      have : PyData.depthAll [PyData.tuple (mo.map PyData.str), PyData.tuple bo] + 1 ≤ 3 * 3 + 2 := p1
      omega
    have aoc := ao.same s4c
    generalize [PyData.tuple (mo.map PyData.str), PyData.tuple bo] = dso at ao gA zA pA aoc g1 z1 p1 qv4
    have okl : ∀ ds : List PyData, gdAll 0 ds = true → szAll ds ≤ 1000 → PyData.depthAll ds ≤ 10 → okB (.tuple ds) = true ∧ okB (.list ds) = true := fun ds a1 a2 a3 =>
      ⟨okB_of (by simpa [gd] using a1) (by simp only [sz]; omega) (by simp only [PyData.depth]; omega), okB_of (by simpa [gd] using a1) (by simp only [sz]; omega) (by simp only [PyData.depth]; omega)⟩
    have tk := gdAll_iff.mp gA
    have o1 := okl dso gA (by omega) pA
    have o2 : okB (.tuple (dso.take 1)) = true := (okl _ (gdAll_iff.mpr fun x hx => tk x (List.mem_of_mem_take hx)) (by have := szAll_split dso 1; omega) (dp_all.mpr fun x hx => Nat.le_trans (dp_mem (List.mem_of_mem_take hx)) pA)).1
    have o3 : ∀ e : PyData, gd 0 e = true → sz e ≤ 190 → e.depth = 0 → okB (.tuple (dso ++ [e])) = true := fun e a1 a2 a3 =>
      okB_of (by simp only [gd, gdAll_app, gA, gdAll, a1, Bool.and_self]) (by simp only [sz, szAll_app, szAll]; omega) (by simp only [PyData.depth, depthAll_app, PyData.depthAll, a3]; omega)
    have o5 : okB (.tuple (dso ++ [.int 5])) = true := okB_iff.mpr ⟨by
      have z : gdAll (N1 + 10 + 10) dso = true := gdAll_mono (Nat.zero_le _) _ gA
      have y : decide (Int.natAbs 5 ≤ N1 + 10 + 10) = true := decide_eq_true (by unfold N1; decide)
      simp only [gd, gdAll_app, z, gdAll, y, Bool.and_self], by simp only [sz, szAll_app, szAll]; omega, by simp only [PyData.depth, depthAll_app, PyData.depthAll]; omega⟩
    refine ⟨[.tuple dso, db, .list dso, .tuple (dso.take 1), .tuple (dso ++ [.int 5]), .tuple (dso ++ [.str "call"]), .tuple [], .none, .int 5, .str "a", .dict []], ?_, ?_⟩
    · simp only [List.all_cons, List.all_nil, Bool.and_true, o1.1, o1.2, o2, o5, o3 (.str "call") (by decide +kernel) (by decide +kernel) rfl, okB_of gb (by omega) (by omega), Bool.true_and]
      decide +kernel
    · refine .cons (.tup (s4c _ _ eo) aoc) (.cons (qvb.same s4c) (.cons (.lst (s5c _ _ e5) aoc) (.cons (.tup (s6c _ _ e6') ?_) (.cons (.tup (s8c _ _ e8') ?_) (.cons (.tup (sac _ _ ea') ?_) (.cons (.tup (tc _ _ eb) .nil) (.cons .non (.cons (.int 5) (.cons dca (.cons (.dic ec) .nil))))))))))
      · exact (ao.take 1).same s4c
      · exact aoc.app (.cons (.int 5) .nil)
      · exact aoc.app (.cons dcl .nil)
  refine ⟨_, rfl, m, c, l4, cs, ls4, n4, rfl, Gc.mat, by omega, fun ro od Hd l5 ls5 n5 Md nnd sd qo ho => ?_⟩
  have e1d : Dq (fr Hd m l5) (.ref po) (.tuple [.tuple (mo.map PyData.str), .tuple bo]) := .tup (sd.1 _ _ (s4c _ _ eo)) ((ao.same s4c).same sd.1)
  have ebd : Dq (fr Hd m l5) vb db := (qvb.same s4c).same sd.1
  have sysd : SysF (fr Hd m l5) := (sys4.same s4c).same sd.1
  have qAd := (qA.same sd.1).app (.cons qo .nil)
  have okA : (dsA ++ [od]).all okB = true := by rw [List.all_append, hdsA]; simp [odd_ok ho]
  generalize dsA ++ [od] = dsB at qAd okA
  generalize upd (upd Ha p7 (HO.tup [])) p11 (HO.dK []) = Hc at Gc sd
  clear G4 G5 G6 G7 G8 G9 Ga Gb t5 t6 t7 t8 t9 ta tb' tc s4c s5c s6c s8c sac qA qo
  have G10 : Gw m c l5 cs ls5 n5 Hd Hd := ⟨Md, .refl⟩
  refine ⟨by show 12 ≤ sizeLine; decide, fun pT npT => ?_⟩
  obtain ⟨G11, t11, e11⟩ := G10.new (o := .lst [.ref po, vb, .ref p3, .ref p4, .ref p5, .ref p6, .ref p7, .non, .int 5, .str "a", .ref p11, ro]) npT
  refine ⟨rfl, fun vh He se qh => ?_⟩
  obtain ⟨G12, t12⟩ := G11.grow se
  have sysh := (sysd.same t11).same t12
  have e1h := (e1d.same t11).same t12
  have ebh := (ebd.same t11).same t12
  have qAh := (qAd.same t11).same t12
  have e11h := se _ _ (fr_of e11).2.2
  obtain ⟨ph, xh, rfl, eh, ah⟩ : ∃ ph xh, vh = .ref ph ∧ He ph = some (.lst xh) ∧ DqAll He xh handA := by
    cases qh with
    | lst e a => exact ⟨_, _, rfl, e, a⟩
  have lh : xh.length = 23 := ah.len
  have qhf : DqAll (fr He m l5) xh handA := ah.flat (fun b xs e => G12.tupAt e) hand_no
  refine ⟨pT, ph, _, _, rfl, rfl, e11h, eh, by rw [lh]; show 12 + 23 ≤ sizeLine; decide, fun pU npU => ?_⟩
  obtain ⟨G13, t13, e13⟩ := G12.new (o := .lst ([.ref po, vb, .ref p3, .ref p4, .ref p5, .ref p6, .ref p7, .non, .int 5, .str "a", .ref p11, ro] ++ xh)) npU
  have qT := (qAh.app qhf).same t13
  have okT : (dsB ++ handA).all okB = true := by rw [List.all_append, okA, hand_ok]; rfl
  have tl : dsB.length = 12 := by rw [← qAd.len]; rfl
  have tlen : (dsB ++ handA).length = 35 := by rw [List.length_append, tl]; rfl
  have e1n := e1h.same t13
  have ebn := ebh.same t13
  have sysn := sysh.same t13
  have F13 : MAt _ m c l5 cs ls5 n5 := G13.mat
  generalize dsB ++ handA = dsT at qT okT tlen
  change DqAll _ ([.ref po, vb, .ref p3, .ref p4, .ref p5, .ref p6, .ref p7, .non, .int 5, .str "a", .ref p11, ro] ++ xh) _ at qT
  show gName 5 _ _ (upd He pU (.lst ([.ref po, vb, .ref p3, .ref p4, .ref p5, .ref p6, .ref p7, .non, .int 5, .str "a", .ref p11, ro] ++ xh))) _
  generalize [V.ref po, vb, .ref p3, .ref p4, .ref p5, .ref p6, .ref p7, .non, .int 5, .str "a", .ref p11, ro] ++ xh = xT at qT e13 F13 e1n ebn sysn G13 t13 ⊢
  generalize upd He pU (HO.lst xT) = HT at qT e13 F13 e1n ebn sysn G13 t13 ⊢
  have n5' : n5 ≤ 5000 * (i : Int) + 1301 := by omega
  -- six times
  refine ⟨6, rfl, by decide, by decide, for_range (n := 6) (fun j σ' H' => ∃ (pT : Addr) (xT : List V) (dsT : List PyData) (l' : Addr) (ls' : List Int) (n' : Int) (v6 v7 v8 v9 v10 v11 : Option V), σ' = [some (V.ref a), some (V.ref m), some (V.int (0 + (i : Int))), some (V.ref po), some vb, some (V.ref pT), v6, v7, v8, v9, v10, v11] ∧
      MAt H' m c l' cs ls' n' ∧ n' ≤ 5000 * (i : Int) + 1301 + 300 * (j : Int) ∧ SysF (fr H' m l') ∧ Dq (fr H' m l') (.ref po) (.tuple [.tuple (mo.map PyData.str), .tuple bo]) ∧ Dq (fr H' m l') vb db ∧
      fr H' m l' pT = some (.lst xT) ∧ DqAll (fr H' m l') xT dsT ∧ dsT.all okB = true ∧ dsT.length = 35 + 2 * j)
    ⟨pU, xT, dsT, l5, ls5, n5, _, _, _, _, _, _, rfl, F13, by omega, sysn, e1n, ebn, e13, qT, okT, tlen⟩ ?_ ?_⟩
  · rintro j σ' H' hj ⟨pT, xT, dsT, l', ls', n', v6, v7, v8, v9, v10, v11, rfl, M', hn', sys', e1', eb', eT, qT, okT, tlen⟩
    have hpar : (0 + (j : Int)).fmod 2 = 0 ∨ (0 + (j : Int)).fmod 2 = 1 := by
      have h0 := Int.fmod_nonneg_of_pos (0 + (j : Int)) (show (0 : Int) < 2 by decide)
      have h1 := Int.fmod_lt_of_pos (0 + (j : Int)) (show (0 : Int) < 2 by decide)
      omega
    have G0 : Gw m c l' cs ls' n' H' H' := ⟨M', .refl⟩
    refine ⟨_, rfl, _, rfl, _, rfl, by show 2 ≤ sizeLine; decide, fun pl npl => ?_⟩
    obtain ⟨G1, u1, f1⟩ := G0.new (o := .lst [.ref po, vb]) npl
    obtain ⟨vx, dx, hx, qx, gx, zx, px⟩ : ∃ vx dx, atI [V.ref po, vb] ((0 + (j : Int)).fmod 2) = some vx ∧ Dq (fr (upd H' pl (.lst [.ref po, vb])) m l') vx dx ∧ gd 0 dx = true ∧ sz dx ≤ 1000 ∧ dx.depth ≤ 11 := by
      rcases hpar with z | z
      · rw [z]
        exact ⟨_, _, atI_nat (j := 0) rfl, e1'.same u1, g1, by omega, p1⟩
      · rw [z]
        exact ⟨_, _, atI_nat (j := 1) rfl, eb'.same u1, gb, by omega, dpb⟩
    refine ⟨_, rfl, _, _, rfl, rfl, (by show (2 : Int) ≠ 0; decide), pl, _, _, vx, rfl, rfl, SqL.of (fr_of f1).2.2, hx, ?_⟩
    refine ⟨m, c, l', cs, ls', n', vx, dx, rfl, G1.mat, by omega, qx, gd_mono (Nat.zero_le _) _ gx, by omega, by omega, fun rb1 db1 H5 l5 ls5 n5 M5 nn5 s5 qb1 bb1 => ?_⟩
    obtain ⟨ga1, za1, pa1⟩ := bb1
    have G5 : Gw m c l5 cs ls5 n5 H5 H5 := ⟨M5, .refl⟩
    refine ⟨_, rfl, _, rfl, _, rfl, _, rfl, m, c, l5, cs, ls5, n5, rb1, db1, rfl, M5, by omega, qb1, ga1, by omega, by omega, fun rb2 db2 H6 l6 ls6 n6 M6 nn6 s6 qb2 bb2 => ?_⟩
    obtain ⟨ga2, za2, pa2⟩ := bb2
    refine ⟨by show 2 ≤ sizeLine; decide, fun pk npk => ?_⟩
    have G6 : Gw m c l6 cs ls6 n6 H6 H6 := ⟨M6, .refl⟩
    obtain ⟨G7, u7, f7⟩ := G6.new (o := .lst [rb1, rb2]) npk
    have s17 := same_trans u1 (same_trans s5.1 (same_trans s6.1 u7))
    have eT7 := s17 _ _ eT
    refine ⟨pT, pk, xT, _, rfl, rfl, (fr_of eT7).2.2, upd_same, ?_, fun pN npN => ?_⟩
    · rw [qT.len, tlen]
      show 35 + 2 * j + 2 ≤ sizeLine
      exact Nat.le_trans (show 35 + 2 * j + 2 ≤ 60 by omega) (by decide)
    obtain ⟨G8, u8, f8⟩ := G7.new (o := .lst (xT ++ [rb1, rb2])) npN
    have s18 := same_trans s17 u8
    have ok1 : okB db1 = true := okB_iff.mpr ⟨gd_mono (by omega) _ ga1, by omega, by omega⟩
    have ok2 : okB db2 = true := okB_iff.mpr ⟨ga2, by omega, by omega⟩
    refine ⟨pN, xT ++ [rb1, rb2], dsT ++ [db1, db2], l6, ls6, n6, _, _, _, _, _, _, rfl, G8.mat, by omega, sys'.same s18, e1'.same s18, eb'.same s18, f8, ?_, ?_, ?_⟩
    · exact (qT.same s18).app (.cons (((qb1.same s6.1).same u7).same u8) (.cons ((qb2.same u7).same u8) .nil))
    · rw [List.all_append, okT]
      simp only [List.all_cons, List.all_nil, ok1, ok2, Bool.and_self]
    · rw [List.length_append, tlen]
      show 35 + 2 * j + 2 = 35 + 2 * (j + 1)
      omega
  rintro σ' H' ⟨pT, xT, dsT, l', ls', n', v6, v7, v8, v9, v10, v11, rfl, M', hn', sys', e1', eb', eT, qT, okT, tlen⟩
  have hn9 : n' ≤ 5000 * (i : Int) + 3101 := by omega
  refine ⟨_, rfl, pT, rfl, ⟨_, SqL.of (fr_of eT).2.2⟩, for_list (xs := xT) (fun j σ'' H'' => ∃ (v8 v9 v10 v11 : Option V), σ'' = [some (V.ref a), some (V.ref m), some (V.int (0 + (i : Int))), some (V.ref po), some vb, some (V.ref pT), v6, v7, v8, v9, v10, v11] ∧ Same H' H'')
    ⟨_, _, _, _, rfl, same_refl⟩ (fun j σ H _ ⟨_, _, _, _, _, s⟩ => SqL.of (s _ _ (fr_of eT).2.2)) ?_ ?_⟩
  rotate_left
  · rintro σ'' H'' ⟨v8, v9, v10, v11, rfl, sE⟩
    have G0 : Gw m c l' cs ls' n' H' H' := ⟨M', .refl⟩
    obtain ⟨G1, u1⟩ := G0.grow sE
    exact ⟨l', ls', n', _, _, _, _, _, _, _, _, _, _, rfl, G1.mat, by omega, sys'.same u1⟩
  rintro j v σ'' H'' hj ⟨v8, v9, v10, v11, rfl, sT⟩
  have hjl : j < dsT.length := by
    have := (List.getElem?_eq_some_iff.mp hj).1
    rw [← qT.len]
    exact this
  have hdj : dsT[j]? = some dsT[j] := List.getElem?_eq_getElem hjl
  have okd : okB dsT[j] = true := List.all_eq_true.mp okT _ (List.getElem_mem hjl)
  generalize dsT[j] = d at hdj okd
  obtain ⟨v', hv', qv0⟩ := qT.at hdj
  obtain rfl : v = v' := Option.some.inj (hj.symm.trans hv')
  have sys : SysF H'' := (sys'.same fr_same).same sT
  have qv : Dq H'' v d := (qv0.same fr_same).same sT
  have okT' := okB_T okd
  have ok := okT'.self
  refine ⟨_, rfl, v, d, rfl, sys, qv, ok.1, ok.2.1, ok.2.2, ?_⟩
  refine ⟨_, rfl, v, rfl, v, d, rfl, sys, qv, okT', fun rc H5 s5 cv => ⟨_, _, rfl, ?_⟩⟩
  rcases cv with ⟨rfl, big⟩ | ⟨pf, fs, nf, rfl, ef, er, en⟩
  · refine ⟨_, rfl, Nat.zero_le _, fun pe npe => ⟨.none, .list [], .non, dp_nil upd_same, rfl, shaped_ints [], ?_⟩⟩
    refine ⟨_, rfl, rfl, _, rfl, iteF ⟨by show 2 ≤ sizeLine; decide, fun pd npd => ?_⟩⟩
    have no : ∀ c : Int, shape c d = false := fun c => shape_bool c ⟨fun ⟨n, e, h6⟩ => by
      have := big _ _ _ e
      omega, fun z => by cases z⟩
    obtain ⟨b1, hb1⟩ : ∃ b1, b1 = PyData.eqv .none (.list []) := ⟨_, rfl⟩
    obtain ⟨b2, hb2⟩ : ∃ b2 : Bool, b2 = false := ⟨_, rfl⟩
    rw [← hb1, ← hb2]
    have hb1 : shape 0 d = b1 := by rw [no, hb1]; rfl
    have hb2 : shape 1 d = b2 := by rw [no, hb2]
    have sD := same_trans s5 (same_new (o := .lst []) npe)
    generalize upd H5 pe (HO.lst []) = HD at sD npd ⊢
    have sP := same_trans sD (same_new (o := .lst [.bl b1, .bl b2]) npd)
    have eP : upd HD pd (HO.lst [V.bl b1, V.bl b2]) pd = some (.lst [.bl b1, .bl b2]) := upd_same
    generalize upd HD pd (HO.lst [V.bl b1, V.bl b2]) = HP at sP eP
    have okbb : ∀ x y : Bool, OkD (.list [.bool x, .bool y]) := fun x y => (okT_of (N := 0) (Nat.zero_le _) rfl (by cases x <;> cases y <;> decide +kernel) (by cases x <;> cases y <;> decide +kernel)).self
    refine ⟨_, rfl, v, d, rfl, qv.same sP, fun H3 s3 => ⟨_, rfl, v, d, rfl, (qv.same sP).same s3, fun H4 s4 => ⟨by show 2 ≤ sizeLine; decide, fun pl npl => ?_⟩⟩⟩
    have s5 := same_trans (same_trans sP s3) (same_trans s4 (same_new (o := .lst [.bl (shape 0 d), .bl (shape 1 d)]) npl))
    have eP5 := same_new (o := .lst [.bl (shape 0 d), .bl (shape 1 d)]) npl _ _ (s4 _ _ (s3 _ _ eP))
    have eL5 : upd H4 pl (HO.lst [V.bl (shape 0 d), V.bl (shape 1 d)]) pl = some (.lst [.bl (shape 0 d), .bl (shape 1 d)]) := upd_same
    generalize upd H4 pl (HO.lst [V.bl (shape 0 d), V.bl (shape 1 d)]) = H5 at s5 eP5 eL5
    rw [hb1, hb2] at eL5
    refine ⟨_, .list [.bool b1, .bool b2], rfl, sys.same s5, .lst eL5 (.cons (.bl _) (.cons (.bl _) .nil)), (okbb b1 b2).1, (okbb b1 b2).2.1, (okbb b1 b2).2.2, ?_⟩
    refine ⟨_, rfl, _, .list [.bool b1, .bool b2], rfl, sys.same s5, .lst eP5 (.cons (.bl _) (.cons (.bl _) .nil)), (okbb b1 b2).1, (okbb b1 b2).2.1, (okbb b1 b2).2.2, rfl, _, rfl, ?_⟩
    refine iteNS rfl ?_
    refine ⟨_, rfl, v, d, rfl, sys.same s5, qv.same s5, ok.1, ok.2.1, ok.2.2, _, rfl, rfl, _, rfl, ?_⟩
    refine iteNS rfl ?_
    exact ⟨_, _, _, _, rfl, same_trans sT s5⟩
  · refine ⟨_, rfl, Nat.zero_le _, fun pe npe => ⟨.list (fs.map PyData.int), .list [], dp_list (SqL.of (same_new npe _ _ ef)), dp_nil upd_same, shaped_ints _, shaped_ints [], ?_⟩⟩
    have h0 : shape 0 d = PyData.eqv (.list (fs.map PyData.int)) (.list []) := by
      rw [eqv_intsNil]
      refine shape_bool 0 ⟨fun ⟨n, e, h6⟩ => ?_, fun z => ?_⟩
      · rw [er] at e
        simp only [Option.some.injEq, Prod.mk.injEq] at e
        have : fs.length = 0 := by omega
        rw [List.length_eq_zero_iff.mp this]
        rfl
      · rw [List.isEmpty_iff.mp z] at er
        exact ⟨nf, er, en⟩
    have h1 : ∀ b : Bool, ((fs.length = 1 ∧ zr fs = 0) ↔ b = true) → shape 1 d = b := fun b hb => by
      refine shape_bool 1 ⟨fun ⟨n, e, h6⟩ => ?_, fun z => ?_⟩
      · rw [er] at e
        simp only [Option.some.injEq, Prod.mk.injEq] at e
        exact hb.mp ⟨by omega, e.2.2⟩
      · obtain ⟨z1, z2⟩ := hb.mpr z
        rw [z1, z2] at er
        exact ⟨nf, er, en⟩
    refine ⟨_, rfl, rfl, _, rfl, iteT ?_⟩
    have sD := same_trans s5 (same_new (o := .lst []) npe)
    have efD := same_new (o := .lst []) npe _ _ ef
    generalize upd H5 pe (HO.lst []) = HD at sD efD ⊢
    obtain ⟨b1, hb1'⟩ : ∃ b1, b1 = PyData.eqv (.list (fs.map PyData.int)) (.list []) := ⟨_, rfl⟩
    rw [← hb1'] at h0 ⊢
    have hb1 := h0
    refine ⟨_, rfl, pf, _, rfl, .inl (SqL.of efD), rfl, _, rfl, ?_⟩
    rw [List.length_map]
    by_cases hl : fs.length = 1
    · obtain ⟨x, rfl⟩ := List.length_eq_one_iff.mp hl
      refine iteT ⟨_, rfl, pf, _, 0, .int x, rfl, rfl, SqL.of efD, atI_nat (j := 0) rfl, _, _, rfl, rfl, by show 2 ≤ sizeLine; decide, fun pd npd => ?_⟩
      show gName 11 _ _ (upd HD pd (.lst [V.bl b1, V.bl (decide ((0 : Int) < x))])) _
      obtain ⟨b2, hb2'⟩ : ∃ b2, b2 = decide ((0 : Int) < x) := ⟨_, rfl⟩
      rw [← hb2']
      have hb2 : shape 1 d = b2 := h1 b2 (by
        rw [hb2', decide_eq_true_eq]
        unfold zr
        by_cases hx : x ≤ 0
        · rw [List.filter_cons_of_pos (by simpa using hx)]
          constructor
          · intro ⟨_, z⟩
            simp at z
          · intro z
            omega
        · rw [List.filter_cons_of_neg (by simpa using hx)]
          exact ⟨fun _ => by omega, fun _ => ⟨rfl, rfl⟩⟩)
      have sP := same_trans sD (same_new (o := .lst [.bl b1, .bl b2]) npd)
      have eP : upd HD pd (HO.lst [V.bl b1, V.bl b2]) pd = some (.lst [.bl b1, .bl b2]) := upd_same
      generalize upd HD pd (HO.lst [V.bl b1, V.bl b2]) = HP at sP eP
      have okbb : ∀ x y : Bool, OkD (.list [.bool x, .bool y]) := fun x y => (okT_of (N := 0) (Nat.zero_le _) rfl (by cases x <;> cases y <;> decide +kernel) (by cases x <;> cases y <;> decide +kernel)).self
      refine ⟨_, rfl, v, d, rfl, qv.same sP, fun H3 s3 => ⟨_, rfl, v, d, rfl, (qv.same sP).same s3, fun H4 s4 => ⟨by show 2 ≤ sizeLine; decide, fun pl npl => ?_⟩⟩⟩
      have s5 := same_trans (same_trans sP s3) (same_trans s4 (same_new (o := .lst [.bl (shape 0 d), .bl (shape 1 d)]) npl))
      have eP5 := same_new (o := .lst [.bl (shape 0 d), .bl (shape 1 d)]) npl _ _ (s4 _ _ (s3 _ _ eP))
      have eL5 : upd H4 pl (HO.lst [V.bl (shape 0 d), V.bl (shape 1 d)]) pl = some (.lst [.bl (shape 0 d), .bl (shape 1 d)]) := upd_same
      generalize upd H4 pl (HO.lst [V.bl (shape 0 d), V.bl (shape 1 d)]) = H5 at s5 eP5 eL5
      rw [hb1, hb2] at eL5
      refine ⟨_, .list [.bool b1, .bool b2], rfl, sys.same s5, .lst eL5 (.cons (.bl _) (.cons (.bl _) .nil)), (okbb b1 b2).1, (okbb b1 b2).2.1, (okbb b1 b2).2.2, ?_⟩
      refine ⟨_, rfl, _, .list [.bool b1, .bool b2], rfl, sys.same s5, .lst eP5 (.cons (.bl _) (.cons (.bl _) .nil)), (okbb b1 b2).1, (okbb b1 b2).2.1, (okbb b1 b2).2.2, rfl, _, rfl, ?_⟩
      refine iteNS rfl ?_
      refine ⟨_, rfl, v, d, rfl, sys.same s5, qv.same s5, ok.1, ok.2.1, ok.2.2, _, rfl, rfl, _, rfl, ?_⟩
      refine iteNS rfl ?_
      exact ⟨_, _, _, _, rfl, same_trans sT s5⟩
    · rw [show decide (V.int (fs.length : Int) = V.int 1) = false from decide_eq_false fun z => hl (by have := V.int.inj z; omega)]
      refine iteF ⟨by show 2 ≤ sizeLine; decide, fun pd npd => ?_⟩
      obtain ⟨b2, hb2'⟩ : ∃ b2 : Bool, b2 = false := ⟨_, rfl⟩
      rw [← hb2']
      have hb2 : shape 1 d = b2 := h1 b2 ⟨fun ⟨z, _⟩ => absurd z hl, fun z => by rw [hb2'] at z; cases z⟩
      have sP := same_trans sD (same_new (o := .lst [.bl b1, .bl b2]) npd)
      have eP : upd HD pd (HO.lst [V.bl b1, V.bl b2]) pd = some (.lst [.bl b1, .bl b2]) := upd_same
      generalize upd HD pd (HO.lst [V.bl b1, V.bl b2]) = HP at sP eP
      have okbb : ∀ x y : Bool, OkD (.list [.bool x, .bool y]) := fun x y => (okT_of (N := 0) (Nat.zero_le _) rfl (by cases x <;> cases y <;> decide +kernel) (by cases x <;> cases y <;> decide +kernel)).self
      refine ⟨_, rfl, v, d, rfl, qv.same sP, fun H3 s3 => ⟨_, rfl, v, d, rfl, (qv.same sP).same s3, fun H4 s4 => ⟨by show 2 ≤ sizeLine; decide, fun pl npl => ?_⟩⟩⟩
      have s5 := same_trans (same_trans sP s3) (same_trans s4 (same_new (o := .lst [.bl (shape 0 d), .bl (shape 1 d)]) npl))
      have eP5 := same_new (o := .lst [.bl (shape 0 d), .bl (shape 1 d)]) npl _ _ (s4 _ _ (s3 _ _ eP))
      have eL5 : upd H4 pl (HO.lst [V.bl (shape 0 d), V.bl (shape 1 d)]) pl = some (.lst [.bl (shape 0 d), .bl (shape 1 d)]) := upd_same
      generalize upd H4 pl (HO.lst [V.bl (shape 0 d), V.bl (shape 1 d)]) = H5 at s5 eP5 eL5
      rw [hb1, hb2] at eL5
      refine ⟨_, .list [.bool b1, .bool b2], rfl, sys.same s5, .lst eL5 (.cons (.bl _) (.cons (.bl _) .nil)), (okbb b1 b2).1, (okbb b1 b2).2.1, (okbb b1 b2).2.2, ?_⟩
      refine ⟨_, rfl, _, .list [.bool b1, .bool b2], rfl, sys.same s5, .lst eP5 (.cons (.bl _) (.cons (.bl _) .nil)), (okbb b1 b2).1, (okbb b1 b2).2.1, (okbb b1 b2).2.2, rfl, _, rfl, ?_⟩
      refine iteNS rfl ?_
      refine ⟨_, rfl, v, d, rfl, sys.same s5, qv.same s5, ok.1, ok.2.1, ok.2.2, _, rfl, rfl, _, rfl, ?_⟩
      refine iteNS rfl ?_
      exact ⟨_, _, _, _, rfl, same_trans sT s5⟩
end
end K01
set_option Elab.async false
set_option linter.all false
set_option maxRecDepth 100000
set_option maxHeartbeats 4000000
namespace K01
open PySem L2 L2H PySem.W
abbrev pK : Program := PySem.Challenge.pw_onlyjoins_k01_whole_trees_told_apart
theorem all_mk {w : World} {K : PySem.W.Frag} {h : Heap} {mg : Str → Option Value} {fa : Addr} (X : K.In h) (G : h.Ns mainGlobals mg) (hfa : mg "law" = some (.ref fa))
    {fW : Addr} {odW anW : Option Addr} {slW : Array (Option Value)} {ocW kVW dcW pmW cdW ctW : Value}
    {fM : Addr} {odM anM : Option Addr} {slM : Array (Option Value)} {ocM kVM dcM pmM cdM ctM : Value}
    {fTr : Addr} {odTr anTr : Option Addr} {slTr : Array (Option Value)} {ocTr kVTr dcTr pmTr cdTr ctTr : Value}
    {fBo : Addr} {odBo anBo : Option Addr} {slBo : Array (Option Value)} {ocBo kVBo dcBo pmBo cdBo ctBo : Value}
    {fSh : Addr} {odSh anSh : Option Addr} {slSh : Array (Option Value)} {ocSh kVSh dcSh pmSh cdSh ctSh : Value}
    {fCt : Addr} {odCt anCt : Option Addr} {slCt : Array (Option Value)} {ocCt kVCt dcCt pmCt cdCt ctCt : Value}
    {fNd : Addr} {odNd anNd : Option Addr} {slNd : Array (Option Value)} {ocNd kVNd dcNd pmNd cdNd ctNd : Value}
    {fP : Addr} {odP anP : Option Addr} {slP : Array (Option Value)} {ocP kVP dcP pmP cdP ctP : Value}
    {fCl : Addr} {odCl anCl : Option Addr} {slCl : Array (Option Value)} {ocCl kVCl dcCl pmCl cdCl ctCl : Value}
    {fB : Addr} {odB anB : Option Addr} {slB : Array (Option Value)} {ocB kVB dcB pmB cdB ctB : Value}
    {fN : Addr} {odN anN : Option Addr} {slN : Array (Option Value)} {ocN kVN dcN pmN cdN ctN : Value}
    {fNm : Addr} {odNm anNm : Option Addr} {slNm : Array (Option Value)} {ocNm kVNm dcNm pmNm cdNm ctNm : Value}
    {fO : Addr} {odO anO : Option Addr} {slO : Array (Option Value)} {ocO kVO dcO pmO cdO ctO : Value}
    {fE : Addr} {odE anE : Option Addr} {slE : Array (Option Value)} {ocE kVE dcE pmE cdE ctE : Value}
    {fT : Addr} {odT anT : Option Addr} {slT : Array (Option Value)} {ocT kVT dcT pmT cdT ctT : Value}
    {fY : Addr} {odY anY : Option Addr} {slY : Array (Option Value)} {ocY kVY dcY pmY cdY ctY : Value}
    {fC : Addr} {odC anC : Option Addr} {slC : Array (Option Value)} {ocC kVC dcC pmC cdC ctC : Value}
    {fH : Addr} {odH anH : Option Addr} {slH : Array (Option Value)} {ocH kVH dcH pmH cdH ctH : Value}
    {fL : Addr} {odL anL : Option Addr} {slL : Array (Option Value)} {ocL kVL dcL pmL cdL ctL : Value}
    {t8 tm3 tb3 tn6 tl3 tca : Tok}
    (aW : PySem.W.nsIn K mainGlobals "is_word" = some (some (.ref fW))) (lW : K.lookup fW = some ⟨ocW, odW, .func (PySem.W.fnOf "is_word" "is_word" (defArgs sWord) (defBody sWord) (defScope sWord) .none kVW dcW pmW anW cdW ctW), slW⟩) (cW : PySem.W.codeIn K cdW "is_word" = true) (kW : PySem.W.keepIn K (.ref fW) = true)
    (aM : PySem.W.nsIn K mainGlobals "are_words" = some (some (.ref fM))) (lM : K.lookup fM = some ⟨ocM, odM, .func (PySem.W.fnOf "are_words" "are_words" (defArgs sMarks) (defBody sMarks) (defScope sMarks) .none kVM dcM pmM anM cdM ctM), slM⟩) (cM : PySem.W.codeIn K cdM "are_words" = true) (kM : PySem.W.keepIn K (.ref fM) = true)
    (aTr : PySem.W.nsIn K mainGlobals "is_tree" = some (some (.ref fTr))) (lTr : K.lookup fTr = some ⟨ocTr, odTr, .func (PySem.W.fnOf "is_tree" "is_tree" (defArgs sTr) (defBody sTr) (defScope sTr) .none kVTr dcTr pmTr anTr cdTr ctTr), slTr⟩) (cTr : PySem.W.codeIn K cdTr "is_tree" = true) (kTr : PySem.W.keepIn K (.ref fTr) = true)
    (aBo : PySem.W.nsIn K mainGlobals "is_body" = some (some (.ref fBo))) (lBo : K.lookup fBo = some ⟨ocBo, odBo, .func (PySem.W.fnOf "is_body" "is_body" (defArgs sBo) (defBody sBo) (defScope sBo) .none kVBo dcBo pmBo anBo cdBo ctBo), slBo⟩) (cBo : PySem.W.codeIn K cdBo "is_body" = true) (kBo : PySem.W.keepIn K (.ref fBo) = true)
    (aSh : PySem.W.nsIn K mainGlobals "_is_shape" = some (some (.ref fSh))) (lSh : K.lookup fSh = some ⟨ocSh, odSh, .func (PySem.W.fnOf "_is_shape" "_is_shape" (defArgs sShape) (defBody sShape) (defScope sShape) .none kVSh dcSh pmSh anSh cdSh ctSh), slSh⟩) (cSh : PySem.W.codeIn K cdSh "_is_shape" = true) (kSh : PySem.W.keepIn K (.ref fSh) = true)
    (aCt : PySem.W.nsIn K mainGlobals "_counts" = some (some (.ref fCt))) (lCt : K.lookup fCt = some ⟨ocCt, odCt, .func (PySem.W.fnOf "_counts" "_counts" (defArgs sCount) (defBody sCount) (defScope sCount) .none kVCt dcCt pmCt anCt cdCt ctCt), slCt⟩) (cCt : PySem.W.codeIn K cdCt "_counts" = true) (kCt : PySem.W.keepIn K (.ref fCt) = true)
    (aNd : PySem.W.nsIn K mainGlobals "_is_node" = some (some (.ref fNd))) (lNd : K.lookup fNd = some ⟨ocNd, odNd, .func (PySem.W.fnOf "_is_node" "_is_node" (defArgs sNode) (defBody sNode) (defScope sNode) .none kVNd dcNd pmNd anNd cdNd ctNd), slNd⟩) (cNd : PySem.W.codeIn K cdNd "_is_node" = true) (kNd : PySem.W.keepIn K (.ref fNd) = true)
    (aP : PySem.W.nsIn K mainGlobals "_is_pair" = some (some (.ref fP))) (lP : K.lookup fP = some ⟨ocP, odP, .func (PySem.W.fnOf "_is_pair" "_is_pair" (defArgs sPair) (defBody sPair) (defScope sPair) .none kVP dcP pmP anP cdP ctP), slP⟩) (cP : PySem.W.codeIn K cdP "_is_pair" = true) (kP : PySem.W.keepIn K (.ref fP) = true)
    (aCl : PySem.W.nsIn K mainGlobals "_is_call" = some (some (.ref fCl))) (lCl : K.lookup fCl = some ⟨ocCl, odCl, .func (PySem.W.fnOf "_is_call" "_is_call" (defArgs sCall) (defBody sCall) (defScope sCall) .none kVCl dcCl pmCl anCl cdCl ctCl), slCl⟩) (cCl : PySem.W.codeIn K cdCl "_is_call" = true) (kCl : PySem.W.keepIn K (.ref fCl) = true)
    (aB : PySem.W.nsIn K mainGlobals "_law_begun" = some (some (.ref fB))) (lB : K.lookup fB = some ⟨ocB, odB, .func (PySem.W.fnOf "_law_begun" "_law_begun" (defArgs sBeg) (defBody sBeg) (defScope sBeg) .none kVB dcB pmB anB cdB ctB), slB⟩) (cB : PySem.W.codeIn K cdB "_law_begun" = true) (kB : PySem.W.keepIn K (.ref fB) = true)
    (aN : PySem.W.nsIn K mainGlobals "_law_next" = some (some (.ref fN))) (lN : K.lookup fN = some ⟨ocN, odN, .func (PySem.W.fnOf "_law_next" "_law_next" (defArgs sNext) (defBody sNext) (defScope sNext) .none kVN dcN pmN anN cdN ctN), slN⟩) (cN : PySem.W.codeIn K cdN "_law_next" = true) (kN : PySem.W.keepIn K (.ref fN) = true)
    (aNm : PySem.W.nsIn K mainGlobals "_law_is_name" = some (some (.ref fNm))) (lNm : K.lookup fNm = some ⟨ocNm, odNm, .func (PySem.W.fnOf "_law_is_name" "_law_is_name" (defArgs sName) (defBody sName) (defScope sName) .none kVNm dcNm pmNm anNm cdNm ctNm), slNm⟩) (cNm : PySem.W.codeIn K cdNm "_law_is_name" = true) (kNm : PySem.W.keepIn K (.ref fNm) = true)
    (aO : PySem.W.nsIn K mainGlobals "_law_odd" = some (some (.ref fO))) (lO : K.lookup fO = some ⟨ocO, odO, .func (PySem.W.fnOf "_law_odd" "_law_odd" (defArgs sOdd) (defBody sOdd) (defScope sOdd) .none kVO dcO pmO anO cdO ctO), slO⟩) (cO : PySem.W.codeIn K cdO "_law_odd" = true) (kO : PySem.W.keepIn K (.ref fO) = true)
    (aE : PySem.W.nsIn K mainGlobals "_law_bent" = some (some (.ref fE))) (lE : K.lookup fE = some ⟨ocE, odE, .func (PySem.W.fnOf "_law_bent" "_law_bent" (defArgs sBent) (defBody sBent) (defScope sBent) .none kVE dcE pmE anE cdE ctE), slE⟩) (cE : PySem.W.codeIn K cdE "_law_bent" = true) (kE : PySem.W.keepIn K (.ref fE) = true)
    (aT : PySem.W.nsIn K mainGlobals "_law_tree" = some (some (.ref fT))) (lT : K.lookup fT = some ⟨ocT, odT, .func (PySem.W.fnOf "_law_tree" "_law_tree" (defArgs sTree) (defBody sTree) (defScope sTree) .none kVT dcT pmT anT cdT ctT), slT⟩) (cT : PySem.W.codeIn K cdT "_law_tree" = true) (kT : PySem.W.keepIn K (.ref fT) = true)
    (aY : PySem.W.nsIn K mainGlobals "_law_body" = some (some (.ref fY))) (lY : K.lookup fY = some ⟨ocY, odY, .func (PySem.W.fnOf "_law_body" "_law_body" (defArgs sBody) (defBody sBody) (defScope sBody) .none kVY dcY pmY anY cdY ctY), slY⟩) (cY : PySem.W.codeIn K cdY "_law_body" = true) (kY : PySem.W.keepIn K (.ref fY) = true)
    (aC : PySem.W.nsIn K mainGlobals "_law_calls" = some (some (.ref fC))) (lC : K.lookup fC = some ⟨ocC, odC, .func (PySem.W.fnOf "_law_calls" "_law_calls" (defArgs sCalls) (defBody sCalls) (defScope sCalls) .none kVC dcC pmC anC cdC ctC), slC⟩) (cC : PySem.W.codeIn K cdC "_law_calls" = true) (kC : PySem.W.keepIn K (.ref fC) = true)
    (aH : PySem.W.nsIn K mainGlobals "_law_by_hand" = some (some (.ref fH))) (lH : K.lookup fH = some ⟨ocH, odH, .func (PySem.W.fnOf "_law_by_hand" "_law_by_hand" (defArgs sHand) (defBody sHand) (defScope sHand) .none kVH dcH pmH anH cdH ctH), slH⟩) (cH : PySem.W.codeIn K cdH "_law_by_hand" = true) (kH : PySem.W.keepIn K (.ref fH) = true)
    (aL : PySem.W.nsIn K mainGlobals "law" = some (some (.ref fL))) (lL : K.lookup fL = some ⟨ocL, odL, .func (PySem.W.fnOf "law" "law" (defArgs sLaw) (defBody sLaw) (defScope sLaw) .none kVL dcL pmL anL cdL ctL), slL⟩) (cL : PySem.W.codeIn K cdL "law" = true) (kL : PySem.W.keepIn K (.ref fL) = true)
    (y8 : PySem.W.nsIn K mainGlobals "LONGEST_WORD" = some (some (.int 8 t8)))
    (ym3 : PySem.W.nsIn K mainGlobals "MOST_MARKS" = some (some (.int 3 tm3)))
    (yb3 : PySem.W.nsIn K mainGlobals "MOST_BRANCHES" = some (some (.int 3 tb3)))
    (yn6 : PySem.W.nsIn K mainGlobals "MOST_NODES" = some (some (.int 6 tn6)))
    (yl3 : PySem.W.nsIn K mainGlobals "MOST_LEVEL" = some (some (.int 3 tl3)))
    (yca : PySem.W.nsIn K mainGlobals "CALL" = some (some (.str "call" tca)))
    (z0 : PySem.W.nsIn K mainGlobals "isinstance" = some none)
    (z1 : PySem.W.nsIn K mainGlobals "str" = some none)
    (z2 : PySem.W.nsIn K mainGlobals "tuple" = some none)
    (z3 : PySem.W.nsIn K mainGlobals "len" = some none)
    (z4 : PySem.W.nsIn K mainGlobals "all" = some none)
    (z5 : PySem.W.nsIn K mainGlobals "zip" = some none)
    (z6 : PySem.W.nsIn K mainGlobals "list" = some none)
    (z7 : PySem.W.nsIn K mainGlobals "set" = some none)
    (z8 : PySem.W.nsIn K mainGlobals "sorted" = some none)
    (z9 : PySem.W.nsIn K mainGlobals "repr" = some none)
    (z10 : PySem.W.nsIn K mainGlobals "min" = some none)
    (z11 : PySem.W.nsIn K mainGlobals "range" = some none)
    (z12 : PySem.W.nsIn K mainGlobals "int" = some none)
    (z13 : PySem.W.nsIn K mainGlobals "bool" = some none) :
    ∃ fd : FuncData, (∀ (s : Shared) (u : Value), BindsTo s fd ⟨[u], []⟩ [("script", u)]) ∧ ∀ base : Heap, K.In base → base.Ns mainGlobals mg → AtTop pK w K mg base fa fd "script" (spLaw K) := by
  have e := hfa.symm.trans (PySem.W.mg_of X G aL)
  cases e
  have no : ∀ {n : Str}, PySem.W.nsIn K mainGlobals n = some none → mg n = none := fun {n} z => PySem.W.mg_none_of X G z
  have FW := fun_mk (st := sWord) lW cW kW
  have BW := FW.binds (ps := ["thing"]) fun _ _ _ _ _ _ us hl => match us, hl with | [_], _ => rfl
  have gW : mg "is_word" = some (.ref fW) := PySem.W.mg_of X G aW
  have FM := fun_mk (st := sMarks) lM cM kM
  have BM := FM.binds (ps := ["thing", "least", "most"]) fun _ _ _ _ _ _ us hl => match us, hl with | [_, _, _], _ => rfl
  have gM : mg "are_words" = some (.ref fM) := PySem.W.mg_of X G aM
  have FTr := fun_mk (st := sTr) lTr cTr kTr
  have BTr := FTr.binds (ps := ["thing"]) fun _ _ _ _ _ _ us hl => match us, hl with | [_], _ => rfl
  have gTr : mg "is_tree" = some (.ref fTr) := PySem.W.mg_of X G aTr
  have FBo := fun_mk (st := sBo) lBo cBo kBo
  have BBo := FBo.binds (ps := ["thing"]) fun _ _ _ _ _ _ us hl => match us, hl with | [_], _ => rfl
  have gBo : mg "is_body" = some (.ref fBo) := PySem.W.mg_of X G aBo
  have FSh := fun_mk (st := sShape) lSh cSh kSh
  have BSh := FSh.binds (ps := ["thing", "calls"]) fun _ _ _ _ _ _ us hl => match us, hl with | [_, _], _ => rfl
  have gSh : mg "_is_shape" = some (.ref fSh) := PySem.W.mg_of X G aSh
  have FCt := fun_mk (st := sCount) lCt cCt kCt
  have BCt := FCt.binds (ps := ["thing", "level"]) fun _ _ _ _ _ _ us hl => match us, hl with | [_, _], _ => rfl
  have gCt : mg "_counts" = some (.ref fCt) := PySem.W.mg_of X G aCt
  have FNd := fun_mk (st := sNode) lNd cNd kNd
  have BNd := FNd.binds (ps := ["thing", "level"]) fun _ _ _ _ _ _ us hl => match us, hl with | [_, _], _ => rfl
  have gNd : mg "_is_node" = some (.ref fNd) := PySem.W.mg_of X G aNd
  have FP := fun_mk (st := sPair) lP cP kP
  have BP := FP.binds (ps := ["thing"]) fun _ _ _ _ _ _ us hl => match us, hl with | [_], _ => rfl
  have gP : mg "_is_pair" = some (.ref fP) := PySem.W.mg_of X G aP
  have FCl := fun_mk (st := sCall) lCl cCl kCl
  have BCl := FCl.binds (ps := ["thing"]) fun _ _ _ _ _ _ us hl => match us, hl with | [_], _ => rfl
  have gCl : mg "_is_call" = some (.ref fCl) := PySem.W.mg_of X G aCl
  have FB := fun_mk (st := sBeg) lB cB kB
  have BB := FB.binds (ps := ["script"]) fun _ _ _ _ _ _ us hl => match us, hl with | [_], _ => rfl
  have gB : mg "_law_begun" = some (.ref fB) := PySem.W.mg_of X G aB
  have FN := fun_mk (st := sNext) lN cN kN
  have BN := FN.binds (ps := ["m", "many"]) fun _ _ _ _ _ _ us hl => match us, hl with | [_, _], _ => rfl
  have gN : mg "_law_next" = some (.ref fN) := PySem.W.mg_of X G aN
  have FNm := fun_mk (st := sName) lNm cNm kNm
  have BNm := FNm.binds (ps := ["thing"]) fun _ _ _ _ _ _ us hl => match us, hl with | [_], _ => rfl
  have gNm : mg "_law_is_name" = some (.ref fNm) := PySem.W.mg_of X G aNm
  have FO := fun_mk (st := sOdd) lO cO kO
  have BO := FO.binds (ps := ["m"]) fun _ _ _ _ _ _ us hl => match us, hl with | [_], _ => rfl
  have gO : mg "_law_odd" = some (.ref fO) := PySem.W.mg_of X G aO
  have FE := fun_mk (st := sBent) lE cE kE
  have BE := FE.binds (ps := ["m", "thing"]) fun _ _ _ _ _ _ us hl => match us, hl with | [_, _], _ => rfl
  have gE : mg "_law_bent" = some (.ref fE) := PySem.W.mg_of X G aE
  have FT := fun_mk (st := sTree) lT cT kT
  have BT := FT.binds (ps := ["m", "size", "deep"]) fun _ _ _ _ _ _ us hl => match us, hl with | [_, _, _], _ => rfl
  have gT : mg "_law_tree" = some (.ref fT) := PySem.W.mg_of X G aT
  have FY := fun_mk (st := sBody) lY cY kY
  have BY := FY.binds (ps := ["m", "size"]) fun _ _ _ _ _ _ us hl => match us, hl with | [_, _], _ => rfl
  have gY : mg "_law_body" = some (.ref fY) := PySem.W.mg_of X G aY
  have FC := fun_mk (st := sCalls) lC cC kC
  have BC := FC.binds (ps := ["thing"]) fun _ _ _ _ _ _ us hl => match us, hl with | [_], _ => rfl
  have gC : mg "_law_calls" = some (.ref fC) := PySem.W.mg_of X G aC
  have FH := fun_mk (st := sHand) lH cH kH
  have BH := FH.binds (ps := []) fun _ _ _ _ _ _ us hl => match us, hl with | [], _ => rfl
  have gH : mg "_law_by_hand" = some (.ref fH) := PySem.W.mg_of X G aH
  have FL := fun_mk (st := sLaw) lL cL kL
  have TPm : TP mg := { isi := no z0, str := no z1, tuple := no z2, len := no z3, all := no z4, zip := no z5, w8 := ⟨_, PySem.W.mg_of X G y8⟩, m3 := ⟨_, PySem.W.mg_of X G ym3⟩, b3 := ⟨_, PySem.W.mg_of X G yb3⟩, n6 := ⟨_, PySem.W.mg_of X G yn6⟩, l3 := ⟨_, PySem.W.mg_of X G yl3⟩, ca := ⟨_, PySem.W.mg_of X G yca⟩ }
  have TCm : TC mg := { tp := TPm, list := no z6, set := no z7, sorted := no z8, repr := no z9 }
  have TBm : TxtB mg := ⟨no z6, no z12, no z3⟩
  have PFm : PF K mg fW fP fCl fM _ _ _ _ := { W := FW, bW := BW, gW := gW, P := FP, bP := BP, gP := gP, C := FCl, bC := BCl, gC := gCl, M := FM, bM := BM, gM := gM }
  have LTm : LTx mg fB fN fT fY fO fH fE fC fTr fBo := { tc := TCm, min := no z10, range := no z11, int := no z12, bool := no z13, gB := gB, gN := gN, gT := gT, gY := gY, gO := gO, gH := gH, gE := gE, gC := gC, gTr := gTr, gBo := gBo }
  have GCt := fun base : Heap => ok_counts (P := pK) (w := w) (base := base) FCt BCt gCt FNd BNd gNd PFm TPm 4 (by decide)
  have GSh := fun base : Heap => ok_shape (P := pK) (w := w) (base := base) FSh FCt BCt gCt (GCt base) TPm
  have key := fun base : Heap => ok_law (P := pK) (w := w) (base := base) FL LTm FB BB (ok_beg FB TBm) FN BN ((ok_next FN TBm).imp fun _ _ _ _ => nx_of) FT BT (ok_tree FT BT gT FN BN gN TBm (no z2) 3 (by decide))
    FY BY (ok_body FY FN BN gN FT BT gT TBm (no z2)) FO BO (ok_odd FO FN BN gN TBm) FH BH (ok_hand FH (no z11)) FE BE (ok_bent FE BE gE FN BN gN FO BO gO TBm TPm (no z13) (Nat.le_refl _) 12 (by decide)) (ok_bent FE BE gE FN BN gN FO BO gO TBm TPm (no z13) (by unfold N1; omega) 16 (by decide))
    FC BC (ok_calls FC FNm BNm gNm TCm) FTr BTr (ok_tr FTr FSh BSh gSh (GSh base)) FBo BBo (ok_bo FBo FSh BSh gSh (GSh base))
  exact ⟨_, fun s v => .of_eq rfl, fun base _ _ => key base⟩
theorem walk {q : Program} {loose : List Str} {XP : (Str → Option Value) → Heap → Prop} {YP : World → Heap → Prop} {d : DefRec} {K : Params → PySem.W.Frag} {l : PySem.W.OpenLaw} (hp : l.prog = pK) (hn : l.most = some 63) (hdf : d.params.defaults = []) (hi : PyProof.Rows.importsNone q = true)
    (hY : ∀ (w : World) (h : Heap), YP w h → (K w.params).In h) (km : ∀ w : World, (K w.params).lookup sysModules = none)
    (F : ∀ (w : World) (mg : Str → Option Value) (fa : Addr) (h : Heap), (K w.params).In h → h.Ns mainGlobals mg → mg d.name = some (.ref fa) →
      ∃ fd : FuncData, (∀ (s : Shared) (u : Value), BindsTo s fd ⟨[u], []⟩ [("script", u)]) ∧ ∀ base : Heap, (K w.params).In base → base.Ns mainGlobals mg → AtTop l.prog w (K w.params) mg base fa fd "script" (spLaw (K w.params))) :
    PySem.W.WalkO q loose XP YP l.row.toRowW d [] (fun f vs => PySem.call f vs) :=
  walk_topB (n := 63) (x := "script") (sp := fun w => spLaw (K w.params)) hn (by decide) hdf hi hY km F fun _ _ a ns hl hS' hS => ⟨a, ns, rfl, hS, hl, hS', fun _ => rfl⟩
end K01
set_option Elab.async false
open PySem PySem.W PyProof.Rows
set_option maxRecDepth 100000 in
set_option maxHeartbeats 0 in
theorem PySem.Challenge.cw_onlyjoins_k01_whole_trees_told_apart_holds : PySem.Challenge.rw_onlyjoins_k01_whole_trees_told_apart.Holds := by
  w_on; o_law; k_head; (case hw => w_witness2)
  k_fill
  refine K01.walk (l := PySem.Challenge.rw_onlyjoins_k01_whole_trees_told_apart) rfl rfl rfl (by decide +kernel) (fun w h Y => PySem.W.kIn_of Y) ?km ?F
  case km =>
    intro w
    exact rfl
  case F =>
    intro w mg fa h KX G hmg
    refine' K01.all_mk KX G hmg ?aW ?lW ?cW ?kW ?aM ?lM ?cM ?kM ?aTr ?lTr ?cTr ?kTr ?aBo ?lBo ?cBo ?kBo ?aSh ?lSh ?cSh ?kSh ?aCt ?lCt ?cCt ?kCt ?aNd ?lNd ?cNd ?kNd ?aP ?lP ?cP ?kP ?aCl ?lCl ?cCl ?kCl ?aB ?lB ?cB ?kB ?aN ?lN ?cN ?kN ?aNm ?lNm ?cNm ?kNm ?aO ?lO ?cO ?kO ?aE ?lE ?cE ?kE ?aT ?lT ?cT ?kT ?aY ?lY ?cY ?kY ?aC ?lC ?cC ?kC ?aH ?lH ?cH ?kH ?aL ?lL ?cL ?kL ?y8 ?ym3 ?yb3 ?yn6 ?yl3 ?yca ?z0 ?z1 ?z2 ?z3 ?z4 ?z5 ?z6 ?z7 ?z8 ?z9 ?z10 ?z11 ?z12 ?z13
    (case aW => k_is)
    (case lW => k_is)
    (case cW => k_is)
    (case kW => k_is)
    (case aM => k_is)
    (case lM => k_is)
    (case cM => k_is)
    (case kM => k_is)
    (case aTr => k_is)
    (case lTr => k_is)
    (case cTr => k_is)
    (case kTr => k_is)
    (case aBo => k_is)
    (case lBo => k_is)
    (case cBo => k_is)
    (case kBo => k_is)
    (case aSh => k_is)
    (case lSh => k_is)
    (case cSh => k_is)
    (case kSh => k_is)
    (case aCt => k_is)
    (case lCt => k_is)
    (case cCt => k_is)
    (case kCt => k_is)
    (case aNd => k_is)
    (case lNd => k_is)
    (case cNd => k_is)
    (case kNd => k_is)
    (case aP => k_is)
    (case lP => k_is)
    (case cP => k_is)
    (case kP => k_is)
    (case aCl => k_is)
    (case lCl => k_is)
    (case cCl => k_is)
    (case kCl => k_is)
    (case aB => k_is)
    (case lB => k_is)
    (case cB => k_is)
    (case kB => k_is)
    (case aN => k_is)
    (case lN => k_is)
    (case cN => k_is)
    (case kN => k_is)
    (case aNm => k_is)
    (case lNm => k_is)
    (case cNm => k_is)
    (case kNm => k_is)
    (case aO => k_is)
    (case lO => k_is)
    (case cO => k_is)
    (case kO => k_is)
    (case aE => k_is)
    (case lE => k_is)
    (case cE => k_is)
    (case kE => k_is)
    (case aT => k_is)
    (case lT => k_is)
    (case cT => k_is)
    (case kT => k_is)
    (case aY => k_is)
    (case lY => k_is)
    (case cY => k_is)
    (case kY => k_is)
    (case aC => k_is)
    (case lC => k_is)
    (case cC => k_is)
    (case kC => k_is)
    (case aH => k_is)
    (case lH => k_is)
    (case cH => k_is)
    (case kH => k_is)
    (case aL => k_is)
    (case lL => k_is)
    (case cL => k_is)
    (case kL => k_is)
    (case y8 => k_is)
    (case ym3 => k_is)
    (case yb3 => k_is)
    (case yn6 => k_is)
    (case yl3 => k_is)
    (case yca => k_is)
    (case z0 => k_is)
    (case z1 => k_is)
    (case z2 => k_is)
    (case z3 => k_is)
    (case z4 => k_is)
    (case z5 => k_is)
    (case z6 => k_is)
    (case z7 => k_is)
    (case z8 => k_is)
    (case z9 => k_is)
    (case z10 => k_is)
    (case z11 => k_is)
    (case z12 => k_is)
    (case z13 => k_is)
