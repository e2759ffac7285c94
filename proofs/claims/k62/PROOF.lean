import PyProof.Rows.All
import Wide.All
import OpenK.AllK
import Wide.FinOn
import PyProof.EqAt
import PyProof.EqKinds
import PyProof.TupleCall
import HandS.Base
import HandS.Call
import HandS.List
import HandS.Ends
import HandS.Words
import HandS.Comp
import HandS.Dict
import HandS.Iter
import HandS.Text
import HandS.WordsList
import HandS.Defaults
import PyProof.EnumMake
import PyProof.Draws
import KE.GoesMore
import KE.KRevSl
import PyProof.ReprLen
import PyProof.ReprText
import HandS.More
import HandS.Evl
import HandS.Walk
import HandS.IsInst
import HandS.TupAny
import HandS.Style
import HandS.TupMul
import HandS.Strs
import HandS.Set
import HandS.GenBody
import HandS.GenYield
import HandS.GenCall
import HandS.GenList
import PyProof.GenComp
import HandS.Property
import HandS.ClsMeth
import HandS.MakeKwOnly
import PyProof.InstEq
import KE.KFmtOwn
import HandS.OwnEq
import HandS.FStr
import PyProof.ReprNest
import PyProof.ReprRoads
import PyProof.ReprHeadsEmpty
import PyProof.ReprReads
import KE.KeyNested
import HandS.SetKeys
import HandS.DictTup
import KE.KDictWalk
import KE.DataMinKey
import HandS.SortKw
import KE.SortKeyHeap
import HandS.Keys
import HandS.DictComp
import KE.DataMinMax
import HandS.Deep
import PyProof.ReprDict
import PyProof.CallFns
import HandS.Exc
import HandS.ExcOwn
import HandS.ExcInit
import HandS.ExcField
import HandS.ExcIs
import HandS.WordsExc
import KE.KExcIs
import HandS.TryMany
import HandS.HotCalls
import HandS.Zip
import PySem.Challenge.RW_stackeffect_k62_invalid_observations
set_option Elab.async false
set_option linter.all false
set_option maxRecDepth 100000
set_option maxHeartbeats 4000000
/-! Defs called where no repr is under way: their promise (GOk), their call, the law's head, and repr of plain data. -/
namespace SE
open PySem PySem.Spec PyProof.Rows L2

/-- the promise of a def whose caller has no repr under way -/
structure GOk (P : Program) (w : World) (K : PySem.W.Frag) (mg : Str → Option Value) (base : Heap) (k : Nat) (f : Addr) (fd : FuncData) (ps : List Str) (sp : Sp) : Prop where
  len : ∀ xs H Q E, sp xs H Q E → xs.length = ps.length
  run : ∀ (A : Around) (out : List Env) (s : Shared) (H : Hp) (args : Args) (us : List Value) (xs : List V) (Q : VK) (E : XK), A.guards = some [] → Room k A → Env0 P w K mg base A out s H →
    BindsTo s fd args (ps.zip us) → Vals xs us → sp xs H Q E → codeAny (model P w) A (.call (.ref f) args) (CR (fun _ _ _ _ _ _ => False) out P w H s Q E) s

section
variable {P : Program} {w : World} {K : PySem.W.Frag} {mg : Str → Option Value} {base : Heap}
theorem gok_of {k : Nat} {f : Addr} {nm ql : Str} {pars : Arguments} {bd : List Stmt} {sc : Scope} {dV kV doc pm cv ct oc : Value} {an od : Option Addr}
    {osl : Array (Option Value)} {N ps : List Str} {sp : Sp} (look : K.lookup f = some ⟨oc, od, .func (PySem.W.fnOf nm ql pars bd sc dV kV doc pm an cv ct), osl⟩) (hcode : PySem.W.codeIn K cv ql = true) (S : FnScope N ps sc)
    (len : ∀ xs H Q E, sp xs H Q E → xs.length = ps.length)
    (hbd : ∀ (A : Around) (out : List Env) (s : Shared) (H : Hp) (xs : List V) (Q : VK) (E : XK), A.guards = some [] → Room k (A.deeper (envOfC ql sc s.heap.objs.size f cv)) → sp xs H Q E →
      ∃ t, PSs (cxOf (fun _ _ _ _ _ _ => False) P w K mg base N ql sc f cv A out s H E) bd t ∧ t { nx := fun _ H2 => Q .non H2, rt := Q } (start N xs) H) :
    GOk P w K mg base (k + 1) f (PySem.W.fnOf nm ql pars bd sc dV kV doc pm an cv ct) ps sp := by
  constructor
  · exact len
  intro A out s H args us xs Q E hgu hroom env hbind hvals hpre
  have hlen := len _ _ _ _ hpre
  have kin : K.In s.heap := env.mod.kin.keeps fun b o z => (env.bs b o z).1
  have nolim : s.heap.NoLimit := env.mod.nolimit.keeps fun b o z => (env.bs b o z).1
  have kinds : ∀ y ∈ ps.zip us, sc.names.lookup y.1 = some .local ∨ (sc.names.lookup y.1 = some .cell ∧ ((cellsFrom (s.heap.objs.size + 1) sc.names []).lookup y.1).isSome = true) := by
    rintro ⟨n, v⟩ hy
    rcases S.par n (List.of_mem_zip hy).1 with q | q
    · exact .inl q
    · exact .inr ⟨q, PySem.W.cellsFrom_some _ _ _ (.inl q)⟩
  apply codeAny_call_function hroom.depth (kin _ _ look) rfl S.co S.gen rfl (PySem.W.codeRec_of kin hcode)
  apply hbind
  refine wpAny_newFunctionEnv_cells S.kind kinds fun ev hev s2 inc => ?_
  subst hev
  refine ⟨nolim.keeps inc.toInCall.keep, codeAny_func ?_⟩
  obtain ⟨t, der, rd⟩ := hbd A out s H xs Q E hgu (hroom.deeper _) hpre
  have J0 : Inv (cxOf (fun _ _ _ _ _ _ => False) P w K mg base N ql sc f cv A out s H E) [] (start N xs) H s2 := inv_start S hroom.hd env hlen hvals inc
  refine wpAny_mono (der.run [] s2 (start N xs) H _ J0 rd) (fun fl s3 hs => ?_) fun e s3 hs => hs
  cases fl with
  | ret u =>
    obtain ⟨v, σ3, H3, J, rv, q⟩ := hs
    exact ⟨v, H3, J.os, J.bare, J.base, J.hok, rv, q⟩
  | next =>
    obtain ⟨σ3, H3, J, q⟩ := hs
    exact ⟨V.non, H3, J.os, J.bare, J.base, J.hok, rfl, q⟩
  | brk => exact hs.elim fun _ z => z.elim fun _ z => z.2.elim
  | cont => exact hs.elim fun _ z => z.elim fun _ z => z.2.elim
theorem gok_mk {x ql : Str} {st : Stmt} {f : Addr} {fd : FuncData} {N ps : List Str} {k : Nat} {sp : Sp} (F : Fun K x ql st f fd) (S : FnScope N ps (defScope st)) (len : ∀ xs H Q E, sp xs H Q E → xs.length = ps.length)
    (hbd : ∀ (cv : Value) (A : Around) (out : List Env) (s : Shared) (H : Hp) (xs : List V) (Q : VK) (E : XK), A.guards = some [] → Room k (A.deeper (envOfC ql (defScope st) s.heap.objs.size f cv)) → sp xs H Q E →
      ∃ t, PSs (cxOf CX0 P w K mg base N ql (defScope st) f cv A out s H E).nox (defBody st) t ∧ t { nx := fun _ H2 => Q .non H2, rt := Q } (start N xs) H) : GOk P w K mg base (k + 1) f fd ps sp := by
  obtain ⟨oc, od, kV, doc, pm, an, cv, ct, osl, rfl, look, hcode⟩ := F.ex
  refine gok_of look hcode S len fun A out s H xs Q E hgu hr hpre => ?_
  obtain ⟨t, a, b⟩ := hbd cv A out s H xs Q E hgu hr hpre
  exact ⟨t, a.nox, b⟩
end

section
variable {X : Cx} {k : Nat} {f : Addr} {fd : FuncData} {ps : List Str} {sp : Sp} {x : Str} {p pos : Pos} {e : Expr} {es : List Expr} {t : TA}
theorem pe_callG (F : GOk X.prog X.w X.K X.mg X.base k f fd ps sp) (hgu : X.A.guards = some []) (hr : Room k X.A) (hg : Gl X x) (hm : X.mg x = some (.ref f)) (hk : PySem.W.keepIn X.K (.ref f) = true) (hb : Binds X.K fd ps [])
    (ha : PA X (e :: es) t) (hdb : (x == ("__debug__" : Str)) = false := by decide) (he : starEach (e :: es) X.env = (false, eval e X.env) :: starEach es X.env := by rfl) (hpl : (backTo pos (starEach es X.env)).any (·.1) = false := by rfl) :
    PE X (.Call (.Name x p) (e :: es) [] pos) (tCall sp [] (fun _ _ _ => False) t) := by
  constructor
  intro pins s σ H Q I h
  apply wpAny_Call_Name_kw
  apply ld_glob I hg hm _ hdb
  refine PySem.W.callWith_K (h₀ := X.base) I.ok.mod.kin hk (thn (ha.run pos pins s σ H _ I h) fun us s1 hh => ?_) he hpl
  obtain ⟨xs, H1, I1, r, q⟩ := hh
  refine ⟨I1.kIn, ?_⟩
  have q' : sp xs H1 Q (fun _ _ _ => False) := by rw [List.append_nil] at q; exact q
  have hl : us.length = ps.length := by rw [← r.length]; exact F.len _ _ _ _ q'
  have hb' := hb s1 us I1.kIn (by rw [List.append_nil]; exact hl)
  rw [List.append_nil] at hb'
  refine wpAny_call (codeAny_mono (F.run X.A X.stack s1 H1 ⟨us, []⟩ us xs Q _ hgu hr I1.env0 hb' r q') fun r2 s2 hq => ?_)
  cases r2 with
  | error _ => exact hq.elim
  | ok fl =>
    cases fl with
    | ret _ => exact I1.after hq
    | next => exact hq.elim
    | brk => exact hq.elim
    | cont => exact hq.elim
end

section
variable {X : Cx}
/-- repr(x), x plain data -/
def rRep (K : PySem.W.Frag) : List V → Hp → VK → Prop := fun xs H Q => ∃ (x : V) (d : PyData), xs = [x] ∧ Dp K H x d ∧ (∃ a, x = .ref a) ∧ d.showable = true ∧ d.hasDict = false ∧ d.depth ≤ 20 ∧ d.shown.length ≤ sizeLine ∧ Q (.str d.shown) H
theorem call_rep (hgu : X.A.guards = some []) (hu : X.A.units + 64 < cLine) : CallR X (.builtin "repr") (rRep X.K) := by
  intro pins s σ H xs us Q I r h
  obtain ⟨x, d, rfl, hd, ⟨a, rfl⟩, hs, hn, hdep, hz, q⟩ := h
  cases r with
  | cons r1 r2 =>
    cases r2
    cases r1
    obtain ⟨as, rd⟩ := Dp.reads I d (.ref a) (.ref a) hd rfl
    refine repr_of_reads' rd hs (PyData.noDict_hsm hn) hgu (by omega) (fun _ _ z => z) (fun h' u tk hk => ?_) hz
    exact ⟨.str d.shown, H, I.kept (t' := tk) hk, ⟨_, rfl⟩, q⟩
end
/-! ### the law's head -/
theorem lawG {P : Program} {w : World} {K : PySem.W.Frag} {mg mb : Str → Option Value} {k : Nat} {fa a : Addr} {fd : FuncData} {x : Str} {sp : Sp} {s1 : Shared} {vs : List Value} {ns : List Int}
    (kin : K.In s1.heap) (hns : s1.heap.Ns mainGlobals mg) (hbn : s1.heap.Ns builtinsNs mb) (hbb : ∀ x : Str, x ≠ "__name__" → mb x = bootBuiltins x) (nolim : s1.heap.NoLimit) (hg : s1.gens = #[])
    (hobj : s1.heap.get? a = some { cls := .type "list", data := .seq vs.toArray }) (hi : IntsAre vs ns) (hz : ns.length ≤ sizeLine) (hr : Room k callerA)
    (F : ∀ base : Heap, K.In base → base.Ns mainGlobals mg → GOk P w K mg base k fa fd [x] sp) (hbind : ∀ (s : Shared) (u : Value), BindsTo s fd ⟨[u], []⟩ [(x, u)])
    (hsp : ∀ H : Hp, SqL K H a (ns.map V.int) → sp [.ref a] H (fun v _ => v = .bl true) fun _ _ _ => False) :
    codeAny (model P w) callerA (.call (.ref fa) ⟨[.ref a], []⟩) (fun r s2 => r = .ok (.ret (.bool true)) ∧ OldK s1.heap s2.heap ∧ s2.os = s1.os ∧ AllBare s2.gens) s1 := by
  have rel := vals_ints hi
  have same := hi.length
  have go : ∀ H : Hp, (∀ b u, H b = some u → b = a ∧ K.lookup a = none ∧ ∃ o xs, u = .frz o (.lst xs)) → SqL K H a (ns.map V.int) → HOk P w H s1.heap →
      codeAny (model P w) callerA (.call (.ref fa) ⟨[.ref a], []⟩) (fun r s2 => r = .ok (.ret (.bool true)) ∧ OldK s1.heap s2.heap ∧ s2.os = s1.os ∧ AllBare s2.gens) s1 := by
    intro H only hS hok
    have free : ∀ {b : Addr}, b ≠ a → H b = none := fun {b} hb => by
      cases q : H b with
      | none => rfl
      | some u => exact absurd (only b u q).1 hb
    have freeD : ∀ {b : Addr} {o : Obj} {es : Array DictEntry} {ep : Nat}, s1.heap.get? b = some o → o.data = .dict es ep → H b = none := fun {b o es ep} e d => by
      by_cases hb : b = a
      · subst hb
        rw [hobj] at e
        cases e
        cases d
      · exact free hb
    have ns2 : ∀ {b : Addr} {m : Str → Option Value}, s1.heap.Ns b m → (hidT s1.heap H).Ns b m := by
      rintro b m ⟨o, es, ep, e, d, r⟩
      exact ⟨o, es, ep, hidT_get e (freeD e d), d, r⟩
    have kin2 : K.In (hidT s1.heap H) := by
      intro b o e
      refine hidT_get (kin b o e) ?_
      cases q : H b with
      | none => rfl
      | some u =>
        obtain ⟨eb, nk, _⟩ := only b u q
        subst eb
        rw [nk] at e
        cases e
    have mod : Mod K mg (hidT s1.heap H) := by
      refine ⟨kin2, ns2 hns, ⟨mb, ns2 hbn, hbb⟩, ?_⟩
      obtain ⟨mc, h1, h2⟩ := nolim
      exact ⟨mc, ns2 h1, h2⟩
    have env : Env0 P w K mg (hidT s1.heap H) callerA [] s1 H :=
      ⟨rfl, mod, fun b o e => of_hidT e, Nat.le_of_eq (hidT_size _ _), trivial, fun b hb => (by cases (show b ∈ ([] : List Addr) from hb)), hok, .of_eq hg⟩
    have runs := (F _ kin2 (ns2 hns)).run callerA [] s1 H ⟨[.ref a], []⟩ [.ref a] [.ref a] (fun v _ => v = .bl true) (fun _ _ _ => False) rfl hr env (hbind s1 (.ref a)) (.cons rfl .nil) (hsp H hS)
    refine codeAny_mono runs fun r s2 h => ?_
    cases r with
    | error _ => exact h.elim
    | ok fl =>
      cases fl with
      | next => exact h.elim
      | brk => exact h.elim
      | cont => exact h.elim
      | ret u =>
        obtain ⟨v, H2, os, bare, un, hok2, r2, q⟩ := h
        have q2 : v = .bl true := q
        subst q2
        obtain rfl : u = Value.bool true := r2
        refine ⟨rfl, OldK.of_keep fun b o e => ?_, os, bare⟩
        cases z : H b with
        | none => exact un.keep b o e z (fun m => by cases (show b ∈ ([] : List Addr) from m)) (fun m => by cases m)
        | some u2 =>
          obtain ⟨_, _, ob, ys, eu⟩ := only b u2 z
          subst eu
          obtain ⟨e1, _⟩ := hok b _ z
          obtain ⟨e2, _⟩ := hok2 b _ (un.frzs b ob _ z)
          rw [e] at e1
          cases e1
          exact e2
  cases hk : K.lookup a with
  | some o =>
    have e := kin a o hk
    rw [hobj] at e
    cases e
    refine go (fun _ => none) (fun b u z => nomatch z) (.inr ⟨_, vs.toArray, _, hk, rfl, rfl, rfl, by rw [List.size_toArray, same]; exact hz, by simpa using rel⟩) (fun b u z => nomatch z)
  | none =>
    have at1 : ∀ {b : Addr} {u : HO}, (if b = a then some (HO.frz { cls := .type "list", data := .seq vs.toArray } (.lst (ns.map V.int))) else none) = some u → b = a ∧ u = .frz { cls := .type "list", data := .seq vs.toArray } (.lst (ns.map V.int)) := fun {b u} z => by
      by_cases hb : b = a
      · rw [if_pos hb] at z
        cases z
        exact ⟨hb, rfl⟩
      · rw [if_neg hb] at z
        cases z
    refine go (fun b => if b = a then some (.frz { cls := .type "list", data := .seq vs.toArray } (.lst (ns.map V.int))) else none) (fun b u z => ?_) (.inl (.inr ⟨{ cls := .type "list", data := .seq vs.toArray }, if_pos rfl⟩)) (fun b u z => ?_)
    · obtain ⟨e1, e2⟩ := at1 z
      exact ⟨e1, hk, _, _, e2⟩
    · obtain ⟨e1, e2⟩ := at1 z
      subst e1
      subst e2
      exact ⟨hobj, by rw [List.length_map]; exact hz, vs, _, rel, hobj⟩
theorem walkG {l : PySem.W.OpenLaw} {n k : Nat} {q : Program} {loose : List Str} {XP : (Str → Option Value) → Heap → Prop} {YP : World → Heap → Prop} {d : DefRec} {K : Params → PySem.W.Frag} {sp : PySem.W.Frag → Sp} {x : Str}
    (hn : l.most = some n) (hn2 : n ≤ sizeLine) (hdf : d.params.defaults = []) (hr : Room k callerA) (hY : ∀ (w : World) (h : Heap), YP w h → (K w.params).In h)
    (F : ∀ (w : World) (mg : Str → Option Value) (fa : Addr) (h : Heap), (K w.params).In h → h.Ns mainGlobals mg → mg d.name = some (.ref fa) →
      ∃ fd : FuncData, (∀ (s : Shared) (u : Value), BindsTo s fd ⟨[u], []⟩ [(x, u)]) ∧ ∀ base : Heap, (K w.params).In base → base.Ns mainGlobals mg → GOk l.prog w (K w.params) mg base k fa fd [x] (sp (K w.params)))
    (hsp : ∀ (K : PySem.W.Frag) (H : Hp) (a : Addr) (ns : List Int), ns.length ≤ n → SqL K H a (ns.map V.int) → sp K [.ref a] H (fun v _ => v = .bl true) fun _ _ _ => False) :
    PySem.W.WalkO q loose XP YP l.row.toRowW d [] (fun f vs => PySem.call f vs) := by
  apply Att.attach_call hn hdf
  intro w s0 s1 mg mb fa o pm cd doc a vs ns G Y ho hd hcd hmg hobj hints hlen hg
  have kin := hY w _ Y
  obtain ⟨fd, hb, hF⟩ := F w mg fa _ kin G.T.g hmg
  exact lawG kin G.T.g G.T.b G.T.builtins G.T.nolimit hg hobj hints (Nat.le_trans hlen hn2) hr hF hb fun H hS => hsp _ H a ns hlen hS
end SE
/-! Defs by their names. -/
namespace SE
open PySem PySem.Spec PyProof.Rows L2
section
variable {P : Program} {w : World} {K : PySem.W.Frag} {mg : Str → Option Value} {base : Heap}
/-- the def st stands under its name -/
def Def (K : PySem.W.Frag) (mg : Str → Option Value) (x : Str) (st : Stmt) : Prop := ∃ f fd, Fun K x x st f fd ∧ mg x = some (.ref f)
/-- a def that keeps the promise sp stands under the name x; dvs: the values of its defaults -/
def Has (P : Program) (w : World) (K : PySem.W.Frag) (mg : Str → Option Value) (base : Heap) (x : Str) (k : Nat) (ps : List Str) (dvs : List V) (sp : Sp) : Prop :=
  ∃ f fd ds, FnOk P w K mg base CX0 k f fd ps sp ∧ mg x = some (.ref f) ∧ PySem.W.keepIn K (.ref f) = true ∧ Binds K fd ps ds ∧ Vals dvs ds ∧ ∃ st, Fun K x x st f fd
def GHas (P : Program) (w : World) (K : PySem.W.Frag) (mg : Str → Option Value) (base : Heap) (x : Str) (k : Nat) (ps : List Str) (sp : Sp) : Prop :=
  ∃ f fd, GOk P w K mg base k f fd ps sp ∧ mg x = some (.ref f) ∧ PySem.W.keepIn K (.ref f) = true ∧ Binds K fd ps []
abbrev Bx (P : Program) (w : World) (K : PySem.W.Frag) (mg : Str → Option Value) (base : Heap) (N : List Str) (x : Str) (st : Stmt) (f : Addr) (cv : Value) (A : Around) (out : List Env) (s : Shared) (H : Hp) (E : XK) : Cx :=
  (cxOf CX0 P w K mg base N x (defScope st) f cv A out s H E).nox
theorem has_of {x : Str} {st : Stmt} {N ps : List Str} {k : Nat} {sp : Sp} (D : Def K mg x st) (S : FnScope N ps (defScope st))
    (hb : ∀ (kV doc pm : Value) (an : Option Addr) (cv ct : Value) (us : List Value), us.length = ps.length → bindArgs (PySem.W.fnOf x x (defArgs st) (defBody st) (defScope st) .none kV doc pm an cv ct) ⟨us, []⟩ = pure (ps.zip us))
    (len : ∀ xs H Q E, sp xs H Q E → xs.length = ps.length)
    (hbd : ∀ (f : Addr) (cv : Value) (A : Around) (out : List Env) (s : Shared) (H : Hp) (xs : List V) (Q : VK) (E : XK), Room k (A.deeper (envOfC x (defScope st) s.heap.objs.size f cv)) → sp xs H Q E →
      ∃ t, PSs (Bx P w K mg base N x st f cv A out s H E) (defBody st) t ∧ t { nx := fun _ H2 => Q .non H2, rt := Q } (start N xs) H) : Has P w K mg base x (k + 1) ps [] sp := by
  obtain ⟨f, fd, F, hm⟩ := D
  exact ⟨f, fd, [], F.ok S len fun cv A out s H xs Q E hr h => hbd f cv A out s H xs Q E hr h, hm, F.kp, F.binds hb, .nil, st, F⟩
theorem ghas_of {x : Str} {st : Stmt} {N ps : List Str} {k : Nat} {sp : Sp} (D : Def K mg x st) (S : FnScope N ps (defScope st))
    (hb : ∀ (kV doc pm : Value) (an : Option Addr) (cv ct : Value) (us : List Value), us.length = ps.length → bindArgs (PySem.W.fnOf x x (defArgs st) (defBody st) (defScope st) .none kV doc pm an cv ct) ⟨us, []⟩ = pure (ps.zip us))
    (len : ∀ xs H Q E, sp xs H Q E → xs.length = ps.length)
    (hbd : ∀ (f : Addr) (cv : Value) (A : Around) (out : List Env) (s : Shared) (H : Hp) (xs : List V) (Q : VK) (E : XK), A.guards = some [] → Room k (A.deeper (envOfC x (defScope st) s.heap.objs.size f cv)) → sp xs H Q E →
      ∃ t, PSs (Bx P w K mg base N x st f cv A out s H E) (defBody st) t ∧ t { nx := fun _ H2 => Q .non H2, rt := Q } (start N xs) H) : GHas P w K mg base x (k + 1) ps sp := by
  obtain ⟨f, fd, F, hm⟩ := D
  exact ⟨f, fd, gok_mk F S len fun cv A out s H xs Q E hg hr h => hbd f cv A out s H xs Q E hg hr h, hm, F.kp, F.binds hb⟩
theorem Has.mono {x : Str} {j k : Nat} {ps : List Str} {dvs : List V} {sp : Sp} (h : Has P w K mg base x j ps dvs sp) (hk : j ≤ k) : Has P w K mg base x k ps dvs sp := by
  obtain ⟨f, fd, ds, F, r⟩ := h
  exact ⟨f, fd, ds, F.mono hk, r⟩
theorem Has.fun {x : Str} {k : Nat} {ps : List Str} {dvs : List V} {sp : Sp} {st : Stmt} (h : Has P w K mg base x k ps dvs sp) (D : Def K mg x st) : ∃ f fd, FnOk P w K mg base CX0 k f fd ps sp ∧ mg x = some (.ref f) ∧ PySem.W.keepIn K (.ref f) = true ∧ Fun K x x st f fd := by
  obtain ⟨f, fd, ds, G, hm, hk, hb, hd, st2, F2⟩ := h
  obtain ⟨g, fe, F, hg⟩ := D
  have e : f = g := by
    rw [hm] at hg
    cases hg
    rfl
  subst e
  have e2 : fd = fe := by
    obtain ⟨_, _, _, _, _, _, _, _, _, _, l1, _⟩ := F.ex
    obtain ⟨_, _, _, _, _, _, _, _, _, _, l2, _⟩ := F2.ex
    rw [l1] at l2
    cases l2
    rfl
  subst e2
  exact ⟨f, fd, G, hm, hk, F⟩
end
section
variable {X : Cx} {k : Nat} {ps : List Str} {sp : Sp} {x : Str} {p pos : Pos} {e : Expr} {es : List Expr} {t : TA} {dvs : List V}
theorem pe_has (h : Has X.prog X.w X.K X.mg X.base x k ps dvs sp) (hr : Room k X.A) (ha : PA X (e :: es) t) (hg : Gl X x := by rfl) (hdb : (x == ("__debug__" : Str)) = false := by decide)
    (he : starEach (e :: es) X.env = (false, eval e X.env) :: starEach es X.env := by rfl) (hpl : (backTo pos (starEach es X.env)).any (·.1) = false := by rfl) : PE X (.Call (.Name x p) (e :: es) [] pos) (tCall sp dvs E0 t) := by
  obtain ⟨f, fd, ds, F, hm, hk, hb, hd, _⟩ := h
  exact pe_call F hr hg hm hk hb hd pass0 ha hdb he hpl
theorem pe_ghas (h : GHas X.prog X.w X.K X.mg X.base x k ps sp) (hgu : X.A.guards = some []) (hr : Room k X.A) (ha : PA X (e :: es) t) (hg : Gl X x := by rfl) (hdb : (x == ("__debug__" : Str)) = false := by decide)
    (he : starEach (e :: es) X.env = (false, eval e X.env) :: starEach es X.env := by rfl) (hpl : (backTo pos (starEach es X.env)).any (·.1) = false := by rfl) : PE X (.Call (.Name x p) (e :: es) [] pos) (tCall sp [] E0 t) := by
  obtain ⟨f, fd, F, hm, hk, hb⟩ := h
  exact pe_callG F hgu hr hg hm hk hb ha hdb he hpl
end
/-! ### heaps -/
theorem Same.tup {K : PySem.W.Frag} {H H' : Hp} {a : Addr} {xs : List V} (e : Same H H') (h : SqT K H a xs) : SqT K H' a xs := by
  rcases h with (h | ⟨o, h⟩) | h
  · exact .inl (.inl (e _ _ h))
  · exact .inl (.inr ⟨o, e _ _ h⟩)
  · exact .inr h
theorem Same.new {H : Hp} {p : Addr} {o : HO} (h : H p = none) : Same H (upd H p o) := fun b u z => by
  rw [upd_ne (ne_of_none z h)]
  exact z
/-- all but what stands at p -/
def But (p : Addr) (H H' : Hp) : Prop := ∀ b o, b ≠ p → H b = some o → H' b = some o
theorem But.refl (p : Addr) (H : Hp) : But p H H := fun _ _ _ h => h
theorem But.trans {p : Addr} {H H1 H2 : Hp} (a : But p H H1) (b : But p H1 H2) : But p H H2 := fun c o n h => b c o n (a c o n h)
theorem But.of {p : Addr} {H H1 : Hp} (a : Same H H1) : But p H H1 := fun c o _ h => a c o h
theorem But.at {p : Addr} {H : Hp} {o : HO} : But p H (upd H p o) := fun c u n h => by
  rw [upd_ne n]
  exact h
/-- what H does not know may change -/
theorem But.free {p q : Addr} {H H1 : Hp} {o : HO} (a : But p H H1) (h : H q = none) : But p H (upd H1 q o) := fun c u n z => by
  rw [upd_ne (ne_of_none z h)]
  exact a c u n z
theorem Same.free2 {q : Addr} {H H1 : Hp} {o : HO} (a : Same H H1) (h : H q = none) : Same H (upd H1 q o) := fun c u z => by
  rw [upd_ne (ne_of_none z h)]
  exact a c u z
theorem But.none {p q : Addr} {H H1 : Hp} (a : But p H H1) (n : q ≠ p) (h : H1 q = Option.none) : H q = Option.none := by
  cases z : H q with
  | none => rfl
  | some o =>
    rw [a q o n z] at h
    cases h
/-! ### the drawn numbers -/
/-- a pool: two numbers -/
structure Pool (H : Hp) (p : Addr) : Prop where
  ex : ∃ m s : Int, H p = some (.lst [.int m, .int s]) ∧ 0 ≤ m ∧ 0 ≤ s ∧ s < 2147483647
theorem Pool.ne {H : Hp} {p t : Addr} {xs : List V} (h : Pool H p) (ht : H t = some (.tup xs)) : t ≠ p := by
  obtain ⟨m, s, e, _⟩ := h.ex
  intro z
  rw [z, e] at ht
  cases ht
theorem Pool.free {H : Hp} {p q : Addr} (h : Pool H p) (hq : H q = none) : q ≠ p := by
  obtain ⟨m, s, e, _⟩ := h.ex
  intro z
  rw [z, e] at hq
  cases hq
theorem Pool.same {H H' : Hp} {p : Addr} (h : Pool H p) (s : Same H H') : Pool H' p := by
  obtain ⟨m, n, e, r⟩ := h.ex
  exact ⟨m, n, s _ _ e, r⟩
theorem Pool.upd {H : Hp} {p q : Addr} {o : HO} (h : Pool H p) (n : q ≠ p) : Pool (L2.upd H q o) p := by
  obtain ⟨m, k, e, r⟩ := h.ex
  exact ⟨m, k, by rw [upd_ne (Ne.symm n)]; exact e, r⟩
end SE
/-! enumerate(t) and t[::-1] of a tuple. -/
namespace SE
open PySem PySem.Spec PyProof.Rows L2
section
open Sem (wp)
open AutoSeq1 (wpAny_loadPart')
theorem meets_enum_newT (t : Addr) (items : Array Value) (n : Nat) (dct : Option Addr) (sl : Array (Option Value)) :
    Meets (Builtin.«enumerate.__new__» ⟨[.type "enumerate", .ref t], []⟩) (fun _ R s => s.heap.get? t = some { cls := .type "tuple", dict := dct, data := .seq items n, slots := sl } ∧
      R (.ok (.ret (.ref (s.heap.push { cls := .type "tuple_iterator", data := .fields #[.ref t, .int 0 0] }).objs.size)))
        { s with heap := (s.heap.push { cls := .type "tuple_iterator", data := .fields #[.ref t, .int 0 0] }).push { cls := .type "enumerate", data := .fields #[.none, .bool false, .ref s.heap.objs.size, rawInt 0, .none, .none] } }) := by
  refine .of_wp fun prog w A R s h => ?_
  obtain ⟨hp, g, d, tk, os⟩ := s
  obtain ⟨ht, h⟩ := h
  have hsub := sub_enumerate
  have hT : Heap.IsTuple (Shared.heap ⟨hp, g, d, tk, os⟩) t items := ⟨_, ht, rfl, n, rfl⟩
  wp_walk using wpAny_loadPart' ht
  refine wpAny_stack_any fun st => wpAny_pure ?_
  split
  · rename_i c _ _ _ _ _
    cases (c == Value.type "enumerate")
    · wp_walk using wpAny_loadPart' ht, wpAny_pyIter_tuple hT
      exact ⟨_, rfl, h⟩
    · wp_walk using wpAny_loadPart' ht, wpAny_pyIter_tuple hT
      exact ⟨_, rfl, h⟩
  · wp_walk using wpAny_loadPart' ht, wpAny_pyIter_tuple hT
    exact ⟨_, rfl, h⟩
end
section
variable {prog : Program} {w : World} {A : Around} {E : Value → Shared → Prop} {s : Shared}
theorem call_enumT {t : Addr} {items : Array Value} {Q : Value → Shared → Prop} (hT : s.heap.IsTuple t items)
    (h : ∀ h', IsEnum h' (s.heap.objs.size + 1) s.heap.objs.size 0 .none → h'.IsTupleIter s.heap.objs.size t 0 → (∀ b o, s.heap.get? b = some o → h'.get? b = some o) → Q (.ref (s.heap.objs.size + 1)) { s with heap := h' }) :
    wpAny (model prog w) A (call (.type "enumerate") [.ref t]) Q E s := by
  obtain ⟨⟨c, dct, dt, sl⟩, ht, hc, n, hd⟩ := hT
  simp only at hc hd
  subst hc hd
  refine callType_new F.called_enumerate (by decide) (F.typeCall_enumerate_1 _) (F.newCall_enumerate_1 _) (fun obj => F.args_object_init_2 obj _) F.entry_enumerate_new (meets_enum_newT t items n dct sl) ⟨ht, ?_⟩
  have hz : (s.heap.push { cls := .type "tuple_iterator", data := .fields #[.ref t, .int 0 0] }).objs.size = s.heap.objs.size + 1 := Heap.size_push ..
  show _ ∧ _
  rw [hz]
  have he : IsEnum ((s.heap.push { cls := .type "tuple_iterator", data := .fields #[.ref t, .int 0 0] }).push
      { cls := .type "enumerate", data := .fields #[.none, .bool false, .ref s.heap.objs.size, rawInt 0, .none, .none] }) (s.heap.objs.size + 1) s.heap.objs.size 0 .none := by
    have z := Heap.get?_push_size (s.heap.push { cls := .type "tuple_iterator", data := .fields #[.ref t, .int 0 0] })
      (o := { cls := .type "enumerate", data := .fields #[.none, .bool false, .ref s.heap.objs.size, rawInt 0, .none, .none] }) rfl
    rw [hz] at z
    exact z
  exact ⟨⟨_, he, rfl⟩, h _ he ⟨_, Heap.get?_push_of_some _ (Heap.get?_push_size _ rfl), rfl, rfl⟩ fun b o x => Heap.get?_push_of_some _ (Heap.get?_push_of_some _ x)⟩
end
/-- the tuple at a, each item in a new pair -/
def ItE (K : PySem.W.Frag) (a : Addr) : It :=
  ⟨fun i H => ∃ (xs : List V) (x : V), SqT K H a xs ∧ xs[i]? = some x, fun i H v H' => ∃ T x, v = .ref T ∧ H T = none ∧ H' = upd H T (.tup [.int (i : Nat), x]) ∧ ∀ xs, SqT K H a xs → xs[i]? = some x, fun i H => ∃ xs : List V, SqT K H a xs ∧ xs.length ≤ i⟩
theorem turn_enumT {P : Program} {w : World} {K : PySem.W.Frag} {elts : List Expr} {kk : Nat} {tpos : Pos} (a e it : Addr) :
    Turn P w K (.Tuple elts kk tpos) (ItE K a) [e, it] e (fun i h => (∃ old, IsEnum h e it ((i : Nat) : Int) old) ∧ h.IsTupleIter it a i ∧ e ≠ it ∧ a ≠ it ∧ a ≠ e) where
  mem := by simp
  obj := fun i h st b hb => by
    obtain ⟨⟨old, he⟩, ⟨o, ho, hc, hd⟩, _⟩ := st
    have ee : b = e ∨ b = it := by simpa using hb
    rcases ee with z | z
    · rw [z]
      exact ⟨_, he, fun v q => nomatch q⟩
    · rw [z]
      exact ⟨o, ho, fun v q => by rw [hd] at q; cases q⟩
  keep := fun i h h' st k => by
    obtain ⟨⟨old, he⟩, hi, hne⟩ := st
    exact ⟨⟨old, k e (by simp) _ he⟩, (let ⟨o, ho, r⟩ := hi; ⟨o, k it (by simp) o ho, r⟩), hne⟩
  item := by
    intro X hP hw hK hc i pins s σ H E I hf st hg
    subst hP hw hK
    obtain ⟨⟨old, he⟩, hit, hne, hai, hae⟩ := st
    obtain ⟨xs, x, hq, hx⟩ := hg
    obtain ⟨its, rv, p, hz⟩ := I.tuple hq
    obtain ⟨u, hu, ru⟩ := rv.get hx
    have hel : e < s.heap.objs.size := Heap.lt_size he
    have hil : it < s.heap.objs.size := by
      obtain ⟨_, q, _⟩ := hit
      exact Heap.lt_size q
    have hlt : i < its.toArray.size := by
      rw [List.size_toArray, ← rv.length]
      exact (List.getElem?_eq_some_iff.mp hx).1
    have D : Draws X.prog X.w X.A.in1 it [it, a] its.toArray.size (fun j v => its.toArray[j]? = some v) (fun j h => h.IsTupleIter it a j ∧ h.IsTuple a its.toArray) := Draws.tuple (A := X.A.in1) (I.ok.hd hc) it a hai its.toArray
    refine wpAny_pyNext_enum_itemD D he ⟨hit, p⟩ hlt hne (by simp [Ne.symm hae, hne]) fun v h1 tk hv ho hit1 hT hsz hk => ?_
    have ev : v = u := by
      have z : some v = some u := by rw [← hv]; simpa using hu
      exact Option.some.inj z
    subst ev
    refine ⟨_, rfl, wpAny_letOwnedTupleGo_enum (s := { s with heap := h1, toks := tk + 1 }) ho fun h2 he2 sb => ?_⟩
    have hT2 : h2.get? s.heap.objs.size = some { cls := .type "tuple", data := .seq #[.int i tk, v] } := (sb.2 _ (Nat.ne_of_gt hel)).trans hT
    have new : ObjOk X.prog X.w (upd H s.heap.objs.size (.tup [.int (i : Nat), x])) h2 s.heap.objs.size (.tup [.int (i : Nat), x]) :=
      ⟨by show 2 ≤ sizeLine; decide, [.int i tk, v], .cons ⟨_, rfl⟩ (.cons ru .nil), ⟨_, hT2, rfl, _, rfl⟩⟩
    have J : Inv X pins σ (upd H s.heap.objs.size (.tup [.int (i : Nat), x])) { s with heap := h2, toks := tk + 1 } :=
      I.turnedNew (ch := [e, it]) (fun b ob hb q => (sb.2 b (fun z => hb (by simp [z]))).trans (hk b ob (fun z => hb (by simp [z])) (fun z => hb (by simp [z])) q)) hf (Nat.le_refl _) new
    refine ⟨.ref s.heap.objs.size, _, J, rfl, ⟨_, x, rfl, I.hok.fresh (Nat.le_refl _), rfl, fun ys hy => by rw [I.tuple_inj hy hq]; exact hx⟩, ⟨⟨v, ?_⟩, ?_, hne, hai, hae⟩, fun b hb => ?_⟩
    · have e1 : ((i + 1 : Nat) : Int) = (i : Int) + 1 := by omega
      rw [e1]
      exact he2
    · obtain ⟨o, ho2, r⟩ := hit1.1
      exact ⟨o, (sb.2 it (Ne.symm hne)).trans ho2, r⟩
    · have hb2 : b < s.heap.objs.size := by
        have ee : b = e ∨ b = it := by simpa using hb
        rcases ee with z | z
        · rw [z]; exact hel
        · rw [z]; exact hil
      rw [upd_ne (Nat.ne_of_lt hb2)]
      exact (hf b hb).1
  done := by
    intro X hP hw hK hc i pins s σ H E I hf st hg
    subst hP hw hK
    obtain ⟨⟨old, he⟩, hit, hne, hai, hae⟩ := st
    obtain ⟨xs, hq, hx⟩ := hg
    obtain ⟨its, rv, p, hz⟩ := I.tuple hq
    obtain ⟨f0, f1, f2, f3, f4, f5⟩ := hf it (by simp)
    have hl := rv.length
    have D : Draws X.prog X.w X.A.in1 it [it, a] i (fun j v => its.toArray[j]? = some v) (fun j h => j = i ∧ h.IsTupleIter it a i ∧ h.IsTuple a its.toArray ∧ its.toArray.size ≤ i) := by
      have D0 := Draws.tuple (prog := X.prog) (w := X.w) (A := X.A.in1) (I.ok.hd hc) it a hai its.toArray
      refine ⟨fun j h z => D0.live i h ⟨z.2.1, z.2.2.1⟩, fun j h h' z k => ⟨z.1, (D0.frame i h h' ⟨z.2.1, z.2.2.1⟩ k).1, (D0.frame i h h' ⟨z.2.1, z.2.2.1⟩ k).2, z.2.2.2⟩, fun j s Q E hj z k => ?_, fun s Q E z k => ?_⟩
      · exact absurd z.1 (Nat.ne_of_lt hj)
      · exact wpAny_nextOf_tuple_end (I.ok.hd hc) z.2.1 z.2.2.1 (Array.getElem?_eq_none z.2.2.2) k
    exact wpAny_pyNext_enum_endD D he ⟨rfl, hit, p, by rw [List.size_toArray]; omega⟩ fun h' eb => ⟨rfl, I.turned (t' := s.toks) (fun b o hb q => eb b o hb q) f0 f1 f3 f4 f5⟩
  self := fun A i s Q E st h => let ⟨⟨_, he⟩, _⟩ := st; wpAny_pyIter_enum he h
def iEnumT (K : PySem.W.Frag) (ta : TA) : TI := fun σ H R => ta σ H fun vs H1 => ∃ a xs, vs = [.ref a] ∧ SqT K H1 a xs ∧ R (ItE K a) H1
theorem pi_enumT {X : Cx} {e : Expr} {ta : TA} {p pos tpos : Pos} {elts : List Expr} {kk : Nat} (hg : Gl X "enumerate") (hm : X.mg "enumerate" = none) (ha : PA X [e] ta) (hs : starEach [e] X.env = [(false, eval e X.env)] := by rfl) :
    PI X (.Tuple elts kk tpos) (.Call (.Name "enumerate" p) [e] [] pos) (iEnumT X.K ta) := by
  constructor
  intro pins s σ H R I h
  refine Call_ (ld_blt I hg hm boot_enumerate (PyProof.Rows.callWith_type1 (thn (ha.run pos pins s σ H _ I h) fun us s1 hh => ?_) hs rfl))
  obtain ⟨vs, H1, I1, r1, a, xs, ex, hq, q⟩ := hh
  subst ex
  cases r1 with
  | cons r rr =>
    cases rr
    cases r
    obtain ⟨its, rv, p2, hz⟩ := I1.tuple hq
    refine call_enumT p2 fun h2 he hit hk => wpAny_pyIter_enum he ?_
    have I2 : Inv X pins σ H1 { s1 with heap := h2 } := I1.kept (t' := s1.toks) hk
    have hlt : a < s1.heap.objs.size := p2.lt
    refine ⟨s1.heap.objs.size + 1, [s1.heap.objs.size + 1, s1.heap.objs.size], _, _, H1, rfl, I2, turn_enumT a (s1.heap.objs.size + 1) s1.heap.objs.size, ⟨⟨.none, he⟩, hit, Nat.succ_ne_self _, Nat.ne_of_lt hlt, Nat.ne_of_lt (Nat.lt_succ_of_lt hlt)⟩, fun b hb => ?_, q⟩
    have ee : b = s1.heap.objs.size + 1 ∨ b = s1.heap.objs.size := by simpa using hb
    have hle : s1.heap.objs.size ≤ b := by
      rcases ee with z | z
      · rw [z]; exact Nat.le_add_right _ _
      · rw [z]; exact Nat.le_refl _
    exact I1.fpOk hle (I1.hok.fresh hle)
/-! ### t[::-1] -/
section
variable {prog : Program} {w : World} {A : Around} {E : Value → Shared → Prop} {s : Shared}
theorem back_pick (xs : Array Value) (n : Nat) (hn : n = xs.size) : (List.range n).filterMap (fun (m : Nat) => xs[(((n : Int) - 1) + (m : Int) * (-1)).toNat]?) = xs.toList.reverse := by
  subst hn
  have e : (fun (m : Nat) => xs[(((xs.size : Nat) : Int) - 1 + (m : Int) * (-1)).toNat]?) = fun m => xs[xs.size - 1 - m]? := by
    funext m
    have z : (((xs.size : Nat) : Int) - 1 + (m : Int) * (-1)).toNat = xs.size - 1 - m := by omega
    rw [z]
  rw [e]
  have a := PySem.W.krv_pick xs
  have b : PySem.slicePick xs none none (some (-1)) = ((List.range xs.size).filterMap fun m => xs[xs.size - 1 - m]?).toArray := by
    unfold PySem.slicePick
    rw [PySem.W.krv_bounds]
    show ((PySem.sliceRange ((xs.size : Int) - 1) (-1) (-1)).filterMap (xs[·]?)).toArray = _
    rw [PySem.W.krv_sliceRange, List.filterMap_map]
    rfl
  have c := a.symm.trans b
  have d := congrArg Array.toList c
  exact d.symm
theorem applied_back {sl : Addr} {vs : Value} {n : Nat} {Q : Int × Int × Nat → Shared → Prop} (hs : s.heap.IsSliceOf sl .none .none vs) (pv : IsPart vs (some (-1)))
    (h : Q ((n : Int) - 1, -1, n) s) : wpAny (model prog w) A (Builtin.Slice.sliceApplied (.ref sl) (pure (n : Int))) Q E s := by
  obtain ⟨os, hos, hcs, hds⟩ := id hs
  unfold Builtin.Slice.sliceApplied Builtin.Slice.sliceFields
  refine wpAny_bind (wpAny_bind (wpAny_field hos hds (x := .none) rfl (wpAny_bind (wpAny_field hos hds (x := .none) rfl (wpAny_bind (wpAny_field hos hds (x := vs) rfl (wpAny_pure ?_)))))))
  refine wpAny_bind (HT.slicePart_ pv ?_)
  show wpAny _ _ (if ((-1 : Int) == 0) = true then _ else _) _ _ s
  rw [if_neg (by decide)]
  refine wpAny_bind (HT.slicePart_ .none (wpAny_bind (HT.slicePart_ .none (wpAny_bind (wpAny_pure ?_)))))
  show wpAny _ _ (pure ((n : Int) - 1, (-1 : Int), Builtin.Slice.slicePlaces ((n : Int) - 1) (-1) (-1))) _ _ s
  have e : Builtin.Slice.slicePlaces ((n : Int) - 1) (-1) (-1) = n := by
    unfold Builtin.Slice.slicePlaces
    rw [if_neg (by decide)]
    by_cases hn : (n : Int) - 1 > -1
    · rw [if_pos hn, show (- -1 : Int) = 1 by decide, Int.ediv_one]
      omega
    · rw [if_neg hn]
      omega
  rw [e]
  exact wpAny_pure h
theorem item_back {t sl : Addr} {items : Array Value} {vs : Value} {Q : Value → Shared → Prop} (ht : IsTup s.heap t items) (hs : s.heap.IsSliceOf sl .none .none vs) (pv : IsPart vs (some (-1)))
    (h : Q (.ref s.heap.objs.size) { s with heap := s.heap.push { cls := .type "tuple", data := .seq items.toList.reverse.toArray } }) (hsz : items.size ≤ sizeLine) : wpAny (model prog w) A (getItem (.ref t) (.ref sl)) Q E s := by
  have hok : sizeOk (.seq items.toList.reverse.toArray) := by
    show items.toList.reverse.toArray.size ≤ sizeLine
    rw [List.size_toArray, List.length_reverse, Array.length_toList]
    exact hsz
  obtain ⟨os, hos, hcs, hds⟩ := id hs
  have hTs : s.TypeIs (.ref sl) "slice" := ⟨os, hos, hcs⟩
  unfold getItem
  try with_reducible refine wpAny_holding ?_
  first | refine wpAny_bind (wpAny_pure ?_) | skip
  refine wpAny_bind (wpAny_sequenceKey ht.typeIs (by decide) ?_)
  refine wpAny_bind (wpAny_callSpecial?_slot (name := Str.ofString "__getitem__") ht.typeIs PyProof.Rows.slot_tuple_getitem (wpAny_call_entry PyProof.Rows.slot_tuple_getitem ht.typeIs entry_tuple_getitem ?_ (args_tuple_getitem _ _)))
  show wpAny _ _ (Builtin.Tuple.tupleItemsOf (.ref t) >>= _) _ _ s
  refine wpAny_bind (tupleItemsOf_ ht ?_)
  refine wpAny_bind (wpAny_typeOf hTs ?_)
  rw [if_pos (by decide)]
  refine wpAny_bind (applied_back hs pv ?_)
  have hno : ¬ ((((items.size : Int) - 1) == 0 && (-1 : Int) == 1 && items.size == items.size) = true) := by
    intro q
    rw [Bool.and_eq_true, Bool.and_eq_true] at q
    exact absurd q.1.2 (by decide)
  show wpAny _ _ (if (((items.size : Int) - 1) == 0 && (-1 : Int) == 1 && items.size == items.size) = true then _ else _) _ _ s
  rw [if_neg hno, back_pick items items.size rfl]
  first
    | exact wpAny_bind (m := Builtin.Tuple.tupleExact _) (wpAny_newObj_type (wpAny_pure ⟨_, rfl, wpAny_pure h⟩) hok)
    | exact wpAny_bind (m := Builtin.Tuple.tupleExact _) (wpAny_newObj_type (wpAny_bind (wpAny_pure (wpAny_pure ⟨_, rfl, wpAny_pure h⟩))) hok)
    | exact wpAny_bind (wpAny_bind (m := Builtin.Tuple.tupleExact _) (wpAny_newObj_type (wpAny_pure (wpAny_pure ⟨_, rfl, wpAny_pure h⟩)) hok))
    | exact wpAny_bind (wpAny_bind (m := Builtin.Tuple.tupleExact _) (wpAny_newObj_type (wpAny_pure ⟨_, rfl, wpAny_pure h⟩) hok))
end
def tRevT (K : PySem.W.Frag) (te : TE) : TE := fun σ H Q => te σ H fun x H1 => ∃ a xs, x = .ref a ∧ SqT K H1 a xs ∧ ∀ p, H1 p = none → Q (.ref p) (upd H1 p (.tup xs.reverse))
theorem pe_revT {X : Cx} {e : Expr} {te : TE} {k : Nat} {p1 p2 p3 pos : Pos} (he : PE X e te) : PE X (.Subscript e (.Slice none none (some (.UnaryOp .USub (.Constant (.int 1) k p1) p2)) p3) pos) (tRevT X.K te) := by
  constructor
  intro pins s σ H Q I h
  refine Subscript_ (thn (he.run pins s σ H _ I h) fun v s1 hh => ?_)
  obtain ⟨x, H1, I1, r1, a, xs, ex, hx, q⟩ := hh
  subst ex
  cases r1
  have hst : PO X (some (.UnaryOp .USub (.Constant (.int 1) k p1) p2)) (tPart (tUn (rU fun i => .int (-i)) (tC (.int 1)))) := po_some (pe_un un_neg pe_int)
  refine wpAny_Slice (thn (po_none.run pins s1 σ H1 (fun o H2 => o = none ∧ H2 = H1) I1 ⟨rfl, rfl⟩) fun vl s2 hl => ?_)
  obtain ⟨l, H2, I2, pl, el, e2⟩ := hl
  subst el e2
  refine thn (po_none.run pins s2 σ H2 (fun o H3 => o = none ∧ H3 = H2) I2 ⟨rfl, rfl⟩) fun vu s3 hu => ?_
  obtain ⟨u, H3, I3, pu, eu, e3⟩ := hu
  subst eu e3
  refine thn (hst.run pins s3 σ H3 (fun o H4 => o = some (-1) ∧ H4 = H3) I3 ⟨1, rfl, -1, rfl, rfl, rfl⟩) fun vs s4 ho => ?_
  obtain ⟨o, H4, I4, ps, eo, e4⟩ := ho
  subst eo e4
  cases pl
  cases pu
  have I5 : Inv X pins σ H4 { s4 with heap := s4.heap.push { cls := .type "slice", data := .fields #[.none, .none, vs] } } := I4.kept (t' := s4.toks) fun b ob q => Heap.get?_push_of_some _ q
  obtain ⟨its, r, ht, hz⟩ := I5.tuple hx
  have hlen := r.length
  show wpAny (model X.prog X.w) X.A (subscriptTail e (.Slice none none (some (.UnaryOp .USub (.Constant (.int 1) k p1) p2)) p3) (.ref a) (.ref s4.heap.objs.size)) (EP X pins σ Q) X.xe { s4 with heap := s4.heap.push { cls := .type "slice", data := .fields #[.none, .none, vs] } }
  refine tail_any (ops := [.ref a, .ref s4.heap.objs.size]) ht.typeIs (PyProof.Rows.slot_tuple_getitem.lookup) ?_ (by with_unfolding_all rfl)
  refine item_back ht (Heap.IsSliceOf.new _ .none .none vs) ps ?_ (by rw [List.size_toArray]; omega)
  refine ⟨.ref _, _, I5.laid (t' := s4.toks) (o := .tup xs.reverse) (fun b ob q => Heap.get?_push_of_some _ q) (Nat.le_refl _) ?_, rfl, q _ (I5.hok.fresh (Nat.le_refl _))⟩
  exact ⟨by rw [List.length_reverse]; exact hz, _, r.reverse, IsTup.new _ _⟩
end SE
/-! Plain data: texts, steps; when they are equal, how they are shown. -/
namespace SE
open PySem PySem.Spec PyProof.Rows L2
/-- a text that is an item -/
structure Item (z : Str) : Prop where
  pos : 1 ≤ z.length
  most : z.length ≤ 8
  low : ∀ c ∈ z.cps.toList, 97 ≤ c ∧ c ≤ 122
/-- data that may be compared and shown: its depth, its weight -/
structure Nice (k B : Nat) (d : PyData) : Prop where
  lay : d.canLay0 = true
  dep : d.depth ≤ k
  sh : d.showable = true
  nd : d.hasDict = false
  ish : d.intsShort 13 = true
  wt : d.weight ≤ B
theorem Nice.mono {k j B C : Nat} {d : PyData} (h : Nice k B d) (hk : k ≤ j) (hB : B ≤ C) : Nice j C d := ⟨h.lay, Nat.le_trans h.dep hk, h.sh, h.nd, h.ish, Nat.le_trans h.wt hB⟩
theorem nice_str {z : Str} {B : Nat} (hc : ∀ c ∈ z.cps.toList, c < 0x110000) (hB : z.length ≤ B) : Nice 0 B (.str z) := by
  refine ⟨?_, ?_, ?_, ?_, ?_, ?_⟩
  · simp only [PyData.canLay0, PyData.strOk]
    rw [← Array.all_toList, List.all_eq_true]
    intro c h
    exact decide_eq_true (hc c h)
  · simp only [PyData.depth]
    exact Nat.le_refl _
  · simp only [PyData.showable]
  · simp only [PyData.hasDict]
  · simp only [PyData.intsShort]
  · simp only [PyData.weight]
    exact hB
theorem Item.nice {z : Str} (h : Item z) : Nice 0 8 (.str z) := nice_str (fun c hc => by have := (h.low c hc).2; omega) h.most
theorem nice_all {k B : Nat} : ∀ {ds : List PyData}, (∀ d ∈ ds, Nice k B d) → PyData.canLayAll0 ds = true ∧ PyData.depthAll ds ≤ k ∧ PyData.showableAll ds = true ∧ PyData.hasDictAll ds = false ∧ PyData.intsShortAll 13 ds = true ∧ PyData.weightAll ds ≤ ds.length * (B + 1)
  | [], _ => by
    refine ⟨?_, ?_, ?_, ?_, ?_, ?_⟩
    · simp only [PyData.canLayAll0]
    · simp only [PyData.depthAll]
      exact Nat.zero_le _
    · simp only [PyData.showableAll]
    · simp only [PyData.hasDictAll]
    · simp only [PyData.intsShortAll]
    · simp only [PyData.weightAll]
      exact Nat.zero_le _
  | d :: ds, h => by
    obtain ⟨a1, a2, a3, a4, a5, a6⟩ := nice_all (ds := ds) fun x hx => h x (List.mem_cons_of_mem _ hx)
    have q := h d List.mem_cons_self
    refine ⟨?_, ?_, ?_, ?_, ?_, ?_⟩
    · simp only [PyData.canLayAll0, q.lay, a1, Bool.and_self]
    · simp only [PyData.depthAll]
      exact Nat.max_le.mpr ⟨q.dep, a2⟩
    · simp only [PyData.showableAll, q.sh, a3, Bool.and_self]
    · simp only [PyData.hasDictAll, q.nd, a4, Bool.or_self]
    · simp only [PyData.intsShortAll, q.ish, a5, Bool.and_self]
    · simp only [PyData.weightAll, List.length_cons]
      have := q.wt
      rw [Nat.add_mul]
      omega
theorem nice_list {k B : Nat} {ds : List PyData} (h : ∀ d ∈ ds, Nice k B d) : Nice (k + 1) (ds.length * (B + 1)) (.list ds) := by
  obtain ⟨a1, a2, a3, a4, a5, a6⟩ := nice_all h
  exact ⟨by simp only [PyData.canLay0]; exact a1, by simp only [PyData.depth]; omega, by simp only [PyData.showable]; exact a3, by simp only [PyData.hasDict]; exact a4, by simp only [PyData.intsShort]; exact a5, by simp only [PyData.weight]; exact a6⟩
theorem nice_tuple {k B : Nat} {ds : List PyData} (h : ∀ d ∈ ds, Nice k B d) : Nice (k + 1) (ds.length * (B + 1)) (.tuple ds) := by
  obtain ⟨a1, a2, a3, a4, a5, a6⟩ := nice_all h
  exact ⟨by simp only [PyData.canLay0]; exact a1, by simp only [PyData.depth]; omega, by simp only [PyData.showable]; exact a3, by simp only [PyData.hasDict]; exact a4, by simp only [PyData.intsShort]; exact a5, by simp only [PyData.weight]; exact a6⟩
theorem Nice.shaped {k B : Nat} {d : PyData} (h : Nice k B d) (hk : k ≤ 64) : SeqAt.shaped d = true := by
  unfold SeqAt.shaped
  rw [h.lay, Bool.true_and]
  exact decide_eq_true (Nat.le_trans h.dep hk)
theorem Nice.shown {k B : Nat} {d : PyData} (h : Nice k B d) (hk : k ≤ 64) (hB : B ≤ 2 ^ 20) : d.shown.length ≤ sizeLine := by
  refine PyData.shown_fits_of_layable0 (B := 13) (by decide) (by decide) ?_ h.ish
  unfold PyData.layable0
  rw [h.lay, Bool.true_and, Bool.and_eq_true]
  exact ⟨decide_eq_true (Nat.le_trans h.dep hk), decide_eq_true (Nat.le_trans h.wt hB)⟩
theorem Nice.eqv {k B : Nat} {d : PyData} (h : Nice k B d) : PyData.eqv d d = true := SeqAt.eqv_refl d h.lay
/-! ### texts -/
theorem dp_strs {K : PySem.W.Frag} {H : Hp} : ∀ zs : List Str, DpAll K H (zs.map V.str) (zs.map PyData.str)
  | [] => .nil
  | z :: zs => .cons (.str z) (dp_strs zs)
theorem eqvAll_strs : ∀ a b : List Str, PyData.eqvAll (a.map .str) (b.map .str) = decide (a = b)
  | [], [] => by simp [PyData.eqvAll]
  | [], y :: b => by simp [PyData.eqvAll]
  | x :: a, [] => by simp [PyData.eqvAll]
  | x :: a, y :: b => by
    rw [List.map_cons, List.map_cons]
    unfold PyData.eqvAll
    rw [eqvAll_strs a b]
    unfold PyData.eqv
    by_cases e : x = y
    · subst e
      simp
    · simp [e]
theorem eqv_listS (a b : List Str) : PyData.eqv (.list (a.map .str)) (.list (b.map .str)) = decide (a = b) := by
  unfold PyData.eqv
  exact eqvAll_strs a b
theorem eqv_tupS (a b : List Str) : PyData.eqv (.tuple (a.map .str)) (.tuple (b.map .str)) = decide (a = b) := by
  unfold PyData.eqv
  exact eqvAll_strs a b
theorem nice_strs {zs : List Str} (h : ∀ z ∈ zs, Item z) : ∀ d ∈ zs.map PyData.str, Nice 0 8 d := by
  intro d hd
  obtain ⟨z, hz, rfl⟩ := List.mem_map.mp hd
  exact (h z hz).nice
/-! ### steps -/
abbrev Stp := Bool × Str
def act (b : Bool) : Str := if b then "push" else "pop"
theorem act_nice (b : Bool) : Nice 0 8 (.str (act b)) := by
  cases b
  · exact nice_str (by decide +kernel) (by decide +kernel)
  · exact nice_str (by decide +kernel) (by decide +kernel)
def stepD (s : Stp) : PyData := .tuple [.str (act s.1), .str s.2]
theorem stepD_nice {s : Stp} (h : Item s.2) : Nice 1 18 (stepD s) := by
  refine (nice_tuple (k := 0) (B := 8) (ds := [.str (act s.1), .str s.2]) ?_).mono (Nat.le_refl _) (by show 2 * 9 ≤ 18; decide)
  intro d hd
  rcases List.mem_cons.mp hd with q | q
  · rw [q]
    exact act_nice _
  · rw [List.mem_singleton.mp q]
    exact h.nice
/-- a step -/
def StepV (K : PySem.W.Frag) (H : Hp) (v : V) (s : Stp) : Prop := ∃ t, v = .ref t ∧ SqT K H t [.str (act s.1), .str s.2]
abbrev StepsV (K : PySem.W.Frag) (H : Hp) : List V → List Stp → Prop := Paired (StepV K H)
theorem StepV.same {K : PySem.W.Frag} {H H' : Hp} {v : V} {s : Stp} (h : StepV K H v s) (e : Same H H') : StepV K H' v s := by
  obtain ⟨t, rfl, q⟩ := h
  exact ⟨t, rfl, Same.tup e q⟩
theorem StepsV.same {K : PySem.W.Frag} {H H' : Hp} {xs : List V} {ss : List Stp} (h : StepsV K H xs ss) (e : Same H H') : StepsV K H' xs ss := Paired.mapP h fun _ _ q => q.same e
theorem StepsV.at {K : PySem.W.Frag} {H : Hp} : ∀ {xs : List V} {ss : List Stp} {i : Nat} {v : V}, StepsV K H xs ss → xs[i]? = some v → ∃ s, ss[i]? = some s ∧ StepV K H v s
  | _, _, _, _, .nil, h => by simp at h
  | _, _, 0, _, .cons a _, h => by
    have e := Option.some.inj h
    subst e
    exact ⟨_, rfl, a⟩
  | _, _, i + 1, _, .cons _ r, h => StepsV.at (i := i) r h
theorem dp_steps {K : PySem.W.Frag} {H : Hp} : ∀ {xs : List V} {ss : List Stp}, StepsV K H xs ss → DpAll K H xs (ss.map stepD)
  | _, _, .nil => .nil
  | _, _, .cons a r => by
    obtain ⟨t, rfl, q⟩ := a
    exact .cons (.tup q (.cons (.str _) (.cons (.str _) .nil))) (dp_steps r)
theorem nice_steps {ss : List Stp} (h : ∀ s ∈ ss, Item s.2) : ∀ d ∈ ss.map stepD, Nice 1 18 d := by
  intro d hd
  obtain ⟨s, hs, rfl⟩ := List.mem_map.mp hd
  exact stepD_nice (h s hs)
theorem StepsV.rev {K : PySem.W.Frag} {H : Hp} : ∀ {xs : List V} {ss : List Stp}, StepsV K H xs ss → StepsV K H xs.reverse ss.reverse
  | _, _, .nil => .nil
  | _, _, .cons a r => by
    rw [List.reverse_cons, List.reverse_cons]
    exact (StepsV.rev r).snoc a
/-- the exchange of push and pop -/
def flip1 (s : Stp) : Stp := (!s.1, s.2)
def revM (ss : List Stp) : List Stp := ss.reverse.map flip1
/-- what a step makes of a stack -/
def stepM (s : Stp) (zs : List Str) : Option (List Str) := if s.1 then some (s.2 :: zs) else match zs with
  | [] => none
  | z :: r => if z = s.2 then some r else none
def runM : List Stp → List Str → Option (List Str)
  | [], zs => some zs
  | s :: ss, zs => match stepM s zs with
    | none => none
    | some ws => runM ss ws
theorem runM_append : ∀ (a b : List Stp) (zs : List Str), runM (a ++ b) zs = (runM a zs).bind (runM b)
  | [], b, zs => rfl
  | s :: a, b, zs => by
    show (match stepM s zs with | none => none | some ws => runM (a ++ b) ws) = (match stepM s zs with | none => none | some ws => runM a ws).bind (runM b)
    cases stepM s zs with
    | none => rfl
    | some ws => exact runM_append a b ws
theorem stepM_flip {s : Stp} {zs ws : List Str} (h : stepM s zs = some ws) : stepM (flip1 s) ws = some zs := by
  obtain ⟨b, x⟩ := s
  cases b with
  | true =>
    have e : x :: zs = ws := by
      have q : some (x :: zs) = some ws := h
      exact Option.some.inj q
    subst e
    show (if x = x then some zs else none) = some zs
    rw [if_pos rfl]
  | false =>
    cases zs with
    | nil => exact absurd h (by intro q; cases q)
    | cons z r =>
      have q : (if z = x then some r else none) = some ws := h
      by_cases e : z = x
      · rw [if_pos e] at q
        have e2 := Option.some.inj q
        subst e2
        subst e
        rfl
      · rw [if_neg e] at q
        cases q
theorem runM_rev : ∀ (ss : List Stp) (zs ws : List Str), runM ss zs = some ws → runM (revM ss) ws = some zs
  | [], zs, ws, h => by
    have e : zs = ws := Option.some.inj h
    subst e
    rfl
  | s :: ss, zs, ws, h => by
    have h' : (match stepM s zs with | none => none | some ys => runM ss ys) = some ws := h
    cases e : stepM s zs with
    | none =>
      rw [e] at h'
      cases h'
    | some ys =>
      rw [e] at h'
      have ih := runM_rev ss ys ws h'
      show runM ((s :: ss).reverse.map flip1) ws = some zs
      rw [List.reverse_cons, List.map_append, runM_append]
      have ih' : runM (ss.reverse.map flip1) ws = some ys := ih
      rw [ih']
      show (match stepM (flip1 s) ys with | none => none | some ws => runM [] ws) = some zs
      rw [stepM_flip e]
      rfl
theorem revM_revM (ss : List Stp) : revM (revM ss) = ss := by
  unfold revM
  rw [← List.map_reverse, List.reverse_reverse, List.map_map]
  have e : flip1 ∘ flip1 = id := by
    funext s
    obtain ⟨b, x⟩ := s
    cases b <;> rfl
  rw [e, List.map_id]
theorem revM_items {ss : List Stp} (h : ∀ s ∈ ss, Item s.2) : ∀ s ∈ revM ss, Item s.2 := by
  intro s hs
  obtain ⟨t, ht, rfl⟩ := List.mem_map.mp hs
  exact h t (List.mem_reverse.mp ht)
theorem stepM_items {s : Stp} {zs ws : List Str} (h : stepM s zs = some ws) (hs : Item s.2) (hz : ∀ z ∈ zs, Item z) : ∀ z ∈ ws, Item z := by
  obtain ⟨b, x⟩ := s
  cases b with
  | true =>
    have e : x :: zs = ws := Option.some.inj (show some (x :: zs) = some ws from h)
    subst e
    intro z m
    rcases List.mem_cons.mp m with q | q
    · rw [q]
      exact hs
    · exact hz z q
  | false =>
    cases zs with
    | nil => exact absurd h (by intro q; cases q)
    | cons y r =>
      have q : (if y = x then some r else none) = some ws := h
      by_cases e : y = x
      · rw [if_pos e] at q
        have e2 := Option.some.inj q
        subst e2
        exact fun z m => hz z (List.mem_cons_of_mem _ m)
      · rw [if_neg e] at q
        cases q
theorem stepM_len {s : Stp} {zs ws : List Str} (h : stepM s zs = some ws) : ws.length ≤ zs.length + 1 := by
  obtain ⟨b, x⟩ := s
  cases b with
  | true =>
    have e : x :: zs = ws := Option.some.inj (show some (x :: zs) = some ws from h)
    subst e
    exact Nat.le_refl _
  | false =>
    cases zs with
    | nil => exact absurd h (by intro q; cases q)
    | cons y r =>
      have q : (if y = x then some r else none) = some ws := h
      by_cases e : y = x
      · rw [if_pos e] at q
        have e2 := Option.some.inj q
        subst e2
        rw [List.length_cons]
        omega
      · rw [if_neg e] at q
        cases q
end SE
namespace SE
open PySem PySem.Spec PyProof.Rows L2
def topS (i : Nat) : Stmt := PySem.Challenge.pw_stackeffect_k62_invalid_observations.main.body.getD i (.Pass ⟨0, 0, 0, 0⟩)
abbrev sWall : Stmt := topS 0
abbrev sStackerror : Stmt := topS 2
abbrev sInvalidword : Stmt := topS 3
abbrev sInvalidsteps : Stmt := topS 4
abbrev sInvalidnumber : Stmt := topS 5
abbrev sInvalidcandidates : Stmt := topS 6
abbrev sInvalidobservation : Stmt := topS 7
abbrev sIsWhole : Stmt := topS 9
abbrev sIsItem : Stmt := topS 15
abbrev sIsWord : Stmt := topS 16
abbrev sIsStep : Stmt := topS 17
abbrev sMayHold : Stmt := topS 18
abbrev sChkSteps : Stmt := topS 19
abbrev sChkWord : Stmt := topS 20
abbrev sByHeight : Stmt := topS 22
abbrev sLeastPeak : Stmt := topS 24
abbrev sEffect : Stmt := topS 25
abbrev sReplaced : Stmt := topS 26
abbrev sJoined : Stmt := topS 27
abbrev sPartsOfStep : Stmt := topS 28
abbrev sEffectOf : Stmt := topS 29
abbrev sAreCandidates : Stmt := topS 32
abbrev sCheckCandidates : Stmt := topS 33
abbrev sIsObservation : Stmt := topS 34
abbrev sCheckObservations : Stmt := topS 35
abbrev sGivesAll : Stmt := topS 36
abbrev sPossible : Stmt := topS 37
abbrev sIndexesByResult : Stmt := topS 38
abbrev sOutcomes : Stmt := topS 39
abbrev sLargestMany : Stmt := topS 40
abbrev sBestStack : Stmt := topS 41
abbrev sPool : Stmt := topS 43
abbrev sTake : Stmt := topS 44
abbrev sName : Stmt := topS 45
abbrev sItems : Stmt := topS 46
abbrev sSteps : Stmt := topS 47
abbrev sWord : Stmt := topS 48
abbrev sLawTold : Stmt := topS 49
abbrev sLaw : Stmt := topS 50
end SE
namespace SE
open PySem PySem.Spec PyProof.Rows L2
section
variable {P : Program} {w : World} {K : PySem.W.Frag} {mg : Str → Option Value} {base : Heap}
/-! ### _law_take -/
def spTake : Sp := fun xs H Q _ => ∃ (p : Addr) (n : Int), xs = [.ref p, .int n] ∧ Pool H p ∧ 1 ≤ n ∧ n ≤ 100000 ∧
  ∀ (r : Int) (H' : Hp), But p H H' → Pool H' p → 0 ≤ r → r < n → Q (.int r) H'
theorem scTake : FnScope ["_law_pool_here", "_law_many", "_law_found"] ["_law_pool_here", "_law_many"] (defScope sTake) := ⟨rfl, rfl, rfl, by decide +kernel, rfl, by decide +kernel, by decide +kernel⟩
theorem has_take (D : Def K mg "_law_take" sTake) : Has P w K mg base "_law_take" 1 ["_law_pool_here", "_law_many"] [] spTake := by
  refine has_of D scTake (fun _ _ _ _ _ _ us hl => match us, hl with | [_, _], _ => rfl) (fun xs H Q E h => ?_) (fun f cv A out s H xs Q E hr h => ?_)
  · obtain ⟨p, n, rfl, _⟩ := h
    rfl
  · obtain ⟨p, n, rfl, hp, h1, h2, k⟩ := h
    obtain ⟨m, z, e, hm, hz0, hz1⟩ := hp.ex
    have a0 : atI [V.int m, V.int z] 0 = some (.int m) := atI_nat (j := 0) rfl
    refine ⟨_, pss_cons (ps_if (pt_cmpR op_gt (pe_ix ix_list (pv 0) pe_int (fun _ _ => rfl)) pe_int (nomark _))
        (pss_cons (ps_set (i := 2) scTake.nd rfl (.inl rfl) (pe_op op_modN (pe_ix ix_list (pv 0) pe_int (fun _ _ => rfl)) (pv 1)))
        (pss_cons (ps_asg (pe_op op_fdivN (pe_ix ix_list (pv 0) pe_int (fun _ _ => rfl)) (pv 1)) (pg_sub (pv 0) pe_int set_list))
        (pss_one (ps_ret (pv 2))))) pss_nil)
      (pss_cons (ps_asg (pe_op op_mod (pe_op op_add (pe_op op_mul (pe_ix ix_list (pv 0) pe_int (fun _ _ => rfl)) pe_int) pe_int) pe_int) (pg_sub (pv 0) pe_int set_list))
      (pss_one (ps_ret (pe_op op_modN (pe_op op_fdiv (pe_op op_mod (pe_op op_mul (pe_ix ix_list (pv 0) pe_int (fun _ _ => rfl)) (pe_ix ix_list (pv 0) pe_int (fun _ _ => rfl))) pe_int) pe_int) (pv 1))))), ?_⟩
    refine ⟨.ref p, rfl, p, _, 0, _, rfl, rfl, .of e, a0, m, 0, rfl, rfl, _, rfl, ite2 (fun c => ?_) (fun c => ?_)⟩
    · refine ⟨.ref p, rfl, p, _, 0, _, rfl, rfl, .of e, a0, .int n, rfl, m, n, rfl, rfl, (by omega), ?_⟩
      refine ⟨.ref p, rfl, p, _, 0, _, rfl, rfl, .of e, a0, .int n, rfl, m, n, rfl, rfl, ⟨by omega, by omega⟩, .ref p, rfl, p, _, 0, 0, rfl, rfl, e, rfl, ?_⟩
      refine ⟨_, rfl, k _ _ .at ⟨m.fdiv n, z, upd_same, ?_, hz0, hz1⟩ ?_ ?_⟩
      · rw [Int.fdiv_eq_ediv_of_nonneg _ (by omega)]
        exact Int.ediv_nonneg hm (by omega)
      · rw [Int.fmod_eq_emod_of_nonneg _ (by omega)]
        exact Int.emod_nonneg _ (by omega)
      · rw [Int.fmod_eq_emod_of_nonneg _ (by omega)]
        exact Int.emod_lt_of_pos _ (by omega)
    · have a1 : atI [V.int m, V.int z] 1 = some (.int z) := atI_nat (j := 1) rfl
      refine ⟨.ref p, rfl, p, _, 1, _, rfl, rfl, .of e, a1, z, 48271, rfl, rfl, .inl ⟨by omega, by omega⟩, _, 11, rfl, rfl, _, 2147483647, rfl, rfl, (by show (0 : Int) < 2147483647; decide), .ref p, rfl, p, _, 1, 1, rfl, rfl, e, rfl, ?_⟩
      have q0 : 0 ≤ (z * 48271 + 11) % 2147483647 := Int.emod_nonneg _ (by omega)
      have q1 : (z * 48271 + 11) % 2147483647 < 2147483647 := Int.emod_lt_of_pos _ (by omega)
      have e' : (upd H p (.lst ([V.int m, V.int z].set 1 (.int ((z * 48271 + 11) % 2147483647))))) p = some (.lst [V.int m, .int ((z * 48271 + 11) % 2147483647)]) := upd_same
      have a1' : atI [V.int m, V.int ((z * 48271 + 11) % 2147483647)] 1 = some (.int ((z * 48271 + 11) % 2147483647)) := atI_nat (j := 1) rfl
      refine ⟨.ref p, rfl, p, _, 1, _, rfl, rfl, .of e', a1', .ref p, rfl, p, _, 1, _, rfl, rfl, .of e', a1', ((z * 48271 + 11) % 2147483647), ((z * 48271 + 11) % 2147483647), rfl, rfl, .inl ⟨by omega, by omega⟩, _, 2147483629, rfl, rfl, (by show (0 : Int) < 2147483629; decide), _, 64, rfl, rfl, ⟨by decide, by decide⟩, .int n, rfl, _, n, rfl, rfl, (by omega), ?_⟩
      refine k _ _ .at ⟨m, ((z * 48271 + 11) % 2147483647), upd_same, hm, q0, q1⟩ ?_ ?_
      · rw [Int.fmod_eq_emod_of_nonneg _ (by omega)]
        exact Int.emod_nonneg _ (by omega)
      · rw [Int.fmod_eq_emod_of_nonneg _ (by omega)]
        exact Int.emod_lt_of_pos _ (by omega)
/-! ### _law_pool -/
def spPool (K : PySem.W.Frag) : Sp := fun xs H Q _ => ∃ (a : Addr) (ns : List Int) (i : Int), xs = [.ref a, .int i] ∧ SqL K H a (ns.map V.int) ∧ 0 ≤ i ∧ i ≤ 63 ∧
  ∀ (p : Addr) (H' : Hp), Same H H' → H p = none → Pool H' p → Q (.ref p) H'
theorem scPool : FnScope ["_law_script", "_law_k", "_law_cell", "_law_size", "_law_seed"] ["_law_script", "_law_k"] (defScope sPool) := ⟨rfl, rfl, rfl, by decide +kernel, rfl, by decide +kernel, by decide +kernel⟩
theorem has_pool (D : Def K mg "_law_pool" sPool) (ml : mg "len" = none) (ma : mg "abs" = none) (mi : mg "int" = none) : Has P w K mg base "_law_pool" 1 ["_law_script", "_law_k"] [] (spPool K) := by
  refine has_of D scPool (fun _ _ _ _ _ _ us hl => match us, hl with | [_, _], _ => rfl) (fun xs H Q E h => ?_) (fun f cv A out s H xs Q E hr h => ?_)
  · obtain ⟨a, ns, i, rfl, _⟩ := h
    rfl
  · obtain ⟨a, ns, i, rfl, hS, h0, h1, k⟩ := h
    refine ⟨_, pss_cons (ps_set (i := 2) scPool.nd rfl (.inl rfl) pe_int)
      (Evl.pss_cut (ps_if (pt_cmpR op_lt (pv 1) (pe_callB call_len_seq (by rfl) ml PySem.boot_len (pa_cons (pv 0) pa_nil)) (nomark _))
        (pss_one (ps_set (i := 2) scPool.nd rfl (.inl rfl) (pe_ix ix_list (pv 0) (pv 1) (fun _ _ => rfl)))) pss_nil)
      (pss_cons (ps_set (i := 3) scPool.nd rfl (.inl rfl) (pe_callB call_abs (by rfl) ma (by decide +kernel) (pa_cons (pv 2) pa_nil)))
      (pss_cons (ps_set (i := 4) scPool.nd rfl (.inl rfl) (pe_op op_mod (pe_op op_pow (pe_op op_add (pe_op op_add (pe_op op_add (pe_op op_mod (pv 2) pe_int) (pe_op op_mul (pe_op op_mul pe_int (pv 1)) (pv 1))) (pe_op op_mul pe_int (pv 1))) pe_int) pe_int) pe_int))
      (pss_one (ps_ret (pe_lst (pa_cons (pe_op op_mul (pv 3) (pe_callTy call_int1 (by rfl) mi (by decide +kernel) (pa_cons (pe_cmpR op_ge (pv 3) (pe_op op_pow pe_int pe_int) (nomark _)) pa_nil))) (pa_cons (pv 4) pa_nil)))))))), ?_⟩
    refine ⟨fun σ H2 => H2 = H ∧ ∃ c : Int, σ = [some (.ref a), some (.int i), some (.int c), none, none], ?_, ?_⟩
    · refine ⟨_, rfl, .ref a, rfl, a, _, rfl, .inl hS, i, _, rfl, rfl, _, rfl, ite2 (fun c => ?_) (fun c => ?_)⟩
      · have hi : i < ((ns.map V.int).length : Int) := of_decide_eq_true c
        rw [List.length_map] at hi
        have hj : i.toNat < ns.length := by omega
        refine ⟨.ref a, rfl, .int i, rfl, a, _, i, .int ns[i.toNat], rfl, rfl, hS, at_of (j := i.toNat) (by omega) ?_, rfl, ns[i.toNat], rfl⟩
        rw [List.getElem?_map, List.getElem?_eq_getElem hj]
        rfl
      · exact ⟨rfl, 0, rfl⟩
    · rintro σ H2 ⟨rfl, c, rfl⟩
      refine ⟨_, rfl, c, rfl, ?_⟩
      refine ⟨_, rfl, c, 2147483629, rfl, rfl, (by show (0 : Int) < 2147483629; decide), _, rfl, 104729, i, rfl, rfl, .inl ⟨by decide, by decide⟩, _, rfl, _, i, rfl, rfl, .inr ⟨by omega, by omega⟩, _, _, rfl, rfl, _, rfl, 7919, i, rfl, rfl, .inl ⟨by decide, by decide⟩, _, _, rfl, rfl, _, 11, rfl, rfl, _, 3, rfl, rfl, ⟨by decide, by decide, ?_⟩, _, 2147483647, rfl, rfl, (by show (0 : Int) < 2147483647; decide), ?_⟩
      · have b0 : 0 ≤ c % 2147483629 := Int.emod_nonneg _ (by omega)
        have b1 : c % 2147483629 < 2147483629 := Int.emod_lt_of_pos _ (by omega)
        have b2 : 0 ≤ 104729 * i * i := Int.mul_nonneg (by omega) h0
        have b3 : 104729 * i * i ≤ 104729 * 63 * 63 := Int.mul_le_mul (by omega) h1 h0 (by omega)
        omega
      · have t0 : ∀ y : Int, 0 ≤ y ^ 3 % 2147483647 ∧ y ^ 3 % 2147483647 < 2147483647 := fun y => ⟨Int.emod_nonneg _ (by omega), Int.emod_lt_of_pos _ (by omega)⟩
        have u0 : 0 ≤ (if c < 0 then -c else c) := by
          split <;> omega
        refine ⟨_, rfl, _, rfl, 10, 18, rfl, rfl, ⟨by decide, by decide, by decide⟩, _, _, rfl, rfl, .inr ⟨_, rfl, ?_⟩⟩
        have b01 : ∀ b : Bool, (0 : Int) ≤ (if b = true then 1 else 0) ∧ (if b = true then (1 : Int) else 0) ≤ 1 := fun b => by cases b <;> decide
        have g := b01 (decide (10 ^ Int.toNat 18 ≤ if c < 0 then -c else c))
        refine ⟨_, _, rfl, rfl, .inr ⟨by omega, by omega⟩, _, rfl, (by show 2 ≤ sizeLine; decide), fun p hp => k p _ (Same.new hp) hp ⟨_, _, upd_same, Int.mul_nonneg u0 g.1, (t0 _).1, (t0 _).2⟩⟩
end
end SE
namespace SE
open PySem PySem.Spec PyProof.Rows L2
theorem len_add (x y : Str) : (x ++ y).length = x.length + y.length := by
  show (x.cps ++ y.cps).size = _
  rw [Array.size_append]
  rfl
theorem cps_add (x y : Str) : (x ++ y).cps.toList = x.cps.toList ++ y.cps.toList := by
  show (x.cps ++ y.cps).toList = _
  exact Array.toList_append
abbrev abc : Str := Str.ofString "abcdefghijklmnopqrstuvwxyz"
theorem abc_len : abc.length = 26 := by decide +kernel
theorem abc_at (i : Nat) (h : i < 26) : ∃ c, abc.cps[i]? = some c ∧ 97 ≤ c ∧ c ≤ 122 := by
  have q : ∀ j : Fin 26, (abc.cps[j.1]?).any (fun c => decide (97 ≤ c) && decide (c ≤ 122)) = true := by decide +kernel
  have z := q ⟨i, h⟩
  simp only [Option.any_eq_true, Bool.and_eq_true, decide_eq_true_eq] at z
  obtain ⟨c, h1, h2, h3⟩ := z
  exact ⟨c, h1, h2, h3⟩
section
variable {P : Program} {w : World} {K : PySem.W.Frag} {mg : Str → Option Value} {base : Heap}
/-! ### _law_name -/
def spName : Sp := fun xs H Q _ => ∃ (p : Addr), xs = [.ref p] ∧ Pool H p ∧ ∀ (z : Str) (H' : Hp), But p H H' → Pool H' p → Item z → Q (.str z) H'
theorem scName : FnScope ["_law_pool_here", "_law_letters", "_law_found", "_law_turn"] ["_law_pool_here"] (defScope sName) := ⟨rfl, rfl, rfl, by decide +kernel, rfl, by decide +kernel, by decide +kernel⟩
theorem has_name (D : Def K mg "_law_name" sName) (GT : Has P w K mg base "_law_take" 1 ["_law_pool_here", "_law_many"] [] spTake) (mr : mg "range" = none) : Has P w K mg base "_law_name" 2 ["_law_pool_here"] [] spName := by
  refine has_of D scName (fun _ _ _ _ _ _ us hl => match us, hl with | [_], _ => rfl) (fun xs H Q E h => ?_) (fun f cv A out s H xs Q E hr h => ?_)
  · obtain ⟨p, rfl, _⟩ := h
    rfl
  · obtain ⟨p, rfl, hp, k⟩ := h
    refine ⟨_, pss_cons (ps_set (i := 1) scName.nd rfl (.inl rfl) pe_str)
      (pss_cons (ps_set (i := 2) scName.nd rfl (.inl rfl) (pe_item_str (pv 1) (pe_has GT hr (pa_cons (pv 0) (pa_cons pe_int pa_nil))) (fun _ _ => rfl)))
      (pss_cons (ps_for PassesOwn.never rfl (pi_range1 (by rfl) mr (pa_cons (pe_has GT hr (pa_cons (pv 0) (pa_cons pe_int pa_nil))) pa_nil)) (pg_name (i := 3) scName.nd rfl (.inl rfl))
        (pss_one (ps_set (i := 2) scName.nd rfl (.inl rfl) (pe_op op_add_str (pv 2) (pe_item_str (pv 1) (pe_has GT hr (pa_cons (pv 0) (pa_cons pe_int pa_nil))) (fun _ _ => rfl))))))
      (pss_one (ps_ret (pv 2))))), ?_⟩
    refine ⟨_, rfl, _, rfl, p, 26, rfl, hp, by decide, by decide, fun r H1 b1 p1 r0 r1 => ?_⟩
    obtain ⟨c, hc, c0, c1⟩ := abc_at r.toNat (by omega)
    refine ⟨abc, r, c, rfl, rfl, r0, by omega, ?_, hc, ?_⟩
    · have := abc_len
      rw [this]
      omega
    refine ⟨_, rfl, p, 8, rfl, p1, by decide, by decide, fun n H2 b2 p2 n0 n1 => ?_⟩
    refine ⟨n, rfl, by omega, by omega, for_range (lo := 0) (n := n.toNat) (fun i σ H3 => ∃ (z : Str) (y : Option V), σ = [some (.ref p), some (.str abc), some (.str z), y] ∧ But p H H3 ∧ Pool H3 p ∧ z.length = i + 1 ∧ ∀ c ∈ z.cps.toList, 97 ≤ c ∧ c ≤ 122) ?_ ?_ ?_⟩
    · refine ⟨⟨#[c]⟩, none, rfl, b1.trans b2, p2, rfl, fun d hd => ?_⟩
      obtain rfl : d = c := by simpa using hd
      exact ⟨c0, c1⟩
    · rintro i σ H3 hi ⟨z, y, rfl, b3, p3, hz, hl⟩
      refine ⟨_, rfl, _, rfl, _, rfl, p, 26, rfl, p3, by decide, by decide, fun r2 H4 b4 p4 s0 s1 => ?_⟩
      obtain ⟨d, hd, d0, d1⟩ := abc_at r2.toNat (by omega)
      refine ⟨abc, r2, d, rfl, rfl, s0, by omega, ?_, hd, z, ⟨#[d]⟩, rfl, rfl, ?_, z ++ ⟨#[d]⟩, _, rfl, b3.trans b4, p4, ?_, fun e he => ?_⟩
      · have := abc_len
        rw [this]
        omega
      · rw [hz]
        exact Nat.le_of_lt (small1000 (show i + 1 + 1 ≤ 1000 by omega))
      · rw [len_add, hz]
        rfl
      · rw [cps_add] at he
        rcases List.mem_append.mp he with q | q
        · exact hl e q
        · obtain rfl : e = d := by simpa using q
          exact ⟨d0, d1⟩
    · rintro σ H3 ⟨z, y, rfl, b3, p3, hz, hl⟩
      exact ⟨_, rfl, k z H3 b3 p3 ⟨by omega, by omega, hl⟩⟩
end
end SE
namespace SE
open PySem PySem.Spec PyProof.Rows L2
theorem nodup_le {α : Type} [DecidableEq α] : ∀ {ys zs : List α}, ys.Nodup → (∀ y ∈ ys, y ∈ zs) → ys.length ≤ zs.length
  | [], _, _, _ => Nat.zero_le _
  | y :: ys, zs, nd, h => by
    obtain ⟨n1, n2⟩ := List.nodup_cons.mp nd
    have hy : y ∈ zs := h y List.mem_cons_self
    have ih := nodup_le (zs := zs.erase y) n2 fun x hx => (List.mem_erase_of_ne (fun e => n1 (by rw [← e]; exact hx))).mpr (h x (List.mem_cons_of_mem _ hx))
    rw [List.length_erase_of_mem hy] at ih
    have : 0 < zs.length := List.length_pos_of_mem hy
    rw [List.length_cons]
    omega
theorem yes_in {σ : L2.St} {H : Hp} {F G : Hp → Prop} (h : F H) : tYes σ H (fun b H3 => if b = true then F H3 else G H3) := by
  show if true = true then F H else G H
  exact iteT h
theorem eqV_str (a b : Str) : eqV (.str a) (.str b) = (a == b) := by
  unfold eqV
  rfl
theorem inV_str (z : Str) : ∀ zs : List Str, inV (.str z) (zs.map V.str) = decide (z ∈ zs)
  | [] => by simp [inV]
  | y :: zs => by
    have ih := inV_str z zs
    unfold inV at ih ⊢
    rw [List.map_cons, List.any_cons, ih, eqV_str]
    by_cases e : y = z
    · subst e
      simp
    · have e2 : ¬ z = y := fun q => e q.symm
      simp [e, e2]
theorem flat_strs : ∀ zs : List Str, (zs.map V.str).all flatV = true
  | [] => rfl
  | y :: zs => by
    rw [List.map_cons, List.all_cons, flat_strs zs]
    rfl
/-- the names that are taken where one is drawn twice -/
def spare : List Str := abc.cps.toList.map fun c => (⟨#[c]⟩ : Str) ++ "zz"
theorem spare_len : spare.length = 26 := by decide +kernel
theorem spare_nd : spare.Nodup := by decide +kernel
theorem spare_item {z : Str} (h : z ∈ spare) : Item z := by
  have q : ∀ y ∈ spare, (decide (1 ≤ y.length) && decide (y.length ≤ 8) && y.cps.toList.all fun c => decide (97 ≤ c) && decide (c ≤ 122)) = true := by decide +kernel
  have e := q z h
  simp only [Bool.and_eq_true, decide_eq_true_eq, List.all_eq_true] at e
  exact ⟨e.1.1, e.1.2, e.2⟩
theorem spare_at {i c : Nat} (h : abc.cps[i]? = some c) : spare[i]? = some ((⟨#[c]⟩ : Str) ++ "zz") := by
  unfold spare
  rw [List.getElem?_map, Array.getElem?_toList, h]
  rfl
theorem abc_size : abc.cps.size = 26 := by decide +kernel
section
variable {P : Program} {w : World} {K : PySem.W.Frag} {mg : Str → Option Value} {base : Heap}
/-! ### _law_items -/
def spItems : Sp := fun xs H Q _ => ∃ (p : Addr) (n : Int), xs = [.ref p, .int n] ∧ Pool H p ∧ 0 ≤ n ∧ n ≤ 20 ∧
  ∀ (l : Addr) (zs : List Str) (H' : Hp), But p H H' → Pool H' p → H l = none → l ≠ p → H' l = some (.lst (zs.map V.str)) → zs.length = n.toNat → (∀ z ∈ zs, Item z) → Q (.ref l) H'
theorem scItems : FnScope ["_law_pool_here", "_law_many", "_law_found", "_law_at", "_law_name_here", "_law_some", "_law_one"] ["_law_pool_here", "_law_many"] (defScope sItems) := ⟨rfl, rfl, rfl, by decide +kernel, rfl, by decide +kernel, by decide +kernel⟩
abbrev nItems : List Str := ["_law_pool_here", "_law_many", "_law_found", "_law_at", "_law_name_here", "_law_some", "_law_one"]
theorem has_items (D : Def K mg "_law_items" sItems) (GN : Has P w K mg base "_law_name" 2 ["_law_pool_here"] [] spName) (mr : mg "range" = none) : Has P w K mg base "_law_items" 3 ["_law_pool_here", "_law_many"] [] spItems := by
  refine has_of D scItems (fun _ _ _ _ _ _ us hl => match us, hl with | [_, _], _ => rfl) (fun xs H Q E h => ?_) (fun f cv A out s H xs Q E hr h => ?_)
  · obtain ⟨p, n, rfl, _⟩ := h
    rfl
  · obtain ⟨p, n, rfl, hp, h0, h1, k⟩ := h
    refine ⟨_, pss_cons (ps_set (i := 2) scItems.nd rfl (.inr rfl) (pe_lst pa_nil))
      (pss_cons (ps_for PassesOwn.never rfl (pi_range1 (by rfl) mr (pa_cons (pv 1) pa_nil)) (pg_name (i := 3) scItems.nd rfl (.inl rfl))
        (pss_cons (ps_set (i := 4) scItems.nd rfl (.inl rfl) (pe_has GN hr (pa_cons (pv 0) pa_nil)))
        (Evl.pss_cut (ps_if (pt_cmpR op_in_seq (pv 4) (pv 2) (by rfl))
          (pss_cons (ps_setLc (i := 5) (own := [("_law_one", 6)]) (g := gName 6) (tt := tYes) rfl scItems.nd rfl rfl (sw_true rfl rfl rfl (by decide +kernel)) (pi_str pe_str) (blkOk_by (own := [("_law_one", 6)]) (N := nItems) (sc := defScope sItems) (by decide +kernel))
              (fun _ _ _ _ _ => pg_name (i := 6) scItems.nd rfl (.inl rfl)) (fun _ _ _ _ _ => pts_nil) (fun _ _ _ _ _ => pe_op op_add_str (pv 6) pe_str))
          (pss_one (ps_set (i := 4) scItems.nd rfl (.inl rfl) (pe_ix ix_list (pe_lc (own := [("_law_one", 6)]) (g := gName 6) (tt := tTest (tOp (rIn K true) (tVar 6) (tVar 2))) (te := tVar 6) rfl scItems.nd (pi_list (pv 5)) (blkOk_by (own := [("_law_one", 6)]) (N := nItems) (sc := defScope sItems) (by decide +kernel))
              (fun _ _ _ _ _ => pg_name (i := 6) scItems.nd rfl (.inl rfl)) (fun _ _ _ _ _ => pts_one (pt_cmpR op_notIn_seq (pv 6) (pv 2) (by rfl))) (fun _ _ _ _ _ => pv 6)) pe_int (fun _ _ => rfl))))) pss_nil)
        (pss_one (ps_expr (pe_bm PySem.F.plainAttrs_list PySem.F.slot_list_append PySem.F.type_list_append mt_append (pv 2) (pa_cons (pv 4) pa_nil)))))))
      (pss_one (ps_ret (pv 2)))), ?_⟩
    refine ⟨Nat.zero_le _, fun l hl => ?_⟩
    have lp : l ≠ p := hp.free hl
    refine ⟨_, rfl, n, rfl, by omega, by omega, for_range (lo := 0) (n := n.toNat) (fun i σ H3 => ∃ (zs : List Str) (y3 y4 y5 y6 : Option V), σ = [some (.ref p), some (.int n), some (.ref l), y3, y4, y5, y6] ∧ But p H H3 ∧ Pool H3 p ∧ H3 l = some (.lst (zs.map V.str)) ∧ zs.length = i ∧ ∀ z ∈ zs, Item z) ?_ ?_ ?_⟩
    · exact ⟨[], none, none, none, none, rfl, .of (Same.new hl), hp.upd lp, upd_same, rfl, fun z h => nomatch h⟩
    · rintro i σ H3 hi ⟨zs, y3, y4, y5, y6, rfl, b3, p3, hl3, hz, hI⟩
      refine ⟨_, rfl, p, rfl, p3, fun z H4 b4 p4 iz => ?_⟩
      have hl4 : H4 l = some (.lst (zs.map V.str)) := b4 l _ lp hl3
      have bb := b3.trans b4
      refine ⟨fun σ H5 => ∃ (z : Str) (y5 y6 : Option V), σ = [some (.ref p), some (.int n), some (.ref l), some (.int (0 + i)), some (.str z), y5, y6] ∧ But p H H5 ∧ Pool H5 p ∧ H5 l = some (.lst (zs.map V.str)) ∧ Item z, ?_, ?_⟩
      · refine ⟨_, rfl, _, rfl, l, _, rfl, .inl (.of hl4), rfl, flat_strs _, _, rfl, ite2 (fun c => ?_) (fun c => ?_)⟩
        · refine ⟨abc, rfl, fun D hD => lc_it walk_str (fun j H5 => H5 D = some (.lst ((spare.take j).map V.str)) ∧ But p H H5 ∧ Pool H5 p ∧ H5 l = some (.lst (zs.map V.str))) ?_ (fun _ _ _ _ => trivial) ?_ ?_⟩
          · have Dp : D ≠ p := p4.free hD
            exact ⟨upd_same, bb.free (bb.none Dp hD), p4.upd Dp, by rw [upd_ne (ne_of_none hl4 hD)]; exact hl4⟩
          · rintro j x H5 H6 hj ⟨hD5, b5, p5, hl5⟩ ⟨rfl, d, hd, rfl⟩
            have Dp : D ≠ p := p4.free hD
            refine ⟨rfl, yes_in ⟨_, rfl, ⟨#[d]⟩, "zz", rfl, rfl, (by show 1 + 2 ≤ sizeLine; decide), _, hD5, ?_, ?_, b5.free (bb.none Dp hD), p5.upd Dp, ?_⟩⟩
            · rw [List.length_map, List.length_take, spare_len]
              exact small1000 (by omega)
            · rw [upd_same, List.take_add_one, spare_at hd, List.map_append]
              rfl
            · rw [upd_ne (ne_of_none hl4 hD)]
              exact hl5
          · rintro H5 ⟨hD5, b5, p5, hl5⟩
            have full : spare.take abc.cps.size = spare := List.take_of_length_le (by rw [spare_len, abc_size]; omega)
            rw [full] at hD5
            have Dp : D ≠ p := p4.free hD
            have Dl : l ≠ D := ne_of_none hl4 hD
            refine ⟨_, rfl, D, rfl, ⟨_, .of hD5⟩, fun E2 hE => lc_list (K := K) (a := D) (xs := spare.map V.str) (fun j H6 => H6 D = some (.lst (spare.map V.str)) ∧ H6 E2 = some (.lst (((spare.take j).filter fun y => !decide (y ∈ zs)).map V.str)) ∧ But p H H6 ∧ Pool H6 p ∧ H6 l = some (.lst (zs.map V.str))) ?_ (fun _ _ _ q => .of q.1) ?_ ?_⟩
            · have Ep : E2 ≠ p := p5.free hE
              refine ⟨?_, upd_same, b5.free (b5.none Ep hE), p5.upd Ep, ?_⟩
              · rw [upd_ne (ne_of_none hD5 hE)]
                exact hD5
              · rw [upd_ne (ne_of_none hl5 hE)]
                exact hl5
            · rintro j x H6 hj ⟨hD6, hE6, b6, p6, hl6⟩
              have Ep : E2 ≠ p := p5.free hE
              rw [List.getElem?_map] at hj
              obtain ⟨y, hy, rfl⟩ : ∃ y, spare[j]? = some y ∧ V.str y = x := by
                cases e : spare[j]? with
                | none => rw [e] at hj; cases hj
                | some y => rw [e] at hj; exact ⟨y, rfl, Option.some.inj hj⟩
              have tk : spare.take (j + 1) = spare.take j ++ [y] := by
                rw [List.take_add_one, hy]
                rfl
              refine ⟨rfl, _, rfl, _, rfl, l, _, rfl, .inl (.of hl6), rfl, flat_strs _, _, rfl, ?_⟩
              rw [if_pos rfl, inV_str]
              by_cases m : y ∈ zs
              · rw [decide_eq_true m]
                refine iteF ⟨hD6, ?_, b6, p6, hl6⟩
                rw [tk, List.filter_append, List.filter_cons_of_neg (by simp [m]), List.filter_nil, List.append_nil]
                exact hE6
              · rw [decide_eq_false m]
                refine iteT ⟨_, rfl, _, hE6, ?_, ?_, ?_, b6.free (b5.none Ep hE), p6.upd Ep, ?_⟩
                · rw [List.length_map]
                  have z1 := List.length_filter_le (fun y => !decide (y ∈ zs)) (spare.take j)
                  have z2 : (spare.take j).length ≤ 26 := by
                    rw [List.length_take, spare_len]
                    omega
                  exact small1000 (by omega)
                · rw [upd_ne (ne_of_none hD5 hE)]
                  exact hD6
                · rw [upd_same, tk, List.filter_append, List.filter_cons_of_pos (by simp [m]), List.filter_nil, List.map_append]
                  rfl
                · rw [upd_ne (ne_of_none hl5 hE)]
                  exact hl6
            · rintro H6 ⟨hD6, hE6, b6, p6, hl6⟩
              rw [List.length_map, List.take_length] at hE6
              have some1 : ∃ y0 r, (spare.filter fun y => !decide (y ∈ zs)) = y0 :: r := by
                cases e : spare.filter fun y => !decide (y ∈ zs) with
                | cons y0 r => exact ⟨y0, r, rfl⟩
                | nil =>
                  have all : ∀ y ∈ spare, y ∈ zs := fun y hy => by
                    by_cases m : y ∈ zs
                    · exact m
                    · have q : y ∈ spare.filter fun y => !decide (y ∈ zs) := List.mem_filter.mpr ⟨hy, by simp [m]⟩
                      rw [e] at q
                      cases q
                  have q := nodup_le spare_nd all
                  rw [spare_len] at q
                  omega
              obtain ⟨y0, r, e0⟩ := some1
              have y0s : y0 ∈ spare := (List.mem_filter.mp (show y0 ∈ spare.filter fun y => !decide (y ∈ zs) by rw [e0]; exact List.mem_cons_self)).1
              rw [e0] at hE6
              exact ⟨E2, _, 0, .str y0, rfl, rfl, .of hE6, atI_nat (j := 0) rfl, y0, _, _, rfl, b6, p6, hl6, spare_item y0s⟩
        · exact ⟨z, _, _, rfl, bb, p4, hl4, iz⟩
      · rintro σ H5 ⟨z, y5, y6, rfl, b5, p5, hl5, iz⟩
        refine ⟨.ref l, rfl, .inl ⟨rfl, _, .inl (.inl hl5)⟩, _, rfl, l, _, _, rfl, rfl, hl5, ?_, zs ++ [z], _, _, _, _, rfl, b5.free hl, p5.upd lp, ?_, ?_, ?_⟩
        · rw [List.length_map, hz]
          exact small1000 (by omega)
        · rw [upd_same, List.map_append]
          rfl
        · rw [List.length_append, hz]
          rfl
        · intro y hy
          rcases List.mem_append.mp hy with q | q
          · exact hI y q
          · rw [List.mem_singleton.mp q]
            exact iz
    · rintro σ H3 ⟨zs, y3, y4, y5, y6, rfl, b3, p3, hl3, hz, hI⟩
      exact ⟨_, rfl, k l zs H3 b3 p3 hl lp hl3 hz hI⟩
end
end SE
namespace SE
open PySem PySem.Spec PyProof.Rows L2
section
variable {P : Program} {w : World} {K : PySem.W.Frag} {mg : Str → Option Value} {base : Heap}
/-! ### _law_word -/
def spWord : Sp := fun xs H Q _ => ∃ (p l : Addr) (m : Int) (zs : List Str), xs = [.ref p, .ref l, .int m] ∧ Pool H p ∧ l ≠ p ∧ H l = some (.lst (zs.map V.str)) ∧ zs ≠ [] ∧ zs.length ≤ 100 ∧ 0 ≤ m ∧ m ≤ 900 ∧
  ∀ (t : Addr) (ws : List Str) (H' : Hp), But p H H' → Pool H' p → H t = none → H' t = some (.tup (ws.map V.str)) → (ws.length : Int) ≤ m → (∀ z ∈ ws, z ∈ zs) → Q (.ref t) H'
abbrev nWord : List Str := ["_law_pool_here", "_law_items_here", "_law_most", "_law_turn"]
theorem scWord : FnScope nWord ["_law_pool_here", "_law_items_here", "_law_most"] (defScope sWord) := ⟨rfl, rfl, rfl, by decide +kernel, rfl, by decide +kernel, by decide +kernel⟩
theorem pick_str {zs : List Str} {r : Int} (h0 : 0 ≤ r) (h1 : r < (zs.length : Int)) : ∃ z, z ∈ zs ∧ atI (zs.map V.str) r = some (.str z) := by
  have hj : r.toNat < zs.length := by omega
  refine ⟨zs[r.toNat], List.getElem_mem hj, at_of (j := r.toNat) (by omega) ?_⟩
  rw [List.getElem?_map, List.getElem?_eq_getElem hj]
  rfl
theorem has_word (D : Def K mg "_law_word" sWord) (GT : Has P w K mg base "_law_take" 1 ["_law_pool_here", "_law_many"] [] spTake) (mr : mg "range" = none) (ml : mg "len" = none) (mt : mg "tuple" = none) : Has P w K mg base "_law_word" 2 ["_law_pool_here", "_law_items_here", "_law_most"] [] spWord := by
  refine has_of D scWord (fun _ _ _ _ _ _ us hl => match us, hl with | [_, _, _], _ => rfl) (fun xs H Q E h => ?_) (fun f cv A out s H xs Q E hr h => ?_)
  · obtain ⟨p, l, m, zs, rfl, _⟩ := h
    rfl
  · obtain ⟨p, l, m, zs, rfl, hp, lp, hl, hne, hz, h0, h1, k⟩ := h
    refine ⟨_, pss_one (ps_ret (pe_callTy call_tuple_of (by rfl) mt (by decide +kernel) (pa_cons
      (pe_lc (own := [("_law_turn", 3)]) (g := gName 3) (tt := tYes) (te := tOp (rIxL K) (tVar 1) (tCall spTake [] E0 (tCons (tVar 0) (tCons (tCB (Evl.rLenS K) (tCons (tVar 1) tNil)) tNil)))) rfl scWord.nd
        (pi_range1 (by rfl) mr (pa_cons (pe_has GT hr (pa_cons (pv 0) (pa_cons (pe_op op_add (pv 2) pe_int) pa_nil))) pa_nil)) (blkOk_by (own := [("_law_turn", 3)]) (N := nWord) (sc := defScope sWord) (by decide +kernel))
        (fun _ _ _ _ _ => pg_name (i := 3) scWord.nd rfl (.inl rfl)) (fun _ _ _ _ _ => pts_nil)
        (fun _ _ _ _ _ => pe_ix ix_list (pv 1) (pe_has GT hr (pa_cons (pv 0) (pa_cons (pe_callB call_len_seq (by rfl) ml PySem.boot_len (pa_cons (pv 1) pa_nil)) pa_nil))) (fun _ _ => rfl))) pa_nil))), ?_⟩
    refine ⟨_, rfl, _, rfl, m, 1, rfl, rfl, p, m + 1, rfl, hp, by omega, by omega, fun n H1 b1 p1 n0 n1 => ?_⟩
    have hl1 : H1 l = some (.lst (zs.map V.str)) := b1 l _ lp hl
    refine ⟨n, rfl, by omega, by omega, fun D hD => lc_range (lo := 0) (n := n.toNat) (fun i H2 => ∃ ws : List Str, H2 D = some (.lst (ws.map V.str)) ∧ ws.length = i ∧ (∀ z ∈ ws, z ∈ zs) ∧ But p H H2 ∧ Pool H2 p ∧ H2 l = some (.lst (zs.map V.str))) ?_ ?_ ?_⟩
    · have Dp : D ≠ p := p1.free hD
      exact ⟨[], upd_same, rfl, fun z q => (by cases q), b1.free (b1.none Dp hD), p1.upd Dp, by rw [upd_ne (ne_of_none hl1 hD)]; exact hl1⟩
    · rintro i H2 hi ⟨ws, hw, wl, wz, b2, p2, hl2⟩
      have Dp : D ≠ p := p1.free hD
      have Dl : l ≠ D := ne_of_none hl1 hD
      have hzp : 0 < zs.length := List.length_pos_iff.mpr hne
      refine ⟨rfl, yes_in ⟨_, rfl, _, rfl, _, rfl, l, _, rfl, .inl (.of hl2), p, _, rfl, p2, ?_, ?_, fun r H3 b3 p3 r0 r1 => ?_⟩⟩
      · rw [List.length_map]
        omega
      · rw [List.length_map]
        omega
      · rw [List.length_map] at r1
        obtain ⟨z, zm, az⟩ := pick_str r0 r1
        have hl3 : H3 l = some (.lst (zs.map V.str)) := b3 l _ lp hl2
        have hD3 : H3 D = some (.lst (ws.map V.str)) := b3 D _ Dp hw
        refine ⟨l, _, r, _, rfl, rfl, .of hl3, az, _, hD3, ?_, ws ++ [z], ?_, ?_, ?_, (b2.trans b3).free (b1.none Dp hD), p3.upd Dp, ?_⟩
        · rw [List.length_map, wl]
          exact small1000 (by omega)
        · rw [upd_same, List.map_append]
          rfl
        · rw [List.length_append, wl]
          rfl
        · intro y hy
          rcases List.mem_append.mp hy with q | q
          · exact wz y q
          · rw [List.mem_singleton.mp q]
            exact zm
        · rw [upd_ne Dl]
          exact hl3
    · rintro H2 ⟨ws, hw, wl, wz, b2, p2, hl2⟩
      refine ⟨D, _, rfl, .inl ⟨.of hw, fun t ht => ?_⟩⟩
      have tp : t ≠ p := p2.free ht
      refine k t ws _ (b2.free (b2.none tp ht)) (p2.upd tp) (b2.none tp ht) upd_same ?_ wz
      omega
end
end SE
namespace SE
open PySem PySem.Spec PyProof.Rows L2
/-- a test whose ways meet -/
def tCutT (t : TT) : TT := fun σ H Q => ∃ M : Bool → Hp → Prop, t σ H M ∧ ∀ b H2, M b H2 → Q b H2
theorem pt_cut {X : Cx} {e : Expr} {t : TT} (h : PT X e t) : PT X e (tCutT t) := ⟨fun pins s σ H Q I hw => by
  obtain ⟨M, h1, h2⟩ := hw
  refine thn (h.run pins s σ H M I h1) fun b s2 z => ?_
  obtain ⟨H2, I2, q⟩ := z
  exact ⟨H2, I2, h2 b H2 q⟩⟩
theorem cut_map {α : Type} (f : α → V) (hs : List α) (lo hi : Option Int) : cutV (hs.map f) lo hi = ((hs.drop (HT.sIx hs.length 0 lo)).take (HT.sIx hs.length hs.length hi - HT.sIx hs.length 0 lo)).map f := by
  unfold cutV
  rw [List.length_map, List.map_take, List.map_drop]
theorem cut_mem {α : Type} {x : α} {hs : List α} {a b : Nat} (h : x ∈ (hs.drop a).take b) : x ∈ hs := List.mem_of_mem_drop (List.mem_of_mem_take h)
/-- steps whose tuples stand in the heap -/
abbrev StepsH (H : Hp) : List V → List Stp → Prop := Paired fun v s => ∃ t, v = .ref t ∧ H t = some (.tup [.str (act s.1), .str s.2])
theorem StepsH.v {K : PySem.W.Frag} {H : Hp} {xs : List V} {ss : List Stp} (h : StepsH H xs ss) : StepsV K H xs ss := Paired.mapP h fun _ _ q => by
  obtain ⟨t, e, z⟩ := q
  exact ⟨t, e, .of z⟩
theorem StepsH.but {H H' : Hp} {p : Addr} {xs : List V} {ss : List Stp} (h : StepsH H xs ss) (hp : Pool H p) (b : But p H H') : StepsH H' xs ss := Paired.mapP h fun _ _ q => by
  obtain ⟨t, e, z⟩ := q
  exact ⟨t, e, b t _ (hp.ne z) z⟩
theorem StepsH.upd {H : Hp} {q : Addr} {o : HO} {xs : List V} {ss : List Stp} (h : StepsH H xs ss) (hq : ∀ ys, H q ≠ some (.tup ys)) : StepsH (upd H q o) xs ss := Paired.mapP h fun _ _ r => by
  obtain ⟨t, e, z⟩ := r
  refine ⟨t, e, ?_⟩
  rw [upd_ne (fun w => hq _ (by rw [← w]; exact z))]
  exact z
structure SI (p l f h : Addr) (zs : List Str) (H H3 : Hp) (xs : List V) (ss : List Stp) (hs : List Str) : Prop where
  b : But p H H3
  pl : Pool H3 p
  it : H3 l = some (.lst (zs.map V.str))
  fl : H3 f = some (.lst xs)
  st : StepsH H3 xs ss
  sz : ∀ s ∈ ss, s.2 ∈ zs
  hl : H3 h = some (.lst (hs.map V.str))
  hz : ∀ z ∈ hs, z ∈ zs
  lp : l ≠ p
  fp : f ≠ p
  fn : H f = none
  hp : h ≠ p
  hn : H h = none
  hf : h ≠ f
  hnl : h ≠ l
  lf : l ≠ f
section
variable {p l f h : Addr} {zs : List Str} {H H3 : Hp} {xs : List V} {ss : List Stp} {hs : List Str}
theorem SI.new (a : SI p l f h zs H H3 xs ss hs) {q : Addr} {o : HO} (hq : H3 q = none) : SI p l f h zs H (upd H3 q o) xs ss hs := by
  have qp : q ≠ p := a.pl.free hq
  exact ⟨a.b.free (a.b.none qp hq), a.pl.upd qp, by rw [upd_ne (ne_of_none a.it hq)]; exact a.it, by rw [upd_ne (ne_of_none a.fl hq)]; exact a.fl, a.st.upd (fun ys z => by rw [hq] at z; cases z), a.sz,
    by rw [upd_ne (ne_of_none a.hl hq)]; exact a.hl, a.hz, a.lp, a.fp, a.fn, a.hp, a.hn, a.hf, a.hnl, a.lf⟩
theorem SI.draw (a : SI p l f h zs H H3 xs ss hs) {H4 : Hp} (b : But p H3 H4) (q : Pool H4 p) : SI p l f h zs H H4 xs ss hs :=
  ⟨a.b.trans b, q, b _ _ a.lp a.it, b _ _ a.fp a.fl, a.st.but a.pl b, a.sz, b _ _ a.hp a.hl, a.hz, a.lp, a.fp, a.fn, a.hp, a.hn, a.hf, a.hnl, a.lf⟩
theorem SI.app (a : SI p l f h zs H H3 xs ss hs) {t : Addr} {c : Bool} {z : Str} (ht : H3 t = some (.tup [.str (act c), .str z])) (hz : z ∈ zs) : SI p l f h zs H (upd H3 f (.lst (xs ++ [.ref t]))) (xs ++ [.ref t]) (ss ++ [(c, z)]) hs := by
  have tf : t ≠ f := ne_of ht a.fl (by intro w; cases w)
  refine ⟨a.b.free a.fn, a.pl.upd a.fp, by rw [upd_ne a.lf]; exact a.it, upd_same, (a.st.upd (fun ys w => by rw [a.fl] at w; cases w)).snoc ⟨t, rfl, by rw [upd_ne tf]; exact ht⟩, fun s hs' => ?_, by rw [upd_ne a.hf]; exact a.hl, a.hz, a.lp, a.fp, a.fn, a.hp, a.hn, a.hf, a.hnl, a.lf⟩
  rcases List.mem_append.mp hs' with q | q
  · exact a.sz s q
  · rw [List.mem_singleton.mp q]
    exact hz
theorem SI.hset (a : SI p l f h zs H H3 xs ss hs) {ys : List Str} (hy : ∀ z ∈ ys, z ∈ zs) : SI p l f h zs H (upd H3 h (.lst (ys.map V.str))) xs ss ys :=
  ⟨a.b.free a.hn, a.pl.upd a.hp, by rw [upd_ne (Ne.symm a.hnl)]; exact a.it, by rw [upd_ne (Ne.symm a.hf)]; exact a.fl, a.st.upd (fun us w => by rw [a.hl] at w; cases w), a.sz, upd_same, hy, a.lp, a.fp, a.fn, a.hp, a.hn, a.hf, a.hnl, a.lf⟩
theorem SI.hnew (a : SI p l f h zs H H3 xs ss hs) {q : Addr} {ys : List Str} (hq : H3 q = none) (hy : ∀ z ∈ ys, z ∈ zs) : SI p l f q zs H (upd H3 q (.lst (ys.map V.str))) xs ss ys := by
  have b := a.new (o := .lst (ys.map V.str)) hq
  have qp : q ≠ p := a.pl.free hq
  exact ⟨b.b, b.pl, b.it, b.fl, b.st, b.sz, upd_same, hy, a.lp, a.fp, a.fn, qp, a.b.none qp hq, Ne.symm (ne_of_none a.fl hq), Ne.symm (ne_of_none a.it hq), a.lf⟩
end
section
variable {P : Program} {w : World} {K : PySem.W.Frag} {mg : Str → Option Value} {base : Heap}
/-! ### _law_steps -/
def spSteps : Sp := fun xs H Q _ => ∃ (p l : Addr) (m : Int) (zs : List Str), xs = [.ref p, .ref l, .int m] ∧ Pool H p ∧ l ≠ p ∧ H l = some (.lst (zs.map V.str)) ∧ zs ≠ [] ∧ zs.length ≤ 100 ∧ (∀ z ∈ zs, Item z) ∧ 0 ≤ m ∧ m ≤ 100 ∧
  ∀ (t : Addr) (us : List V) (ss : List Stp) (H' : Hp), But p H H' → Pool H' p → H t = none → H' t = some (.lst us) → StepsH H' us ss → ss.length = m.toNat → (∀ s ∈ ss, s.2 ∈ zs) → Q (.ref t) H'
abbrev nSteps : List Str := ["_law_pool_here", "_law_items_here", "_law_many", "_law_found", "_law_held", "_law_turn", "_law_way", "_law_item"]
theorem scSteps : FnScope nSteps ["_law_pool_here", "_law_items_here", "_law_many"] (defScope sSteps) := ⟨rfl, rfl, rfl, by decide +kernel, rfl, by decide +kernel, by decide +kernel⟩
theorem has_steps (D : Def K mg "_law_steps" sSteps) (GT : Has P w K mg base "_law_take" 1 ["_law_pool_here", "_law_many"] [] spTake) (mr : mg "range" = none) (ml : mg "len" = none) : Has P w K mg base "_law_steps" 2 ["_law_pool_here", "_law_items_here", "_law_many"] [] spSteps := by
  refine has_of D scSteps (fun _ _ _ _ _ _ us hl => match us, hl with | [_, _, _], _ => rfl) (fun xs H Q E h => ?_) (fun f cv A out s H xs Q E hr h => ?_)
  · obtain ⟨p, l, m, zs, rfl, _⟩ := h
    rfl
  · obtain ⟨p, l, m, zs, rfl, hp, lp, hl, hne, hz, hI, h0, h1, k⟩ := h
    refine ⟨_, pss_cons (ps_par (i := 3) (j := 4) (by rfl) scSteps.nd rfl rfl (by decide) rfl rfl (pa_cons (pe_lst pa_nil) (pa_cons (pe_lst pa_nil) pa_nil)) (by rfl))
      (pss_cons (ps_for PassesOwn.never rfl (pi_range1 (by rfl) mr (pa_cons (pv 2) pa_nil)) (pg_name (i := 5) scSteps.nd rfl (.inl rfl))
        (pss_cons (ps_set (i := 6) scSteps.nd rfl (.inl rfl) (pe_has GT hr (pa_cons (pv 0) (pa_cons pe_int pa_nil))))
        (pss_cons (ps_set (i := 7) scSteps.nd rfl (.inl rfl) (pe_ix ix_list (pv 1) (pe_has GT hr (pa_cons (pv 0) (pa_cons (pe_callB call_len_seq (by rfl) ml PySem.boot_len (pa_cons (pv 1) pa_nil)) pa_nil))) (fun _ _ => rfl)))
        (pss_one (ps_if (pt_cut (PW.pt (pw_and (pt_cmpR op_lt (pv 6) pe_int (nomark _)) (pw_and1 (pt_cmpR (op_neD hr.units) (pv 4) (pe_lst pa_nil) (nomark _))))))
          (pss_cons (ps_set (i := 7) scSteps.nd rfl (.inl rfl) (pe_bm0 PySem.F.plainAttrs_list PySem.F.slot_list_pop PySem.F.type_list_pop mt_pop (pv 4)))
          (pss_one (ps_expr (pe_bm PySem.F.plainAttrs_list PySem.F.slot_list_append PySem.F.type_list_append mt_append (pv 3) (pa_cons (pe_tup (pa_cons pe_str (pa_cons (pv 7) pa_nil))) pa_nil)))))
          (pss_one (ps_if (pt_cut (PW.pt (pw_or (pt_cmpR op_eq (pv 6) pe_int (nomark _)) (pw_or1 (PW.pt (pw_and (pt_cmpR op_eq (pv 6) pe_int (nomark _)) (pw_and1 (pt_cmpR (op_eqD hr.units) (pv 4) (pe_lst pa_nil) (nomark _)))))))))
            (pss_cons (ps_expr (pe_bm PySem.F.plainAttrs_list PySem.F.slot_list_append PySem.F.type_list_append mt_append (pv 3) (pa_cons (pe_tup (pa_cons pe_str (pa_cons (pv 7) pa_nil))) pa_nil)))
            (pss_one (ps_set (i := 4) scSteps.nd rfl (.inl rfl) (pe_ifExp (pt_cut (pt_cmpR (op_eqD hr.units) (pe_slice sl_list (pv 4) (po_some (pe_un un_neg pe_int)) po_none) (pe_lst (pa_cons (pv 7) pa_nil)) (nomark _))) (pe_slice sl_list (pv 4) po_none (po_some (pe_un un_neg pe_int))) (pv 4)))))
            (pss_cons (ps_expr (pe_bm PySem.F.plainAttrs_list PySem.F.slot_list_append PySem.F.type_list_append mt_append (pv 3) (pa_cons (pe_tup (pa_cons pe_str (pa_cons (pv 7) pa_nil))) pa_nil)))
            (pss_one (ps_expr (pe_bm PySem.F.plainAttrs_list PySem.F.slot_list_append PySem.F.type_list_append mt_append (pv 4) (pa_cons (pv 7) pa_nil)))))))))))
      ) (pss_one (ps_ret (pv 3)))), ?_⟩
    refine ⟨Nat.zero_le _, fun g hg => ⟨Nat.zero_le _, fun h0' hh => ⟨_, _, rfl, ?_⟩⟩⟩
    have gp : g ≠ p := hp.free hg
    have hh0 : H h0' = none := (Same.new hg).free hh
    have hgne : g ≠ h0' := ne_of_none upd_same hh
    have ofz : ∀ {hs : List Str}, (∀ z ∈ hs, z ∈ zs) → SeqAt.shaped (.list (hs.map PyData.str)) = true := fun {hs} q => (nice_list (nice_strs fun z m => hI z (q z m))).shaped (by decide)
    refine ⟨_, rfl, m, rfl, by omega, by omega, for_range (lo := 0) (n := m.toNat) (fun i σ H3 => ∃ (h : Addr) (xs : List V) (ss : List Stp) (hs : List Str) (y5 y6 y7 : Option V), σ = [some (.ref p), some (.ref l), some (.int m), some (.ref g), some (.ref h), y5, y6, y7] ∧ SI p l g h zs H H3 xs ss hs ∧ ss.length = i ∧ xs.length = i ∧ hs.length ≤ i) ?_ ?_ ?_⟩
    · refine ⟨h0', [], [], [], none, none, none, rfl, ⟨(But.of (Same.new hg)).free hh0, (hp.upd gp).upd (hp.free hh0), ?_, ?_, .nil, fun s q => (by cases q), upd_same, fun z q => (by cases q), lp, gp, hg, hp.free hh0, hh0, Ne.symm hgne, Ne.symm (ne_of_none hl hh0), ne_of_none hl hg⟩, rfl, rfl, Nat.le_refl _⟩
      · rw [upd_ne (ne_of_none hl hh0), upd_ne (ne_of_none hl hg)]
        exact hl
      · rw [upd_ne hgne]
        exact upd_same
    · rintro i σ H3 hi ⟨h, xs, ss, hs, y5, y6, y7, rfl, a, hsl, hxl, hhl⟩
      refine ⟨_, rfl, p, 8, rfl, a.pl, by decide, by decide, fun r H4 b4 p4 r0 r1 => ?_⟩
      have a4 := a.draw b4 p4
      have hzp : 0 < zs.length := List.length_pos_iff.mpr hne
      refine ⟨_, rfl, _, rfl, _, rfl, l, _, rfl, .inl (.of a4.it), p, _, rfl, a4.pl, ?_, ?_, fun r2 H5 b5 p5 s0 s1 => ?_⟩
      · rw [List.length_map]
        omega
      · rw [List.length_map]
        omega
      rw [List.length_map] at s1
      obtain ⟨z, zm, az⟩ := pick_str s0 s1
      have a5 := a4.draw b5 p5
      refine ⟨l, _, r2, _, rfl, rfl, .of a5.it, az, ?_⟩
      -- way < 3 and held != []
      refine ⟨fun b H6 => SI p l g h zs H H6 xs ss hs ∧ (b = true → hs ≠ []), ?_, ?_⟩
      · refine ⟨_, rfl, r, 3, rfl, rfl, _, rfl, ite2 (fun c => ?_) (fun c => ?_)⟩
        · refine ⟨_, rfl, Nat.zero_le _, fun q hq => ⟨.list (hs.map .str), .list (([] : List Str).map .str), .lst (.of (a5.new hq).hl) (dp_strs hs), .lst (.of upd_same) .nil, ofz a5.hz, ofz (fun z w => (by cases w)), _, rfl, a5.new hq, fun e => ?_⟩⟩
          rw [eqv_listS] at e
          intro z
          rw [z] at e
          exact absurd e (by decide)
        · exact ⟨a5, fun e => (by cases e)⟩
      rintro b H6 ⟨a6, hb⟩
      cases b with
      | true =>
        have hs0 : hs ≠ [] := hb rfl
        refine iteT ?_
        have hlast : (hs.map V.str)[(hs.map V.str).length - 1]? = some (.str (hs.getLast hs0)) := by
          rw [List.length_map, List.getElem?_map, ← List.getLast?_eq_getElem?, List.getLast?_eq_getLast hs0]
          rfl
        have hmem : hs.getLast hs0 ∈ zs := a6.hz _ (List.getLast_mem hs0)
        have a7 : SI p l g h zs H (upd H6 h (.lst (hs.dropLast.map V.str))) xs ss hs.dropLast := a6.hset fun z m => a6.hz z ((List.dropLast_sublist hs).subset m)
        refine ⟨.ref h, rfl, .inl ⟨rfl, _, .of a6.hl⟩, h, _, _, rfl, rfl, a6.hl, hlast, ?_⟩
        rw [← List.map_dropLast]
        refine ⟨.ref g, rfl, .inl ⟨rfl, _, .of a7.fl⟩, _, rfl, (by show 2 ≤ sizeLine; decide), fun t ht => ⟨g, _, _, rfl, rfl, (a7.new ht).fl, ?_, ?_⟩⟩
        · rw [hxl]
          exact small1000 (by omega)
        · refine ⟨h, _, ss ++ [(false, hs.getLast hs0)], _, _, _, _, rfl, (a7.new ht).app (c := false) upd_same hmem, ?_, ?_, ?_⟩
          · rw [List.length_append, hsl]
            rfl
          · rw [List.length_append, hxl]
            rfl
          · rw [List.length_dropLast]
            omega
      | false =>
        refine iteF ?_
        -- the other ways
        refine ⟨fun b H7 => SI p l g h zs H H7 xs ss hs, ?_, ?_⟩
        · refine ⟨_, rfl, rfl, _, rfl, ite2 (fun c => ?_) (fun c => ?_)⟩
          · exact a6
          · refine ⟨_, rfl, rfl, _, rfl, ite2 (fun c2 => ?_) (fun c2 => ?_)⟩
            · exact ⟨_, rfl, Nat.zero_le _, fun q hq => ⟨.list (hs.map .str), .list (([] : List Str).map .str), .lst (.of (a6.new hq).hl) (dp_strs hs), .lst (.of upd_same) .nil, ofz a6.hz, ofz (fun z w => (by cases w)), _, rfl, a6.new hq⟩⟩
            · exact a6
        rintro b H7 a7
        cases b with
        | true =>
          refine iteT ?_
          refine ⟨.ref g, rfl, .inl ⟨rfl, _, .of a7.fl⟩, _, rfl, (by show 2 ≤ sizeLine; decide), fun t ht => ⟨g, _, _, rfl, rfl, (a7.new ht).fl, ?_, ?_⟩⟩
          · rw [hxl]
            exact small1000 (by omega)
          have a8 := (a7.new ht).app (c := false) upd_same zm
          have fin : ∀ (v : Addr) (H9 : Hp) (ks : List Str), SI p l g v zs H H9 (xs ++ [.ref t]) (ss ++ [(false, z)]) ks → ks.length ≤ i → ∃ (h : Addr) (xs : List V) (ss : List Stp) (hs : List Str) (y5 y6 y7 : Option V), [some (.ref p), some (.ref l), some (.int m), some (.ref g), some (.ref v), some (.int (0 + i)), some (.int r), some (.str z)] = [some (V.ref p), some (.ref l), some (.int m), some (.ref g), some (.ref h), y5, y6, y7] ∧ SI p l g h zs H H9 xs ss hs ∧ ss.length = i + 1 ∧ xs.length = i + 1 ∧ hs.length ≤ i + 1 := by
            intro v H9 ks a9 kl
            refine ⟨v, _, _, ks, _, _, _, rfl, a9, ?_, ?_, by omega⟩
            · rw [List.length_append, hsl]
              rfl
            · rw [List.length_append, hxl]
              rfl
          refine ⟨fun b H8 => SI p l g h zs H H8 (xs ++ [.ref t]) (ss ++ [(false, z)]) hs, ?_, ?_⟩
          · refine ⟨_, rfl, 1, rfl, -1, rfl, h, _, rfl, .of a8.hl, fun q hq => ⟨_, rfl, (by show 1 ≤ sizeLine; decide), fun q2 hq2 => ?_⟩⟩
            have a9 := (a8.new hq (o := .lst (cutV (hs.map V.str) (some (-1)) none))).new hq2 (o := .lst [.str z])
            have ne2 : q ≠ q2 := ne_of_none upd_same hq2
            refine ⟨.list (((hs.drop (HT.sIx hs.length 0 (some (-1)))).take (HT.sIx hs.length hs.length none - HT.sIx hs.length 0 (some (-1)))).map .str), .list ([z].map .str), .lst (.of ?_) (dp_strs _), .lst (.of upd_same) (dp_strs [z]), ofz (fun y m => a8.hz y (cut_mem m)), ofz (fun y m => (by rw [List.mem_singleton.mp m]; exact zm)), _, rfl, a9⟩
            rw [upd_ne ne2, upd_same, cut_map]
          rintro b H8 a9
          cases b with
          | true =>
            refine iteT ?_
            refine ⟨_, rfl, 1, rfl, -1, rfl, h, _, rfl, .of a9.hl, fun q hq => ?_⟩
            rw [cut_map]
            refine fin q _ _ (a9.hnew hq fun y m => a9.hz y (cut_mem m)) ?_
            rw [List.length_take, List.length_drop]
            omega
          | false =>
            refine iteF ?_
            exact ⟨_, rfl, fin h H8 hs a9 hhl⟩
        | false =>
          refine iteF ?_
          refine ⟨.ref g, rfl, .inl ⟨rfl, _, .of a7.fl⟩, _, rfl, (by show 2 ≤ sizeLine; decide), fun t ht => ⟨g, _, _, rfl, rfl, (a7.new ht).fl, ?_, ?_⟩⟩
          · rw [hxl]
            exact small1000 (by omega)
          have a8 := (a7.new ht).app (c := true) upd_same zm
          refine ⟨.ref h, rfl, .inl ⟨rfl, _, .of a8.hl⟩, _, rfl, h, _, _, rfl, rfl, a8.hl, ?_, ?_⟩
          · rw [List.length_map]
            exact small1000 (by omega)
          · have a9 : SI p l g h zs H (upd _ h (.lst ((hs ++ [z]).map V.str))) (xs ++ [.ref t]) (ss ++ [(true, z)]) (hs ++ [z]) := a8.hset fun y m => by
              rcases List.mem_append.mp m with q | q
              · exact a8.hz y q
              · rw [List.mem_singleton.mp q]
                exact zm
            rw [List.map_append] at a9
            refine ⟨h, _, _, _, _, _, _, rfl, a9, ?_, ?_, ?_⟩
            · rw [List.length_append, hsl]
              rfl
            · rw [List.length_append, hxl]
              rfl
            · rw [List.length_append]
              show hs.length + 1 ≤ i + 1
              omega
    · rintro σ H3 ⟨h, xs, ss, hs, y5, y6, y7, rfl, a, hsl, hxl, hhl⟩
      exact ⟨_, rfl, k g xs ss H3 a.b a.pl hg a.fl a.st hsl a.sz⟩
end
end SE
namespace SE
open PySem PySem.Spec PyProof.Rows L2
/-! ### what is never reached; types -/
theorem pe_never {X : Cx} {e : Expr} : PE X e (fun _ _ _ => False) := ⟨fun _ _ _ _ _ _ h => h.elim⟩
theorem ty_tup {K : PySem.W.Frag} {H : Hp} {a : Addr} {xs : List V} (h : SqT K H a xs) : TyX K H (.ref a) (.type "tuple") := by
  rcases h with (h | ⟨o, h⟩) | ⟨o, its, n, h1, h2, _⟩
  · exact .base (.tup h)
  · exact .fTuple h
  · exact .kTuple h1 h2
theorem ty_lst {K : PySem.W.Frag} {H : Hp} {a : Addr} {xs : List V} (h : SqL K H a xs) : TyX K H (.ref a) (.type "list") := by
  rcases h with (h | ⟨o, h⟩) | ⟨o, its, n, h1, h2, _⟩
  · exact .base (.lst h)
  · exact .base (.frz h)
  · exact .kList h1 h2
theorem bl_snoc (n : Nat) : (List.replicate n true).map V.bl ++ [V.bl true] = (List.replicate (n + 1) true).map V.bl := by
  rw [List.replicate_succ', List.map_append]
  rfl
theorem all_true (n : Nat) : (List.replicate n true).all id = true := by
  rw [List.all_eq_true]
  intro b hb
  rw [(List.mem_replicate.mp hb).2]
  rfl
theorem abc_has {c : Nat} (h : 97 ≤ c ∧ c ≤ 122) : c ∈ abc.cps.toList := by
  have q : ∀ j : Fin 26, (97 + j.1) ∈ abc.cps.toList := by decide +kernel
  have z := q ⟨c - 97, by omega⟩
  have e : 97 + (c - 97) = c := by omega
  rw [← e]
  exact z
/-- the module's constants -/
structure Cons (K : PySem.W.Frag) (w : World) (mg : Str → Option Value) : Prop where
  let_ : ∃ t, mg "LETTERS" = some (.str abc t)
  ml : ∃ t, mg "MOST_LETTERS" = some (.int 8 t)
  ms : ∃ t, mg "MOST_STEPS" = some (.int 1000 t)
  opp : ∃ (d : Addr) (es : Array DictEntry) (n : Nat) (u v : Value), mg "OPPOSITES" = some (.ref d) ∧ KDict K w d es n ∧ PySem.W.nsIn K d "push" = some (some u) ∧ RelV (.str "pop") u ∧ PySem.W.nsIn K d "pop" = some (some v) ∧ RelV (.str "push") v
/-- built-in names that the module leaves as they are -/
structure Blt (mg : Str → Option Value) : Prop where
  isi : mg "isinstance" = none
  str : mg "str" = none
  len : mg "len" = none
  all : mg "all" = none
  tup : mg "tuple" = none
  lst : mg "list" = none
  enu : mg "enumerate" = none
section
variable {P : Program} {w : World} {K : PySem.W.Frag} {mg : Str → Option Value} {base : Heap}
/-! ### is_item -/
def spIsItem : Sp := fun xs H Q _ => ∃ (z : Str), xs = [.str z] ∧ Item z ∧ ∀ H', Same H H' → Q (.bl true) H'
theorem scIsItem : FnScope ["value", "letter"] ["value"] (defScope sIsItem) := ⟨rfl, rfl, rfl, by decide +kernel, rfl, by decide +kernel, by decide +kernel⟩
theorem has_isItem (D : Def K mg "is_item" sIsItem) (B : Blt mg) (C : Cons K w mg) : Has P w K mg base "is_item" 1 ["value"] [] spIsItem := by
  obtain ⟨tl, hL⟩ := C.let_
  obtain ⟨tm, hM⟩ := C.ml
  refine has_of D scIsItem (fun _ _ _ _ _ _ us hl => match us, hl with | [_], _ => rfl) (fun xs H Q E h => ?_) (fun f cv A out s H xs Q E hr h => ?_)
  · obtain ⟨z, rfl, _⟩ := h
    rfl
  · obtain ⟨z, rfl, iz, k⟩ := h
    refine ⟨_, pss_cons (ps_if (PW.pt (pw_or (pt_not (pt_val (pe_callB call_isi (by rfl) B.isi (by decide +kernel) (pa_cons (pv 0) (pa_cons (pe_bltn (v := .ty "str") (by rfl) B.str (by decide +kernel) rfl) pa_nil)))))
        (pw_or1 (pt_not (pt_chain op_le op_le pe_int (pe_callB call_len_str (by rfl) B.len PySem.boot_len (pa_cons (pv 0) pa_nil)) (pe_glob (v := .int 8) rfl hM ⟨_, rfl⟩)))))) (pss_one (ps_ret pe_bl)) pss_nil)
      (pss_one (ps_ret (pe_callB (cr_all rfl) (by rfl) B.all (by decide +kernel) (pa_cons
        (pe_lc (own := [("letter", 1)]) (g := gName 1) (tt := tYes) rfl scIsItem.nd (pi_str (pv 0)) (blkOk_by (own := [("letter", 1)]) (N := ["value", "letter"]) (sc := defScope sIsItem) (by decide +kernel))
          (fun _ _ _ _ _ => pg_name (i := 1) scIsItem.nd rfl (.inl rfl)) (fun _ _ _ _ _ => pts_nil) (fun _ _ _ _ _ => pe_cmpR op_in_sign (pv 1) (pe_glob (v := .str abc) rfl hL ⟨_, rfl⟩) (by rfl))) pa_nil)))), ?_⟩
    refine ⟨_, rfl, _, .ty "str", .type "str", .type "str", true, rfl, .ty _, .base (.str z), kit_ty (by decide +kernel), true, rfl, iteF ?_⟩
    have p1 : (1 : Int) ≤ (z.length : Int) := by have := iz.pos; omega
    have p2 : (z.length : Int) ≤ 8 := by have := iz.most; omega
    refine ⟨_, rfl, z, rfl, Nat.le_of_lt (small1000 (by have := iz.most; omega)), 1, _, rfl, rfl, true, congrArg V.bl (decide_eq_true p1), iteT ⟨_, 8, rfl, rfl, true, congrArg V.bl (decide_eq_true p2), iteF ?_⟩⟩
    refine ⟨_, rfl, z, rfl, fun D hD => lc_it walk_str (fun j H2 => H2 D = some (.lst ((List.replicate j true).map V.bl)) ∧ Same H H2) ⟨upd_same, Same.new hD⟩ (fun _ _ _ _ => trivial) ?_ ?_⟩
    · rintro j x H2 H3 hj ⟨h2, s2⟩ ⟨rfl, c, hc, rfl⟩
      refine ⟨rfl, yes_in ⟨_, rfl, c, abc, rfl, rfl, _, h2, ?_, ?_, ?_⟩⟩
      · rw [List.length_map, List.length_replicate]
        have : j < z.length := hj
        have := iz.most
        exact small1000 (by omega)
      · have cm : c ∈ z.cps.toList := by
          have q : z.cps.toList[j]? = some c := by rw [Array.getElem?_toList]; exact hc
          exact List.mem_of_getElem? q
        rw [upd_same, decide_eq_true (abc_has (iz.low c cm)), bl_snoc]
      · exact Same.free2 s2 hD
    · rintro H2 ⟨h2, s2⟩
      refine ⟨D, _, rfl, .of h2, ?_⟩
      rw [all_true]
      exact k H2 s2
/-! ### is_word -/
def spIsWord (K : PySem.W.Frag) : Sp := fun xs H Q _ => ∃ (a : Addr) (zs : List Str), xs = [.ref a] ∧ SqT K H a (zs.map V.str) ∧ zs.length ≤ 5000 ∧ (∀ z ∈ zs, Item z) ∧ ∀ H', Same H H' → Q (.bl true) H'
theorem scIsWord : FnScope ["value", "item"] ["value"] (defScope sIsWord) := ⟨rfl, rfl, rfl, by decide +kernel, rfl, by decide +kernel, by decide +kernel⟩
theorem has_isWord (D : Def K mg "is_word" sIsWord) (G : Has P w K mg base "is_item" 1 ["value"] [] spIsItem) (B : Blt mg) : Has P w K mg base "is_word" 2 ["value"] [] (spIsWord K) := by
  refine has_of D scIsWord (fun _ _ _ _ _ _ us hl => match us, hl with | [_], _ => rfl) (fun xs H Q E h => ?_) (fun f cv A out s H xs Q E hr h => ?_)
  · obtain ⟨a, zs, rfl, _⟩ := h
    rfl
  · obtain ⟨a, zs, rfl, hT, hz, hI, k⟩ := h
    refine ⟨_, pss_one (ps_ret (pe_and (pe_callB call_isi (by rfl) B.isi (by decide +kernel) (pa_cons (pv 0) (pa_cons (pe_bltn (v := .ty "tuple") (by rfl) B.tup (by decide +kernel) rfl) pa_nil)))
      (pe_one (pe_callB (cr_all rfl) (by rfl) B.all (by decide +kernel) (pa_cons
        (pe_lc (own := [("item", 1)]) (g := gName 1) (tt := tYes) (te := tCall spIsItem [] E0 (tCons (tVar 1) tNil)) rfl scIsWord.nd (pi_tup (pv 0)) (blkOk_by (own := [("item", 1)]) (N := ["value", "item"]) (sc := defScope sIsWord) (by decide +kernel))
          (fun _ _ _ _ _ => pg_name (i := 1) scIsWord.nd rfl (.inl rfl)) (fun _ _ _ _ _ => pts_nil) (fun _ _ _ _ _ => pe_has G hr (pa_cons (pv 1) pa_nil))) pa_nil))))), ?_⟩
    refine ⟨_, rfl, _, .ty "tuple", .type "tuple", .type "tuple", true, rfl, .ty _, ty_tup hT, kit_ty (by decide +kernel), true, rfl, iteT ?_⟩
    refine ⟨_, rfl, a, rfl, ⟨_, hT⟩, fun D hD => lc_tup (K := K) (a := a) (xs := zs.map V.str) (fun j H2 => H2 D = some (.lst ((List.replicate j true).map V.bl)) ∧ Same H H2) ⟨upd_same, Same.new hD⟩ (fun _ _ _ q => Same.tup q.2 hT) ?_ ?_⟩
    · rintro j x H2 hj ⟨h2, s2⟩
      have jl : j < zs.length := by
        have := (List.getElem?_eq_some_iff.mp hj).1
        rwa [List.length_map] at this
      rw [List.getElem?_map, List.getElem?_eq_getElem jl] at hj
      have e := Option.some.inj hj
      subst e
      refine ⟨rfl, yes_in ⟨_, rfl, zs[j], rfl, hI _ (List.getElem_mem jl), fun H3 s3 => ⟨_, s3 _ _ h2, ?_, ?_, ?_⟩⟩⟩
      · rw [List.length_map, List.length_replicate]
        exact Nat.lt_of_lt_of_le jl (Nat.le_trans hz (by decide))
      · rw [upd_same, bl_snoc]
      · exact Same.free2 (s2.trans s3) hD
    · rintro H2 ⟨h2, s2⟩
      refine ⟨D, _, rfl, .of h2, ?_⟩
      rw [all_true]
      exact k H2 s2
/-! ### is_step -/
def spIsStep (K : PySem.W.Frag) : Sp := fun xs H Q _ => ∃ (v : V) (s : Stp), xs = [v] ∧ StepV K H v s ∧ Item s.2 ∧ ∀ H', Same H H' → Q (.bl true) H'
theorem scIsStep : FnScope ["value", "action", "item"] ["value"] (defScope sIsStep) := ⟨rfl, rfl, rfl, by decide +kernel, rfl, by decide +kernel, by decide +kernel⟩
theorem has_isStep (D : Def K mg "is_step" sIsStep) (G : Has P w K mg base "is_item" 1 ["value"] [] spIsItem) (B : Blt mg) (C : Cons K w mg) : Has P w K mg base "is_step" 2 ["value"] [] (spIsStep K) := by
  obtain ⟨d, es, n, u1, u2, hO, KD, n1, r1, n2, r2⟩ := C.opp
  refine has_of D scIsStep (fun _ _ _ _ _ _ us hl => match us, hl with | [_], _ => rfl) (fun xs H Q E h => ?_) (fun f cv A out s H xs Q E hr h => ?_)
  · obtain ⟨v, st, rfl, _⟩ := h
    rfl
  · obtain ⟨v, st, rfl, ⟨t, rfl, hT⟩, iz, k⟩ := h
    refine ⟨_, pss_cons (ps_if (PW.pt (pw_or (pt_not (pt_val (pe_callB call_isi (by rfl) B.isi (by decide +kernel) (pa_cons (pv 0) (pa_cons (pe_bltn (v := .ty "tuple") (by rfl) B.tup (by decide +kernel) rfl) pa_nil)))))
        (pw_or1 (pt_cmpR op_ne (pe_callB call_len_seq (by rfl) B.len PySem.boot_len (pa_cons (pv 0) pa_nil)) pe_int (nomark _))))) (pss_one (ps_ret pe_bl)) pss_nil)
      (pss_cons (ps_asg (pv 0) (pg_tup (by rfl) (pgs_cons (pg_name (i := 1) scIsStep.nd rfl (.inl rfl)) (pgs_cons (pg_name (i := 2) scIsStep.nd rfl (.inl rfl)) pgs_nil))))
      (pss_one (ps_ret (pe_and (pe_callB call_isi (by rfl) B.isi (by decide +kernel) (pa_cons (pv 1) (pa_cons (pe_bltn (v := .ty "str") (by rfl) B.str (by decide +kernel) rfl) pa_nil)))
        (pe_and (pe_cmpR (op_in_kd KD) (pv 1) (pe_glob (v := .ref d) rfl hO rfl) (by rfl)) (pe_one (pe_has G hr (pa_cons (pv 2) pa_nil)))))))), ?_⟩
    refine ⟨_, rfl, _, .ty "tuple", .type "tuple", .type "tuple", true, rfl, .ty _, ty_tup hT, kit_ty (by decide +kernel), true, rfl, iteF ?_⟩
    refine ⟨_, rfl, t, _, rfl, .inr hT, rfl, _, rfl, iteF ?_⟩
    refine ⟨_, rfl, t, _, rfl, hT, rfl, _, _, rfl, _, _, rfl, rfl, ?_⟩
    refine ⟨_, rfl, _, .ty "str", .type "str", .type "str", true, rfl, .ty _, .base (.str _), kit_ty (by decide +kernel), true, rfl, iteT ?_⟩
    have inO : ∃ r, PySem.W.nsIn K d (act st.1) = some r ∧ r.isSome = true := by
      cases e : st.1 with
      | true => exact ⟨some u1, n1, rfl⟩
      | false => exact ⟨some u2, n2, rfl⟩
    obtain ⟨r, hr1, hr2⟩ := inO
    refine ⟨_, rfl, act st.1, r, rfl, rfl, hr1, r.isSome, rfl, ?_⟩
    rw [hr2]
    exact iteT ⟨_, rfl, st.2, rfl, iz, k⟩
end
end SE
namespace SE
open PySem PySem.Spec PyProof.Rows L2
section
variable {P : Program} {w : World} {K : PySem.W.Frag} {mg : Str → Option Value} {base : Heap}
/-! ### may_hold_steps -/
def spMay (K : PySem.W.Frag) : Sp := fun xs H Q _ => ∃ (a : Addr) (ys : List V), xs = [.ref a] ∧ (SqL K H a ys ∨ SqT K H a ys) ∧ ys.length ≤ 1000 ∧ ∀ H', Same H H' → Q (.bl true) H'
theorem scMay : FnScope ["value"] ["value"] (defScope sMayHold) := ⟨rfl, rfl, rfl, by decide +kernel, rfl, by decide +kernel, by decide +kernel⟩
theorem has_may (D : Def K mg "may_hold_steps" sMayHold) (B : Blt mg) (C : Cons K w mg) : Has P w K mg base "may_hold_steps" 1 ["value"] [] (spMay K) := by
  obtain ⟨tm, hM⟩ := C.ms
  refine has_of D scMay (fun _ _ _ _ _ _ us hl => match us, hl with | [_], _ => rfl) (fun xs H Q E h => ?_) (fun f cv A out s H xs Q E hr h => ?_)
  · obtain ⟨a, ys, rfl, _⟩ := h
    rfl
  · obtain ⟨a, ys, rfl, hS, hl, k⟩ := h
    refine ⟨_, pss_one (ps_ret (pe_and (pe_callB call_isiT (by rfl) B.isi (by decide +kernel) (pa_cons (pv 0) (pa_cons (pe_tup (pa_cons (pe_bltn (v := .ty "list") (by rfl) B.lst (by decide +kernel) rfl) (pa_cons (pe_bltn (v := .ty "tuple") (by rfl) B.tup (by decide +kernel) rfl) pa_nil))) pa_nil)))
      (pe_one (pe_cmpR op_le (pe_callB call_len_seq (by rfl) B.len PySem.boot_len (pa_cons (pv 0) pa_nil)) (pe_glob (v := .int 1000) rfl hM ⟨_, rfl⟩) (nomark _))))), ?_⟩
    refine ⟨_, rfl, (by show 2 ≤ sizeLine; decide), fun t ht => ?_⟩
    have s1 : Same H (upd H t (.tup [.ty "list", .ty "tuple"])) := Same.new ht
    have p1 : (ys.length : Int) ≤ 1000 := by omega
    have ty : ∃ T, TyX K (upd H t (.tup [.ty "list", .ty "tuple"])) (.ref a) T ∧ PySem.W.kitAny K T [.type "list", .type "tuple"] = some true := by
      rcases hS with q | q
      · exact ⟨_, ty_lst (Same.seq s1 q), kitAny_cons (b := true) (kit_ty (by decide +kernel)) (fun z => (by cases z)) (fun _ => rfl)⟩
      · exact ⟨_, ty_tup (Same.tup s1 q), kitAny_cons (b := false) (kit_ty (by decide +kernel)) (fun _ => kitAny_cons (b := true) (kit_ty (by decide +kernel)) (fun z => (by cases z)) (fun _ => rfl)) (fun z => (by cases z))⟩
    obtain ⟨T, ty1, ty2⟩ := ty
    refine ⟨_, t, _, T, _, true, rfl, upd_same, .cons (.ty _) (.cons (.ty _) .nil), ty1, ty2, true, rfl, iteT ?_⟩
    refine ⟨_, rfl, a, ys, rfl, hS.imp (Same.seq s1) (Same.tup s1), _, 1000, rfl, rfl, ?_⟩
    show Q (V.bl (decide ((ys.length : Int) ≤ 1000))) _
    rw [decide_eq_true p1]
    exact k _ s1
/-! ### check_steps -/
def spChkSteps (K : PySem.W.Frag) : Sp := fun xs H Q _ => ∃ (a : Addr) (ys : List V) (ss : List Stp), xs = [.ref a] ∧ (SqL K H a ys ∨ SqT K H a ys) ∧ ys.length ≤ 1000 ∧ StepsV K H ys ss ∧ (∀ s ∈ ss, Item s.2) ∧ ∀ H', Same H H' → Q .non H'
theorem scChk : FnScope ["steps", "index", "step"] ["steps"] (defScope sChkSteps) := ⟨rfl, rfl, rfl, by decide +kernel, rfl, by decide +kernel, by decide +kernel⟩
theorem walk_enumT {K : PySem.W.Frag} {a : Addr} {xs : List V} : Walk (ItE K a) xs.length (fun H => SqT K H a xs) (YPair (fun i => some (.int (i : Nat))) (fun i => xs[i]?)) := by
  refine ⟨fun i _ hi q => ⟨xs, xs[i], q, by simp [hi]⟩, fun _ q => ⟨xs, q, Nat.le_refl _⟩, fun i H v H2 _ q y => ?_⟩
  obtain ⟨T, x, h1, h2, h3, h4⟩ := y
  exact ⟨T, .int (i : Nat), x, h1, h2, h3, rfl, h4 xs q⟩
theorem has_chkSteps (D : Def K mg "check_steps" sChkSteps) (GM : Has P w K mg base "may_hold_steps" 1 ["value"] [] (spMay K)) (GS : Has P w K mg base "is_step" 2 ["value"] [] (spIsStep K)) (B : Blt mg) : Has P w K mg base "check_steps" 3 ["steps"] [] (spChkSteps K) := by
  refine has_of D scChk (fun _ _ _ _ _ _ us hl => match us, hl with | [_], _ => rfl) (fun xs H Q E h => ?_) (fun f cv A out s H xs Q E hr h => ?_)
  · obtain ⟨a, ys, ss, rfl, _⟩ := h
    rfl
  · obtain ⟨a, ys, ss, rfl, hS, hl, hV, hI, k⟩ := h
    have hr1 : Room 1 _ := hr.mono (by decide)
    have one : ∀ {i : Nat} {y : V} {H2 : Hp}, ys[i]? = some y → Same H H2 → ∃ s, StepV K H2 y s ∧ Item s.2 := by
      intro i y H2 hy s2
      obtain ⟨st, h1, h2⟩ := StepsV.at hV hy
      exact ⟨st, h2.same s2, hI st (List.mem_of_getElem? h1)⟩
    rcases hS with hS | hS
    · refine ⟨_, pss_cons (ps_if (pt_not (pt_val (pe_has GM hr1 (pa_cons (pv 0) pa_nil)))) pss_never pss_nil)
        (pss_one (ps_for PassesOwn.never rfl (pi_enum (by rfl) B.enu (pa_cons (pv 0) pa_nil)) (pg_tup (by rfl) (pgs_cons (pg_name (i := 1) scChk.nd rfl (.inl rfl)) (pgs_cons (pg_name (i := 2) scChk.nd rfl (.inl rfl)) pgs_nil)))
          (pss_one (ps_if (pt_not (pt_val (pe_has GS hr (pa_cons (pv 2) pa_nil)))) pss_never pss_nil)))), ?_⟩
      refine ⟨_, rfl, a, ys, rfl, .inl hS, hl, fun H1 s1 => ⟨true, rfl, iteF ?_⟩⟩
      refine ⟨_, rfl, a, ys, rfl, Same.seq s1 hS, for_it (walk_enum (K := K) (a := a) (xs := ys)) (fun i σ H2 => ∃ y1 y2, σ = [some (.ref a), y1, y2] ∧ Same H H2) ⟨none, none, rfl, s1⟩ (fun i σ H2 _ q => ?_) ?_ ?_⟩
      · obtain ⟨_, _, _, s2⟩ := q
        exact Same.seq s2 hS
      · rintro i x σ H2 H3 hi ⟨y1, y2, rfl, s2⟩ ⟨T, p, y, rfl, nT, rfl, hp, hy⟩
        refine ⟨T, _, rfl, .of upd_same, rfl, _, _, rfl, _, _, rfl, rfl, ?_⟩
        have s3 : Same H (upd H2 T (.tup [p, y])) := Same.free2 s2 (s2.free nT)
        obtain ⟨st, h1, h2⟩ := one hy s3
        exact ⟨_, rfl, y, st, rfl, h1, h2, fun H4 s4 => ⟨true, rfl, iteF ⟨_, _, rfl, s3.trans s4⟩⟩⟩
      · rintro σ H2 ⟨y1, y2, rfl, s2⟩
        exact k H2 s2
    · refine ⟨_, pss_cons (ps_if (pt_not (pt_val (pe_has GM hr1 (pa_cons (pv 0) pa_nil)))) pss_never pss_nil)
        (pss_one (ps_for PassesOwn.never rfl (pi_enumT (by rfl) B.enu (pa_cons (pv 0) pa_nil)) (pg_tup (by rfl) (pgs_cons (pg_name (i := 1) scChk.nd rfl (.inl rfl)) (pgs_cons (pg_name (i := 2) scChk.nd rfl (.inl rfl)) pgs_nil)))
          (pss_one (ps_if (pt_not (pt_val (pe_has GS hr (pa_cons (pv 2) pa_nil)))) pss_never pss_nil)))), ?_⟩
      refine ⟨_, rfl, a, ys, rfl, .inr hS, hl, fun H1 s1 => ⟨true, rfl, iteF ?_⟩⟩
      refine ⟨_, rfl, a, ys, rfl, Same.tup s1 hS, for_it (walk_enumT (K := K) (a := a) (xs := ys)) (fun i σ H2 => ∃ y1 y2, σ = [some (.ref a), y1, y2] ∧ Same H H2) ⟨none, none, rfl, s1⟩ (fun i σ H2 _ q => ?_) ?_ ?_⟩
      · obtain ⟨_, _, _, s2⟩ := q
        exact Same.tup s2 hS
      · rintro i x σ H2 H3 hi ⟨y1, y2, rfl, s2⟩ ⟨T, p, y, rfl, nT, rfl, hp, hy⟩
        refine ⟨T, _, rfl, .of upd_same, rfl, _, _, rfl, _, _, rfl, rfl, ?_⟩
        have s3 : Same H (upd H2 T (.tup [p, y])) := Same.free2 s2 (s2.free nT)
        obtain ⟨st, h1, h2⟩ := one hy s3
        exact ⟨_, rfl, y, st, rfl, h1, h2, fun H4 s4 => ⟨true, rfl, iteF ⟨_, _, rfl, s3.trans s4⟩⟩⟩
      · rintro σ H2 ⟨y1, y2, rfl, s2⟩
        exact k H2 s2
/-! ### check_word, is_limit, check_limit, check_run, is_too_high -/
def spChkWord (K : PySem.W.Frag) : Sp := fun xs H Q _ => ∃ (a : Addr) (zs : List Str), xs = [.ref a] ∧ SqT K H a (zs.map V.str) ∧ zs.length ≤ 5000 ∧ (∀ z ∈ zs, Item z) ∧ ∀ H', Same H H' → Q .non H'
theorem scCw : FnScope ["word"] ["word"] (defScope sChkWord) := ⟨rfl, rfl, rfl, by decide +kernel, rfl, by decide +kernel, by decide +kernel⟩
theorem has_chkWord (D : Def K mg "check_word" sChkWord) (G : Has P w K mg base "is_word" 2 ["value"] [] (spIsWord K)) : Has P w K mg base "check_word" 3 ["word"] [] (spChkWord K) := by
  refine has_of D scCw (fun _ _ _ _ _ _ us hl => match us, hl with | [_], _ => rfl) (fun xs H Q E h => ?_) (fun f cv A out s H xs Q E hr h => ?_)
  · obtain ⟨a, zs, rfl, _⟩ := h
    rfl
  · obtain ⟨a, zs, rfl, hT, hz, hI, k⟩ := h
    refine ⟨_, pss_one (ps_if (pt_not (pt_val (pe_has G hr (pa_cons (pv 0) pa_nil)))) pss_never pss_nil), ?_⟩
    exact ⟨_, rfl, a, zs, rfl, hT, hz, hI, fun H1 s1 => ⟨true, rfl, iteF (k H1 s1)⟩⟩
end
end SE
namespace SE
open PySem PySem.Spec PyProof.Rows L2
/-- a def with keyword-only defaults alone -/
def DefK (K : PySem.W.Frag) (mg : Str → Option Value) (x : Str) (st : Stmt) (kws : List (Str × V)) : Prop := ∃ f fd, Fun K x x st f fd ∧ FunD K x x (defArgs st) (defBody st) (defScope st) [] kws f fd ∧ mg x = some (.ref f)
end SE
namespace SE
open PySem PySem.Spec PyProof.Rows L2
section
variable {P : Program} {w : World} {K : PySem.W.Frag} {mg : Str → Option Value} {base : Heap}
/-! ### is_whole, is_between, check_between -/
def spWhole : Sp := fun xs H Q _ => ∃ n : Int, xs = [.int n] ∧ Q (.bl true) H
theorem scWh : FnScope ["value"] ["value"] (defScope sIsWhole) := ⟨rfl, rfl, rfl, by decide +kernel, rfl, by decide +kernel, by decide +kernel⟩
theorem has_whole (D : Def K mg "is_whole" sIsWhole) (B : Blt mg) (mi : mg "int" = none) (mb : mg "bool" = none) : Has P w K mg base "is_whole" 1 ["value"] [] spWhole := by
  refine has_of D scWh (fun _ _ _ _ _ _ us hl => match us, hl with | [_], _ => rfl) (fun xs H Q E h => ?_) (fun f cv A out s H xs Q E hr h => ?_)
  · obtain ⟨n, rfl, _⟩ := h
    rfl
  · obtain ⟨n, rfl, k⟩ := h
    refine ⟨_, pss_one (ps_ret (pe_and (pe_callB call_isi (by rfl) B.isi (by decide +kernel) (pa_cons (pv 0) (pa_cons (pe_bltn (v := .ty "int") (by rfl) mi (by decide +kernel) rfl) pa_nil)))
      (pe_one (pe_not (pe_callB call_isi (by rfl) B.isi (by decide +kernel) (pa_cons (pv 0) (pa_cons (pe_bltn (v := .ty "bool") (by rfl) mb (by decide +kernel) rfl) pa_nil))))))), ?_⟩
    refine ⟨_, rfl, _, .ty "int", .type "int", .type "int", true, rfl, .ty _, .base (.int n), kit_ty (by decide +kernel), true, rfl, iteT ?_⟩
    exact ⟨_, rfl, _, .ty "bool", .type "int", .type "bool", false, rfl, .ty _, .base (.int n), kit_ty (by decide +kernel), false, rfl, k⟩
end
end SE
/-! (x,) * n for n up to 5000. -/
namespace SE
open PySem PySem.Spec PyProof.Rows L2
def rRepB (K : PySem.W.Frag) : R2 := fun x y H Q => ∃ (l : Addr) (k : Int) (v : V), x = .ref l ∧ y = .int k ∧ SqT K H l [v] ∧ 2 ≤ k ∧ k ≤ 5000 ∧ ∀ p, H p = none → Q (.ref p) (upd H p (.tup (List.replicate k.toNat v)))
theorem op_repB {X : Cx} : OpR X (binaryOp .Mult) (rRepB X.K) := by
  intro pins s σ H x y a u Q I rx ry h
  obtain ⟨l, k, v, rfl, rfl, hT, h1, h2, q⟩ := h
  cases rx
  obtain ⟨t, rfl⟩ := ry
  obtain ⟨its, r, ⟨⟨cls, dd, data, sl⟩, ho, hc, n, hd⟩, hs⟩ := I.tuple hT
  simp only at hc hd
  subst hc hd
  obtain ⟨w, rfl⟩ : ∃ w, its = [w] := by
    cases r with
    | cons r1 r2 =>
      cases r2
      exact ⟨_, rfl⟩
  have sz : (([w] : List Value).toArray.size : Int) * k = k := by
    show ((1 : Nat) : Int) * k = k
    omega
  have rep : ∀ {α : Type} (z : α), (List.replicate k.toNat [z]).flatten = List.replicate k.toNat z := fun z => List.flatten_replicate_singleton
  have big : k.toNat ≤ sizeLine := by
    rw [sizeLine_eq]
    omega
  refine wpAny_binaryOp_repeat_ref (T := "tuple") (U := "int") (by decide) ⟨_, ho, rfl⟩ (fun s2 => typeIs_int s2 k t) noFill_tuple_mul F.fills_int_mul F.slot_int_rmul repeat_tuple F.slot_int_index.lookup ?_
  refine call_meets F.slot_int_rmul (typeIs_int s k t) F.entry_int_rmul (F.args_int_rmul_2 _ _) (int_rmul_tuple k t l _ n dd sl) ⟨ho, rfl, ⟨_, ho, rfl⟩, ?_⟩
  refine call_meets F.slot_tuple_mul ⟨_, ho, rfl⟩ F.entry_tuple_mul (F.args_tuple_mul_2 _ _) (tuple_mulW l _ n dd sl k t ?_ ?_ ?_ ?_ ?_ ?_) ⟨ho, ?_⟩
  · rw [decide_eq_false (by omega), decide_eq_false (by omega)]
    rfl
  · show (false || k == 1) = false
    rw [Bool.false_or]
    exact beq_eq_false_iff_ne.mpr (by omega)
  · show (decide (k ≤ 0) || false) = false
    rw [Bool.or_false]
    exact decide_eq_false (by omega)
  · rw [sz]
    omega
  · rw [sz]
    unfold Builtin.Tuple.tupleTooMany
    rw [sizeLine_eq]
    exact decide_eq_false (by omega)
  · rw [size_rep, List.size_toArray, rep, List.length_replicate]
    exact big
  · rw [size_rep, rep]
    refine ⟨.ref s.heap.objs.size, _, I.laid (t' := s.toks) (o := .tup (List.replicate k.toNat v)) (fun b ob e => Heap.get?_push_of_some _ e) (Nat.le_refl _) ?_, rfl, q _ (I.hok.fresh (Nat.le_refl _))⟩
    refine ⟨by rw [List.length_replicate]; exact big, _, ?_, IsTup.new _ _⟩
    have z := r.rep k.toNat
    rw [rep, rep] at z
    exact z
end SE
/-! Tuples: t * n, t + u, t[a:b] whichever object comes out; len(set(t)) of texts. -/
namespace SE
open PySem PySem.Spec PyProof.Rows L2
section
variable {X : Cx}
theorem tmul_one (l : Addr) (w : Value) (n : Nat) (dd : Option Addr) (sl : Array (Option Value)) (u : Tok) :
    Meets (Builtin.«tuple.__mul__» ⟨[.ref l, .int 1 u], []⟩) (fun _ R s => s.heap.get? l = some { cls := .type "tuple", dict := dd, data := .seq #[w] n, slots := sl } ∧ R (.ok (.ret (Value.ref l))) s) :=
  .of_wp fun prog wd A R s h => by
    obtain ⟨hp, g, d, tk, os⟩ := s
    obtain ⟨hl, h⟩ := h
    have f1 := AutoSeq1.idx_int
    wp_walk using AutoSeq1.wpAny_loadPart' hl
    exact ⟨_, rfl, h⟩
theorem tmul_none (l : Addr) (w : Value) (n : Nat) (dd : Option Addr) (sl : Array (Option Value)) (k : Int) (u : Tok) (h0 : -1000000 ≤ k) (h1 : k ≤ 0) :
    Meets (Builtin.«tuple.__mul__» ⟨[.ref l, .int k u], []⟩) (fun _ R s => s.heap.get? l = some { cls := .type "tuple", dict := dd, data := .seq #[w] n, slots := sl } ∧
      R (.ok (.ret (Value.ref s.heap.objs.size))) { s with heap := s.heap.push { cls := .type "tuple", data := .seq #[] } }) :=
  .of_wp fun prog wd A R s h => by
    obtain ⟨hp, g, d, tk, os⟩ := s
    obtain ⟨hl, h⟩ := h
    have f1 := AutoSeq1.idx_int
    have c0 : (decide (k < -(2 ^ 63)) || decide (k ≥ 2 ^ 63)) = false := by
      rw [decide_eq_false (by omega), decide_eq_false (by omega)]
      rfl
    have c1 : ((#[w] : Array Value).isEmpty || k == 1) = false := by
      show (false || k == 1) = false
      rw [Bool.false_or]
      exact beq_eq_false_iff_ne.mpr (by omega)
    have c2 : (decide (k ≤ 0) || (#[w] : Array Value).isEmpty) = true := by
      rw [decide_eq_true h1]
      rfl
    wp_walk using AutoSeq1.wpAny_loadPart' hl
    repeat (first
      | (refine wpAny_ite_false (decide_eq_false (by rw [c0]; exact Bool.false_ne_true)) ?_; wp_walk using AutoSeq1.wpAny_loadPart' hl)
      | (refine wpAny_ite_false (decide_eq_false (by rw [c1]; exact Bool.false_ne_true)) ?_; wp_walk using AutoSeq1.wpAny_loadPart' hl)
      | (refine wpAny_ite_true (decide_eq_true (by rw [c2])) ?_; wp_walk using AutoSeq1.wpAny_loadPart' hl))
    exact ⟨_, rfl, h⟩
/-- (x,) * k, any k -/
def rRepS (K : PySem.W.Frag) : R2 := fun x y H Q => ∃ (l : Addr) (k : Int) (v : V), x = .ref l ∧ y = .int k ∧ SqT K H l [v] ∧ -1000000 ≤ k ∧ k ≤ 5000 ∧ ∀ (p : Addr) (H' : Hp), Same H H' → SqT K H' p (List.replicate k.toNat v) → Q (.ref p) H'
theorem op_repS : OpR X (binaryOp .Mult) (rRepS X.K) := by
  intro pins s σ H x y a u Q I rx ry h
  obtain ⟨l, k, v, rfl, rfl, hT, h1, h2, q⟩ := h
  by_cases c : 2 ≤ k
  · exact op_repB pins s σ H _ _ a u Q I rx ry ⟨l, k, v, rfl, rfl, hT, c, h2, fun p hp => q p _ (Same.new hp) (.of upd_same)⟩
  cases rx
  obtain ⟨t, rfl⟩ := ry
  obtain ⟨its, r, ⟨⟨cls, dd, data, sl⟩, ho, hc, n, hd⟩, hs⟩ := I.tuple hT
  simp only at hc hd
  subst hc hd
  obtain ⟨w, rfl⟩ : ∃ w, its = [w] := by
    cases r with
    | cons r1 r2 =>
      cases r2
      exact ⟨_, rfl⟩
  refine wpAny_binaryOp_repeat_ref (T := "tuple") (U := "int") (by decide) ⟨_, ho, rfl⟩ (fun s2 => typeIs_int s2 k t) noFill_tuple_mul F.fills_int_mul F.slot_int_rmul repeat_tuple F.slot_int_index.lookup ?_
  refine call_meets F.slot_int_rmul (typeIs_int s k t) F.entry_int_rmul (F.args_int_rmul_2 _ _) (int_rmul_tuple k t l _ n dd sl) ⟨ho, rfl, ⟨_, ho, rfl⟩, ?_⟩
  by_cases c1 : k = 1
  · subst c1
    refine call_meets F.slot_tuple_mul ⟨_, ho, rfl⟩ F.entry_tuple_mul (F.args_tuple_mul_2 _ _) (tmul_one l w n dd sl t) ⟨ho, ?_⟩
    exact ⟨.ref l, H, I, rfl, q l H (Same.refl H) hT⟩
  · have k0 : k ≤ 0 := by omega
    refine call_meets F.slot_tuple_mul ⟨_, ho, rfl⟩ F.entry_tuple_mul (F.args_tuple_mul_2 _ _) (tmul_none l w n dd sl k t h1 k0) ⟨ho, ?_⟩
    refine ⟨.ref s.heap.objs.size, _, I.laid (t' := s.toks) (o := .tup []) (fun b ob e => Heap.get?_push_of_some _ e) (Nat.le_refl _) ?_, rfl, q _ _ (Same.new (I.hok.fresh (Nat.le_refl _))) ?_⟩
    · exact ⟨Nat.zero_le _, [], .nil, IsTup.new _ _⟩
    · rw [show k.toNat = 0 by omega]
      exact .of upd_same
/-- t + u -/
def rCatS (K : PySem.W.Frag) : R2 := fun x y H Q => ∃ (a b : Addr) (xs ys : List V), x = .ref a ∧ y = .ref b ∧ SqT K H a xs ∧ SqT K H b ys ∧ xs.length + ys.length ≤ sizeLine ∧ ∀ (p : Addr) (H' : Hp), Same H H' → SqT K H' p (xs ++ ys) → Q (.ref p) H'
theorem op_catS : OpR X (binaryOp .Add) (rCatS X.K) := by
  intro pins s σ H x y v u Q I rx ry h
  obtain ⟨a, b, xs, ys, rfl, rfl, ha, hb, hz, q⟩ := h
  refine op_catA pins s σ H _ _ v u Q I rx ry ⟨a, b, xs, ys, rfl, rfl, ha, hb, hz, fun e => ?_, fun _ e => ?_, fun _ _ p hp => q p _ (Same.new hp) (.of upd_same)⟩
  · subst e
    exact q b H (Same.refl H) hb
  · subst e
    exact q a H (Same.refl H) (by rw [List.append_nil]; exact ha)
/-- t[lo:hi] -/
def rSlS (K : PySem.W.Frag) : V → Option Int → Option Int → Hp → VK → Prop := fun x lo hi H Q => ∃ (a : Addr) (xs : List V), x = .ref a ∧ SqT K H a xs ∧ ∀ (p : Addr) (H' : Hp), Same H H' → SqT K H' p (cutV xs lo hi) → Q (.ref p) H'
theorem sl_tupS : SlR X (rSlS X.K) := by
  intro pins s σ H x v vl vu lo hi sl Q I rx hs pl pu h
  obtain ⟨a, xs, rfl, hx, q⟩ := h
  refine sl_tupA pins s σ H _ v vl vu lo hi sl Q I rx hs pl pu ⟨a, xs, rfl, hx, fun e => q a H (Same.refl H) ?_, fun _ p hp => q p _ (Same.new hp) (.of upd_same)⟩
  have e2 : cutV xs lo hi = xs := by
    unfold cutV
    rw [e.1, e.2, List.drop_zero, Nat.sub_zero, List.take_length]
  rw [e2]
  exact hx
end
end SE
/-! A for in a generator's body; a generator def called with keywords. -/
namespace SE
open PySem PySem.Spec PyProof.Rows L2 GenW
section
variable {X : Cx}
def tGFor (wi : TI) (g : TG) (tb : TGn) : TGn := fun D ys σ H => wi σ H fun J H1 => ∃ W : Nat → Nat → List V → L2.St → Hp → Prop, (∃ m, W 0 m ys σ H1) ∧ ∀ i m ys σ H, W i m ys σ H →
  (J.stop i H ∧ D.nx ys σ H) ∨ (J.go i H ∧ ∃ N : List V → L2.St → Hp → Prop, (∀ zs σ2 H2, N zs σ2 H2 → ∃ j, j < m ∧ W (i + 1) j zs σ2 H2) ∧ ∀ x H2, J.yld i H x H2 → g x σ H2 fun σ3 H3 => tb { D with nx := N, ct := N, bk := D.nx } ys σ3 H3)
theorem gs_for {tg iter : Expr} {body : List Stmt} {pos : Pos} {wi : TI} {g : TG} {tb : TGn} (hp : PassesOwn (model X.prog X.w) X.A X.env X.xe) (hc : X.calm = true) (hi : PI X tg iter wi) (hg : PG X tg g) (hb : GSs X body tb)
    (hs : ∀ x, foldedSetIterable iter X.env x = pure x := by intro _; rfl) : GS X (.For tg iter body [] pos) (tGFor wi g tb) := by
  constructor
  intro A S ip R n ys s₀ c fs K J gd lv s σ H D gc hn k hI ht
  obtain ⟨acc, cc, r, I⟩ := hI
  rw [exec_For]
  refine seg_bind_wrap (wpAny_standAt ?_)
  refine seg_bind_wrap ?_
  rw [gc.over]
  refine wpAny_mono (hi.run _ s σ H _ I ht) (fun v s1 h1 => ?_) fun x s2 hx => k.exc n s₀ x s2 hx
  refine seg_bind_wrap (wpAny_of_eq (hs v) ?_)
  refine seg_bind_wrap (wpAny_standAt ?_)
  refine seg_bind_wrap (wpAny_holding ?_)
  rw [gc.over]
  refine wpAny_mono h1 (fun itv s2 h2 => ?_) fun x s3 hx => k.exc n s₀ x s3 hx
  obtain ⟨it, fp, tn, Jt, H2, e2, I2, T, st2, f2, W, ⟨m0, w0⟩, turn⟩ := h2
  subst e2
  refine seg_call fun p => ?_
  have gl := fun (kk : Result → Sem PySem.Fin) => gc_loop (X := X) (k := kk) (c' := .forLoop tg (.ref it) body [] X.env) (l := lv []) (kp := []) (p := p) gc rfl rfl
  have apart : ∀ b ∈ fp, b ≠ S := fun b hb z => by
    obtain ⟨_, _, _, _, _, q⟩ := f2 b hb
    exact q (S, lstObj acc cc) (List.mem_append_right _ List.mem_cons_self) z.symm
  have fpok : ∀ {acc2 : Array Value} {c2 : Nat} {H3 : Hp}, (∀ b ∈ fp, H3 b = none) → ∀ b ∈ fp, FpOk X ((S, lstObj acc2 c2) :: ip) H3 b := by
    intro acc2 c2 H3 hn3 b hb
    obtain ⟨_, a2, a3, a4, a5, a6⟩ := f2 b hb
    refine ⟨hn3 b hb, a2, a3, a4, a5, fun q hq => ?_⟩
    rcases List.mem_append.mp hq with z | z
    · exact a6 q (List.mem_append_left _ z)
    · rcases List.mem_cons.mp z with y | y
      · rw [y]
        exact Ne.symm (apart b hb)
      · exact a6 q (List.mem_append_right _ (List.mem_cons_of_mem _ y))
  have loop : ∀ (m n i : Nat) (ys : List V) (s₀ s : Shared) (σ : L2.St) (H : Hp), n + ys.length = sizeLine → W i m ys σ H → GI X S ip ys σ H s → tn i s.heap → (∀ b ∈ fp, H b = none) →
      Seg (model X.prog X.w) A R (GY X S) n s₀ (.forLoop tg (.ref it) body [] X.env) ((model X.prog X.w).den (.forLoop tg (.ref it) body [] X.env))
        (.ret (fun r => ((match r with | .ok f => (.pure f : Sem Flow) | .error e => .raise e).onRaise (cameBack X.env)).wrap K J gd lv) none (gd false) (lv []) c p [] :: fs) s := by
    intro m
    induction m using Nat.strongRecOn with
    | ind m ih =>
      intro n i ys s₀ s σ H hn w hI st fr
      have ee : ∀ (n : Nat) (s₀ : Shared) (x : Value) (s4 : Shared), X.xe x s4 → Seg (model X.prog X.w) A R (GY X S) n s₀ (.forLoop tg (.ref it) body [] X.env)
          ((do noteFrame x X.env; theTreesLotGoes x : Sem Unit).bind fun _ => .raise x)
          (.ret (fun r => ((match r with | .ok f => (.pure f : Sem Flow) | .error e => .raise e).onRaise (cameBack X.env)).wrap K J gd lv) none (gd false) (lv []) c p [] :: fs) s4 := fun n s₀ x s4 hx => by
        rw [Sem.bind_eq_wrap]
        refine seg_wrap ?_
        rw [(gl _).over]
        refine wpAny_bind (wpAny_mono (hp x s4 hx) (fun _ s5 hcb => wpAny_theTreesLotGoes ?_) fun y s5 hcb => ?_)
        · exact seg_leaf (.error x) (seg_cameBack gc k hcb)
        · exact seg_leaf (.error y) (seg_cameBack gc k hcb)
      show Seg _ A R _ n s₀ _ ((forTurn tg (.ref it) body [] X.env).onRaise (fun x => do noteFrame x X.env; theTreesLotGoes x)) _ s
      unfold forTurn
      rw [Sem.onRaise_eq_wrap]
      refine seg_bind_wrap (wpAny_standAt ?_)
      refine seg_bind_wrap ?_
      rw [(gl _).over]
      obtain ⟨acc3, c3, r3, I3⟩ := hI
      rcases turn i m ys σ H w with ⟨stop, qn⟩ | ⟨go, N, hN, step⟩
      · refine wpAny_onRaise (wpAny_mono (T.done X rfl rfl rfl hc i _ s σ H X.xe I3 (fpok fr) st stop) (fun rr s4 hh => ?_) fun x s4 hx => wpAny_standAt (ee n s₀ x s4 hx))
        obtain ⟨hr, I4⟩ := hh
        subst hr
        refine seg_again rfl ?_
        show Seg _ A R _ n s₀ _ (do return Fin.done (← (execs [] X.env).onRaise (fun x => do noteFrame x X.env; theTreesLotGoes x))) _ s4
        exact seg_leaf (.ok .next) (k.ok n ys s₀ s4 .next hn ⟨σ, H, ⟨acc3, c3, r3, I4⟩, qn⟩)
      · refine wpAny_onRaise (wpAny_mono (T.item X rfl rfl rfl hc i _ s σ H X.xe I3 (fpok fr) st go) (fun rr s4 hh => ?_) fun x s4 hx => wpAny_standAt (ee n s₀ x s4 hx))
        obtain ⟨u, hr, h4⟩ := hh
        subst hr
        refine seg_bind_wrap ?_
        rw [(gl _).over]
        refine wpAny_mono h4 (fun _ s5 hh => ?_) fun x s5 hx => ee n s₀ x s5 hx
        obtain ⟨x, H5, I5, r5, y5, st5, fr5⟩ := hh
        have I6 := I5.pinned (fpok fr5) (T.obj _ _ st5)
        refine seg_bind_wrap ?_
        rw [(gl _).over]
        refine wpAny_mono (hg.run _ s5 σ H5 x u _ I6 r5 (step x H5 y5)) (fun _ s6 hh => ?_) fun x s6 hx => ee n s₀ x s6 hx
        obtain ⟨σ6, H6, I7, q6⟩ := hh
        have gb : GC X S (ip ++ pinsAt fp s5.heap) A (.forLoop tg (.ref it) body [] X.env) (.ret (fun r => ((match r with | .ok f => (.pure f : Sem Flow) | .error e => .raise e).onRaise (cameBack X.env)).wrap K J gd lv) none (gd false) (lv []) c p [] :: fs) id := by
          have q := gl (fun r => ((match r with | .ok f => (.pure f : Sem Flow) | .error e => .raise e).onRaise (cameBack X.env)).wrap K J gd lv)
          refine ⟨q.pn, fun z hz => ?_, q.apart, q.over, q.split, q.guard, q.gd⟩
          rcases List.mem_append.mp hz with y | y
          · exact q.ip z y
          · exact apart z.1 (of_pinsAt y).1
        rw [Sem.bind_eq_wrap', Sem.wrap_wrap]
        refine hb.run A S (ip ++ pinsAt fp s5.heap) R n ys s₀ _ _ _ _ id id s6 σ6 H6 { D with nx := N, ct := N, bk := D.nx } gb hn ⟨fun n2 zs s7 s8 f hn2 hs8 => ?_, fun n2 s7 x s8 hx => ee n2 s7 x s8 hx⟩ ⟨acc3, c3, r3, I7⟩ q6
        have again : ∀ {σ8 : L2.St} {H8 : Hp}, GI X S (ip ++ pinsAt fp s5.heap) zs σ8 H8 s8 → N zs σ8 H8 → Seg (model X.prog X.w) A R (GY X S) n2 s7 (.forLoop tg (.ref it) body [] X.env) ((model X.prog X.w).den (.forLoop tg (.ref it) body [] X.env))
            (.ret (fun r => ((match r with | .ok f => (.pure f : Sem Flow) | .error e => .raise e).onRaise (cameBack X.env)).wrap K J gd lv) none (gd false) (lv []) c p [] :: fs) s8 := by
          intro σ8 H8 G8 n8
          obtain ⟨j, hj, w8⟩ := hN zs σ8 H8 n8
          obtain ⟨acc8, c8, r8, I8⟩ := G8
          have pin8 : ∀ b ∈ fp, ∀ o, s5.heap.get? b = some o → s8.heap.get? b = some o ∧ H8 b = none := fun b hb o e => by
            have q := I8.pin (b, o) (List.mem_append_right _ (List.mem_cons_of_mem _ (List.mem_append_right _ (mem_pinsAt hb e))))
            exact ⟨q.1, q.2.1⟩
          refine ih j hj n2 (i + 1) zs s7 s8 σ8 H8 hn2 w8 ⟨acc8, c8, r8, I8.pins_of fun q hq => I8.pin q (List.mem_append_right _ ?_)⟩ (T.keep _ _ _ st5 fun b hb o e => (pin8 b hb o e).1) fun b hb => ?_
          · rcases List.mem_cons.mp hq with y | y
            · rw [y]
              exact List.mem_cons_self
            · exact List.mem_cons_of_mem _ (List.mem_append_left _ y)
          · obtain ⟨o, e, _⟩ := T.obj _ _ st5 b hb
            exact (pin8 b hb o e).2
        have thin : ∀ {σ8 : L2.St} {H8 : Hp}, GI X S (ip ++ pinsAt fp s5.heap) zs σ8 H8 s8 → GI X S ip zs σ8 H8 s8 := by
          intro σ8 H8 G8
          obtain ⟨acc8, c8, r8, I8⟩ := G8
          refine ⟨acc8, c8, r8, I8.pins_of fun q hq => I8.pin q (List.mem_append_right _ ?_)⟩
          rcases List.mem_cons.mp hq with y | y
          · rw [y]
            exact List.mem_cons_self
          · exact List.mem_cons_of_mem _ (List.mem_append_left _ y)
        cases f with
        | next =>
          obtain ⟨σ8, H8, G8, n8⟩ := hs8
          exact seg_again rfl (again G8 n8)
        | cont =>
          obtain ⟨σ8, H8, G8, n8⟩ := hs8
          exact seg_again rfl (again G8 n8)
        | brk =>
          obtain ⟨σ8, H8, G8, n8⟩ := hs8
          exact seg_leaf (.ok .next) (k.ok n2 zs s7 s8 .next hn2 ⟨σ8, H8, thin G8, n8⟩)
        | ret v =>
          obtain ⟨x8, σ8, H8, G8, r8, n8⟩ := hs8
          exact seg_leaf (.ok (.ret v)) (k.ok n2 zs s7 s8 (.ret v) hn2 ⟨x8, σ8, H8, thin G8, r8, n8⟩)
  exact loop m0 n 0 ys s₀ s2 σ H2 hn w0 ⟨acc, cc, r, I2⟩ st2 fun b hb => (f2 b hb).1
end
end SE
/-! Calls by keywords. -/
namespace SE
open PySem PySem.Spec PyProof.Rows L2 GenW
section
variable {K : PySem.W.Frag} {x qual : Str} {params : Arguments} {body : List Stmt} {scope : Scope} {kws : List (Str × V)} {f : Addr} {fd : FuncData} {ps : List Str}
/-- keyword-only defaults alone; ms: those that lack -/
theorem kb_some (F : FunD K x qual params body scope [] kws f fd) (n : Nat) (ks : List Str) (ms : List (Str × V)) (g : {α : Type} → List α → List α → List α → List α) (hk : kws ≠ []) (hms : ∀ q ∈ ms, q ∈ kws)
    (hrel : ∀ {vs mz zs : List V} {us mv ws : List Value}, Vals vs us → Vals mz mv → Vals zs ws → Vals (g vs mz zs) (g us mv ws))
    (h : ∀ (D : Addr) (doc pm : Value) (an : Option Addr) (cv ct : Value) (us mv ws : List Value), us.length = n → mv.length = ms.length → ws.length = ks.length →
      KwChain D ((ms.map (·.1)).zip mv) (bindArgs (PySem.W.fnOf x qual params body scope .none (.ref D) doc pm an cv ct) ⟨us, ks.zip ws⟩) (ps.zip (g us mv ws))) :
    ∃ mv : List Value, KBn K fd ps n ks (fun us ws => g us mv ws) (fun vs zs => g vs (ms.map (·.2)) zs) := by
  obtain ⟨oc, od, dV, kV, doc, pm, an, cv, ct, osl, rfl, look, hc, hD, hK⟩ := F.ex
  rcases hD with ⟨_, rfl⟩ | ⟨e, _⟩
  · rcases hK with e | ⟨D, rfl, hq⟩
    · exact absurd e hk
    · obtain ⟨mv, hl, rk, hks⟩ := kwd_vals (ms := ms) fun q hm => hq q (hms q hm)
      exact ⟨mv, fun s us ws X l1 l2 => BindsTo.of_looks fun M => KwChain.looks X hks (h D doc pm an cv ct us mv ws l1 hl l2), fun r1 r2 => hrel r1 rk r2⟩
  · exact absurd rfl e
theorem kb_all {st : Stmt} (F : Fun K x qual st f fd) (n : Nat) (ks : List Str) (g : {α : Type} → List α → List α → List α)
    (hrel : ∀ {vs zs : List V} {us ws : List Value}, Vals vs us → Vals zs ws → Vals (g vs zs) (g us ws))
    (h : ∀ (kV doc pm : Value) (an : Option Addr) (cv ct : Value) (us ws : List Value), us.length = n → ws.length = ks.length → bindArgs (PySem.W.fnOf x qual (defArgs st) (defBody st) (defScope st) .none kV doc pm an cv ct) ⟨us, ks.zip ws⟩ = pure (ps.zip (g us ws))) :
    KBn K fd ps n ks (fun us ws => g us ws) (fun vs zs => g vs zs) := by
  obtain ⟨oc, od, kV, doc, pm, an, cv, ct, osl, rfl, look, hc⟩ := F.ex
  exact ⟨fun s us ws X l1 l2 => .of_eq (h kV doc pm an cv ct us ws l1 l2), fun r1 r2 => hrel r1 r2⟩
end
section
variable {X : Cx} {k n : Nat} {f : Addr} {fd : FuncData} {ps ks : List Str} {sp : Sp} {E : XK} {x : Str} {p pos : Pos} {e : Expr} {es : List Expr} {kws : List Keyword} {t tk : TA} {g : List Value → List Value → List Value} {gV : List V → List V → List V}
/-- f(k = v, ..) -/
theorem pe_kw0 (F : FnOk X.prog X.w X.K X.mg X.base CX0 k f fd ps sp) (hr : Room k X.A) (hg : Gl X x) (hm : X.mg x = some (.ref f)) (hk : PySem.W.keepIn X.K (.ref f) = true) (hb : KBn X.K fd ps 0 ks g gV)
    (hkw : PK X kws tk) (hall : (backToKw pos (keywordEach kws X.env)).all (·.1.isSome) = true := by rfl) (hks : (backToKw pos (keywordEach kws X.env)).filterMap (·.1) = ks := by rfl)
    (hdb : (x == ("__debug__" : Str)) = false := by decide) (hpl : ((backTo pos (starEach [] X.env)).any (·.1) || (backToKw pos (keywordEach kws X.env)).any (·.1.isNone)) = false := by rfl) :
    PE X (.Call (.Name x p) [] kws pos) (tCallN 0 ks.length sp gV E0 tNil tk) := by
  constructor
  intro pins s σ H Q I h
  apply wpAny_Call_Name_kw
  apply ld_glob I hg hm _ hdb
  refine PySem.W.callWith_KW0 (h₀ := X.base) I.ok.mod.kin hk hall (thn (hkw.run pos pins s σ H _ I h) fun ws s2 hh => ?_) hpl
  obtain ⟨zs, H2, I2, rz, l1, l2, q2⟩ := hh
  refine ⟨I2.kIn, ?_⟩
  rw [hks]
  exact run_fnN F hr hb pass0 I2 .nil rz l1 l2 q2
/-! ### generators -/
variable {sg : SpG}
theorem run_gkw {pins : List (Addr × Obj)} {σ : L2.St} {H : Hp} {s : Shared} {us ws : List Value} {vs zs : List V} {cont : List V → Hp → Prop} {E1 : Value → Shared → Prop} (F : GFn X.prog X.w X.K X.mg X.base k f fd ps sg) (hr : Room k X.A) (hb : KBn X.K fd ps n ks g gV)
    (I : Inv X pins σ H s) (r : Vals vs us) (rz : Vals zs ws) (l1 : vs.length = n) (l2 : zs.length = ks.length) (h : sg (gV vs zs) H cont E) :
    wpAny (model X.prog X.w) X.A (call (.ref f) us (ks.zip ws)) (fun u s2 => ∃ H1 sc ex, Inv X pins σ H1 sc ∧ ExOk X pins ex ∧ GMade X.prog X.w k X.stack H1 sc ex cont E u s2) E1 s := by
  have r2 := hb.rel r rz
  refine wpAny_call (codeAny_mono (F.run X.A X.stack s H ⟨us, ks.zip ws⟩ (g us ws) (gV vs zs) cont E hr I.env0 (hb.to s us ws I.kIn (r.length.symm.trans l1) (rz.length.symm.trans l2)) r2 h) fun rr s2 hq => ?_)
  cases rr with
  | error _ => exact hq.elim
  | ok fl =>
    cases fl with
    | ret u => exact ⟨H, s, [], I, .nil, hq⟩
    | next => exact hq.elim
    | brk => exact hq.elim
    | cont => exact hq.elim
def tGenN (n m : Nat) (sg : SpG) (gV : List V → List V → List V) (E : XK) (t tk : TA) : TGen := fun σ H cont => t σ H fun vs H1 => tk σ H1 fun zs H2 => vs.length = n ∧ zs.length = m ∧ sg (gV vs zs) H2 cont E
theorem pgen_kw (F : GFn X.prog X.w X.K X.mg X.base k f fd ps sg) (hr : Room k X.A) (hg : Gl X x) (hm : X.mg x = some (.ref f)) (hk : PySem.W.keepIn X.K (.ref f) = true) (hb : KBn X.K fd ps n ks g gV)
    (ha : PA X (e :: es) t) (hkw : PK X kws tk) (hall : (backToKw pos (keywordEach kws X.env)).all (·.1.isSome) = true := by rfl) (hks : (backToKw pos (keywordEach kws X.env)).filterMap (·.1) = ks := by rfl)
    (hdb : (x == ("__debug__" : Str)) = false := by decide) (he : starEach (e :: es) X.env = (false, eval e X.env) :: starEach es X.env := by rfl)
    (hpl : ((backTo pos (starEach (e :: es) X.env)).any (·.1) || (backToKw pos (keywordEach kws X.env)).any (·.1.isNone)) = false := by rfl) :
    PGen X k (.Call (.Name x p) (e :: es) kws pos) (tGenN n ks.length sg gV E t tk) E := by
  constructor
  intro pins s σ H cont I h
  apply wpAny_Call_Name_kw
  apply ld_glob I hg hm _ hdb
  refine PySem.W.callWith_KW (h₀ := X.base) I.ok.mod.kin hk hall (thn (ha.run pos pins s σ H _ I h) fun us s1 hh => ?_) hpl he
  obtain ⟨vs, H1, I1, r, q⟩ := hh
  refine thn (hkw.run pos pins s1 σ H1 _ I1 q) fun ws s2 hh => ?_
  obtain ⟨zs, H2, I2, rz, l1, l2, q2⟩ := hh
  refine ⟨I2.kIn, ?_⟩
  rw [hks]
  exact run_gkw F hr hb I2 r rz l1 l2 q2
theorem pgen_kw0 (F : GFn X.prog X.w X.K X.mg X.base k f fd ps sg) (hr : Room k X.A) (hg : Gl X x) (hm : X.mg x = some (.ref f)) (hk : PySem.W.keepIn X.K (.ref f) = true) (hb : KBn X.K fd ps 0 ks g gV)
    (hkw : PK X kws tk) (hall : (backToKw pos (keywordEach kws X.env)).all (·.1.isSome) = true := by rfl) (hks : (backToKw pos (keywordEach kws X.env)).filterMap (·.1) = ks := by rfl)
    (hdb : (x == ("__debug__" : Str)) = false := by decide) (hpl : ((backTo pos (starEach [] X.env)).any (·.1) || (backToKw pos (keywordEach kws X.env)).any (·.1.isNone)) = false := by rfl) :
    PGen X k (.Call (.Name x p) [] kws pos) (tGenN 0 ks.length sg gV E tNil tk) E := by
  constructor
  intro pins s σ H cont I h
  apply wpAny_Call_Name_kw
  apply ld_glob I hg hm _ hdb
  refine PySem.W.callWith_KW0 (h₀ := X.base) I.ok.mod.kin hk hall (thn (hkw.run pos pins s σ H _ I h) fun ws s2 hh => ?_) hpl
  obtain ⟨zs, H2, I2, rz, l1, l2, q2⟩ := hh
  refine ⟨I2.kIn, ?_⟩
  rw [hks]
  exact run_gkw F hr hb I2 .nil rz l1 l2 q2
/-- nothing is raised by a generator that raises nothing -/
theorem pass_gen : Passes (CX X.prog X.w) X E0 := by
  intro pins σ H s e s2 I h
  obtain ⟨a, B, H2, cls, d, _, _, _, _, _, _, _, q⟩ := h
  exact q.elim
theorem nostop0 {K : PySem.W.Frag} : NoStop K E0 := fun _ _ _ h => h.elim
end
end SE
namespace SE
open PySem PySem.Spec PyProof.Rows L2
/-! ### rules: a class held by a local name, called; a classmethod called with nothing -/
section
variable {X : Cx} {CX : CXT} {k i : Nat} {f C p g : Addr} {mc : Value} {fd : FuncData} {ps : List Str} {sp : Sp} {dvs : List V} {ds : List Value} {E : XK} {x m : Str} {pn pos apos : Pos} {o e : Expr} {es : List Expr} {ta : TE} {t : TA} {pl : Sem Bool}
def tMakeL (i : Nat) (C : Addr) (sp : Sp) (dvs : List V) (E : XK) (t : TA) : TE := fun σ H Q => σ[i]? = some (some (.ref C)) ∧ tMake C sp dvs E t σ H Q
theorem pe_makeL (M : Mk X.K C f) (F : FnOk X.prog X.w X.K X.mg X.base CX k f fd ps sp) (hr : Room (k + 1) X.A) (hN : X.N[i]? = some x) (hv : Vis X.env.scope x) (hb : Binds X.K fd ps ds) (hd : Vals dvs ds) (hx : Passes CX X E)
    (ha : PA X (e :: es) t) (hdb : (x == ("__debug__" : Str)) = false := by decide) (hcd : (x == ("__classdict__" : Str)) = false := by decide)
    (he : starEach (e :: es) X.env = (false, eval e X.env) :: starEach es X.env := by rfl) (hpl : (backTo pos (starEach es X.env)).any (·.1) = false := by rfl) :
    PE X (.Call (.Name x pn) (e :: es) [] pos) (tMakeL i C sp dvs E t) := by
  constructor
  intro pins s σ H Q I h
  obtain ⟨hs, ht⟩ := h
  refine wpAny_Call_Name_kw (thn ((pe_var (pos := pn) hN hv hdb hcd).run pins s σ H (fun v H1 => v = .ref C ∧ H1 = H) I ⟨.ref C, hs, rfl, rfl⟩) fun u s1 hh => ?_)
  obtain ⟨v, H1, I1, r1, rfl, rfl⟩ := hh
  cases r1
  refine PySem.W.callWith_K (h₀ := X.base) I.ok.mod.kin M.kp (thn (ha.run pos pins s1 σ _ _ I1 ht) fun us s2 hh => ?_) he hpl
  obtain ⟨vs, H2, I2, r, q⟩ := hh
  exact ⟨I2.kIn, run_make M F hr hb hd hx I2 r q⟩
/-- C.m() -/
def tCMeth0 (C : Addr) (sp : Sp) (E : XK) (ta : TE) : TE := fun σ H Q => ta σ H fun x H1 => x = .ref C ∧ sp [.ref C] H1 Q E
theorem pe_cmeth0 (he : PE X o ta) (r : ClX.CRead X.K C mc) (c : ClX.CMet X.K C mc m p g) (F : FnR X.prog X.w X.K X.mg X.base CX k g sp) (hr : Room k X.A) (hx : Passes CX X E)
    (ht : eval (.Call (.Attribute o m apos) [] [] pos) X.env = (do
      let v ← eval o X.env
      standAt apos.atName
      let (f, first) ← holding [v] (getMethod v m pl)
      callWith pos f first (backTo pos (starEach [] X.env)) (backToKw pos (keywordEach [] X.env))) := by rfl) :
    PE X (.Call (.Attribute o m apos) [] [] pos) (tCMeth0 C sp E ta) := by
  constructor
  intro pins s σ H Q I h
  refine PySem.W.methodCall_KW (pl := pl) (thn (he.run pins s σ H _ I h) fun u s1 hh => ?_) ht
  obtain ⟨v, H1, I1, rx, ex, q⟩ := hh
  subst ex
  obtain rfl : u = Value.ref C := rx
  refine ClX.getmethcm_ok I1 r c fun s2 I2 => ?_
  exact PySem.W.callWith_M0 ⟨ClX.pin_at I2, I2.kIn⟩ c.fi (ClX.run_cm (us := []) (vs := []) F hr hx I2 .nil q)
end
end SE
namespace SE
open PySem PySem.Spec PyProof.Rows L2
/-! ### the class Effect -/
abbrev sInit : Stmt := inClass sEffect 0
abbrev sNever : Stmt := inClass sEffect 2
abbrev sPops : Stmt := inClass sEffect 4
abbrev sPushes : Stmt := inClass sEffect 5
abbrev sPeak : Stmt := inClass sEffect 6
abbrev sChange : Stmt := inClass sEffect 7
abbrev sIsNever : Stmt := inClass sEffect 8
def eF (a b c : V) : List (Str × V) := [("needs", a), ("leaves", b), ("highest", c)]
theorem eF_new (a b c : V) : putF "highest" c (putF "leaves" b (putF "needs" a [])) = eF a b c := by
  have h1 : ¬ (("needs" : Str) = "leaves") := by decide +kernel
  have h2 : ¬ (("needs" : Str) = "highest") := by decide +kernel
  have h3 : ¬ (("leaves" : Str) = "highest") := by decide +kernel
  simp only [putF, h1, h2, h3, if_false]
  rfl
theorem eF_two (a b : V) : (putF "leaves" b (putF "needs" a [])).length < 1000 := by
  have h1 : ¬ (("needs" : Str) = "leaves") := by decide +kernel
  simp only [putF, h1, if_false]
  show 2 < 1000
  decide
theorem eF_n (x a b c : V) : putF "needs" x (eF a b c) = eF x b c := by
  unfold eF
  simp only [putF, if_true]
theorem eF_l (x a b c : V) : putF "leaves" x (eF a b c) = eF a x c := by
  have h1 : ¬ (("needs" : Str) = "leaves") := by decide +kernel
  unfold eF
  simp only [putF, h1, if_false, if_true]
theorem eF_h (x a b c : V) : putF "highest" x (eF a b c) = eF a b x := by
  have h2 : ¬ (("needs" : Str) = "highest") := by decide +kernel
  have h3 : ¬ (("leaves" : Str) = "highest") := by decide +kernel
  unfold eF
  simp only [putF, h2, h3, if_false, if_true]
theorem eF_needs (a b c : V) : (eF a b c).lookup ("needs" : Str) = some a := by
  rw [← eF_new, lookup_putF, if_neg (by decide +kernel), lookup_putF, if_neg (by decide +kernel), lookup_putF, if_pos rfl]
theorem eF_leaves (a b c : V) : (eF a b c).lookup ("leaves" : Str) = some b := by
  rw [← eF_new, lookup_putF, if_neg (by decide +kernel), lookup_putF, if_pos rfl]
theorem eF_high (a b c : V) : (eF a b c).lookup ("highest" : Str) = some c := by
  rw [← eF_new, lookup_putF, if_pos rfl]
/-- an effect that is not never -/
structure EffAt (K : PySem.W.Frag) (C : Addr) (H : Hp) (e : Addr) (xs ys : List Str) (p : Int) : Prop where
  ex : ∃ dx u v, H e = some (.ins C dx (eF (.ref u) (.ref v) (.int p))) ∧ SqT K H u (xs.map V.str) ∧ SqT K H v (ys.map V.str)
theorem EffAt.same {K : PySem.W.Frag} {C : Addr} {H H' : Hp} {e : Addr} {xs ys : List Str} {p : Int} (h : EffAt K C H e xs ys p) (s : Same H H') : EffAt K C H' e xs ys p := by
  obtain ⟨dx, u, v, h1, h2, h3⟩ := h.ex
  exact ⟨dx, u, v, s _ _ h1, Same.tup s h2, Same.tup s h3⟩
structure NevAt (C : Addr) (H : Hp) (e : Addr) : Prop where
  ex : ∃ dx, H e = some (.ins C dx (eF .non .non .non))
theorem NevAt.same {C : Addr} {H H' : Hp} {e : Addr} (h : NevAt C H e) (s : Same H H') : NevAt C H' e := by
  obtain ⟨dx, h1⟩ := h.ex
  exact ⟨dx, s _ _ h1⟩
/-- the least peak -/
def lp (xs ys : List Str) : Int := if (ys.length : Int) - (xs.length : Int) > 0 then (ys.length : Int) - (xs.length : Int) else 0
def pkV : Option Int → V
  | none => .non
  | some p => .int p
structure EC (K : PySem.W.Frag) (mg : Str → Option Value) (C : Addr) : Prop where
  cl : Cls K C
  nN : NoAttr K C "needs"
  nL : NoAttr K C "leaves"
  nH : NoAttr K C "highest"
  mgE : mg "Effect" = some (.ref C)
section
variable {P : Program} {w : World} {K : PySem.W.Frag} {mg : Str → Option Value} {base : Heap} {C : Addr}
def spLeast (K : PySem.W.Frag) : Sp := fun vs H Q _ => ∃ (a b : Addr) (xs ys : List Str), vs = [.ref a, .ref b] ∧ SqT K H a (xs.map V.str) ∧ SqT K H b (ys.map V.str) ∧ Q (.int (lp xs ys)) H
theorem scLe : FnScope ["pops", "pushes"] ["pops", "pushes"] (defScope sLeastPeak) := ⟨rfl, rfl, rfl, by decide +kernel, rfl, by decide +kernel, by decide +kernel⟩
theorem has_least (D : Def K mg "least_peak" sLeastPeak) (B : Blt mg) (mx : mg "max" = none) : Has P w K mg base "least_peak" 1 ["pops", "pushes"] [] (spLeast K) := by
  refine has_of D scLe (fun _ _ _ _ _ _ us hl => match us, hl with | [_, _], _ => rfl) (fun xs H Q E h => ?_) (fun f cv A out s H xs Q E hr h => ?_)
  · obtain ⟨a, b, xs, ys, rfl, _⟩ := h
    rfl
  · obtain ⟨a, b, xs, ys, rfl, ha, hb, k⟩ := h
    refine ⟨_, pss_one (ps_ret (pe_callB (call_max2 rfl) (by rfl) mx (by decide +kernel) (pa_cons pe_int (pa_cons (pe_op op_sub (pe_callB call_len_seq (by rfl) B.len PySem.boot_len (pa_cons (pv 1) pa_nil)) (pe_callB call_len_seq (by rfl) B.len PySem.boot_len (pa_cons (pv 0) pa_nil))) pa_nil)))), ?_⟩
    refine ⟨_, rfl, b, _, rfl, .inr hb, _, rfl, a, _, rfl, .inr ha, _, _, rfl, rfl, 0, _, rfl, ?_⟩
    rw [List.length_map, List.length_map]
    exact k
def spInit (K : PySem.W.Frag) (C : Addr) : Sp := fun vs H Q _ => ∃ (x dx a b : Addr) (xs ys : List Str) (pk : Option Int), vs = [.ref x, .ref a, .ref b, pkV pk] ∧ H x = some (.ins C dx []) ∧ SqT K H a (xs.map V.str) ∧ SqT K H b (ys.map V.str) ∧
  xs.length ≤ 5000 ∧ ys.length ≤ 5000 ∧ (∀ z ∈ xs, Item z) ∧ (∀ z ∈ ys, Item z) ∧ (∀ p, pk = some p → lp xs ys ≤ p) ∧
  ∀ H', (∀ b o, H b = some o → b ≠ x → H' b = some o) → H' x = some (.ins C dx (eF (.ref a) (.ref b) (.int (pk.getD (lp xs ys))))) → Q .non H'
abbrev pInit : List Str := ["self", "pops", "pushes", "peak"]
theorem scIn : FnScope ["self", "pops", "pushes", "peak", "least"] pInit (defScope sInit) := ⟨rfl, rfl, rfl, by decide +kernel, rfl, by decide +kernel, by decide +kernel⟩
theorem ok_init {f : Addr} {fd : FuncData} (F : Fun K "__init__" "Effect.__init__" sInit f fd) (T : EC K mg C) (GW : Has P w K mg base "check_word" 3 ["word"] [] (spChkWord K)) (GL : Has P w K mg base "least_peak" 1 ["pops", "pushes"] [] (spLeast K)) (GH : Has P w K mg base "is_whole" 1 ["value"] [] spWhole) :
    FnOk P w K mg base CX0 4 f fd pInit (spInit K C) := by
  refine F.ok scIn (fun vs H Q E h => ?_) (fun cdv A outer s H vs Q E hr h => ?_)
  · obtain ⟨x, dx, a, b, xs, ys, pk, rfl, _⟩ := h
    rfl
  · obtain ⟨x, dx, a, b, xs, ys, pk, rfl, hx, ha, hb, l1, l2, i1, i2, hp, k⟩ := h
    have hr1 : Room 1 _ := hr.mono (by decide)
    refine ⟨_, pss_cons (ps_expr (pe_has GW hr (pa_cons (pv 1) pa_nil))) (pss_cons (ps_expr (pe_has GW hr (pa_cons (pv 2) pa_nil)))
      (pss_cons (ps_set (i := 4) scIn.nd rfl (.inl rfl) (pe_has GL hr1 (pa_cons (pv 1) (pa_cons (pv 2) pa_nil))))
      (pss_cons (ps_if (pt_cut (PW.pt (pw_and (pt_cmpR op_notN (pv 3) pe_non (nomark _)) (pw_and1 (PW.pt (pw_or (pt_not (pt_val (pe_has GH hr1 (pa_cons (pv 3) pa_nil)))) (pw_or1 (pt_cmpR op_lt (pv 3) (pv 4) (nomark _))))))))) pss_never pss_nil)
      (pss_cons (ps_fld (pv 0) (pv 1) rfl) (pss_cons (ps_fld (pv 0) (pv 2) rfl)
      (pss_one (ps_fld (pv 0) (pe_ifExp (pt_cmpR op_isN (pv 3) pe_non (nomark _)) (pv 4) (pv 3)) rfl))))))), ?_⟩
    refine ⟨_, rfl, a, xs, rfl, ha, l1, i1, fun H1 s1 => ⟨_, rfl, b, ys, rfl, Same.tup s1 hb, l2, i2, fun H2 s2 => ?_⟩⟩
    have s12 := s1.trans s2
    refine ⟨_, rfl, _, rfl, a, b, xs, ys, rfl, Same.tup s12 ha, Same.tup s12 hb, ?_⟩
    refine ⟨fun c H3 => c = false ∧ H3 = H2, ?_, ?_⟩
    · cases pk with
      | none => exact ⟨_, rfl, rfl, false, rfl, iteF ⟨rfl, rfl⟩⟩
      | some p =>
        have hq := hp p rfl
        refine ⟨_, rfl, rfl, true, rfl, iteT ⟨_, rfl, p, rfl, true, rfl, iteF ⟨_, rfl, _, rfl, p, lp xs ys, rfl, rfl, _, rfl, ?_, rfl⟩⟩⟩
        exact decide_eq_false (by omega)
    rintro c H3 ⟨rfl, rfl⟩
    refine iteF ?_
    have hx3 := s12 _ _ hx
    have fin : ∀ z : V, z = .int (pk.getD (lp xs ys)) → Q .non (upd (upd (upd H3 x (.ins C dx (putF "needs" (.ref a) []))) x (.ins C dx (putF "leaves" (.ref b) (putF "needs" (.ref a) [])))) x (.ins C dx (putF "highest" z (putF "leaves" (.ref b) (putF "needs" (.ref a) []))))) := by
      intro z ez
      refine k _ (fun c o e ne => ?_) ?_
      · rw [upd_ne ne, upd_ne ne, upd_ne ne]
        exact s12 _ _ e
      · rw [upd_same, eF_new, ez]
    refine ⟨_, rfl, _, rfl, x, C, dx, [], rfl, hx3, T.cl, T.nN, (by show 0 < 1000; decide), _, rfl, _, rfl, x, C, dx, _, rfl, upd_same, T.cl, T.nL, (by show 1 < 1000; decide), ?_⟩
    cases pk with
    | none => exact ⟨_, rfl, rfl, true, rfl, iteT ⟨_, rfl, _, rfl, x, C, dx, _, rfl, upd_same, T.cl, T.nH, eF_two _ _, fin _ rfl⟩⟩
    | some p => exact ⟨_, rfl, rfl, false, rfl, iteF ⟨_, rfl, _, rfl, x, C, dx, _, rfl, upd_same, T.cl, T.nH, eF_two _ _, fin _ rfl⟩⟩
end
end SE
namespace SE
open PySem PySem.Spec PyProof.Rows L2
/-- a property of the class C with its promise -/
def PropHas (P : Program) (w : World) (K : PySem.W.Frag) (mg : Str → Option Value) (base : Heap) (C : Addr) (f : Str) (k : Nat) (sp : Sp) : Prop := ∃ p g fd, PropOf K C f p g ∧ FnOk P w K mg base CX0 k g fd ["self"] sp ∧ Binds K fd ["self"] []
theorem pe_propH {X : Cx} {C : Addr} {f : Str} {k : Nat} {sp : Sp} {e : Expr} {ta : TE} {pos : Pos} (h : PropHas X.prog X.w X.K X.mg X.base C f k sp) (he : PE X e ta) (c : Cls X.K C) (hr : Room (k + 1) X.A)
    (hab : attributeBase e f X.env (eval e X.env) = eval e X.env := by rfl) : PE X (.Attribute e f pos) (tProp C sp [] E0 ta) := by
  obtain ⟨p, g, fd, hp, F, hb⟩ := h
  exact pe_prop he c hp F hr hb .nil pass0 hab
section
variable {P : Program} {w : World} {K : PySem.W.Frag} {mg : Str → Option Value} {base : Heap} {C : Addr}
/-! ### properties -/
/-- of an effect that is not never: its parts -/
def spPops (K : PySem.W.Frag) (C : Addr) : Sp := fun vs H Q _ => ∃ (e : Addr) (xs ys : List Str) (p : Int), vs = [.ref e] ∧ EffAt K C H e xs ys p ∧ ∀ u, SqT K H u (xs.map V.str) → Q (.ref u) H
def spPush (K : PySem.W.Frag) (C : Addr) : Sp := fun vs H Q _ => ∃ (e : Addr) (xs ys : List Str) (p : Int), vs = [.ref e] ∧ EffAt K C H e xs ys p ∧ ∀ u, SqT K H u (ys.map V.str) → Q (.ref u) H
def spIsNev (K : PySem.W.Frag) (C : Addr) : Sp := fun vs H Q _ => ∃ (e : Addr), vs = [.ref e] ∧ ((∃ xs ys p, EffAt K C H e xs ys p ∧ Q (.bl false) H) ∨ (NevAt C H e ∧ Q (.bl true) H))
theorem scPo : FnScope ["self"] ["self"] (defScope sPops) := ⟨rfl, rfl, rfl, by decide +kernel, rfl, by decide +kernel, by decide +kernel⟩
theorem scPu : FnScope ["self"] ["self"] (defScope sPushes) := ⟨rfl, rfl, rfl, by decide +kernel, rfl, by decide +kernel, by decide +kernel⟩
theorem scNv : FnScope ["self"] ["self"] (defScope sIsNever) := ⟨rfl, rfl, rfl, by decide +kernel, rfl, by decide +kernel, by decide +kernel⟩
theorem ok_pops {f : Addr} {fd : FuncData} (F : Fun K "pops" "Effect.pops" sPops f fd) (T : EC K mg C) : FnOk P w K mg base CX0 1 f fd ["self"] (spPops K C) := by
  refine F.ok scPo (fun vs H Q E h => ?_) (fun cdv A outer s H vs Q E hr h => ?_)
  · obtain ⟨e, xs, ys, p, rfl, _⟩ := h
    rfl
  · obtain ⟨e, xs, ys, p, rfl, h, k⟩ := h
    obtain ⟨dx, u, v, h1, h2, h3⟩ := h.ex
    exact ⟨_, pss_one (ps_ret (pe_fld (pv 0) rfl)), _, rfl, e, C, dx, _, _, rfl, h1, T.cl, T.nN, eF_needs _ _ _, k u h2⟩
theorem ok_push {f : Addr} {fd : FuncData} (F : Fun K "pushes" "Effect.pushes" sPushes f fd) (T : EC K mg C) : FnOk P w K mg base CX0 1 f fd ["self"] (spPush K C) := by
  refine F.ok scPu (fun vs H Q E h => ?_) (fun cdv A outer s H vs Q E hr h => ?_)
  · obtain ⟨e, xs, ys, p, rfl, _⟩ := h
    rfl
  · obtain ⟨e, xs, ys, p, rfl, h, k⟩ := h
    obtain ⟨dx, u, v, h1, h2, h3⟩ := h.ex
    exact ⟨_, pss_one (ps_ret (pe_fld (pv 0) rfl)), _, rfl, e, C, dx, _, _, rfl, h1, T.cl, T.nL, eF_leaves _ _ _, k v h3⟩
theorem ok_isNev {f : Addr} {fd : FuncData} (F : Fun K "is_never" "Effect.is_never" sIsNever f fd) (T : EC K mg C) : FnOk P w K mg base CX0 1 f fd ["self"] (spIsNev K C) := by
  refine F.ok scNv (fun vs H Q E h => ?_) (fun cdv A outer s H vs Q E hr h => ?_)
  · obtain ⟨e, rfl, _⟩ := h
    rfl
  · obtain ⟨e, rfl, h⟩ := h
    refine ⟨_, pss_one (ps_ret (pe_cmpR op_isN (pe_fld (pv 0) rfl) pe_non (nomark _))), ?_⟩
    rcases h with ⟨xs, ys, p, h, k⟩ | ⟨h, k⟩
    · obtain ⟨dx, u, v, h1, h2, h3⟩ := h.ex
      exact ⟨_, rfl, e, C, dx, _, _, rfl, h1, T.cl, T.nN, eF_needs _ _ _, rfl, k⟩
    · obtain ⟨dx, h1⟩ := h.ex
      exact ⟨_, rfl, e, C, dx, _, _, rfl, h1, T.cl, T.nN, eF_needs _ _ _, rfl, k⟩
/-! ### Effect(a, b), Effect.never() -/
/-- the class can be called -/
def Makes (P : Program) (w : World) (K : PySem.W.Frag) (mg : Str → Option Value) (base : Heap) (C : Addr) : Prop := ∃ f fd, Mk K C f ∧ FnOk P w K mg base CX0 4 f fd pInit (spInit K C) ∧ FunD K "__init__" "Effect.__init__" (defArgs sInit) (defBody sInit) (defScope sInit) [] [("peak", .non)] f fd
theorem Makes.two (h : Makes P w K mg base C) : ∃ f fd ds, Mk K C f ∧ FnOk P w K mg base CX0 4 f fd pInit (spInit K C) ∧ Vals [V.non] ds ∧ Binds K fd pInit ds := by
  obtain ⟨f, fd, M, F, FD⟩ := h
  obtain ⟨ds, hd, hb⟩ := FD.binds0 (ps := pInit) 3 (by simp) rfl (fun D doc pm an cv ct us ks h1 h2 => match us, ks, h1, h2 with | [_, _, _], [_], _, _ => ⟨_, _, _, _, _, _, rfl, rfl, rfl⟩)
  exact ⟨f, fd, ds, M, F, hd, hb⟩
/-- what Effect(a, b) asks -/
def tEff2 (K : PySem.W.Frag) (C : Addr) (t : TA) : TE := fun σ H Q => t σ H fun vs H1 => ∃ (a b : Addr) (xs ys : List Str), vs = [.ref a, .ref b] ∧ SqT K H1 a (xs.map V.str) ∧ SqT K H1 b (ys.map V.str) ∧ xs.length ≤ 5000 ∧ ys.length ≤ 5000 ∧ (∀ z ∈ xs, Item z) ∧ (∀ z ∈ ys, Item z) ∧
  ∀ (e : Addr) (H' : Hp), Same H1 H' → H1 e = none → EffAt K C H' e xs ys (lp xs ys) → Q (.ref e) H'
theorem make_imp {vs : List V} {H1 : Hp} {Q : VK} (h : ∃ (a b : Addr) (xs ys : List Str), vs = [.ref a, .ref b] ∧ SqT K H1 a (xs.map V.str) ∧ SqT K H1 b (ys.map V.str) ∧ xs.length ≤ 5000 ∧ ys.length ≤ 5000 ∧ (∀ z ∈ xs, Item z) ∧ (∀ z ∈ ys, Item z) ∧
    ∀ (e : Addr) (H' : Hp), Same H1 H' → H1 e = none → EffAt K C H' e xs ys (lp xs ys) → Q (.ref e) H') : ∀ x dx, H1 x = none → H1 dx = none → dx ≠ x →
    spInit K C (.ref x :: (vs ++ [V.non])) (upd (upd H1 dx (.own x)) x (.ins C dx [])) (fun v H2 => v = .non ∧ Q (.ref x) H2) E0 := by
  intro x dx nx nd ne
  obtain ⟨a, b, xs, ys, rfl, ha, hb, l1, l2, i1, i2, k⟩ := h
  have s0 : Same H1 (upd (upd H1 dx (.own x)) x (.ins C dx [])) := Same.made nx nd fun b o e _ => e
  refine ⟨x, dx, a, b, xs, ys, none, rfl, upd_same, Same.tup s0 ha, Same.tup s0 hb, l1, l2, i1, i2, fun p z => (by cases z), fun H' kp hx => ⟨rfl, ?_⟩⟩
  have s1 : Same H1 H' := fun c o e => kp c o (s0 c o e) (ne_of_none e nx)
  exact k x H' s1 nx ⟨dx, a, b, hx, Same.tup s1 ha, Same.tup s1 hb⟩
theorem pe_eff2 {X : Cx} {p pos : Pos} {e1 e2 : Expr} {t : TA} (M : Makes X.prog X.w X.K X.mg X.base C) (mgE : X.mg "Effect" = some (.ref C)) (hr : Room 5 X.A) (ha : PA X [e1, e2] t) (hg : Gl X "Effect" := by rfl)
    (he : starEach [e1, e2] X.env = (false, eval e1 X.env) :: starEach [e2] X.env := by rfl) (hpl : (backTo pos (starEach [e2] X.env)).any (·.1) = false := by rfl) :
    PE X (.Call (.Name "Effect" p) [e1, e2] [] pos) (tEff2 X.K C t) := by
  obtain ⟨f, fd, ds, Mk1, F, hd, hb⟩ := M.two
  constructor
  intro pins s σ H Q I h
  refine wpAny_Call_Name_kw (ld_glob I hg mgE ?_ (by decide))
  refine PySem.W.callWith_K (h₀ := X.base) I.ok.mod.kin Mk1.kp (thn (ha.run pos pins s σ H _ I h) fun us s1 hh => ?_) he hpl
  obtain ⟨vs, H1, I1, r, q⟩ := hh
  exact ⟨I1.kIn, run_make Mk1 F hr hb hd pass0 I1 r (make_imp q)⟩
/-! ### Effect.never() -/
def spNever (C : Addr) : Sp := fun vs H Q _ => vs = [.ref C] ∧ ∀ (e : Addr) (H' : Hp), Same H H' → NevAt C H' e → Q (.ref e) H'
theorem scNe : FnScope ["cls", "effect"] ["cls"] (defScope sNever) := ⟨rfl, rfl, rfl, by decide +kernel, rfl, by decide +kernel, by decide +kernel⟩
theorem ok_never {g : Addr} {gd : FuncData} (F : Fun K "never" "Effect.never" sNever g gd) (T : EC K mg C) (M : Makes P w K mg base C) : FnOk P w K mg base CX0 6 g gd ["cls"] (spNever C) := by
  obtain ⟨f, fd, ds, Mk1, FI, hd, hb⟩ := M.two
  refine F.ok scNe (fun vs H Q E h => ?_) (fun cdv A outer s H vs Q E hr h => ?_)
  · obtain ⟨rfl, _⟩ := h
    rfl
  · obtain ⟨rfl, k⟩ := h
    refine ⟨_, pss_cons (ps_set (i := 1) scNe.nd rfl (.inl rfl) (pe_makeL (i := 0) Mk1 FI hr rfl (.inl rfl) hb hd pass0 (pa_cons (pe_tup pa_nil) (pa_cons (pe_tup pa_nil) pa_nil))))
      (pss_cons (ps_fld (pv 1) pe_non rfl) (pss_cons (ps_fld (pv 1) pe_non rfl) (pss_cons (ps_fld (pv 1) pe_non rfl) (pss_one (ps_ret (pv 1)))))), ?_⟩
    refine ⟨rfl, Nat.zero_le _, fun t1 h1 => ⟨Nat.zero_le _, fun t2 h2 => ?_⟩⟩
    have n2 : t1 ≠ t2 := ne_of_none upd_same h2
    have s2 : Same H (upd (upd H t1 (.tup [])) t2 (.tup [])) := Same.free2 (Same.new h1) ((Same.new h1).free h2)
    intro y dy ny nd nyd
    have s3 : Same (upd (upd H t1 (.tup [])) t2 (.tup [])) (upd (upd (upd (upd H t1 (.tup [])) t2 (.tup [])) dy (.own y)) y (.ins C dy [])) := Same.made ny nd fun b o z _ => z
    refine ⟨y, dy, t1, t2, [], [], none, rfl, upd_same, Same.tup s3 (.of (by rw [upd_ne n2]; exact upd_same)), Same.tup s3 (.of upd_same), Nat.zero_le _, Nat.zero_le _, fun z m => (by cases m), fun z m => (by cases m), fun p z => (by cases z), fun H' kp e1 => ⟨rfl, ?_⟩⟩
    have s4 : Same H H' := fun c o z => kp c o (s3 _ _ (s2 c o z)) (ne_of_none z (s2.free ny))
    have hne : H y = none := s2.free ny
    refine ⟨_, rfl, y, C, dy, _, rfl, e1, T.cl, T.nN, (by show 3 < 1000; decide), _, rfl, y, C, dy, _, rfl, upd_same, T.cl, T.nL, (by rw [eF_n]; show 3 < 1000; decide), _, rfl, y, C, dy, _, rfl, upd_same, T.cl, T.nH, (by rw [eF_n, eF_l]; show 3 < 1000; decide), _, rfl, ?_⟩
    refine k y _ ?_ ⟨dy, ?_⟩
    · exact Same.free2 (Same.free2 (Same.free2 s4 hne) hne) hne
    · rw [upd_same, eF_n, eF_l, eF_h]
/-- the classmethod -/
def NeverHas (P : Program) (w : World) (K : PySem.W.Frag) (mg : Str → Option Value) (base : Heap) (C : Addr) : Prop := ∃ mc p g, ClX.CRead K C mc ∧ ClX.CMet K C mc "never" p g ∧ FnR P w K mg base CX0 6 g (spNever C)
theorem pe_never0 {X : Cx} {p apos pos : Pos} {pl : Sem Bool} (h : NeverHas X.prog X.w X.K X.mg X.base C) (mgE : X.mg "Effect" = some (.ref C)) (hr : Room 6 X.A) (hg : Gl X "Effect" := by rfl)
    (ht : eval (.Call (.Attribute (.Name "Effect" p) "never" apos) [] [] pos) X.env = (do
      let v ← eval (.Name "Effect" p) X.env
      standAt apos.atName
      let (f, first) ← holding [v] (getMethod v "never" pl)
      callWith pos f first (backTo pos (starEach [] X.env)) (backToKw pos (keywordEach [] X.env))) := by rfl) :
    PE X (.Call (.Attribute (.Name "Effect" p) "never" apos) [] [] pos) (tCMeth0 C (spNever C) E0 (tC (.ref C))) := by
  obtain ⟨mc, q, g, r, c, F⟩ := h
  exact pe_cmeth0 (pl := pl) (pe_glob hg mgE rfl) r c F hr pass0 ht
end
end SE
namespace SE
open PySem PySem.Spec PyProof.Rows L2
section
variable {P : Program} {w : World} {K : PySem.W.Frag} {mg : Str → Option Value} {base : Heap} {C : Addr}
/-! ### Effect(a, b, peak = c) -/
def tEffK (K : PySem.W.Frag) (C : Addr) (t : TA) (tk : TE) : TE := fun σ H Q => t σ H fun vs H1 => tCons tk tNil σ H1 fun zs H2 => ∃ (a b : Addr) (xs ys : List Str) (pk : Option Int), vs = [.ref a, .ref b] ∧ zs = [pkV pk] ∧ SqT K H2 a (xs.map V.str) ∧ SqT K H2 b (ys.map V.str) ∧ xs.length ≤ 5000 ∧ ys.length ≤ 5000 ∧
  (∀ z ∈ xs, Item z) ∧ (∀ z ∈ ys, Item z) ∧ (∀ p, pk = some p → lp xs ys ≤ p) ∧ ∀ (e : Addr) (H' : Hp), Same H2 H' → H2 e = none → EffAt K C H' e xs ys (pk.getD (lp xs ys)) → Q (.ref e) H'
theorem pe_effK {X : Cx} {p pos q1 : Pos} {e1 e2 c : Expr} {t : TA} {tk : TE} (M : Makes X.prog X.w X.K X.mg X.base C) (mgE : X.mg "Effect" = some (.ref C)) (hr : Room 5 X.A) (ha : PA X [e1, e2] t) (hc : PE X c tk) (hg : Gl X "Effect" := by rfl)
    (he : starEach [e1, e2] X.env = (false, eval e1 X.env) :: starEach [e2] X.env := by rfl) (hpl : ((backTo pos (starEach [e1, e2] X.env)).any (·.1) || (backToKw pos (keywordEach [⟨some "peak", c, q1⟩] X.env)).any (·.1.isNone)) = false := by rfl) :
    PE X (.Call (.Name "Effect" p) [e1, e2] [⟨some "peak", c, q1⟩] pos) (tEffK X.K C t tk) := by
  obtain ⟨f, fd, Mk1, F, FD⟩ := M
  obtain ⟨mv, kb⟩ := kb_some (ps := pInit) FD 3 ["peak"] [] (fun us _ ws => us ++ ws) (by simp) (fun q h => (by cases h)) (fun r1 _ r3 => r1.append r3) (fun D doc pm an cv ct us mv ws h1 h2 h3 => match us, mv, ws, h1, h2, h3 with | [_, _, _], [], [_], _, _, _ => rfl)
  constructor
  intro pins s σ H Q I h
  refine wpAny_Call_Name_kw (ld_glob I hg mgE ?_ (by decide))
  refine PySem.W.callWith_KW (h₀ := X.base) I.ok.mod.kin Mk1.kp rfl (thn (ha.run pos pins s σ H _ I h) fun us s1 hh => ?_) hpl he
  obtain ⟨vs, H1, I1, r, q⟩ := hh
  refine thn ((pk_cons (nm := some "peak") (kpos := q1) hc pk_nil).run pos pins s1 σ H1 _ I1 q) fun ws s2 hh => ?_
  obtain ⟨zs, H2, I2, rz, a, b, xs, ys, pk, rfl, rfl, ha2, hb2, l1, l2, i1, i2, hp, k⟩ := hh
  refine ⟨I2.kIn, ?_⟩
  refine run_makeK (ks := ["peak"]) (n := 2) Mk1 F hr kb pass0 I2 r rz rfl rfl ?_
  intro x dx nx nd ne
  have s0 : Same H2 (upd (upd H2 dx (.own x)) x (.ins C dx [])) := Same.made nx nd fun b o e _ => e
  refine ⟨x, dx, a, b, xs, ys, pk, rfl, upd_same, Same.tup s0 ha2, Same.tup s0 hb2, l1, l2, i1, i2, hp, fun H' kp hx => ⟨rfl, ?_⟩⟩
  have s3 : Same H2 H' := fun c o e => kp c o (s0 c o e) (ne_of_none e nx)
  exact k x H' s3 nx ⟨dx, a, b, hx, Same.tup s3 ha2, Same.tup s3 hb2⟩
/-! ### effects as values -/
abbrev Eff := Option (List Str × List Str × Int)
def EffV (K : PySem.W.Frag) (C : Addr) (H : Hp) (e : Addr) : Eff → Prop
  | none => NevAt C H e
  | some (xs, ys, p) => EffAt K C H e xs ys p
theorem EffV.same {H H' : Hp} {e : Addr} : ∀ {o : Eff}, EffV K C H e o → Same H H' → EffV K C H' e o
  | none, h, s => NevAt.same h s
  | some (_, _, _), h, s => EffAt.same h s
theorem EffV.ins {H : Hp} {e : Addr} : ∀ {o : Eff}, EffV K C H e o → ∃ dx fs, H e = some (.ins C dx fs)
  | none, h => by
    obtain ⟨dx, h1⟩ := NevAt.ex h
    exact ⟨dx, _, h1⟩
  | some (_, _, _), h => by
    obtain ⟨dx, u, v, h1, _⟩ := EffAt.ex h
    exact ⟨dx, _, h1⟩
/-! ### peak, nothing -/
def spPeak (K : PySem.W.Frag) (C : Addr) : Sp := fun vs H Q _ => ∃ (e : Addr) (xs ys : List Str) (p : Int), vs = [.ref e] ∧ EffAt K C H e xs ys p ∧ Q (.int p) H
theorem scPk : FnScope ["self"] ["self"] (defScope sPeak) := ⟨rfl, rfl, rfl, by decide +kernel, rfl, by decide +kernel, by decide +kernel⟩
theorem ok_peak {f : Addr} {fd : FuncData} (F : Fun K "peak" "Effect.peak" sPeak f fd) (T : EC K mg C) : FnOk P w K mg base CX0 1 f fd ["self"] (spPeak K C) := by
  refine F.ok scPk (fun vs H Q E h => ?_) (fun cdv A outer s H vs Q E hr h => ?_)
  · obtain ⟨e, xs, ys, p, rfl, _⟩ := h
    rfl
  · obtain ⟨e, xs, ys, p, rfl, h, k⟩ := h
    obtain ⟨dx, u, v, h1, h2, h3⟩ := h.ex
    exact ⟨_, pss_one (ps_ret (pe_fld (pv 0) rfl)), _, rfl, e, C, dx, _, _, rfl, h1, T.cl, T.nH, eF_high _ _ _, k⟩
end
end SE
namespace SE
open PySem PySem.Spec PyProof.Rows L2
/-! ### effects one after the other: the mathematics' side -/
abbrev Prt := List Str × List Str × Int
def comp (A B : Prt) : Option Prt :=
  if A.2.1.take (min A.2.1.length B.1.length) = B.1.take (min A.2.1.length B.1.length) then
    some (A.1 ++ B.1.drop (min A.2.1.length B.1.length), B.2.1 ++ A.2.1.drop (min A.2.1.length B.1.length), if (A.2.1.length : Int) - (A.1.length : Int) + B.2.2 > A.2.2 then (A.2.1.length : Int) - (A.1.length : Int) + B.2.2 else A.2.2)
  else none
def joinF : Prt → List Prt → Eff
  | A, [] => some A
  | A, B :: r => match comp A B with
    | none => none
    | some D => joinF D r
def joinM (ps : List Prt) : Eff := joinF ([], [], 0) ps
def szP (ps : List Prt) : Nat := (ps.map fun B => B.1.length + B.2.1.length).sum
/-- a part that may be joined -/
structure PrtOk (B : Prt) : Prop where
  i1 : ∀ z ∈ B.1, Item z
  i2 : ∀ z ∈ B.2.1, Item z
  h0 : 0 ≤ B.2.2
  h1 : (B.2.1.length : Int) - (B.1.length : Int) ≤ B.2.2
theorem comp_ok {A B D : Prt} (hA : PrtOk A) (hB : PrtOk B) (h : comp A B = some D) : PrtOk D ∧ D.1.length + D.2.1.length ≤ A.1.length + A.2.1.length + (B.1.length + B.2.1.length) := by
  unfold comp at h
  split at h
  · cases h
    have q1 := hA.h0
    have q2 := hA.h1
    have q3 := hB.h1
    refine ⟨⟨fun z m => ?_, fun z m => ?_, ?_, ?_⟩, ?_⟩
    · rcases List.mem_append.mp m with q | q
      · exact hA.i1 z q
      · exact hB.i1 z (List.mem_of_mem_drop q)
    · rcases List.mem_append.mp m with q | q
      · exact hB.i2 z q
      · exact hA.i2 z (List.mem_of_mem_drop q)
    · dsimp only
      split <;> omega
    · dsimp only
      rw [List.length_append, List.length_append, List.length_drop, List.length_drop]
      have m1 := Nat.min_le_left A.2.1.length B.1.length
      have m2 := Nat.min_le_right A.2.1.length B.1.length
      generalize min A.2.1.length B.1.length = m at m1 m2 ⊢
      split <;> omega
    · show (A.1 ++ B.1.drop (min A.2.1.length B.1.length)).length + (B.2.1 ++ A.2.1.drop (min A.2.1.length B.1.length)).length ≤ _
      rw [List.length_append, List.length_append, List.length_drop, List.length_drop]
      omega
  · cases h
theorem PrtOk.lp {D : Prt} (h : PrtOk D) : lp D.1 D.2.1 ≤ D.2.2 := by
  have q1 := h.h0
  have q2 := h.h1
  unfold SE.lp
  split <;> omega
theorem cutF_to {α : Type} (f : α → V) (xs : List α) (j : Nat) : cutV (xs.map f) none (some (j : Int)) = (xs.take j).map f := by
  unfold cutV
  rw [List.length_map]
  have e1 : HT.sIx xs.length 0 none = 0 := rfl
  rw [e1, HT.sIx_nat, List.drop_zero, Nat.sub_zero, ← List.map_take]
  congr 1
  by_cases c : j ≤ xs.length
  · rw [Nat.min_eq_left c]
  · rw [Nat.min_eq_right (by omega), List.take_length, List.take_of_length_le (by omega)]
theorem cutF_from {α : Type} (f : α → V) (xs : List α) (j : Nat) : cutV (xs.map f) (some (j : Int)) none = (xs.drop j).map f := by
  unfold cutV
  rw [List.length_map]
  have e1 : HT.sIx xs.length xs.length none = xs.length := rfl
  rw [e1, HT.sIx_nat, ← List.map_drop, ← List.map_take]
  congr 1
  by_cases c : j ≤ xs.length
  · rw [Nat.min_eq_left c, List.take_of_length_le (by rw [List.length_drop]; exact Nat.le_refl _)]
  · rw [Nat.min_eq_right (by omega), List.drop_of_length_le (Nat.le_refl _), List.drop_of_length_le (by omega), List.take_nil]
theorem min_int (a b : Nat) : (if (b : Int) < (a : Int) then (b : Int) else (a : Int)) = ((min a b : Nat) : Int) := by
  split <;> omega
/-- a part as a tuple -/
def PrtV (K : PySem.W.Frag) (H : Hp) (v : V) (B : Prt) : Prop := ∃ t a b, v = .ref t ∧ SqT K H t [.ref a, .ref b, .int B.2.2] ∧ SqT K H a (B.1.map V.str) ∧ SqT K H b (B.2.1.map V.str)
theorem PrtV.same {K : PySem.W.Frag} {H H' : Hp} {v : V} {B : Prt} (h : PrtV K H v B) (s : Same H H') : PrtV K H' v B := by
  obtain ⟨t, a, b, e, h1, h2, h3⟩ := h
  exact ⟨t, a, b, e, Same.tup s h1, Same.tup s h2, Same.tup s h3⟩
section
variable {P : Program} {w : World} {K : PySem.W.Frag} {mg : Str → Option Value} {base : Heap} {C : Addr}
/-! ### joined -/
def spJoin (K : PySem.W.Frag) (C : Addr) : Sp := fun vs H Q _ => ∃ (a : Addr) (us : List V) (ps : List Prt), vs = [.ref a] ∧ SqL K H a us ∧ Paired (PrtV K H) us ps ∧ (∀ B ∈ ps, PrtOk B) ∧ szP ps ≤ 5000 ∧ ∀ (e : Addr) (H' : Hp), Same H H' → EffV K C H' e (joinM ps) → Q (.ref e) H'
theorem scJo : FnScope ["parts", "pops", "pushes", "peak", "needed", "left", "highest", "shared"] ["parts"] (defScope sJoined) := ⟨rfl, rfl, rfl, by decide +kernel, rfl, by decide +kernel, by decide +kernel⟩
theorem paired_at {α β : Type} {F : α → β → Prop} : ∀ {l₁ : List α} {l₂ : List β} {i : Nat} {x : α}, Paired F l₁ l₂ → l₁[i]? = some x → ∃ y, l₂[i]? = some y ∧ F x y
  | _, _, _, _, .nil, h => by simp at h
  | _, _, 0, _, .cons r _, h => ⟨_, rfl, by cases h; exact r⟩
  | _, _, i + 1, _, .cons _ t, h => by
    obtain ⟨y, h1, h2⟩ := paired_at t (i := i) h
    exact ⟨y, h1, h2⟩
theorem paired_len {α β : Type} {F : α → β → Prop} : ∀ {l₁ : List α} {l₂ : List β}, Paired F l₁ l₂ → l₁.length = l₂.length
  | _, _, .nil => rfl
  | _, _, .cons _ t => congrArg Nat.succ (paired_len t)
theorem has_join (D : Def K mg "joined" sJoined) (T : EC K mg C) (M : Makes P w K mg base C) (GN : NeverHas P w K mg base C) (B : Blt mg) (mx : mg "max" = none) (mn : mg "min" = none) : Has P w K mg base "joined" 7 ["parts"] [] (spJoin K C) := by
  refine has_of D scJo (fun _ _ _ _ _ _ us hl => match us, hl with | [_], _ => rfl) (fun xs H Q E h => ?_) (fun f cv A out s H xs Q E hr h => ?_)
  · obtain ⟨a, us, ps, rfl, _⟩ := h
    rfl
  · obtain ⟨a, us, ps, rfl, hS, hV, hO, hz, k⟩ := h
    have hr5 : Room 5 _ := hr.mono (by decide)
    refine ⟨_, pss_cons (ps_asg (pe_tup (pa_cons (pe_tup pa_nil) (pa_cons (pe_tup pa_nil) (pa_cons pe_int pa_nil)))) (pg_tup (by rfl) (pgs_cons (pg_name (i := 1) scJo.nd rfl (.inl rfl)) (pgs_cons (pg_name (i := 2) scJo.nd rfl (.inl rfl)) (pgs_cons (pg_name (i := 3) scJo.nd rfl (.inl rfl)) pgs_nil)))))
      (pss_cons (ps_for PassesOwn.never rfl (pi_list (pv 0)) (pg_tup (by rfl) (pgs_cons (pg_name (i := 4) scJo.nd rfl (.inl rfl)) (pgs_cons (pg_name (i := 5) scJo.nd rfl (.inl rfl)) (pgs_cons (pg_name (i := 6) scJo.nd rfl (.inl rfl)) pgs_nil))))
        (pss_cons (ps_set (i := 7) scJo.nd rfl (.inl rfl) (pe_callB (call_min2 rfl) (by rfl) mn (by decide +kernel) (pa_cons (pe_callB call_len_seq (by rfl) B.len PySem.boot_len (pa_cons (pv 2) pa_nil)) (pa_cons (pe_callB call_len_seq (by rfl) B.len PySem.boot_len (pa_cons (pv 4) pa_nil)) pa_nil))))
        (pss_cons (ps_if (pt_cut (pt_cmpR (op_neD hr.units) (pe_slice sl_tupS (pv 2) po_none (po_some (pv 7))) (pe_slice sl_tupS (pv 4) po_none (po_some (pv 7))) (nomark _))) (pss_one (ps_ret (pe_never0 GN T.mgE hr))) pss_nil)
        (pss_cons (ps_set (i := 3) scJo.nd rfl (.inl rfl) (pe_callB (call_max2 rfl) (by rfl) mx (by decide +kernel) (pa_cons (pv 3) (pa_cons (pe_op op_add (pe_op op_sub (pe_callB call_len_seq (by rfl) B.len PySem.boot_len (pa_cons (pv 2) pa_nil)) (pe_callB call_len_seq (by rfl) B.len PySem.boot_len (pa_cons (pv 1) pa_nil))) (pv 6)) pa_nil))))
        (pss_cons (ps_set (i := 1) scJo.nd rfl (.inl rfl) (pe_op op_catS (pv 1) (pe_slice sl_tupS (pv 4) (po_some (pv 7)) po_none)))
        (pss_one (ps_set (i := 2) scJo.nd rfl (.inl rfl) (pe_op op_catS (pv 5) (pe_slice sl_tupS (pv 2) (po_some (pv 7)) po_none)))))))))
      (pss_one (ps_ret (pe_effK M T.mgE hr5 (pa_cons (pv 1) (pa_cons (pv 2) pa_nil)) (pv 3))))), ?_⟩
    refine ⟨Nat.zero_le _, fun t1 ht1 => ⟨Nat.zero_le _, fun t2 ht2 => ?_⟩⟩
    have n12 : t1 ≠ t2 := ne_of_none upd_same ht2
    have s0 : Same H (upd (upd H t1 (.tup [])) t2 (.tup [])) := Same.free2 (Same.new ht1) ((Same.new ht1).free ht2)
    have shp : ∀ {zs : List Str}, (∀ z ∈ zs, Item z) → SeqAt.shaped (.tuple (zs.map PyData.str)) = true := fun {zs} q => (nice_tuple (nice_strs q)).shaped (by decide)
    refine ⟨(by show 3 ≤ sizeLine; decide), fun t3 ht3 => ⟨t3, _, rfl, .of upd_same, rfl, _, _, rfl, _, _, rfl, _, _, rfl, rfl, ?_⟩⟩
    have s00 := Same.new (o := .tup [.ref t1, .ref t2, .int 0]) ht3
    generalize upd (upd (upd H t1 (.tup [])) t2 (.tup [])) t3 (.tup [.ref t1, .ref t2, .int 0]) = H1 at s00 ⊢
    have w1 : SqT K H1 t1 (([] : List Str).map V.str) := Same.tup s00 (.of (by rw [upd_ne n12]; exact upd_same))
    have w2 : SqT K H1 t2 (([] : List Str).map V.str) := Same.tup s00 (.of upd_same)
    replace s0 := s0.trans s00
    refine ⟨_, rfl, a, rfl, ⟨_, Same.seq s0 hS⟩, for_list (K := K) (a := a) (xs := us) (fun i σ H2 => ∃ (u v : Addr) (A : Prt) (y4 y5 y6 y7 : Option V), σ = [some (.ref a), some (.ref u), some (.ref v), some (.int A.2.2), y4, y5, y6, y7] ∧ Same H H2 ∧ SqT K H2 u (A.1.map V.str) ∧ SqT K H2 v (A.2.1.map V.str) ∧ PrtOk A ∧ joinM ps = joinF A (ps.drop i) ∧ A.1.length + A.2.1.length + szP (ps.drop i) ≤ 5000)
      ⟨t1, t2, ([], [], 0), none, none, none, none, rfl, s0, w1, w2, ⟨fun z m => (by cases m), fun z m => (by cases m), Int.le_refl _, Int.le_refl _⟩, rfl, by rw [List.drop_zero]; show 0 + 0 + szP ps ≤ 5000; omega⟩ (fun i σ H2 _ q => ?_) ?_ ?_⟩
    · obtain ⟨_, _, _, _, _, _, _, _, s2, _⟩ := q
      exact Same.seq s2 hS
    · rintro i x σ H2 hx ⟨u, v, A, y4, y5, y6, y7, rfl, s2, hu, hv, oA, hj, hsz⟩
      obtain ⟨Bp, hB, hP⟩ := paired_at hV hx
      obtain ⟨t, p1, p2, rfl, q1, q2, q3⟩ := hP.same s2
      have oB := hO Bp (List.mem_of_getElem? hB)
      have hd : ps.drop i = Bp :: ps.drop (i + 1) := by
        obtain ⟨hl, he⟩ := List.getElem?_eq_some_iff.mp hB
        rw [List.drop_eq_getElem_cons hl, he]
      have hsz2 : A.1.length + A.2.1.length + (Bp.1.length + Bp.2.1.length) + szP (ps.drop (i + 1)) ≤ 5000 := by
        rw [hd] at hsz
        have e : szP (Bp :: ps.drop (i + 1)) = Bp.1.length + Bp.2.1.length + szP (ps.drop (i + 1)) := by
          unfold szP
          rw [List.map_cons, List.sum_cons]
        omega
      refine ⟨t, _, rfl, q1, rfl, _, _, rfl, _, _, rfl, _, _, rfl, rfl, ?_⟩
      refine ⟨_, rfl, v, _, rfl, .inr hv, _, rfl, p1, _, rfl, .inr q2, _, _, rfl, ?_⟩
      rw [List.length_map, List.length_map, min_int]
      -- do they fit
      refine ⟨fun b H3 => b = !decide (A.2.1.take (min A.2.1.length Bp.1.length) = Bp.1.take (min A.2.1.length Bp.1.length)) ∧ Same H2 H3, ?_, ?_⟩
      · refine ⟨_, rfl, _, rfl, _, rfl, v, _, rfl, hv, fun c1 H3 s3 hc1 => ⟨_, rfl, _, rfl, _, rfl, p1, _, rfl, Same.tup s3 q2, fun c2 H4 s4 hc2 => ?_⟩⟩
        rw [cutF_to] at hc1 hc2
        refine ⟨.tuple ((A.2.1.take (min A.2.1.length Bp.1.length)).map .str), .tuple ((Bp.1.take (min A.2.1.length Bp.1.length)).map .str), .tup (Same.tup s4 hc1) (dp_strs _), .tup hc2 (dp_strs _), shp (fun z m => oA.i2 z (List.mem_of_mem_take m)), shp (fun z m => oB.i1 z (List.mem_of_mem_take m)), _, rfl, ?_, s3.trans s4⟩
        rw [eqv_tupS]
      rintro b H3 ⟨rfl, s3⟩
      have s23 := s2.trans s3
      by_cases c : A.2.1.take (min A.2.1.length Bp.1.length) = Bp.1.take (min A.2.1.length Bp.1.length)
      rotate_left
      · rw [decide_eq_false c]
        refine iteT ⟨rfl, rfl, fun e H4 s4 he => k e H4 (s23.trans s4) ?_⟩
        have ej : joinM ps = none := by
          rw [hj, hd]
          unfold joinF comp
          rw [if_neg c]
        rw [ej]
        exact he
      rw [decide_eq_true c]
      refine iteF ?_
      refine ⟨_, rfl, _, rfl, v, _, rfl, .inr (Same.tup s3 hv), _, rfl, u, _, rfl, .inr (Same.tup s3 hu), _, _, rfl, rfl, _, rfl, _, _, rfl, rfl, _, _, rfl, ?_⟩
      rw [List.length_map, List.length_map]
      refine ⟨_, rfl, _, rfl, _, rfl, _, rfl, p1, _, rfl, Same.tup s3 q2, fun c1 H4 s4 hc1 => ?_⟩
      rw [cutF_from] at hc1
      refine ⟨u, c1, _, _, rfl, rfl, Same.tup (s3.trans s4) hu, hc1, ?_, fun u2 H5 s5 hu2 => ?_⟩
      · rw [List.length_map, List.length_map, List.length_drop, sizeLine_eq]
        omega
      have s35 := (s3.trans s4).trans s5
      refine ⟨_, rfl, _, rfl, _, rfl, _, rfl, v, _, rfl, Same.tup s35 hv, fun c2 H6 s6 hc2 => ?_⟩
      rw [cutF_from] at hc2
      refine ⟨p2, c2, _, _, rfl, rfl, Same.tup (s35.trans s6) q3, hc2, ?_, fun v2 H7 s7 hv2 => ?_⟩
      · rw [List.length_map, List.length_map, List.length_drop, sizeLine_eq]
        omega
      obtain ⟨Dp, hD⟩ : ∃ Dp, comp A Bp = some Dp := by
        unfold comp
        rw [if_pos c]
        exact ⟨_, rfl⟩
      have oD := comp_ok oA oB hD
      have e1 : Dp.1 = A.1 ++ Bp.1.drop (min A.2.1.length Bp.1.length) ∧ Dp.2.1 = Bp.2.1 ++ A.2.1.drop (min A.2.1.length Bp.1.length) ∧ Dp.2.2 = if (A.2.1.length : Int) - (A.1.length : Int) + Bp.2.2 > A.2.2 then (A.2.1.length : Int) - (A.1.length : Int) + Bp.2.2 else A.2.2 := by
        unfold comp at hD
        rw [if_pos c] at hD
        cases hD
        exact ⟨rfl, rfl, rfl⟩
      rw [← List.map_append, ← e1.1] at hu2
      rw [← List.map_append, ← e1.2.1] at hv2
      refine ⟨u2, v2, Dp, some (.ref p1), some (.ref p2), some (.int Bp.2.2), some (.int ((min A.2.1.length Bp.1.length : Nat) : Int)), ?_, s2.trans ((s35.trans s6).trans s7), Same.tup (s6.trans s7) hu2, hv2, oD.1, ?_, ?_⟩
      · rw [e1.2.2]
        rfl
      · rw [hj, hd]
        conv => lhs; unfold joinF
        rw [hD]
      · have := oD.2
        omega
    · rintro σ H2 ⟨u, v, A, y4, y5, y6, y7, rfl, s2, hu, hv, oA, hj, hsz⟩
      rw [paired_len hV, List.drop_length] at hj
      refine ⟨_, rfl, _, rfl, _, rfl, u, v, A.1, A.2.1, some A.2.2, rfl, rfl, hu, hv, by omega, by omega, oA.i1, oA.i2, fun p z => ?_, fun e H3 s3 _ he => ?_⟩
      · cases z
        exact oA.lp
      · refine k e H3 (s2.trans s3) ?_
        rw [hj]
        exact he
end
end SE
namespace SE
open PySem PySem.Spec PyProof.Rows L2
/-! ### effect_of -/
def partM (s : Stp) : Prt := if s.1 = true then ([], [s.2], 1) else ([s.2], [], 0)
def effM (ss : List Stp) : Eff := joinM (ss.map partM)
theorem partM_ok {s : Stp} (h : Item s.2) : PrtOk (partM s) := by
  unfold partM
  split
  · exact ⟨fun z m => (by cases m), fun z m => (by rw [List.mem_singleton.mp m]; exact h), (by show (0 : Int) ≤ 1; decide), (by show ((1 : Nat) : Int) - ((0 : Nat) : Int) ≤ 1; decide)⟩
  · exact ⟨fun z m => (by rw [List.mem_singleton.mp m]; exact h), fun z m => (by cases m), (by show (0 : Int) ≤ 0; decide), (by show ((0 : Nat) : Int) - ((1 : Nat) : Int) ≤ 0; decide)⟩
theorem szP_steps : ∀ ss : List Stp, szP (ss.map partM) = ss.length
  | [] => rfl
  | s :: ss => by
    have ih := szP_steps ss
    unfold szP at ih ⊢
    rw [List.map_cons, List.map_cons, List.sum_cons, ih, List.length_cons]
    unfold partM
    split
    · show 0 + 1 + ss.length = _
      omega
    · show 1 + 0 + ss.length = _
      omega
theorem tup_updL {K : PySem.W.Frag} {H : Hp} {D t : Addr} {xs us : List V} {o : HO} (hD : H D = some (.lst us)) (h : SqT K H t xs) : SqT K (upd H D o) t xs := by
  rcases h with (h | ⟨p, h⟩) | h
  · exact .inl (.inl (by rw [upd_ne (ne_of h hD (by intro z; cases z))]; exact h))
  · exact .inl (.inr ⟨p, by rw [upd_ne (ne_of h hD (by intro z; cases z))]; exact h⟩)
  · exact .inr h
theorem PrtV.updL {K : PySem.W.Frag} {H : Hp} {D : Addr} {us : List V} {v : V} {B : Prt} {o : HO} (hD : H D = some (.lst us)) (h : PrtV K H v B) : PrtV K (upd H D o) v B := by
  obtain ⟨t, a, b, e, h1, h2, h3⟩ := h
  exact ⟨t, a, b, e, tup_updL hD h1, tup_updL hD h2, tup_updL hD h3⟩
theorem Paired.snoc2 {α β : Type} {F : α → β → Prop} : ∀ {l₁ : List α} {l₂ : List β} {x : α} {y : β}, Paired F l₁ l₂ → F x y → Paired F (l₁ ++ [x]) (l₂ ++ [y])
  | _, _, _, _, .nil, h => .cons h .nil
  | _, _, _, _, .cons r t, h => .cons r (Paired.snoc2 t h)
section
variable {P : Program} {w : World} {K : PySem.W.Frag} {mg : Str → Option Value} {base : Heap} {C : Addr}
def spPart (K : PySem.W.Frag) : Sp := fun vs H Q _ => ∃ (v : V) (s : Stp), vs = [v] ∧ StepV K H v s ∧ ∀ (u : V) (H' : Hp), Same H H' → PrtV K H' u (partM s) → Q u H'
theorem scPt : FnScope ["step", "action", "item"] ["step"] (defScope sPartsOfStep) := ⟨rfl, rfl, rfl, by decide +kernel, rfl, by decide +kernel, by decide +kernel⟩
theorem has_part (D : Def K mg "parts_of_step" sPartsOfStep) : Has P w K mg base "parts_of_step" 1 ["step"] [] (spPart K) := by
  refine has_of D scPt (fun _ _ _ _ _ _ us hl => match us, hl with | [_], _ => rfl) (fun xs H Q E h => ?_) (fun f cv A out s H xs Q E hr h => ?_)
  · obtain ⟨v, st, rfl, _⟩ := h
    rfl
  · obtain ⟨v, st, rfl, ⟨t, rfl, hT⟩, k⟩ := h
    refine ⟨_, pss_cons (ps_asg (pv 0) (pg_tup (by rfl) (pgs_cons (pg_name (i := 1) scPt.nd rfl (.inl rfl)) (pgs_cons (pg_name (i := 2) scPt.nd rfl (.inl rfl)) pgs_nil))))
      (pss_one (ps_ret (pe_ifExp (pt_cmpR op_eq (pv 1) pe_str (nomark _)) (pe_tup (pa_cons (pe_tup pa_nil) (pa_cons (pe_tup (pa_cons (pv 2) pa_nil)) (pa_cons pe_int pa_nil)))) (pe_tup (pa_cons (pe_tup (pa_cons (pv 2) pa_nil)) (pa_cons (pe_tup pa_nil) (pa_cons pe_int pa_nil))))))), ?_⟩
    refine ⟨_, rfl, t, _, rfl, hT, rfl, _, _, rfl, _, _, rfl, rfl, ?_⟩
    obtain ⟨b, z⟩ := st
    cases b with
    | true =>
      refine ⟨_, rfl, rfl, true, congrArg V.bl (decide_eq_true (show V.str (act true) = V.str "push" from rfl)), iteT ?_⟩
      refine ⟨Nat.zero_le _, fun a ha => ⟨_, rfl, (by show 1 ≤ sizeLine; decide), fun c hc => ⟨(by show 3 ≤ sizeLine; decide), fun q hq => ?_⟩⟩⟩
      have nac : a ≠ c := ne_of_none upd_same hc
      have naq : a ≠ q := ne_of_none (by rw [upd_ne nac]; exact upd_same) hq
      have ncq : c ≠ q := ne_of_none upd_same hq
      refine k (.ref q) _ ?_ ⟨q, a, c, rfl, .of upd_same, .of ?_, .of ?_⟩
      · exact Same.free2 (Same.free2 (Same.new ha) ((Same.new ha).free hc)) ((Same.free2 (Same.new ha) ((Same.new ha).free hc)).free hq)
      · rw [upd_ne naq, upd_ne nac]
        exact upd_same
      · rw [upd_ne ncq]
        exact upd_same
    | false =>
      refine ⟨_, rfl, rfl, false, congrArg V.bl (decide_eq_false (fun y => absurd (V.str.inj (show V.str (act false) = V.str "push" from y)) (by decide +kernel))), iteF ?_⟩
      refine ⟨_, rfl, (by show 1 ≤ sizeLine; decide), fun a ha => ⟨Nat.zero_le _, fun c hc => ⟨(by show 3 ≤ sizeLine; decide), fun q hq => ?_⟩⟩⟩
      have nac : a ≠ c := ne_of_none upd_same hc
      have naq : a ≠ q := ne_of_none (by rw [upd_ne nac]; exact upd_same) hq
      have ncq : c ≠ q := ne_of_none upd_same hq
      refine k (.ref q) _ ?_ ⟨q, a, c, rfl, .of upd_same, .of ?_, .of ?_⟩
      · exact Same.free2 (Same.free2 (Same.new ha) ((Same.new ha).free hc)) ((Same.free2 (Same.new ha) ((Same.new ha).free hc)).free hq)
      · rw [upd_ne naq, upd_ne nac]
        exact upd_same
      · rw [upd_ne ncq]
        exact upd_same
def spEffOf (K : PySem.W.Frag) (C : Addr) : Sp := fun vs H Q _ => ∃ (a : Addr) (ys : List V) (ss : List Stp), vs = [.ref a] ∧ SqL K H a ys ∧ ys.length ≤ 1000 ∧ StepsV K H ys ss ∧ (∀ s ∈ ss, Item s.2) ∧ ∀ (e : Addr) (H' : Hp), Same H H' → EffV K C H' e (effM ss) → Q (.ref e) H'
theorem scEo : FnScope ["steps", "step"] ["steps"] (defScope sEffectOf) := ⟨rfl, rfl, rfl, by decide +kernel, rfl, by decide +kernel, by decide +kernel⟩
theorem has_effOf (D : Def K mg "effect_of" sEffectOf) (GC : Has P w K mg base "check_steps" 3 ["steps"] [] (spChkSteps K)) (GP : Has P w K mg base "parts_of_step" 1 ["step"] [] (spPart K)) (GJ : Has P w K mg base "joined" 7 ["parts"] [] (spJoin K C)) :
    Has P w K mg base "effect_of" 8 ["steps"] [] (spEffOf K C) := by
  refine has_of D scEo (fun _ _ _ _ _ _ us hl => match us, hl with | [_], _ => rfl) (fun xs H Q E h => ?_) (fun f cv A out s H xs Q E hr h => ?_)
  · obtain ⟨a, ys, ss, rfl, _⟩ := h
    rfl
  · obtain ⟨a, ys, ss, rfl, hS, hl, hV, hI, k⟩ := h
    have hr1 : Room 1 _ := hr.mono (by decide)
    have hr3 : Room 3 _ := hr.mono (by decide)
    have hln : ys.length = ss.length := hV.length
    refine ⟨_, pss_cons (ps_expr (pe_has GC hr3 (pa_cons (pv 0) pa_nil))) (pss_one (ps_ret (pe_has GJ hr (pa_cons
      (pe_lc (own := [("step", 1)]) (g := gName 1) (tt := tYes) (te := tCall (spPart K) [] E0 (tCons (tVar 1) tNil)) rfl scEo.nd (pi_list (pv 0)) (blkOk_by (own := [("step", 1)]) (N := ["steps", "step"]) (sc := defScope sEffectOf) (by decide +kernel))
        (fun _ _ _ _ _ => pg_name (i := 1) scEo.nd rfl (.inl rfl)) (fun _ _ _ _ _ => pts_nil) (fun _ _ _ _ _ => pe_has GP hr1 (pa_cons (pv 1) pa_nil))) pa_nil)))), ?_⟩
    refine ⟨_, rfl, a, ys, ss, rfl, .inl hS, hl, hV, hI, fun H1 s1 => ?_⟩
    refine ⟨_, rfl, a, rfl, ⟨_, Same.seq s1 hS⟩, fun D hD => lc_list (K := K) (a := a) (xs := ys) (fun j H2 => ∃ us, H2 D = some (.lst us) ∧ Paired (PrtV K H2) us ((ss.take j).map partM) ∧ Same H1 H2) ⟨[], upd_same, .nil, Same.new hD⟩ (fun j H2 _ q => ?_) ?_ ?_⟩
    · obtain ⟨_, _, _, s2⟩ := q
      exact Same.seq (s1.trans s2) hS
    · rintro j x H2 hx ⟨us, hu, hP, s2⟩
      obtain ⟨st, h1, h2⟩ := StepsV.at hV hx
      refine ⟨rfl, yes_in ⟨_, rfl, x, st, rfl, h2.same (s1.trans s2), fun u H3 s3 hp => ⟨us, s3 _ _ hu, ?_, us ++ [u], upd_same, ?_, ?_⟩⟩⟩
      · have l2 := paired_len hP
        rw [List.length_map, List.length_take] at l2
        rw [sizeLine_eq]
        omega
      · have e1 : (ss.take (j + 1)).map partM = (ss.take j).map partM ++ [partM st] := by
          rw [List.take_add_one, h1, List.map_append]
          rfl
        rw [e1]
        have hu3 := s3 _ _ hu
        exact Paired.snoc2 (Paired.mapP hP fun v B q => (q.same s3).updL hu3) (hp.updL hu3)
      · exact Same.free2 (s2.trans s3) hD
    · rintro H2 ⟨us, hu, hP, s2⟩
      rw [hln, List.take_length] at hP
      refine ⟨D, us, ss.map partM, rfl, .of hu, hP, fun Bp m => ?_, ?_, fun e H3 s3 he => k e H3 ((s1.trans s2).trans s3) he⟩
      · obtain ⟨st, ms, rfl⟩ := List.mem_map.mp m
        exact partM_ok (hI st ms)
      · rw [szP_steps]
        omega
end
end SE
/-! == and != by an own __eq__, whatever it answers; repr by an own __repr__. -/
namespace SE
open PySem PySem.Spec PyProof.Rows L2
section
variable {prog : Program} {w : World} {A : Around} {E : Value → Shared → Prop} {s : Shared} {K : PySem.W.Frag} {x y C f : Addr} {ox oy : Obj} {od oe : Option Obj} {Q : Value → Shared → Prop}
/-- a special method that is a built-in's slot -/
theorem bound_slot {M : Model} {name : Str} {id : String} {args : List Value} {R : Option Value → Shared → Prop} (X : K.In s.heap) (I : PySem.W.InstAt s.heap x ox C od) (hs : PySem.W.findIn K (.ref C) name = some (some (.builtin id)))
    (hb : ∀ v, bindSpecial (.builtin id) v = pure (.builtin id, [v])) (h : wpAny M A (call (.builtin id) (.ref x :: args)) (fun v => R (some v)) E s) : wpAny M A (callSpecialIfBound? (.ref x) name args) R E s := by
  simp only [callSpecialIfBound?, bindSpecialIfBound?]
  refine wpAny_holding (wpAny_bind (wpAny_bind (wpAny_bind (I.type.here ((PySem.W.looks_findIn X hs).here (wpAny_bind (wpAny_askSetting (wpAny_ite ?_))))))))
  have last : wpAny M A (call (.builtin id) ([.ref x] ++ args) >>= fun v => pure (some v)) R E s := wpAny_bind (wpAny_mono h (fun v s2 z => wpAny_pure z) fun _ _ z => z)
  split
  · exact wpAny_bind ((PySem.W.Looks.of_pure (hb _)).here (wpAny_pure (by exact last)))
  · exact wpAny_tryCatch (wpAny_bind ((PySem.W.Looks.of_pure (hb _)).here (wpAny_pure (by exact last))))
open Builtin in
theorem ne_call {v : Value} (hu : A.in1.units < cLine) (X : K.In s.heap) (I : PySem.W.InstAt s.heap x ox C od) (hm : PySem.W.mroIn K C (.type "object") = some true) (hs : PySem.W.findIn K (.ref C) "__eq__" = some (some (.ref f))) (hf : PySem.W.isFn K (.ref f) = true)
    (h : wpAny (model prog w) A.in1 (call (.ref f) [.ref x, v]) (fun r s2 => ∃ b, r = .bool b ∧ Q (.bool (!b)) s2) E s) : wpAny (model prog w) A (call (.builtin "object.__ne__") [.ref x, v]) Q E s := by
  refine wpAny_call (codeAny_call_builtin PySem.F.cmp_object.ne.plain PySem.F.cmpEntry_ne (PySem.W.check_slot PySem.F.cmpKind_ne PySem.F.cmpSplit_ne (I.type.andThen (PySem.W.looks_mroIn X hm)) (PySem.F.cmpArgs_ne _ _) ?_))
  unfold Builtin.«object.__ne__»
  refine wpAny_bind (m := slotArgs "__ne__" 1 _) (wpAny_pure ?_)
  refine wpAny_bind (m := cRoomFor _ _) (wpAny_cRoomFor hu ?_)
  refine wpAny_bind (m := callSpecialIfBound? (.ref x) (Str.ofString "__eq__") _) (PySem.W.ifBound_K X I hs hf (wpAny_mono h (fun r s2 z => ?_) fun _ _ z => z))
  obtain ⟨b, rfl, q⟩ := z
  exact wpAny_bind (wpAny_truthy_bool (wpAny_pure q))
theorem ne_inst (hu : A.units + 1 < cLine) (X : K.In s.heap) (I : PySem.W.InstAt s.heap x ox C od) (J : PySem.W.InstAt s.heap y oy C oe) (hm : PySem.W.mroIn K C (.type "object") = some true)
    (hn : PySem.W.findIn K (.ref C) "__ne__" = some (some (.builtin "object.__ne__"))) (hs : PySem.W.findIn K (.ref C) "__eq__" = some (some (.ref f))) (hf : PySem.W.isFn K (.ref f) = true)
    (h : wpAny (model prog w) A.in1 (call (.ref f) [.ref x, .ref y]) (fun r s2 => ∃ b, r = .bool b ∧ Q (.bool (!b)) s2) E s) : wpAny (model prog w) A (richCompare .NotEq (.ref x) (.ref y)) Q E s := by
  have one : wpAny (model prog w) A (tryCompare (.ref x) (cmpInfo .NotEq).2.1 (.ref y)) (fun r s2 => ∃ v, r = some v ∧ Q v s2) E s := by
    unfold tryCompare
    refine wpAny_bind (bound_slot X I hn PySem.F.cmp_object.ne.bind (ne_call hu X I hm hs hf (wpAny_mono h (fun v s2 z => ?_) fun _ _ z => z)))
    obtain ⟨b, rfl, q⟩ := z
    exact ⟨b, rfl, wpAny_pure ⟨_, rfl, q⟩⟩
  unfold richCompare
  simp only [oneThing_ref]
  refine wpAny_holding (wpAny_bind (wpAny_cRoomFor (Nat.lt_of_succ_lt hu) (wpAny_bind (I.type.here (wpAny_bind (J.type.here ?_))))))
  rw [show (Value.ref C != Value.ref C) = false by simp]
  simp only [Bool.false_eq_true, if_false]
  refine wpAny_bind (wpAny_pure ?_)
  simp only [Bool.false_eq_true, if_false]
  refine wpAny_bind (wpAny_mono one (fun r s2 z => ?_) fun _ _ z => z)
  obtain ⟨v, rfl, q⟩ := z
  exact wpAny_pure q
end
/-! ### the rules -/
/-- what an own == promises -/
def spEqB (R : Addr → Addr → Bool → Hp → Prop) : Sp := fun vs H Q _ => ∃ (a b : Addr) (c : Bool), vs = [.ref a, .ref b] ∧ R a b c H ∧ ∀ H', Same H H' → Q (.bl c) H'
def rCmp (C : Addr) (R : Addr → Addr → Bool → Hp → Prop) (neg : Bool) : R2 := fun x y H Q => ∃ (a b : Addr) (c : Bool) (dx dy : Addr) (fs gs : List (Str × V)), x = .ref a ∧ y = .ref b ∧ H a = some (.ins C dx fs) ∧ H b = some (.ins C dy gs) ∧ R a b c H ∧ ∀ H', Same H H' → Q (.bl (c != neg)) H'
section
variable {X : Cx} {n : Nat} {C f : Addr} {fd : FuncData} {ps : List Str} {R : Addr → Addr → Bool → Hp → Prop}
theorem op_eqE (F : FnOk X.prog X.w X.K X.mg X.base CX0 n f fd ps (spEqB R)) (hs : PySem.W.findIn X.K (.ref C) "__eq__" = some (some (.ref f))) (hf : PySem.W.isFn X.K (.ref f) = true) (hb : Binds X.K fd ps []) (hr : Room n X.A) : OpR X (compareOp .Eq) (rCmp C R false) := by
  intro pins s σ H x y u v Q I rx ry hq
  obtain ⟨a, b, c, dx, dy, fs, gs, rfl, rfl, ha, hb2, hR, k⟩ := hq
  cases rx
  cases ry
  obtain ⟨mA, J, _⟩ := ins_get I.hok ha
  obtain ⟨mB, J2, _⟩ := ins_get I.hok hb2
  obtain ⟨od, J, _⟩ := J.look
  obtain ⟨oe, J2, _⟩ := J2.look
  obtain ⟨m, hF⟩ := I.fr
  show wpAny (model X.prog X.w) X.A (richCompare .Eq (.ref a) (.ref b)) (EP X pins σ Q) X.xe s
  refine PySem.W.cmp_K (op := .Eq) (tb := .ref C) hr.units0 hF I.ok.mod.kin J J2.type (by simp [PySem.W.notFirst]) hs hf ?_
  have hsp : spEqB R [.ref a, .ref b] H (fun z H' => z = .bl c ∧ Same H H') (fun _ _ _ => False) := ⟨a, b, c, rfl, hR, fun H' e => ⟨rfl, e⟩⟩
  have hl := F.len _ _ _ _ hsp
  refine wpAny_call (codeAny_mono (F.run X.A X.stack s H ⟨[.ref a, .ref b], []⟩ [.ref a, .ref b] [.ref a, .ref b] _ _ hr I.env0 (by simpa using hb s [.ref a, .ref b] I.kIn (by simpa using hl)) (.cons rfl (.cons rfl .nil)) hsp) fun r s2 hq => ?_)
  cases r with
  | error e => exact hq.elim
  | ok fl =>
    cases fl with
    | ret z =>
      obtain ⟨y, H2, I2, rz, ez, ex⟩ := I.after hq
      subst ez
      cases rz
      refine ⟨.bl c, H2, I2, rfl, ?_⟩
      have q := k H2 ex
      rw [show (c != false) = c by cases c <;> rfl] at q
      exact q
    | next => exact hq.elim
    | brk => exact hq.elim
    | cont => exact hq.elim
theorem op_neE (F : FnOk X.prog X.w X.K X.mg X.base CX0 n f fd ps (spEqB R)) (hs : PySem.W.findIn X.K (.ref C) "__eq__" = some (some (.ref f))) (hf : PySem.W.isFn X.K (.ref f) = true) (hb : Binds X.K fd ps []) (hm : PySem.W.mroIn X.K C (.type "object") = some true)
    (hn : PySem.W.findIn X.K (.ref C) "__ne__" = some (some (.builtin "object.__ne__"))) (hr : Room (n + 1) X.A) : OpR X (compareOp .NotEq) (rCmp C R true) := by
  intro pins s σ H x y u v Q I rx ry hq
  obtain ⟨a, b, c, dx, dy, fs, gs, rfl, rfl, ha, hb2, hR, k⟩ := hq
  cases rx
  cases ry
  obtain ⟨mA, J, _⟩ := ins_get I.hok ha
  obtain ⟨mB, J2, _⟩ := ins_get I.hok hb2
  obtain ⟨od, J, _⟩ := J.look
  obtain ⟨oe, J2, _⟩ := J2.look
  show wpAny (model X.prog X.w) X.A (richCompare .NotEq (.ref a) (.ref b)) (EP X pins σ Q) X.xe s
  refine ne_inst (by have := hr.in1.units0; exact this) I.kIn J J2 hm hn hs hf ?_
  have hsp : spEqB R [.ref a, .ref b] H (fun z H' => z = .bl c ∧ Same H H') (fun _ _ _ => False) := ⟨a, b, c, rfl, hR, fun H' e => ⟨rfl, e⟩⟩
  have hl := F.len _ _ _ _ hsp
  refine wpAny_call (codeAny_mono (F.run X.A.in1 X.stack s H ⟨[.ref a, .ref b], []⟩ [.ref a, .ref b] [.ref a, .ref b] _ _ hr.in1 I.env0.in1 (by simpa using hb s [.ref a, .ref b] I.kIn (by simpa using hl)) (.cons rfl (.cons rfl .nil)) hsp) fun r s2 hq => ?_)
  cases r with
  | error e => exact hq.elim
  | ok fl =>
    cases fl with
    | ret z =>
      obtain ⟨y, H2, I2, rz, ez, ex⟩ := I.after hq
      subst ez
      cases rz
      refine ⟨c, rfl, .bl (!c), H2, I2, rfl, ?_⟩
      have q := k H2 ex
      rw [show (c != true) = !c by cases c <;> rfl] at q
      exact q
    | next => exact hq.elim
    | brk => exact hq.elim
    | cont => exact hq.elim
/-- repr(o), an own __repr__ -/
theorem call_reprE {sp : Sp} (F : GOk X.prog X.w X.K X.mg X.base n f fd ["self"] sp) (hs : PySem.W.findIn X.K (.ref C) "__repr__" = some (some (.ref f))) (hf : PySem.W.isFn X.K (.ref f) = true) (hb : Binds X.K fd ["self"] []) (hgu : X.A.guards = some []) (hr : Room (n + 1) X.A) :
    CallR X (.builtin "repr") (fun xs H Q => ∃ (a dx : Addr) (fs : List (Str × V)), xs = [.ref a] ∧ H a = some (.ins C dx fs) ∧ sp [.ref a] H (fun v H' => ∃ z, v = .str z ∧ Q (.str z) H') (fun _ _ _ => False)) := by
  intro pins s σ H xs us Q I r h
  obtain ⟨a, dx, fs, rfl, ha, hsp⟩ := h
  cases r with
  | cons r1 r2 =>
    cases r2
    cases r1
    obtain ⟨mA, J, _⟩ := ins_get I.hok ha
    obtain ⟨od, J, _⟩ := J.look
    obtain ⟨m, hF⟩ := I.fr
    refine PySem.W.repr_K hr.in1.units0 hF I.ok.mod.kin J hs hf ?_
    refine wpAny_call (codeAny_mono (F.run X.A.in1 X.stack s H ⟨[.ref a], []⟩ [.ref a] [.ref a] _ _ hgu hr.in1 I.env0.in1 (by simpa using hb s [.ref a] I.kIn rfl) (.cons rfl .nil) hsp) fun r s2 hq => ?_)
    cases r with
    | error e => exact hq.elim
    | ok fl =>
      cases fl with
      | ret z =>
        obtain ⟨y, H2, I2, rz, t, ez, q⟩ := I.after hq
        subst ez
        obtain ⟨tk, rfl⟩ := rz
        exact ⟨.str t, H2, I2, ⟨_, rfl⟩, q⟩
      | next => exact hq.elim
      | brk => exact hq.elim
      | cont => exact hq.elim
/-- {x!r}, x plain data -/
def tFmtT (K : PySem.W.Frag) (te : TE) : TE := fun σ H Q => te σ H fun x H1 => ∃ (a : Addr) (d : PyData), x = .ref a ∧ Dp K H1 x d ∧ d.showable = true ∧ d.hasDict = false ∧ d.depth ≤ 20 ∧ d.shown.length ≤ sizeLine ∧ Q (.str d.shown) H1
theorem pe_fmtT {e : Expr} {te : TE} {pos : Pos} (hgu : X.A.guards = some []) (hu : X.A.units + 64 < cLine) (he : PE X e te) : PE X (.FormattedValue e 114 none pos) (tFmtT X.K te) := by
  constructor
  intro pins s σ H Q I h
  refine wpAny_FormattedValue_repr (thn (he.run pins s σ H _ I h) fun v s1 hv => ?_)
  obtain ⟨x, H1, I1, r1, a, d, rfl, hd, hs, hn, hdep, hz, q⟩ := hv
  cases r1
  obtain ⟨as, rd⟩ := Dp.reads I1 d (.ref a) (.ref a) hd rfl
  refine pyReprObj_of_reads rd hs (PyData.noDict_hsm hn) hgu (by omega) (fun _ _ z => z) (fun h2 u tk keep => ?_) hz
  have I2 := I1.kept (t' := tk) keep
  exact wpAny_formatField_str ⟨.str d.shown, H1, I2, ⟨u, rfl⟩, q⟩ ⟨.str d.shown, H1, I2.tok _, ⟨_, rfl⟩, q⟩ hz
end
theorem Nice.shownLe {k B : Nat} {d : PyData} (h : Nice k B d) : d.shown.length ≤ 15 * B + 13 := by
  have q := PyData.shown_le 13 (by decide) d (PyData.leavesShort_of_canLay0 13 d h.lay h.ish)
  have := h.wt
  omega
end SE
namespace SE
open PySem PySem.Spec PyProof.Rows L2
abbrev sEq : Stmt := inClass sEffect 13
abbrev sRepr : Stmt := inClass sEffect 14
/-- what isinstance asks of the class -/
structure EI (K : PySem.W.Frag) (C : Addr) : Prop where
  ha : PySem.W.findIn K (.ref C) "__class__" = some (some (.builtin "object.__class__"))
  hn : PySem.W.specialIn K (.builtin "object.__class__") "__get__" = some (some (.builtin "getset_descriptor.__get__"))
  ht : PySem.W.takesIn K (.builtin "object.__class__") = some true
  hm : PySem.W.mroIn K C (.type "object") = some true
  ki : PySem.W.kitOne K (.ref C) (.ref C) = some true
/-- the parts of an effect as data -/
def dN : Eff → PyData
  | none => .none
  | some (xs, _, _) => .tuple (xs.map .str)
def dL : Eff → PyData
  | none => .none
  | some (_, ys, _) => .tuple (ys.map .str)
def dH : Eff → PyData
  | none => .none
  | some (_, _, p) => .int p
/-- an effect whose words are of items -/
def EffOk : Eff → Prop
  | none => True
  | some (xs, ys, p) => (∀ z ∈ xs, Item z) ∧ (∀ z ∈ ys, Item z) ∧ xs.length ≤ 1000 ∧ ys.length ≤ 1000 ∧ 0 ≤ p ∧ p ≤ 100000
theorem eff_eqv (a b : Eff) : (PyData.eqv (dN a) (dN b) && (PyData.eqv (dL a) (dL b) && PyData.eqv (dH a) (dH b))) = decide (a = b) := by
  cases a with
  | none =>
    cases b with
    | none => simp [dN, dL, dH, PyData.eqv]
    | some b =>
      obtain ⟨x, y, p⟩ := b
      simp [dN, dL, dH, PyData.eqv]
  | some a =>
    obtain ⟨x, y, p⟩ := a
    cases b with
    | none => simp [dN, dL, dH, PyData.eqv]
    | some b =>
      obtain ⟨x2, y2, p2⟩ := b
      show (PyData.eqv (.tuple (x.map .str)) (.tuple (x2.map .str)) && (PyData.eqv (.tuple (y.map .str)) (.tuple (y2.map .str)) && PyData.eqv (.int p) (.int p2))) = _
      rw [eqv_tupS, eqv_tupS]
      have e : PyData.eqv (.int p) (.int p2) = decide (p = p2) := by
        unfold PyData.eqv
        by_cases c : p = p2
        · subst c
          simp
        · simp [c]
      rw [e]
      by_cases c1 : x = x2 <;> by_cases c2 : y = y2 <;> by_cases c3 : p = p2 <;> simp [c1, c2, c3]
def shownE : Eff → Str
  | none => "Effect.never()"
  | some (xs, ys, p) => Str.empty ++ "Effect(" ++ (PyData.tuple (xs.map .str)).shown ++ ", " ++ (PyData.tuple (ys.map .str)).shown ++ ", peak=" ++ toString p ++ ")"
section
variable {P : Program} {w : World} {K : PySem.W.Frag} {mg : Str → Option Value} {base : Heap} {C : Addr}
theorem EffV.dp {H : Hp} {e : Addr} : ∀ {o : Eff}, EffV K C H e o → ∃ dx u v p, H e = some (.ins C dx (eF u v p)) ∧ Dp K H u (dN o) ∧ Dp K H v (dL o) ∧ Dp K H p (dH o)
  | none, h => by
    obtain ⟨dx, h1⟩ := NevAt.ex h
    exact ⟨dx, _, _, _, h1, .non, .non, .non⟩
  | some (_, _, _), h => by
    obtain ⟨dx, u, v, h1, h2, h3⟩ := EffAt.ex h
    exact ⟨dx, _, _, _, h1, .tup h2 (dp_strs _), .tup h3 (dp_strs _), .int _⟩
theorem EffOk.shaped : ∀ {o : Eff}, EffOk o → SeqAt.shaped (dN o) = true ∧ SeqAt.shaped (dL o) = true ∧ SeqAt.shaped (dH o) = true
  | none, _ => ⟨rfl, rfl, rfl⟩
  | some (_, _, _), h => ⟨(nice_tuple (nice_strs h.1)).shaped (by decide), (nice_tuple (nice_strs h.2.1)).shaped (by decide), rfl⟩
/-! ### __eq__ -/
def rEff (K : PySem.W.Frag) (C : Addr) (a b : Addr) (c : Bool) (H : Hp) : Prop := ∃ o1 o2, EffV K C H a o1 ∧ EffV K C H b o2 ∧ EffOk o1 ∧ EffOk o2 ∧ c = decide (o1 = o2)
theorem scEq : FnScope ["self", "other"] ["self", "other"] (defScope sEq) := ⟨rfl, rfl, rfl, by decide +kernel, rfl, by decide +kernel, by decide +kernel⟩
theorem ok_eq {f : Addr} {fd : FuncData} (F : Fun K "__eq__" "Effect.__eq__" sEq f fd) (T : EC K mg C) (TI : EI K C) (B : Blt mg) : FnOk P w K mg base CX0 1 f fd ["self", "other"] (spEqB (rEff K C)) := by
  refine F.ok scEq (fun vs H Q E h => ?_) (fun cdv A outer s H vs Q E hr h => ?_)
  · obtain ⟨a, b, c, rfl, _⟩ := h
    rfl
  · obtain ⟨a, b, c, rfl, ⟨o1, o2, h1, h2, k1, k2, rfl⟩, k⟩ := h
    obtain ⟨dx, u, v, p, i1, d1, d2, d3⟩ := h1.dp
    obtain ⟨dy, u2, v2, p2, i2, g1, g2, g3⟩ := h2.dp
    obtain ⟨s1, s2, s3⟩ := k1.shaped
    obtain ⟨t1, t2, t3⟩ := k2.shaped
    refine ⟨_, pss_one (ps_ret (pe_and (pe_callB call_isi (by rfl) B.isi (by decide +kernel) (pa_cons (pv 1) (pa_cons (pe_glob (v := .ref C) rfl T.mgE rfl) pa_nil)))
      (pe_and (pe_cmpR (op_eqD hr.units) (pe_fld (pv 0) rfl) (pe_fld (pv 1) rfl) (nomark _)) (pe_and (pe_cmpR (op_eqD hr.units) (pe_fld (pv 0) rfl) (pe_fld (pv 1) rfl) (nomark _)) (pe_one (pe_cmpR (op_eqD hr.units) (pe_fld (pv 0) rfl) (pe_fld (pv 1) rfl) (nomark _))))))), ?_⟩
    have fin := k H (Same.refl H)
    rw [← eff_eqv] at fin
    refine ⟨_, rfl, _, .ref C, .ref C, .ref C, true, rfl, .own C, .base (.ins i2 T.cl TI.ha TI.hn TI.ht TI.hm), TI.ki, true, rfl, iteT ?_⟩
    refine ⟨_, rfl, a, C, dx, _, _, rfl, i1, T.cl, T.nN, eF_needs _ _ _, _, rfl, b, C, dy, _, _, rfl, i2, T.cl, T.nN, eF_needs _ _ _, dN o1, dN o2, d1, g1, s1, t1, _, rfl, ?_⟩
    cases e1 : PyData.eqv (dN o1) (dN o2) with
    | false =>
      rw [e1, Bool.false_and] at fin
      exact iteF fin
    | true =>
      rw [e1, Bool.true_and] at fin
      refine iteT ⟨_, rfl, a, C, dx, _, _, rfl, i1, T.cl, T.nL, eF_leaves _ _ _, _, rfl, b, C, dy, _, _, rfl, i2, T.cl, T.nL, eF_leaves _ _ _, dL o1, dL o2, d2, g2, s2, t2, _, rfl, ?_⟩
      cases e2 : PyData.eqv (dL o1) (dL o2) with
      | false =>
        rw [e2, Bool.false_and] at fin
        exact iteF fin
      | true =>
        rw [e2, Bool.true_and] at fin
        exact iteT ⟨_, rfl, a, C, dx, _, _, rfl, i1, T.cl, T.nH, eF_high _ _ _, _, rfl, b, C, dy, _, _, rfl, i2, T.cl, T.nH, eF_high _ _ _, dH o1, dH o2, d3, g3, s3, t3, fin⟩
/-! ### __repr__ -/
def spRepr (K : PySem.W.Frag) (C : Addr) : Sp := fun vs H Q _ => ∃ (e : Addr) (o : Eff), vs = [.ref e] ∧ EffV K C H e o ∧ EffOk o ∧ Q (.str (shownE o)) H
theorem scRp : FnScope ["self"] ["self"] (defScope sRepr) := ⟨rfl, rfl, rfl, by decide +kernel, rfl, by decide +kernel, by decide +kernel⟩
theorem ok_repr {f : Addr} {fd : FuncData} (F : Fun K "__repr__" "Effect.__repr__" sRepr f fd) (T : EC K mg C) : GOk P w K mg base 1 f fd ["self"] (spRepr K C) := by
  obtain ⟨oc, od, kV, doc, pm, an, cv, ct, osl, rfl, look, hcode⟩ := F.ex
  refine gok_of look hcode scRp (fun vs H Q E h => ?_) (fun A out s H vs Q E hgu hr h => ?_)
  · obtain ⟨e, o, rfl, _⟩ := h
    rfl
  · obtain ⟨e, o, rfl, h, ok, k⟩ := h
    have body : ∃ t, PSs (cxOf CX0 P w K mg base ["self"] "Effect.__repr__" (defScope sRepr) f cv A out s H E).nox (defBody sRepr) t ∧ t { nx := fun _ H2 => Q .non H2, rt := Q } (start ["self"] [.ref e]) H := by
      refine ⟨_, pss_cons (ps_if (pt_cmpR op_isN (pe_fld (pv 0) rfl) pe_non (nomark _)) (pss_one (ps_ret pe_str)) pss_nil)
        (pss_one (ps_ret (pe_joined (.cons pe_str (.cons (pe_fmtT hgu hr.units (pe_fld (pv 0) rfl)) (.cons pe_str (.cons (pe_fmtT hgu hr.units (pe_fld (pv 0) rfl)) (.cons pe_str (.cons (pe_fmtR (pe_fld (pv 0) rfl)) (.cons pe_str .nil)))))))))), ?_⟩
      cases o with
      | none =>
        obtain ⟨dx, h1⟩ := NevAt.ex h
        exact ⟨_, rfl, e, C, dx, _, _, rfl, h1, T.cl, T.nN, eF_needs _ _ _, rfl, true, rfl, iteT k⟩
      | some o =>
        obtain ⟨xs, ys, p⟩ := o
        obtain ⟨dx, u, v, h1, h2, h3⟩ := EffAt.ex h
        obtain ⟨i1, i2, l1, l2, p0, p1⟩ := ok
        have n1 := nice_tuple (nice_strs i1)
        have n2 := nice_tuple (nice_strs i2)
        have z1 := n1.shownLe
        have z2 := n2.shownLe
        rw [List.length_map] at z1 z2
        have tl : (toString p : Str).length ≤ 13 := by
          have := PyData.shown_int_le (i := p) (by omega)
          exact this
        have big : ∀ m : Nat, m ≤ 400000 → m ≤ sizeLine := fun m hm => by
          rw [sizeLine_eq]
          omega
        have w0 : (Str.empty : Str).length = 0 := by decide +kernel
        have w1 : ("Effect(" : Str).length = 7 := by decide +kernel
        have w2 : (", " : Str).length = 2 := by decide +kernel
        have w3 : (", peak=" : Str).length = 7 := by decide +kernel
        have w4 : (")" : Str).length = 1 := by decide +kernel
        have lg : p.natAbs.log2 < 1920 := PySem.Flt.log2_lt_of (by decide) (Nat.lt_of_lt_of_le (show p.natAbs < 2 ^ 17 by show _ < 131072; omega) (Nat.pow_le_pow_right (by decide) (by decide)))
        refine ⟨_, rfl, e, C, dx, _, _, rfl, h1, T.cl, T.nN, eF_needs _ _ _, rfl, false, rfl, iteF ?_⟩
        refine ⟨_, rfl, big _ ?_, _, rfl, e, C, dx, _, _, rfl, h1, T.cl, T.nN, eF_needs _ _ _, u, _, rfl, .tup h2 (dp_strs xs), n1.sh, n1.nd, Nat.le_trans n1.dep (by decide), big _ (by omega), _, rfl, big _ ?_, _, rfl, big _ ?_, _, rfl, e, C, dx, _, _, rfl, h1, T.cl, T.nL, eF_leaves _ _ _, v, _, rfl, .tup h3 (dp_strs ys), n2.sh, n2.nd, Nat.le_trans n2.dep (by decide), big _ (by omega), _, rfl, big _ ?_, _, rfl, big _ ?_, _, rfl, e, C, dx, _, _, rfl, h1, T.cl, T.nH, eF_high _ _ _, .inr ⟨p, rfl, lg, _, rfl, big _ ?_, _, rfl, big _ ?_, k⟩⟩
        all_goals (simp only [len_add, w0, w1, w2, w3, w4]; omega)
    obtain ⟨t, a, b⟩ := body
    exact ⟨t, a.nox, b⟩
end
end SE
namespace SE
open PySem PySem.Spec PyProof.Rows L2
/-! ### the effect of a repeated sequence -/
def cw : List Str → List Str → Option (List Str × List Str)
  | [], R => some (R, [])
  | a :: P, [] => some ([], a :: P)
  | a :: P, b :: R => if a = b then cw P R else none
def mx (a b : Int) : Int := if b > a then b else a
def hg (A : Prt) : Int := (A.2.1.length : Int) - (A.1.length : Int)
theorem cw_nil (P : List Str) : cw P [] = some ([], P) := by
  cases P <;> rfl
theorem cw_eq : ∀ P R : List Str, cw P R = if P.take (min P.length R.length) = R.take (min P.length R.length) then some (R.drop (min P.length R.length), P.drop (min P.length R.length)) else none
  | [], R => by simp [cw]
  | a :: P, [] => by simp [cw]
  | a :: P, b :: R => by
    have ih := cw_eq P R
    unfold cw
    have e : min (a :: P).length (b :: R).length = min P.length R.length + 1 := by
      rw [List.length_cons, List.length_cons]
      omega
    rw [e, List.take_succ_cons, List.take_succ_cons, List.drop_succ_cons, List.drop_succ_cons]
    by_cases c : a = b
    · subst c
      rw [if_pos rfl, ih]
      simp
    · rw [if_neg c, if_neg (fun z => c (List.cons.inj z).1)]
theorem comp_cw (A B : Prt) : comp A B = (cw A.2.1 B.1).map fun z => (A.1 ++ z.1, B.2.1 ++ z.2, mx A.2.2 (hg A + B.2.2)) := by
  unfold comp
  rw [cw_eq]
  split
  · rfl
  · rfl
theorem assoc1 (A E : Prt) (s : Stp) : ((comp A (partM s)).bind fun D => comp D E) = (comp (partM s) E).bind (comp A) := by
  obtain ⟨x, y, p⟩ := A
  obtain ⟨u, v, q⟩ := E
  obtain ⟨b, z⟩ := s
  cases b with
  | true =>
    have e1 : partM (true, z) = ([], [z], 1) := rfl
    rw [e1]
    simp only [comp_cw, cw_nil, Option.map_some, Option.bind_some]
    cases u with
    | nil =>
      simp only [comp_cw, cw_nil, Option.map_some, Option.bind_some, hg, List.append_nil, List.nil_append]
      refine congrArg some (Prod.ext rfl (Prod.ext (by simp) ?_))
      simp only [List.length_append, List.length_cons, List.length_nil, mx]
      grind
    | cons t r =>
      simp only [cw]
      by_cases c : z = t
      · subst c
        simp only [List.cons_append, List.nil_append, cw, if_true, Option.map_some, Option.bind_some, List.append_nil, comp_cw]
        cases cw y r with
        | none => rfl
        | some g =>
          simp only [Option.map_some, hg]
          refine congrArg some (Prod.ext rfl (Prod.ext rfl ?_))
          simp only [List.length_append, List.length_cons, List.length_nil, mx]
          grind
      · simp [cw, c]
  | false =>
    have e1 : partM (false, z) = ([z], [], 0) := rfl
    rw [e1]
    simp only [comp_cw, cw, Option.map_some, Option.bind_some, List.append_nil]
    cases y with
    | nil =>
      simp only [cw, Option.map_some, Option.bind_some, hg, List.append_nil]
      refine congrArg some (Prod.ext (by simp) (Prod.ext (by simp) ?_))
      simp only [List.length_append, List.length_cons, List.length_nil, mx]
      grind
    | cons t r =>
      simp only [List.cons_append, List.nil_append, cw, cw_nil]
      by_cases c : t = z
      · subst c
        simp only [if_true, Option.map_some, Option.bind_some, List.append_nil, List.nil_append]
        cases cw r u with
        | none => rfl
        | some g =>
          simp only [Option.map_some, hg]
          refine congrArg some (Prod.ext rfl (Prod.ext rfl ?_))
          simp only [List.length_append, List.length_cons, List.length_nil, mx]
          grind
      · simp [c]
theorem joinF_cons (A B : Prt) (r : List Prt) : joinF A (B :: r) = (comp A B).bind fun D => joinF D r := by
  rw [joinF]
  cases comp A B <;> rfl
theorem comp_one (s : Stp) : comp ([], [], 0) (partM s) = some (partM s) := by
  obtain ⟨b, z⟩ := s
  cases b <;> simp [comp_cw, partM, cw, hg, mx]
theorem cw_len : ∀ (P R : List Str) (z : List Str × List Str), cw P R = some z → (z.2.length : Int) - z.1.length = P.length - R.length
  | [], R, z, h => by
    cases h
    show ((0 : Nat) : Int) - R.length = ((0 : Nat) : Int) - R.length
    rfl
  | a :: P, [], z, h => by
    cases h
    rfl
  | a :: P, b :: R, z, h => by
    unfold cw at h
    split at h
    · have ih := cw_len P R z h
      rw [List.length_cons, List.length_cons]
      omega
    · cases h
theorem hg_comp {A B D : Prt} (h : comp A B = some D) : hg D = hg A + hg B := by
  rw [comp_cw] at h
  cases e : cw A.2.1 B.1 with
  | none =>
    rw [e] at h
    cases h
  | some z =>
    rw [e] at h
    cases h
    have := cw_len _ _ _ e
    unfold hg
    simp only [List.length_append]
    omega
theorem pk_comp {A B D : Prt} (h : comp A B = some D) : D.2.2 = mx A.2.2 (hg A + B.2.2) := by
  rw [comp_cw] at h
  cases e : cw A.2.1 B.1 with
  | none =>
    rw [e] at h
    cases h
  | some z =>
    rw [e] at h
    cases h
    rfl
theorem hgp (s : Stp) : hg (partM s) ≤ (partM s).2.2 ∧ 0 ≤ (partM s).2.2 ∧ (partM s).2.2 ≤ 1 := by
  obtain ⟨b, z⟩ := s
  cases b
  · exact ⟨(by show ((0 : Nat) : Int) - ((1 : Nat) : Int) ≤ 0; decide), (by show (0 : Int) ≤ 0; decide), (by show (0 : Int) ≤ 1; decide)⟩
  · exact ⟨(by show ((1 : Nat) : Int) - ((0 : Nat) : Int) ≤ 1; decide), (by show (0 : Int) ≤ 1; decide), (by show (1 : Int) ≤ 1; decide)⟩
theorem joinF_eff : ∀ (ss : List Stp) (A : Prt), hg A ≤ A.2.2 → joinF A (ss.map partM) = (effM ss).bind (comp A)
  | [], A, h => by
    obtain ⟨x, y, p⟩ := A
    show some (x, y, p) = comp (x, y, p) ([], [], 0)
    rw [comp_cw, cw_nil]
    simp only [Option.map_some, List.append_nil, List.nil_append]
    refine congrArg some (Prod.ext rfl (Prod.ext rfl ?_))
    have h' : hg (x, y, p) ≤ p := h
    simp only [mx]
    split <;> omega
  | s :: ss, A, h => by
    have ih := joinF_eff ss
    rw [List.map_cons, joinF_cons]
    have hs := hgp s
    have e : effM (s :: ss) = (effM ss).bind (comp (partM s)) := by
      rw [← ih _ hs.1]
      unfold effM joinM
      rw [List.map_cons, joinF_cons, comp_one, Option.bind_some]
    rw [e]
    have e2 : ((comp A (partM s)).bind fun D => joinF D (ss.map partM)) = (comp A (partM s)).bind fun D => (effM ss).bind (comp D) := by
      cases q : comp A (partM s) with
      | none => rfl
      | some D =>
        rw [Option.bind_some, Option.bind_some]
        refine ih D ?_
        rw [hg_comp q, pk_comp q]
        unfold mx
        split <;> omega
    rw [e2]
    cases effM ss with
    | none =>
      simp only [Option.bind_none]
      cases comp A (partM s) <;> rfl
    | some E => exact assoc1 A E s
theorem joinF_app : ∀ (ps qs : List Prt) (A : Prt), joinF A (ps ++ qs) = (joinF A ps).bind fun D => joinF D qs
  | [], qs, A => rfl
  | B :: ps, qs, A => by
    rw [List.cons_append, joinF_cons, joinF_cons]
    cases comp A B with
    | none => rfl
    | some D =>
      rw [Option.bind_some, Option.bind_some]
      exact joinF_app ps qs D
/-- what the effect of a sequence keeps to -/
theorem joinF_ok : ∀ (ss : List Stp) (A D : Prt), PrtOk A → (∀ s ∈ ss, Item s.2) → joinF A (ss.map partM) = some D → PrtOk D ∧ D.1.length + D.2.1.length ≤ A.1.length + A.2.1.length + ss.length ∧ D.2.2 ≤ A.2.2 + ss.length
  | [], A, D, h, _, e => by
    cases e
    refine ⟨h, by simp, by simp⟩
  | s :: ss, A, D, h, hI, e => by
    rw [List.map_cons, joinF_cons] at e
    cases q : comp A (partM s) with
    | none =>
      rw [q] at e
      cases e
    | some B =>
      rw [q, Option.bind_some] at e
      have ok := comp_ok h (partM_ok (hI s List.mem_cons_self)) q
      have ih := joinF_ok ss B D ok.1 (fun z m => hI z (List.mem_cons_of_mem _ m)) e
      have pk := pk_comp q
      have hs := hgp s
      have l1 : (partM s).1.length + (partM s).2.1.length = 1 := by
        unfold partM
        split <;> rfl
      have hh : hg A ≤ A.2.2 := h.h1
      refine ⟨ih.1, ?_, ?_⟩
      · rw [List.length_cons]
        omega
      · have i3 := ih.2.2
        rw [pk] at i3
        have : mx A.2.2 (hg A + (partM s).2.2) ≤ A.2.2 + 1 := by
          unfold mx
          split <;> omega
        rw [List.length_cons]
        omega
theorem effM_ok {ss : List Stp} {D : Prt} (hI : ∀ s ∈ ss, Item s.2) (h : effM ss = some D) : PrtOk D ∧ D.1.length + D.2.1.length ≤ ss.length ∧ D.2.2 ≤ ss.length := by
  have q := joinF_ok ss ([], [], 0) D ⟨fun z m => (by cases m), fun z m => (by cases m), Int.le_refl _, Int.le_refl _⟩ hI h
  refine ⟨q.1, ?_, ?_⟩
  · have := q.2.1
    simpa using this
  · have := q.2.2
    simpa using this
theorem effM_app {ss tt : List Stp} (hI : ∀ s ∈ ss, Item s.2) : effM (ss ++ tt) = (effM ss).bind fun A => (effM tt).bind (comp A) := by
  unfold effM joinM
  rw [List.map_append, joinF_app]
  cases q : joinF ([], [], 0) (ss.map partM) with
  | none => rfl
  | some A =>
    rw [Option.bind_some, Option.bind_some]
    exact joinF_eff tt A (effM_ok hI q).1.h1
theorem cw_self_left : ∀ (w r : List Str), cw w (w ++ r) = some (r, [])
  | [], r => rfl
  | a :: w, r => by
    rw [List.cons_append, cw, if_pos rfl]
    exact cw_self_left w r
theorem cw_self_right : ∀ (w r : List Str), cw (w ++ r) w = some ([], r)
  | [], r => cw_nil r
  | a :: w, r => by
    rw [List.cons_append, cw, if_pos rfl]
    exact cw_self_right w r
theorem effM_EffOk {ss : List Stp} (hI : ∀ s ∈ ss, Item s.2) (hl : ss.length ≤ 1000) : EffOk (effM ss) := by
  cases h : effM ss with
  | none => exact trivial
  | some o =>
    obtain ⟨x, y, p⟩ := o
    obtain ⟨a, b, c⟩ := effM_ok hI h
    have b' : x.length + y.length ≤ ss.length := b
    have c' : p ≤ ss.length := c
    exact ⟨a.i1, a.i2, by omega, by omega, a.h0, by omega⟩
end SE
/-! repr of a list of objects with an own __repr__; an own __repr__ while a list's repr is under way. -/
namespace SE
open PySem PySem.Spec PyProof.Rows L2
/-- the promise of a def that is called while the reprs g are under way -/
structure GOkG (P : Program) (w : World) (K : PySem.W.Frag) (mg : Str → Option Value) (base : Heap) (g : List Code) (k : Nat) (f : Addr) (fd : FuncData) (ps : List Str) (sp : Sp) : Prop where
  len : ∀ xs H Q E, sp xs H Q E → xs.length = ps.length
  run : ∀ (A : Around) (out : List Env) (s : Shared) (H : Hp) (args : Args) (us : List Value) (xs : List V) (Q : VK) (E : XK), A.guards = some g → Room k A → Env0 P w K mg base A out s H →
    BindsTo s fd args (ps.zip us) → Vals xs us → sp xs H Q E → codeAny (model P w) A (.call (.ref f) args) (CR (fun _ _ _ _ _ _ => False) out P w H s Q E) s
section
variable {P : Program} {w : World} {K : PySem.W.Frag} {mg : Str → Option Value} {base : Heap} {g : List Code}
theorem gok_ofG {k : Nat} {f : Addr} {nm ql : Str} {pars : Arguments} {bd : List Stmt} {sc : Scope} {dV kV doc pm cv ct oc : Value} {an od : Option Addr}
    {osl : Array (Option Value)} {N ps : List Str} {sp : Sp} (look : K.lookup f = some ⟨oc, od, .func (PySem.W.fnOf nm ql pars bd sc dV kV doc pm an cv ct), osl⟩) (hcode : PySem.W.codeIn K cv ql = true) (S : FnScope N ps sc)
    (len : ∀ xs H Q E, sp xs H Q E → xs.length = ps.length)
    (hbd : ∀ (A : Around) (out : List Env) (s : Shared) (H : Hp) (xs : List V) (Q : VK) (E : XK), A.guards = some g → Room k (A.deeper (envOfC ql sc s.heap.objs.size f cv)) → sp xs H Q E →
      ∃ t, PSs (cxOf (fun _ _ _ _ _ _ => False) P w K mg base N ql sc f cv A out s H E) bd t ∧ t { nx := fun _ H2 => Q .non H2, rt := Q } (start N xs) H) :
    GOkG P w K mg base g (k + 1) f (PySem.W.fnOf nm ql pars bd sc dV kV doc pm an cv ct) ps sp := by
  constructor
  · exact len
  intro A out s H args us xs Q E hgu hroom env hbind hvals hpre
  have hlen := len _ _ _ _ hpre
  have kin : K.In s.heap := env.mod.kin.keeps fun b o z => (env.bs b o z).1
  have nolim : s.heap.NoLimit := env.mod.nolimit.keeps fun b o z => (env.bs b o z).1
  have kinds : ∀ y ∈ ps.zip us, sc.names.lookup y.1 = some .local ∨ (sc.names.lookup y.1 = some .cell ∧ ((cellsFrom (s.heap.objs.size + 1) sc.names []).lookup y.1).isSome = true) := by
    rintro ⟨n, v⟩ hy
    rcases S.par n (List.of_mem_zip hy).1 with q | q
    · exact .inl q
    · exact .inr ⟨q, PySem.W.cellsFrom_some _ _ _ (.inl q)⟩
  apply codeAny_call_function hroom.depth (kin _ _ look) rfl S.co S.gen rfl (PySem.W.codeRec_of kin hcode)
  apply hbind
  refine wpAny_newFunctionEnv_cells S.kind kinds fun ev hev s2 inc => ?_
  subst hev
  refine ⟨nolim.keeps inc.toInCall.keep, codeAny_func ?_⟩
  obtain ⟨t, der, rd⟩ := hbd A out s H xs Q E hgu (hroom.deeper _) hpre
  have J0 : Inv (cxOf (fun _ _ _ _ _ _ => False) P w K mg base N ql sc f cv A out s H E) [] (start N xs) H s2 := inv_start S hroom.hd env hlen hvals inc
  refine wpAny_mono (der.run [] s2 (start N xs) H _ J0 rd) (fun fl s3 hs => ?_) fun e s3 hs => hs
  cases fl with
  | ret u =>
    obtain ⟨v, σ3, H3, J, rv, q⟩ := hs
    exact ⟨v, H3, J.os, J.bare, J.base, J.hok, rv, q⟩
  | next =>
    obtain ⟨σ3, H3, J, q⟩ := hs
    exact ⟨V.non, H3, J.os, J.bare, J.base, J.hok, rfl, q⟩
  | brk => exact hs.elim fun _ z => z.elim fun _ z => z.2.elim
  | cont => exact hs.elim fun _ z => z.elim fun _ z => z.2.elim
end
section
variable {prog : Program} {w : World} {A : Around} {E : Value → Shared → Prop} {s : Shared} {K : PySem.W.Frag} {x C f : Addr} {ox : Obj} {od : Option Obj}
/-- the repr of an object with an own __repr__, inside a list's -/
theorem under_own {b : Nat} {Q : Value → Shared → Prop} (hu : A.units < cLine) (X : K.In s.heap) (I : PySem.W.InstAt s.heap x ox C od) (hs : PySem.W.findIn K (.ref C) "__repr__" = some (some (.ref f))) (hf : PySem.W.isFn K (.ref f) = true)
    (h : wpAny (model prog w) A (call (.ref f) [.ref x]) (fun r s' => ∃ t u, r = .str t u ∧ Q (.str t u) s') E s) : wpAny (model prog w) A (pyReprObjUnder b (.ref x)) Q E s := by
  unfold pyReprObjUnder pyReprObjBy
  refine wpAny_bind (wpAny_cRoomFor hu ?_)
  refine wpAny_bind (wpAny_bind (I.type.here ((PySem.W.looks_findIn X hs).here ?_)))
  show wpAny _ _ (if (some (Value.ref f)).isNone = true then _ else _) _ _ _
  rw [if_neg (by simp)]
  simp only [callSpecialIfBoundBy?, bindSpecialIfBound?]
  have fin : ∀ {R : Option Value → Shared → Prop}, (∀ t u s', Q (.str t u) s' → R (some (.str t u)) s') → wpAny (model prog w) A (call (.ref f) ([.ref x] ++ []) >>= fun v => pure (some v)) R E s := fun hR =>
    wpAny_bind (wpAny_mono h (fun v s' h' => by
      obtain ⟨t, u, rfl, q⟩ := h'
      exact wpAny_pure (hR t u s' q)) fun _ _ h' => h')
  have post : ∀ t u s', Q (.str t u) s' → wpAny (model prog w) A (do
      if ← isInstance (.str t u) (.type "str") then pure (Value.str t u) else raiseError "TypeError" s!"__repr__ returned non-string (type {← typeNameOf (.str t u)})") Q E s' := fun t u s' q =>
    wpAny_bind (wpAny_isInstance (typeIs_str _ _ _) isSubtype_str_str (by exact wpAny_pure q))
  refine wpAny_bind (wpAny_holding (wpAny_bind (wpAny_bind (wpAny_bind (I.type.here ((PySem.W.looks_findIn X hs).here ?_))))))
  refine wpAny_bind (wpAny_askSetting (wpAny_ite ?_))
  split
  · exact wpAny_bind ((PySem.W.bind_fn X _ (beq_iff_eq.mp hf)).here (wpAny_pure (by exact fin post)))
  · exact wpAny_tryCatch (wpAny_bind ((PySem.W.bind_fn X _ (beq_iff_eq.mp hf)).here (wpAny_pure (by exact fin post))))
end
theorem vals_strs : ∀ {ts : List Str} {its : List Value}, Vals (ts.map V.str) its → ∃ done : List (Str × Tok), its = strValues done ∧ done.map (·.1) = ts
  | [], _, h => by
    cases h
    exact ⟨[], rfl, rfl⟩
  | t :: ts, _, h => by
    cases h with
    | cons r q =>
      obtain ⟨u, rfl⟩ := r
      obtain ⟨done, rfl, e⟩ := vals_strs q
      exact ⟨(t, u) :: done, rfl, by rw [List.map_cons, e]⟩
theorem vals_refs : ∀ {es : List Addr} {its : List Value}, Vals (es.map V.ref) its → its = es.map Value.ref
  | [], _, h => by
    cases h
    rfl
  | e :: es, _, h => by
    cases h with
    | cons r q =>
      cases r
      rw [vals_refs q]
      rfl
theorem loop_depth {A : Around} {args : Args} : (A.under (.builtin "list.__repr__.loop" args)).depth ≤ A.depth + 1 := by
  simp [Around.under, Code.weight, Code.isCreation, Code.isGuard, Code.isCaller, Code.frames, Code.isFrame, guardIds]
theorem Room.loop {k : Nat} {A : Around} (r : Room (k + 1) A) (args : Args) : Room k (A.under (.builtin "list.__repr__.loop" args)) :=
  ⟨r.hd, by have := r.dp; have := loop_depth (A := A) (args := args); omega, by have := r.un; rw [units_under_list_loop]; omega⟩
theorem Env0.loop {P : Program} {w : World} {K : PySem.W.Frag} {mg : Str → Option Value} {base : Heap} {A : Around} {outer : List Env} {s : Shared} {H : Hp} (e : Env0 P w K mg base A outer s H) (args : Args) :
    Env0 P w K mg base (A.under (.builtin "list.__repr__.loop" args)) outer s H := ⟨by first | exact e.frames | (simpa [Around.under, Code.envs, Code.isFrame, pushEnvs] using e.frames), e.mod, e.bs, e.bsz, e.funs, e.frf, e.hok, e.bare⟩
section
variable {X : Cx} {n : Nat} {C f : Addr} {fd : FuncData}
open Builtin Builtin.List in
theorem repr_go {pins : List (Addr × Obj)} {σ : L2.St} {H : Hp} {sp : List Code → Sp} {R : Result → Shared → Prop} {L P : Addr} {es : List Addr} {ts : List Str} (F : ∀ g, GOkG X.prog X.w X.K X.mg X.base g n f fd ["self"] (sp g)) (hs : PySem.W.findIn X.K (.ref C) "__repr__" = some (some (.ref f))) (hf : PySem.W.isFn X.K (.ref f) = true) (hb : Binds X.K fd ["self"] [])
    (hgu : X.A.guards = some []) (hr : Room (n + 3) X.A) (hLP : L ≠ P) (hL : H L = some (.lst (es.map V.ref))) (hP : H P = none) (hlen : es.length = ts.length) (hsz : (listText ts).length ≤ sizeLine)
    (hT : ∀ (i : Nat) (e : Addr), es[i]? = some e → ∃ t, ts[i]? = some t ∧ (∃ dx fs, H e = some (.ins C dx fs)) ∧ ∀ (rest : List Value) (ys : List V), sp [.builtin "list.__repr__.loop" ⟨.ref L :: rest, []⟩] [.ref e] (upd H P (.lst ys)) (fun v H' => v = .str t ∧ H' = upd H P (.lst ys)) (fun _ _ _ => False))
    (hR : ∀ u s', Inv X pins σ (upd H P (.lst (ts.map V.str))) s' → R (.ok (.ret (.str (listText ts) u))) s') :
    ∀ (k i : Nat) (s : Shared), es.length - i = k → i ≤ es.length → Inv X pins σ (upd H P (.lst ((ts.take i).map V.str))) s →
    codeAny (model X.prog X.w) X.A.in1 (.builtin "list.__repr__.loop" ⟨[.ref L, rawInt i, .ref P, rawInt ((0 + piled (ts.take i) : Nat) : Int)], []⟩) R s := by
  have hX : (listText ts).length = (textFrom 0 "[" ts).length + 1 := by
    show (textFrom 0 "[" ts ++ "]").length = _
    rw [strLen_append]; rfl
  have hLn := textFrom_len ts 0 "["
  have hsz1 : es.length ≤ sizeLine := by
    have h1 := hLn.1
    rw [if_neg (Nat.lt_irrefl 0)] at h1
    omega
  have hsz2 : ∀ t ∈ ts, t.length ≤ sizeLine := fun t ht => by
    have h2 := hLn.2.1 t ht
    omega
  have hp3 := piled_le_listText ts
  intro k
  induction k with
  | zero =>
    intro i s hk hi I
    have hin : i = es.length := by omega
    have hLs : (upd H P (.lst ((ts.take i).map V.str))) L = some (.lst (es.map V.ref)) := by rw [upd_ne hLP]; exact hL
    obtain ⟨_, its, nL, rL, lL, eL⟩ := I.lstM hLs
    obtain ⟨_, itp, nP, rP, lP, eP⟩ := I.lstM (l := P) upd_same
    obtain ⟨done, rfl, hdone⟩ := vals_strs rP
    refine codeAny_builtin PySem.F.entry_list_repr_loop ?_
    show wpAny _ _ («list.__repr__.loop» ⟨[.ref L, .int i 0, .ref P, .int ((0 + piled (ts.take i) : Nat) : Int) 0], []⟩) _ _ s
    rw [repr_loop_tree]
    refine wpAny_bind (wpAny_listItems eL rfl ?_)
    have hnone : its.toArray[(i : Int).toNat]? = none := by
      rw [List.length_map] at lL
      simp only [Int.toNat_natCast, List.getElem?_toArray]
      exact List.getElem?_eq_none (by omega)
    simp only [hnone]
    unfold reprEnd
    refine wpAny_bind (wpAny_listItems eP rfl ?_)
    rw [show (strValues done).toArray.toList = strValues done from List.toList_toArray .., repr_fold]
    refine wpAny_bind (wpAny_pure ?_)
    have hall : done.map (·.1) = ts := by rw [hdone, hin, hlen, List.take_length]
    rw [hall]
    refine wpAny_bind (wpAny_mkStr (wpAny_pure ?_) hsz)
    rw [hin, hlen, List.take_length] at I
    exact hR _ _ (I.tok _)
  | succ k ih =>
    intro i s hk hi I
    have hlt : i < es.length := by omega
    have hLs : (upd H P (.lst ((ts.take i).map V.str))) L = some (.lst (es.map V.ref)) := by rw [upd_ne hLP]; exact hL
    obtain ⟨_, its, nL, rL, lL, eL⟩ := I.lstM hLs
    have hits := vals_refs rL
    subst hits
    obtain ⟨t, ht, ⟨dx, fs, he⟩, hsp⟩ := hT i es[i] (by simp [hlt])
    have hp1 := piled_take_succ ht
    have hp2 := piled_take_le ts (i + 1)
    refine codeAny_builtin PySem.F.entry_list_repr_loop ?_
    show wpAny _ _ («list.__repr__.loop» ⟨[.ref L, .int i 0, .ref P, .int ((0 + piled (ts.take i) : Nat) : Int) 0], []⟩) _ _ s
    rw [repr_loop_tree]
    refine wpAny_bind (wpAny_listItems eL rfl ?_)
    have hsome : (es.map Value.ref).toArray[(i : Int).toNat]? = some (.ref es[i]) := by simp [hlt]
    simp only [hsome]
    rw [Int.toNat_natCast]
    have ePne : es[i] ≠ P := fun z => by rw [z, hP] at he; cases he
    have heP : (upd H P (.lst ((ts.take i).map V.str))) es[i] = some (.ins C dx fs) := by rw [upd_ne ePne]; exact he
    obtain ⟨mA, J, _⟩ := ins_get I.hok heP
    obtain ⟨od, J, _⟩ := J.look
    have gG : ((X.A.in1).under (.builtin "list.__repr__.loop" ⟨[.ref L, .int i 0, .ref P, .int ((0 + piled (ts.take i) : Nat) : Int) 0], []⟩)).guards = some [.builtin "list.__repr__.loop" ⟨[.ref L, .int i 0, .ref P, .int ((0 + piled (ts.take i) : Nat) : Int) 0], []⟩] := guards_under_guard (isGuard_list_loop _) hgu
    have hrA := Room.loop (k := n) ((show Room (n + 2) X.A.in1 from Room.in1 hr).mono (by omega)) ⟨[.ref L, .int i 0, .ref P, .int ((0 + piled (ts.take i) : Nat) : Int) 0], []⟩
    refine wpAny_bind (wpAny_holding (wpAny_pyReprUnder_ref (by omega) (under_own hrA.units0 I.kIn J hs hf ?_)))
    refine wpAny_call (codeAny_mono ((F _).run _ X.stack s _ ⟨[.ref es[i]], []⟩ [.ref es[i]] [.ref es[i]] _ _ gG hrA (Env0.loop I.env0.in1 _) (by simpa using hb s [.ref es[i]] I.kIn rfl) (.cons rfl .nil) (hsp _ ((ts.take i).map V.str))) fun r s2 hq => ?_)
    cases r with
    | error e => exact hq.elim
    | ok fl =>
      cases fl with
      | next => exact hq.elim
      | brk => exact hq.elim
      | cont => exact hq.elim
      | ret z =>
        obtain ⟨y, H2, I2, rz, ey, eH⟩ := I.after hq
        subst ey
        subst eH
        obtain ⟨tk, rfl⟩ := rz
        refine ⟨t, tk, rfl, t, tk, rfl, ?_⟩
        refine wpAny_bind (wpAny_mkStr ?_ (hsz2 t (List.mem_of_getElem? ht)))
        refine wpAny_bind ?_
        show wpAny _ _ (updateSeq P _) _ _ _
        have I3 := I2.tok (s2.toks + 1)
        obtain ⟨zP, itp, nP, rP, lP, eP⟩ := I3.lstM (l := P) upd_same
        have lt : ((ts.take i).map V.str).length ≤ i := by rw [List.length_map, List.length_take]; omega
        have hasz : itp.toArray.size ≤ sizeLine := by rw [List.size_toArray]; omega
        refine wpAny_updateSeq eP rfl (wpAny_pure ⟨PySem.F.quiet_list_repr_loop _, ?_⟩) hasz
        have e1 : ((i : Int) + 1) = ((i + 1 : Nat) : Int) := by omega
        have e2 : 0 + piled (ts.take i) + (t.length + 2) = 0 + piled (ts.take (i + 1)) := by omega
        rw [e1, e2]
        refine ih (i + 1) _ (by omega) hlt ?_
        have ev : (ts.take (i + 1)).map V.str = (ts.take i).map V.str ++ [V.str t] := by
          rw [List.take_add_one, ht, List.map_append]
          rfl
        have I4 := I3.lset (its' := itp ++ [.str t s2.toks]) (f := fun x => x.push (.str t s2.toks)) (ys := (ts.take (i + 1)).map V.str) (t' := s2.toks + 1) upd_same eP (by simp) (by rw [ev]; exact rP.append (.cons ⟨_, rfl⟩ .nil)) (by rw [List.length_map, List.length_take]; omega)
        rw [upd_upd] at I4
        exact I4
/-- repr of a list of objects with an own __repr__ -/
def rReprL (C : Addr) (sp : List Code → Sp) : List V → Hp → VK → Prop := fun xs H Q => ∃ (L : Addr) (es : List Addr) (ts : List Str), xs = [.ref L] ∧ H L = some (.lst (es.map V.ref)) ∧ es ≠ [] ∧ es.length = ts.length ∧ (listText ts).length ≤ sizeLine ∧
  (∀ (i : Nat) (e : Addr), es[i]? = some e → ∃ t, ts[i]? = some t ∧ (∃ dx fs, H e = some (.ins C dx fs)) ∧ ∀ (P : Addr) (rest : List Value) (ys : List V), H P = none → sp [.builtin "list.__repr__.loop" ⟨.ref L :: rest, []⟩] [.ref e] (upd H P (.lst ys)) (fun v H' => v = .str t ∧ H' = upd H P (.lst ys)) (fun _ _ _ => False)) ∧
  ∀ P, H P = none → Q (.str (listText ts)) (upd H P (.lst (ts.map V.str)))
theorem call_reprL {sp : List Code → Sp} (F : ∀ g, GOkG X.prog X.w X.K X.mg X.base g n f fd ["self"] (sp g)) (hs : PySem.W.findIn X.K (.ref C) "__repr__" = some (some (.ref f))) (hf : PySem.W.isFn X.K (.ref f) = true) (hb : Binds X.K fd ["self"] [])
    (hgu : X.A.guards = some []) (hr : Room (n + 3) X.A) : CallR X (.builtin "repr") (rReprL C sp) := by
  intro pins s σ H xs us Q I r h
  obtain ⟨L, es, ts, rfl, hL, hne, hlen, hsz, hT, k⟩ := h
  cases r with
  | cons r1 r2 =>
    cases r2
    cases r1
    obtain ⟨_, its, nL, rL, lL, eL⟩ := I.lstM hL
    have hits := vals_refs rL
    subst hits
    cases es with
    | nil => exact absurd rfl hne
    | cons e es =>
      have hu := hr.units
      refine call_repr_slot (T := "list") (by omega) ⟨_, eL, rfl⟩ PySem.F.slot_list_repr.toG ?_
      refine wpAny_call (codeAny_call_builtin PySem.F.slot_list_repr.plain PySem.F.entry_list_repr (PySem.F.slot_list_repr.check _ _ _ _ _ _ _ _ ⟨_, eL, rfl⟩ (PySem.F.args_list_repr_1 _) ?_))
      have hg2 : (X.A.in1).in1.guards = some [] := hgu
      refine wpAny_list_repr_head (A := X.A.in1.in1) hg2 (fun v rest kw hm => (by cases hm)) eL rfl ?_
      refine wpAny_bind (m := newList []) (wpAny_newObj_type ?_)
      refine wpAny_pure ⟨PySem.F.quiet_list_repr_loop _, ?_⟩
      have hP : H s.heap.objs.size = none := I.hok.fresh (Nat.le_refl _)
      have I1 : Inv X pins σ (upd H s.heap.objs.size (.lst [])) { s with heap := s.heap.push ({ cls := .type "list", data := .seq #[] } : Obj) } := I.laid (t' := s.toks) (fun b u q => Heap.get?_push_of_some _ q) (Nat.le_refl _) ⟨Nat.zero_le _, [], 0, .nil, Heap.get?_push_size _ rfl⟩
      have hLP : L ≠ s.heap.objs.size := fun z => by rw [z, hP] at hL; cases hL
      exact repr_go (R := callEnd (fun r s₁ => ∃ x t, r = .str x t ∧ EP X pins σ Q r s₁) X.xe) F hs hf hb hgu hr hLP hL hP hlen hsz (fun i e he => by
        obtain ⟨t, ht, hi, q⟩ := hT i e he
        exact ⟨t, ht, hi, fun rest ys => q _ rest ys hP⟩) (fun u s' I' => ⟨_, _, rfl, .str (listText ts), _, I', ⟨u, rfl⟩, k _ hP⟩) _ 0 _ rfl (Nat.zero_le _) I1
end
theorem repr_strs {prog : Program} {w : World} {h₀ : Heap} : ∀ (done : List (Str × Tok)), (∀ z ∈ done.map (·.1), (reprText z).length ≤ sizeLine) → ReprAllK prog w [] h₀ 0 (strValues done) (PyData.shownAll ((done.map (·.1)).map PyData.str))
  | [], _ => .nil
  | (z, t) :: r, h => .cons (.of_is (.str z t (h z (List.mem_cons_self ..))) _ _ _) (repr_strs r fun y m => h y (List.mem_cons_of_mem _ m))
theorem mem_shownAll {z : Str} : ∀ {zs : List Str}, z ∈ zs → reprText z ∈ PyData.shownAll (zs.map PyData.str)
  | [], m => by cases m
  | y :: r, m => by
    rcases List.mem_cons.mp m with e | e
    · rw [e]
      exact List.mem_cons_self ..
    · exact List.mem_cons_of_mem _ (mem_shownAll e)
section
variable {X : Cx}
/-- the reprs under way are those of lists -/
def GuL (g : List Code) (H : Hp) : Prop := ∀ id v rest kw, Code.builtin id ⟨v :: rest, kw⟩ ∈ g → ∃ L us, v = .ref L ∧ H L = some (.lst us)
/-- {x!r}, x a tuple of texts, while the reprs g are under way -/
def tFmtG (K : PySem.W.Frag) (g : List Code) (te : TE) : TE := fun σ H Q => te σ H fun x H1 => ∃ (a : Addr) (zs : List Str), x = .ref a ∧ SqT K H1 a (zs.map V.str) ∧ GuL g H1 ∧ (PyData.tuple (zs.map PyData.str)).shown.length ≤ sizeLine ∧ Q (.str (PyData.tuple (zs.map PyData.str)).shown) H1
theorem pe_fmtG {e : Expr} {te : TE} {pos : Pos} {g : List Code} (hgu : X.A.guards = some g) (hu : X.A.units + 64 < cLine) (he : PE X e te) : PE X (.FormattedValue e 114 none pos) (tFmtG X.K g te) := by
  constructor
  intro pins s σ H Q I h
  refine wpAny_FormattedValue_repr (thn (he.run pins s σ H _ I h) fun v s1 hv => ?_)
  obtain ⟨x, H1, I1, r1, a, zs, rfl, hT, hc, hz, q⟩ := hv
  cases r1
  obtain ⟨its, rv, ⟨o, ho, oc, n, od⟩, _⟩ := I1.tuple hT
  have hc : Clear g a := fun id v rest kw hm => by
    obtain ⟨L, us, rfl, hL⟩ := hc id v rest kw hm
    intro e
    cases e
    obtain ⟨_, _, _, _, _, eL⟩ := I1.lstM hL
    rw [ho] at eL
    cases eL
    simp at oc
  obtain ⟨done, rfl, ed⟩ := vals_strs rv
  subst ed
  have hz' : (tupleText (PyData.shownAll ((done.map (·.1)).map PyData.str))).length ≤ sizeLine := by simpa only [PyData.shown] using hz
  have hall : ∀ z ∈ done.map (·.1), (reprText z).length ≤ sizeLine := fun z m => by
    have mm := mem_shownAll m
    exact Nat.le_trans (tupleText_mem_le mm) hz'
  refine wpAny_pyReprObj_tupleK (as := []) (d := 0) ho oc od (by simp) (repr_strs done hall) hgu (fun b hb => by rw [List.mem_singleton.mp hb]; exact hc) (by omega) (fun _ _ z => z) (fun h2 u tk keep => ?_) hz'
  have I2 := I1.kept (t' := tk) keep
  exact wpAny_formatField_str ⟨.str _, H1, I2, ⟨u, rfl⟩, q⟩ ⟨.str _, H1, I2.tok _, ⟨_, rfl⟩, q⟩ hz'
end
end SE
namespace SE
open PySem PySem.Spec PyProof.Rows L2
section
variable {P : Program} {w : World} {K : PySem.W.Frag} {mg : Str → Option Value} {base : Heap} {C : Addr}
/-! ### __repr__ while a list's repr is under way -/
def spReprG (K : PySem.W.Frag) (C : Addr) (g : List Code) : Sp := fun vs H Q _ => ∃ (e : Addr) (o : Eff), vs = [.ref e] ∧ EffV K C H e o ∧ EffOk o ∧ GuL g H ∧ Q (.str (shownE o)) H
theorem ok_reprG {f : Addr} {fd : FuncData} {g : List Code} (F : Fun K "__repr__" "Effect.__repr__" sRepr f fd) (T : EC K mg C) : GOkG P w K mg base g 1 f fd ["self"] (spReprG K C g) := by
  obtain ⟨oc, od, kV, doc, pm, an, cv, ct, osl, rfl, look, hcode⟩ := F.ex
  refine gok_ofG look hcode scRp (fun vs H Q E h => ?_) (fun A out s H vs Q E hgu hr h => ?_)
  · obtain ⟨e, o, rfl, _⟩ := h
    rfl
  · obtain ⟨e, o, rfl, h, ok, hc, k⟩ := h
    have body : ∃ t, PSs (cxOf CX0 P w K mg base ["self"] "Effect.__repr__" (defScope sRepr) f cv A out s H E).nox (defBody sRepr) t ∧ t { nx := fun _ H2 => Q .non H2, rt := Q } (start ["self"] [.ref e]) H := by
      refine ⟨_, pss_cons (ps_if (pt_cmpR op_isN (pe_fld (pv 0) rfl) pe_non (nomark _)) (pss_one (ps_ret pe_str)) pss_nil)
        (pss_one (ps_ret (pe_joined (.cons pe_str (.cons (pe_fmtG hgu hr.units (pe_fld (pv 0) rfl)) (.cons pe_str (.cons (pe_fmtG hgu hr.units (pe_fld (pv 0) rfl)) (.cons pe_str (.cons (pe_fmtR (pe_fld (pv 0) rfl)) (.cons pe_str .nil)))))))))), ?_⟩
      cases o with
      | none =>
        obtain ⟨dx, h1⟩ := NevAt.ex h
        exact ⟨_, rfl, e, C, dx, _, _, rfl, h1, T.cl, T.nN, eF_needs _ _ _, rfl, true, rfl, iteT k⟩
      | some o =>
        obtain ⟨xs, ys, p⟩ := o
        obtain ⟨dx, u, v, h1, h2, h3⟩ := EffAt.ex h
        obtain ⟨i1, i2, l1, l2, p0, p1⟩ := ok
        have n1 := nice_tuple (nice_strs i1)
        have n2 := nice_tuple (nice_strs i2)
        have z1 := n1.shownLe
        have z2 := n2.shownLe
        rw [List.length_map] at z1 z2
        have tl : (toString p : Str).length ≤ 13 := by
          have := PyData.shown_int_le (i := p) (by omega)
          exact this
        have big : ∀ m : Nat, m ≤ 400000 → m ≤ sizeLine := fun m hm => by
          rw [sizeLine_eq]
          omega
        have w0 : (Str.empty : Str).length = 0 := by decide +kernel
        have w1 : ("Effect(" : Str).length = 7 := by decide +kernel
        have w2 : (", " : Str).length = 2 := by decide +kernel
        have w3 : (", peak=" : Str).length = 7 := by decide +kernel
        have w4 : (")" : Str).length = 1 := by decide +kernel
        have lg : p.natAbs.log2 < 1920 := PySem.Flt.log2_lt_of (by decide) (Nat.lt_of_lt_of_le (show p.natAbs < 2 ^ 17 by show _ < 131072; omega) (Nat.pow_le_pow_right (by decide) (by decide)))
        refine ⟨_, rfl, e, C, dx, _, _, rfl, h1, T.cl, T.nN, eF_needs _ _ _, rfl, false, rfl, iteF ?_⟩
        refine ⟨_, rfl, big _ ?_, _, rfl, e, C, dx, _, _, rfl, h1, T.cl, T.nN, eF_needs _ _ _, u, xs, rfl, h2, hc, big _ (by omega), _, rfl, big _ ?_, _, rfl, big _ ?_, _, rfl, e, C, dx, _, _, rfl, h1, T.cl, T.nL, eF_leaves _ _ _, v, ys, rfl, h3, hc, big _ (by omega), _, rfl, big _ ?_, _, rfl, big _ ?_, _, rfl, e, C, dx, _, _, rfl, h1, T.cl, T.nH, eF_high _ _ _, .inr ⟨p, rfl, lg, _, rfl, big _ ?_, _, rfl, big _ ?_, k⟩⟩
        all_goals (simp only [len_add, w0, w1, w2, w3, w4]; omega)
    obtain ⟨t, a, b⟩ := body
    exact ⟨t, a.nox, b⟩
def ReprHasG (P : Program) (w : World) (K : PySem.W.Frag) (mg : Str → Option Value) (base : Heap) (C : Addr) : Prop := ∃ f fd, (∀ g, GOkG P w K mg base g 1 f fd ["self"] (spReprG K C g)) ∧ PySem.W.findIn K (.ref C) "__repr__" = some (some (.ref f)) ∧ PySem.W.isFn K (.ref f) = true ∧ Binds K fd ["self"] []
end
end SE
namespace SE
open PySem PySem.Spec PyProof.Rows L2
/-! ### what an effect makes of a stack -/
def replM (o : Eff) (zs : List Str) : Option (List Str) := match o with
  | none => none
  | some (xs, ys, _) => if zs.take xs.length = xs then some (ys ++ zs.drop xs.length) else none
theorem take_snoc_iff (zs x : List Str) (z : Str) : zs.take (x ++ [z]).length = x ++ [z] ↔ zs.take x.length = x ∧ (zs.drop x.length).head? = some z := by
  rw [List.length_append, List.length_singleton, List.take_add_one]
  constructor
  · intro h
    have hl := congrArg List.length h
    have h1 : zs.take x.length = x := by
      refine List.append_inj_left h ?_
      simp only [List.length_append, List.length_take, List.length_singleton] at hl ⊢
      have : (zs[x.length]?.toList).length ≤ 1 := by cases zs[x.length]? <;> simp
      omega
    refine ⟨h1, ?_⟩
    rw [h1] at h
    have := List.append_cancel_left h
    rw [List.head?_drop]
    cases e : zs[x.length]? with
    | none =>
      rw [e] at this
      cases this
    | some y =>
      rw [e] at this
      cases this
      rfl
  · rintro ⟨h1, h2⟩
    rw [List.head?_drop] at h2
    rw [h1, h2]
    rfl
theorem comp_push (x y : List Str) (p : Int) (z : Str) : ∃ q, comp (x, y, p) (partM (true, z)) = some (x, z :: y, q) := by
  refine ⟨if (y.length : Int) - (x.length : Int) + 1 > p then (y.length : Int) - (x.length : Int) + 1 else p, ?_⟩
  simp [comp, partM]
theorem comp_pop0 (x : List Str) (p : Int) (z : Str) : ∃ q, comp (x, [], p) (partM (false, z)) = some (x ++ [z], [], q) := by
  refine ⟨if ((0 : Nat) : Int) - (x.length : Int) + 0 > p then ((0 : Nat) : Int) - (x.length : Int) + 0 else p, ?_⟩
  simp [comp, partM]
theorem comp_pop (x r : List Str) (p : Int) (t z : Str) : ∃ q, comp (x, t :: r, p) (partM (false, z)) = if t = z then some (x, r, q) else none := by
  refine ⟨if ((t :: r).length : Int) - (x.length : Int) + 0 > p then ((t :: r).length : Int) - (x.length : Int) + 0 else p, ?_⟩
  have em : min (t :: r).length [z].length = 1 := by
    rw [List.length_cons, List.length_singleton]
    omega
  by_cases c : t = z
  · simp [comp, partM, em, c]
  · simp [comp, partM, em, c]
theorem repl_step (A : Prt) (s : Stp) (zs : List Str) : ((comp A (partM s)).bind fun D => replM (some D) zs) = (replM (some A) zs).bind (stepM s) := by
  obtain ⟨x, y, p⟩ := A
  obtain ⟨b, z⟩ := s
  cases b with
  | true =>
    obtain ⟨q, e⟩ := comp_push x y p z
    rw [e, Option.bind_some]
    unfold replM
    dsimp only
    split
    · rfl
    · rfl
  | false =>
    cases y with
    | nil =>
      obtain ⟨q, e0⟩ := comp_pop0 x p z
      rw [e0, Option.bind_some]
      clear e0
      unfold replM
      dsimp only
      rw [List.nil_append, List.nil_append]
      by_cases c : zs.take x.length = x
      · rw [if_pos c, Option.bind_some]
        cases e : zs.drop x.length with
        | nil =>
          rw [if_neg]
          · rfl
          · intro q
            have := ((take_snoc_iff zs x z).mp q).2
            rw [e] at this
            cases this
        | cons t r =>
          by_cases ct : t = z
          · subst ct
            rw [if_pos ((take_snoc_iff zs x t).mpr ⟨c, by rw [e]; rfl⟩)]
            have er : zs.drop (x ++ [t]).length = r := by
              rw [List.length_append, List.length_singleton, ← List.drop_drop, e]
              rfl
            rw [er]
            show some r = if t = t then some r else none
            rw [if_pos rfl]
          · rw [if_neg]
            · show none = if t = z then some r else none
              rw [if_neg ct]
            · intro q
              have := ((take_snoc_iff zs x z).mp q).2
              rw [e] at this
              exact ct (Option.some.inj this)
      · rw [if_neg c, if_neg fun q => c ((take_snoc_iff zs x z).mp q).1]
        rfl
    | cons t r =>
      obtain ⟨q, e⟩ := comp_pop x r p t z
      rw [e]
      unfold replM
      dsimp only
      by_cases ct : t = z
      · subst ct
        rw [if_pos rfl, Option.bind_some]
        dsimp only
        split
        · show some (r ++ _) = if t = t then some (r ++ _) else none
          rw [if_pos rfl]
        · rfl
      · rw [if_neg ct]
        split
        · show none = if t = z then _ else none
          rw [if_neg ct]
        · rfl
theorem joinF_run : ∀ (ss : List Stp) (A : Prt) (zs : List Str), replM (joinF A (ss.map partM)) zs = (replM (some A) zs).bind (runM ss)
  | [], A, zs => by
    show replM (some A) zs = _
    cases replM (some A) zs <;> rfl
  | s :: ss, A, zs => by
    have h := repl_step A s zs
    rw [List.map_cons]
    unfold joinF
    have e : (replM (some A) zs).bind (runM (s :: ss)) = ((replM (some A) zs).bind (stepM s)).bind (runM ss) := by
      cases replM (some A) zs with
      | none => rfl
      | some ws =>
        show (match stepM s ws with | none => none | some ws => runM ss ws) = (stepM s ws).bind (runM ss)
        cases stepM s ws <;> rfl
    rw [e, ← h]
    cases comp A (partM s) with
    | none => rfl
    | some D => exact joinF_run ss D zs
theorem repl_run (ss : List Stp) (zs : List Str) : replM (effM ss) zs = runM ss zs := by
  unfold effM joinM
  rw [joinF_run]
  show (if zs.take 0 = [] then some ([] ++ zs.drop 0) else none).bind (runM ss) = _
  rw [List.take_zero, if_pos rfl]
  rfl
/-- the peak does not tell -/
theorem replM_peak (xs ys zs : List Str) (p q : Int) : replM (some (xs, ys, p)) zs = replM (some (xs, ys, q)) zs := rfl
/-! ### words or None -/
def OW (K : PySem.W.Frag) (H : Hp) (v : V) : Option (List Str) → Prop
  | none => v = .non
  | some zs => ∃ a, v = .ref a ∧ SqT K H a (zs.map V.str)
def oD : Option (List Str) → PyData
  | none => .none
  | some zs => .tuple (zs.map .str)
def OWOk (o : Option (List Str)) : Prop := ∀ zs, o = some zs → (∀ z ∈ zs, Item z) ∧ zs.length ≤ 5000
theorem OW.same {K : PySem.W.Frag} {H H' : Hp} {v : V} : ∀ {o : Option (List Str)}, OW K H v o → Same H H' → OW K H' v o
  | none, h, _ => h
  | some _, ⟨a, e, h⟩, s => ⟨a, e, Same.tup s h⟩
theorem OW.dp {K : PySem.W.Frag} {H : Hp} {v : V} : ∀ {o : Option (List Str)}, OW K H v o → Dp K H v (oD o)
  | none, h => by
    cases h
    exact .non
  | some _, ⟨a, e, h⟩ => by
    cases e
    exact .tup h (dp_strs _)
theorem OWOk.shaped : ∀ {o : Option (List Str)}, OWOk o → SeqAt.shaped (oD o) = true
  | none, _ => rfl
  | some _, h => (nice_tuple (nice_strs (h _ rfl).1)).shaped (by decide)
theorem oD_eqv : ∀ (a b : Option (List Str)), PyData.eqv (oD a) (oD b) = decide (a = b)
  | none, none => by simp [oD, PyData.eqv]
  | none, some _ => by simp [oD, PyData.eqv]
  | some _, none => by simp [oD, PyData.eqv]
  | some a, some b => by
    show PyData.eqv (.tuple (a.map .str)) (.tuple (b.map .str)) = _
    rw [eqv_tupS]
    by_cases c : a = b <;> simp [c]
end SE
namespace SE
open PySem PySem.Spec PyProof.Rows L2
section
variable {P : Program} {w : World} {K : PySem.W.Frag} {mg : Str → Option Value} {base : Heap} {C : Addr}
/-! ### replaced -/
def spRepd (K : PySem.W.Frag) (C : Addr) : Sp := fun vs H Q _ => ∃ (e a : Addr) (o : Eff) (zs : List Str), vs = [.ref e, .ref a] ∧ EffV K C H e o ∧ EffOk o ∧ SqT K H a (zs.map V.str) ∧ (∀ z ∈ zs, Item z) ∧ zs.length ≤ 1000 ∧
  ∀ v H', Same H H' → OW K H' v (replM o zs) → Q v H'
theorem scRd : FnScope ["effect", "stack", "depth"] ["effect", "stack"] (defScope sReplaced) := ⟨rfl, rfl, rfl, by decide +kernel, rfl, by decide +kernel, by decide +kernel⟩
theorem has_repd (D : Def K mg "replaced" sReplaced) (T : EC K mg C) (B : Blt mg) (GI : PropHas P w K mg base C "is_never" 1 (spIsNev K C)) (GP : PropHas P w K mg base C "pops" 1 (spPops K C)) (GQ : PropHas P w K mg base C "pushes" 1 (spPush K C)) :
    Has P w K mg base "replaced" 3 ["effect", "stack"] [] (spRepd K C) := by
  refine has_of D scRd (fun _ _ _ _ _ _ us hl => match us, hl with | [_, _], _ => rfl) (fun xs H Q E h => ?_) (fun f cv A out s H xs Q E hr h => ?_)
  · obtain ⟨e, a, o, zs, rfl, _⟩ := h
    rfl
  · obtain ⟨e, a, o, zs, rfl, h, ok, hT, hI, hl, k⟩ := h
    have hr2 : Room 2 _ := hr.mono (by decide)
    refine ⟨_, pss_cons (ps_if (pt_val (pe_propH GI (pv 0) T.cl hr2)) (pss_one (ps_ret pe_non)) pss_nil)
      (pss_cons (ps_set (i := 2) scRd.nd rfl (.inl rfl) (pe_callB call_len_seq (by rfl) B.len PySem.boot_len (pa_cons (pe_propH GP (pv 0) T.cl hr2) pa_nil)))
      (pss_one (ps_ret (pe_ifExp (pt_cut (pt_cmpR (op_eqD hr.units) (pe_slice sl_tupS (pv 1) po_none (po_some (pv 2))) (pe_propH GP (pv 0) T.cl hr2) (nomark _))) (pe_op op_catS (pe_propH GQ (pv 0) T.cl hr2) (pe_slice sl_tupS (pv 1) (po_some (pv 2)) po_none)) pe_non)))), ?_⟩
    obtain ⟨dx, fs, hi⟩ := h.ins
    cases o with
    | none => exact ⟨_, rfl, e, dx, fs, rfl, hi, e, rfl, .inr ⟨h, true, rfl, iteT (k _ H (Same.refl H) rfl)⟩⟩
    | some Bp =>
      obtain ⟨xs, ys, p⟩ := Bp
      have hA : EffAt K C H e xs ys p := h
      obtain ⟨i1, i2, l1, l2, _⟩ := ok
      have shp : ∀ {zs : List Str}, (∀ z ∈ zs, Item z) → SeqAt.shaped (.tuple (zs.map PyData.str)) = true := fun {zs} q => (nice_tuple (nice_strs q)).shaped (by decide)
      refine ⟨_, rfl, e, dx, fs, rfl, hi, e, rfl, .inl ⟨xs, ys, p, hA, false, rfl, iteF ?_⟩⟩
      refine ⟨_, rfl, e, dx, fs, rfl, hi, e, xs, ys, p, rfl, hA, fun u hu => ⟨u, _, rfl, .inr hu, ?_⟩⟩
      rw [List.length_map]
      refine ⟨fun b H3 => b = decide (zs.take xs.length = xs) ∧ Same H H3, ?_, ?_⟩
      · refine ⟨_, rfl, _, rfl, _, rfl, a, _, rfl, hT, fun c1 H3 s3 hc1 => ?_⟩
        rw [cutF_to] at hc1
        refine ⟨_, rfl, e, dx, fs, rfl, s3 _ _ hi, e, xs, ys, p, rfl, EffAt.same hA s3, fun u2 hu2 => ?_⟩
        refine ⟨.tuple ((zs.take xs.length).map .str), .tuple (xs.map .str), .tup hc1 (dp_strs _), .tup hu2 (dp_strs _), shp (fun z m => hI z (List.mem_of_mem_take m)), shp i1, _, rfl, ?_, s3⟩
        rw [eqv_tupS]
      rintro b H3 ⟨rfl, s3⟩
      by_cases c : zs.take xs.length = xs
      · rw [decide_eq_true c]
        refine iteT ⟨_, rfl, e, dx, fs, rfl, s3 _ _ hi, e, xs, ys, p, rfl, EffAt.same hA s3, fun u1 hu1 => ⟨_, rfl, _, rfl, _, rfl, a, _, rfl, Same.tup s3 hT, fun c1 H4 s4 hc1 => ?_⟩⟩
        rw [cutF_from] at hc1
        refine ⟨u1, c1, _, _, rfl, rfl, Same.tup s4 hu1, hc1, ?_, fun u2 H5 s5 hu2 => ?_⟩
        · rw [List.length_map, List.length_map, List.length_drop, sizeLine_eq]
          omega
        · rw [← List.map_append] at hu2
          refine k _ H5 ((s3.trans s4).trans s5) ?_
          unfold replM
          dsimp only
          rw [if_pos c]
          exact ⟨u2, rfl, hu2⟩
      · rw [decide_eq_false c]
        refine iteF (k _ H3 s3 ?_)
        unfold replM
        dsimp only
        rw [if_neg c]
        rfl
end
end SE
namespace SE
open PySem PySem.Spec PyProof.Rows L2
/-! ### candidates, observations -/
abbrev Ob := List Str × Option (List Str)
def ObV (K : PySem.W.Frag) (H : Hp) (v : V) (b : Ob) : Prop := ∃ t a r, v = .ref t ∧ SqT K H t [.ref a, r] ∧ SqT K H a (b.1.map V.str) ∧ OW K H r b.2
structure ObOk (b : Ob) : Prop where
  i : ∀ z ∈ b.1, Item z
  l : b.1.length ≤ 1000
  o : OWOk b.2
theorem ObV.same {K : PySem.W.Frag} {H H' : Hp} {v : V} {b : Ob} (h : ObV K H v b) (s : Same H H') : ObV K H' v b := by
  obtain ⟨t, a, r, e, h1, h2, h3⟩ := h
  exact ⟨t, a, r, e, Same.tup s h1, Same.tup s h2, h3.same s⟩
theorem effs_same {K : PySem.W.Frag} {C : Addr} {H H' : Hp} {es : List Addr} {os : List Eff} (h : Paired (EffV K C H) es os) (s : Same H H') : Paired (EffV K C H') es os := Paired.mapP h fun _ _ q => q.same s
theorem obs_same {K : PySem.W.Frag} {H H' : Hp} {us : List V} {bs : List Ob} (h : Paired (ObV K H) us bs) (s : Same H H') : Paired (ObV K H') us bs := Paired.mapP h fun _ _ q => q.same s
section
variable {P : Program} {w : World} {K : PySem.W.Frag} {mg : Str → Option Value} {base : Heap} {C : Addr}
def spAreC (K : PySem.W.Frag) (C : Addr) : Sp := fun vs H Q _ => ∃ (L : Addr) (es : List Addr) (os : List Eff), vs = [.ref L] ∧ SqL K H L (es.map V.ref) ∧ Paired (EffV K C H) es os ∧ 1 ≤ es.length ∧ es.length ≤ 20 ∧ ∀ H', Same H H' → Q (.bl true) H'
theorem scAc : FnScope ["value", "effect"] ["value"] (defScope sAreCandidates) := ⟨rfl, rfl, rfl, by decide +kernel, rfl, by decide +kernel, by decide +kernel⟩
theorem has_areC (D : Def K mg "are_candidates" sAreCandidates) (T : EC K mg C) (TI : EI K C) (B : Blt mg) (mc : ∃ t, mg "MOST_CANDIDATES" = some (.int 20 t)) : Has P w K mg base "are_candidates" 1 ["value"] [] (spAreC K C) := by
  obtain ⟨tm, hM⟩ := mc
  refine has_of D scAc (fun _ _ _ _ _ _ us hl => match us, hl with | [_], _ => rfl) (fun xs H Q E h => ?_) (fun f cv A out s H xs Q E hr h => ?_)
  · obtain ⟨L, es, os, rfl, _⟩ := h
    rfl
  · obtain ⟨L, es, os, rfl, hL, hP, l0, l1, k⟩ := h
    refine ⟨_, pss_cons (ps_if (PW.pt (pw_or (pt_not (pt_val (pe_callB call_isi (by rfl) B.isi (by decide +kernel) (pa_cons (pv 0) (pa_cons (pe_bltn (v := .ty "list") (by rfl) B.lst (by decide +kernel) rfl) pa_nil)))))
        (pw_or1 (pt_not (pt_chain op_le op_le pe_int (pe_callB call_len_seq (by rfl) B.len PySem.boot_len (pa_cons (pv 0) pa_nil)) (pe_glob (v := .int 20) rfl hM ⟨_, rfl⟩)))))) (pss_one (ps_ret pe_bl)) pss_nil)
      (pss_one (ps_ret (pe_callB (cr_all rfl) (by rfl) B.all (by decide +kernel) (pa_cons
        (pe_lc (own := [("effect", 1)]) (g := gName 1) (tt := tYes) (te := tCB (rIsi K) (tCons (tVar 1) (tCons (tC (.ref C)) tNil))) rfl scAc.nd (pi_list (pv 0)) (blkOk_by (own := [("effect", 1)]) (N := ["value", "effect"]) (sc := defScope sAreCandidates) (by decide +kernel))
          (fun _ _ _ _ _ => pg_name (i := 1) scAc.nd rfl (.inl rfl)) (fun _ _ _ _ _ => pts_nil) (fun _ _ _ _ _ => pe_callB (id := "isinstance") call_isi (by rfl) B.isi (by decide +kernel) (pa_cons (pv 1) (pa_cons (pe_glob (v := .ref C) rfl T.mgE rfl) pa_nil)))) pa_nil)))), ?_⟩
    refine ⟨_, rfl, _, .ty "list", .type "list", .type "list", true, rfl, .ty _, ty_lst hL, kit_ty (by decide +kernel), true, rfl, iteF ?_⟩
    refine ⟨_, rfl, L, _, rfl, .inl hL, 1, _, rfl, rfl, true, ?_, iteT ⟨_, 20, rfl, rfl, true, ?_, iteF ?_⟩⟩
    · rw [List.length_map]
      exact congrArg V.bl (decide_eq_true (by omega))
    · rw [List.length_map]
      exact congrArg V.bl (decide_eq_true (by omega))
    refine ⟨_, rfl, L, rfl, ⟨_, hL⟩, fun D hD => lc_list (K := K) (a := L) (xs := es.map V.ref) (fun j H2 => H2 D = some (.lst ((List.replicate j true).map V.bl)) ∧ Same H H2) ⟨upd_same, Same.new hD⟩ (fun _ _ _ q => Same.seq q.2 hL) ?_ ?_⟩
    · rintro j x H2 hj ⟨h2, s2⟩
      rw [List.getElem?_map] at hj
      cases he : es[j]? with
      | none =>
        rw [he] at hj
        cases hj
      | some e =>
        rw [he] at hj
        cases hj
        obtain ⟨o, ho, hE⟩ := paired_at hP he
        obtain ⟨dx, fs, hi⟩ := (hE.same s2).ins
        refine ⟨rfl, yes_in ⟨_, rfl, _, .ref C, .ref C, .ref C, true, rfl, .own C, .base (.ins hi T.cl TI.ha TI.hn TI.ht TI.hm), TI.ki, _, h2, ?_, ?_, ?_⟩⟩
        · have jl := (List.getElem?_eq_some_iff.mp he).1
          rw [List.length_map, List.length_replicate]
          exact small1000 (by omega)
        · rw [upd_same, bl_snoc]
        · exact Same.free2 s2 hD
    · rintro H2 ⟨h2, s2⟩
      refine ⟨D, _, rfl, .of h2, ?_⟩
      rw [all_true]
      exact k H2 s2
def spChkC (K : PySem.W.Frag) (C : Addr) : Sp := fun vs H Q _ => ∃ (L : Addr) (es : List Addr) (os : List Eff), vs = [.ref L] ∧ SqL K H L (es.map V.ref) ∧ Paired (EffV K C H) es os ∧ 1 ≤ es.length ∧ es.length ≤ 20 ∧ ∀ H', Same H H' → Q .non H'
theorem scCc : FnScope ["candidates"] ["candidates"] (defScope sCheckCandidates) := ⟨rfl, rfl, rfl, by decide +kernel, rfl, by decide +kernel, by decide +kernel⟩
theorem has_chkC (D : Def K mg "check_candidates" sCheckCandidates) (G : Has P w K mg base "are_candidates" 1 ["value"] [] (spAreC K C)) : Has P w K mg base "check_candidates" 2 ["candidates"] [] (spChkC K C) := by
  refine has_of D scCc (fun _ _ _ _ _ _ us hl => match us, hl with | [_], _ => rfl) (fun xs H Q E h => ?_) (fun f cv A out s H xs Q E hr h => ?_)
  · obtain ⟨L, es, os, rfl, _⟩ := h
    rfl
  · obtain ⟨L, es, os, rfl, hL, hP, l0, l1, k⟩ := h
    refine ⟨_, pss_one (ps_if (pt_not (pt_val (pe_has G hr (pa_cons (pv 0) pa_nil)))) pss_never pss_nil), ?_⟩
    exact ⟨_, rfl, L, es, os, rfl, hL, hP, l0, l1, fun H1 s1 => ⟨true, rfl, iteF (k H1 s1)⟩⟩
def spIsOb (K : PySem.W.Frag) : Sp := fun vs H Q _ => ∃ (v : V) (b : Ob), vs = [v] ∧ ObV K H v b ∧ ObOk b ∧ ∀ H', Same H H' → Q (.bl true) H'
theorem scIo : FnScope ["value", "stack", "result"] ["value"] (defScope sIsObservation) := ⟨rfl, rfl, rfl, by decide +kernel, rfl, by decide +kernel, by decide +kernel⟩
theorem has_isOb (D : Def K mg "is_observation" sIsObservation) (G : Has P w K mg base "is_word" 2 ["value"] [] (spIsWord K)) (B : Blt mg) : Has P w K mg base "is_observation" 3 ["value"] [] (spIsOb K) := by
  refine has_of D scIo (fun _ _ _ _ _ _ us hl => match us, hl with | [_], _ => rfl) (fun xs H Q E h => ?_) (fun f cv A out s H xs Q E hr h => ?_)
  · obtain ⟨v, b, rfl, _⟩ := h
    rfl
  · obtain ⟨v, b, rfl, ⟨t, a, r, rfl, hT, ha, ho⟩, ok, k⟩ := h
    refine ⟨_, pss_cons (ps_if (PW.pt (pw_or (pt_not (pt_val (pe_callB call_isi (by rfl) B.isi (by decide +kernel) (pa_cons (pv 0) (pa_cons (pe_bltn (v := .ty "tuple") (by rfl) B.tup (by decide +kernel) rfl) pa_nil)))))
        (pw_or1 (pt_cmpR op_ne (pe_callB call_len_seq (by rfl) B.len PySem.boot_len (pa_cons (pv 0) pa_nil)) pe_int (nomark _))))) (pss_one (ps_ret pe_bl)) pss_nil)
      (pss_cons (ps_asg (pv 0) (pg_tup (by rfl) (pgs_cons (pg_name (i := 1) scIo.nd rfl (.inl rfl)) (pgs_cons (pg_name (i := 2) scIo.nd rfl (.inl rfl)) pgs_nil))))
      (pss_one (ps_ret (pe_and (pe_has G hr (pa_cons (pv 1) pa_nil)) (pe_one (pe_or (pe_cmpR op_isN (pv 2) pe_non (nomark _)) (pe_one (pe_has G hr (pa_cons (pv 2) pa_nil))))))))), ?_⟩
    refine ⟨_, rfl, _, .ty "tuple", .type "tuple", .type "tuple", true, rfl, .ty _, ty_tup hT, kit_ty (by decide +kernel), true, rfl, iteF ?_⟩
    refine ⟨_, rfl, t, _, rfl, .inr hT, rfl, _, rfl, iteF ?_⟩
    refine ⟨_, rfl, t, _, rfl, hT, rfl, _, _, rfl, _, _, rfl, rfl, ?_⟩
    refine ⟨_, rfl, a, b.1, rfl, ha, Nat.le_trans ok.l (by decide), ok.i, fun H1 s1 => ⟨true, rfl, iteT ?_⟩⟩
    have oko := ok.o
    generalize b.2 = o at ho oko
    cases o with
    | none =>
      cases ho
      exact ⟨_, rfl, rfl, true, rfl, iteT (k H1 s1)⟩
    | some zs =>
      obtain ⟨c, rfl, hc⟩ := ho
      obtain ⟨q1, q2⟩ := oko zs rfl
      exact ⟨_, rfl, rfl, false, rfl, iteF ⟨_, rfl, c, zs, rfl, Same.tup s1 hc, q2, q1, fun H2 s2 => k H2 (s1.trans s2)⟩⟩
def spChkO (K : PySem.W.Frag) : Sp := fun vs H Q _ => ∃ (L : Addr) (us : List V) (bs : List Ob), vs = [.ref L] ∧ SqL K H L us ∧ Paired (ObV K H) us bs ∧ (∀ b ∈ bs, ObOk b) ∧ us.length ≤ 1000 ∧ ∀ H', Same H H' → Q .non H'
theorem scCo : FnScope ["observations", "index", "observation"] ["observations"] (defScope sCheckObservations) := ⟨rfl, rfl, rfl, by decide +kernel, rfl, by decide +kernel, by decide +kernel⟩
theorem has_chkO (D : Def K mg "check_observations" sCheckObservations) (G : Has P w K mg base "is_observation" 3 ["value"] [] (spIsOb K)) (B : Blt mg) : Has P w K mg base "check_observations" 4 ["observations"] [] (spChkO K) := by
  refine has_of D scCo (fun _ _ _ _ _ _ us hl => match us, hl with | [_], _ => rfl) (fun xs H Q E h => ?_) (fun f cv A out s H xs Q E hr h => ?_)
  · obtain ⟨L, us, bs, rfl, _⟩ := h
    rfl
  · obtain ⟨a, ys, bs, rfl, hS, hV, hI, hl, k⟩ := h
    refine ⟨_, pss_cons (ps_if (pt_not (pt_val (pe_callB call_isi (by rfl) B.isi (by decide +kernel) (pa_cons (pv 0) (pa_cons (pe_bltn (v := .ty "list") (by rfl) B.lst (by decide +kernel) rfl) pa_nil))))) pss_never pss_nil)
        (pss_one (ps_for PassesOwn.never rfl (pi_enum (by rfl) B.enu (pa_cons (pv 0) pa_nil)) (pg_tup (by rfl) (pgs_cons (pg_name (i := 1) scCo.nd rfl (.inl rfl)) (pgs_cons (pg_name (i := 2) scCo.nd rfl (.inl rfl)) pgs_nil)))
          (pss_one (ps_if (pt_not (pt_val (pe_has G hr (pa_cons (pv 2) pa_nil)))) pss_never pss_nil)))), ?_⟩
    refine ⟨_, rfl, _, .ty "list", .type "list", .type "list", true, rfl, .ty _, ty_lst hS, kit_ty (by decide +kernel), true, rfl, iteF ?_⟩
    refine ⟨_, rfl, a, ys, rfl, hS, for_it (walk_enum (K := K) (a := a) (xs := ys)) (fun i σ H2 => ∃ y1 y2, σ = [some (.ref a), y1, y2] ∧ Same H H2) ⟨none, none, rfl, Same.refl H⟩ (fun i σ H2 _ q => ?_) ?_ ?_⟩
    · obtain ⟨_, _, _, s2⟩ := q
      exact Same.seq s2 hS
    · rintro i x σ H2 H3 hi ⟨y1, y2, rfl, s2⟩ ⟨T, p, y, rfl, nT, rfl, hp, hy⟩
      refine ⟨T, _, rfl, .of upd_same, rfl, _, _, rfl, _, _, rfl, rfl, ?_⟩
      have s3 : Same H (upd H2 T (.tup [p, y])) := Same.free2 s2 (s2.free nT)
      obtain ⟨b, h1, h2⟩ := paired_at hV hy
      exact ⟨_, rfl, y, b, rfl, h2.same s3, hI b (List.mem_of_getElem? h1), fun H4 s4 => ⟨true, rfl, iteF ⟨_, _, rfl, s3.trans s4⟩⟩⟩
    · rintro σ H2 ⟨y1, y2, rfl, s2⟩
      exact k H2 s2
end
end SE
namespace SE
open PySem PySem.Spec PyProof.Rows L2
def givM (o : Eff) (bs : List Ob) : Bool := bs.all fun b => decide (replM o b.1 = b.2)
def posM (os : List Eff) (bs : List Ob) (n : Nat) : List Nat := (List.range n).filter fun i => givM (os.getD i none) bs
theorem posM_succ (os : List Eff) (bs : List Ob) (n : Nat) : posM os bs (n + 1) = if givM (os.getD n none) bs = true then posM os bs n ++ [n] else posM os bs n := by
  unfold posM
  rw [List.range_succ, List.filter_append]
  by_cases c : givM (os.getD n none) bs = true
  · rw [if_pos c, List.filter_cons_of_pos (p := fun i => givM (os.getD i none) bs) c]
    rfl
  · rw [if_neg c, List.filter_cons_of_neg (p := fun i => givM (os.getD i none) bs) c]
    exact List.append_nil _
theorem posM_len (os : List Eff) (bs : List Ob) (n : Nat) : (posM os bs n).length ≤ n := by
  have := List.length_filter_le (fun i => givM (os.getD i none) bs) (List.range n)
  rw [List.length_range] at this
  exact this
def nV (n : Nat) : V := .int (n : Int)
theorem replM_ok {o : Eff} {zs : List Str} (h : EffOk o) (hI : ∀ z ∈ zs, Item z) (hl : zs.length ≤ 1000) : OWOk (replM o zs) := by
  intro ws e
  cases o with
  | none => cases e
  | some B =>
    obtain ⟨xs, ys, p⟩ := B
    obtain ⟨i1, i2, l1, l2, _⟩ := h
    unfold replM at e
    dsimp only at e
    split at e
    · cases e
      refine ⟨fun z m => ?_, ?_⟩
      · rcases List.mem_append.mp m with q | q
        · exact i2 z q
        · exact hI z (List.mem_of_mem_drop q)
      · rw [List.length_append, List.length_drop]
        omega
    · cases e
section
variable {P : Program} {w : World} {K : PySem.W.Frag} {mg : Str → Option Value} {base : Heap} {C : Addr}
/-! ### gives_all -/
def spGiv (K : PySem.W.Frag) (C : Addr) : Sp := fun vs H Q _ => ∃ (e L : Addr) (o : Eff) (us : List V) (bs : List Ob), vs = [.ref e, .ref L] ∧ EffV K C H e o ∧ EffOk o ∧ SqL K H L us ∧ Paired (ObV K H) us bs ∧ (∀ b ∈ bs, ObOk b) ∧ us.length ≤ 1000 ∧
  ∀ H', Same H H' → Q (.bl (givM o bs)) H'
theorem scGi : FnScope ["effect", "observations", "stack", "result"] ["effect", "observations"] (defScope sGivesAll) := ⟨rfl, rfl, rfl, by decide +kernel, rfl, by decide +kernel, by decide +kernel⟩
theorem has_giv (D : Def K mg "gives_all" sGivesAll) (G : Has P w K mg base "replaced" 3 ["effect", "stack"] [] (spRepd K C)) (B : Blt mg) : Has P w K mg base "gives_all" 4 ["effect", "observations"] [] (spGiv K C) := by
  refine has_of D scGi (fun _ _ _ _ _ _ us hl => match us, hl with | [_, _], _ => rfl) (fun xs H Q E h => ?_) (fun f cv A out s H xs Q E hr h => ?_)
  · obtain ⟨e, L, o, us, bs, rfl, _⟩ := h
    rfl
  · obtain ⟨e, L, o, us, bs, rfl, hE, oE, hL, hP, hI, hl, k⟩ := h
    refine ⟨_, pss_one (ps_ret (pe_callB (cr_all rfl) (by rfl) B.all (by decide +kernel) (pa_cons
        (pe_lc (own := [("stack", 2), ("result", 3)]) (g := gTup K 2 (gCons (gName 2) (gCons (gName 3) gNil))) (tt := tYes) (te := tOp (rEqD K) (tCall (spRepd K C) [] E0 (tCons (tVar 0) (tCons (tVar 2) tNil))) (tVar 3)) rfl scGi.nd (pi_list (pv 1)) (blkOk_by (own := [("stack", 2), ("result", 3)]) (N := ["effect", "observations", "stack", "result"]) (sc := defScope sGivesAll) (by decide +kernel))
          (fun _ _ _ _ _ => pg_tup (by rfl) (pgs_cons (pg_name (i := 2) scGi.nd rfl (.inl rfl)) (pgs_cons (pg_name (i := 3) scGi.nd rfl (.inl rfl)) pgs_nil))) (fun _ _ _ _ _ => pts_nil) (fun _ _ _ _ _ => pe_cmpR (op_eqD hr.units) (pe_has G hr (pa_cons (pv 0) (pa_cons (pv 2) pa_nil))) (pv 3) (nomark _))) pa_nil))), ?_⟩
    refine ⟨_, rfl, L, rfl, ⟨_, hL⟩, fun D hD => lc_list (K := K) (a := L) (xs := us) (fun j H2 => H2 D = some (.lst (((bs.take j).map fun b => decide (replM o b.1 = b.2)).map V.bl)) ∧ Same H H2) ⟨upd_same, Same.new hD⟩ (fun _ _ _ q => Same.seq q.2 hL) ?_ ?_⟩
    · rintro j x H2 hj ⟨h2, s2⟩
      obtain ⟨b, hb, t, a, r, rfl, q1, q2, q3⟩ := paired_at hP hj
      have ob := hI b (List.mem_of_getElem? hb)
      refine ⟨t, _, rfl, Same.tup s2 q1, rfl, _, _, rfl, _, _, rfl, rfl, ?_⟩
      refine ⟨rfl, yes_in ⟨_, rfl, _, rfl, e, a, o, b.1, rfl, hE.same s2, oE, Same.tup s2 q2, ob.i, ob.l, fun v H3 s3 hv => ?_⟩⟩
      refine ⟨_, rfl, oD (replM o b.1), oD b.2, hv.dp, ((q3.same s2).same s3).dp, (replM_ok oE ob.i ob.l).shaped, ob.o.shaped, _, s3 _ _ h2, ?_, ?_, ?_⟩
      · have jl := (List.getElem?_eq_some_iff.mp hj).1
        rw [List.length_map, List.length_map, List.length_take]
        exact small1000 (by omega)
      · rw [upd_same, oD_eqv, List.take_add_one, hb, List.map_append, List.map_append]
        rfl
      · exact Same.free2 (s2.trans s3) hD
    · rintro H2 ⟨h2, s2⟩
      rw [paired_len hP, List.take_length] at h2
      refine ⟨D, _, rfl, .of h2, ?_⟩
      have e1 : (bs.map fun b => decide (replM o b.1 = b.2)).all id = givM o bs := by
        unfold givM
        rw [List.all_map]
        rfl
      rw [e1]
      exact k H2 s2
/-! ### possible -/
def spPoss (K : PySem.W.Frag) (C : Addr) : Sp := fun vs H Q _ => ∃ (M L : Addr) (es : List Addr) (os : List Eff) (us : List V) (bs : List Ob), vs = [.ref M, .ref L] ∧ SqL K H M (es.map V.ref) ∧ Paired (EffV K C H) es os ∧ (∀ o ∈ os, EffOk o) ∧ 1 ≤ es.length ∧ es.length ≤ 20 ∧ SqL K H L us ∧ Paired (ObV K H) us bs ∧ (∀ b ∈ bs, ObOk b) ∧ us.length ≤ 1000 ∧
  ∀ (l : Addr) (H' : Hp), Same H H' → H l = none → H' l = some (.lst ((posM os bs os.length).map nV)) → Q (.ref l) H'
theorem scPs : FnScope ["candidates", "observations", "index", "effect"] ["candidates", "observations"] (defScope sPossible) := ⟨rfl, rfl, rfl, by decide +kernel, rfl, by decide +kernel, by decide +kernel⟩
theorem has_poss (D : Def K mg "possible" sPossible) (GC : Has P w K mg base "check_candidates" 2 ["candidates"] [] (spChkC K C)) (GO : Has P w K mg base "check_observations" 4 ["observations"] [] (spChkO K)) (GG : Has P w K mg base "gives_all" 4 ["effect", "observations"] [] (spGiv K C)) (B : Blt mg) : Has P w K mg base "possible" 5 ["candidates", "observations"] [] (spPoss K C) := by
  refine has_of D scPs (fun _ _ _ _ _ _ us hl => match us, hl with | [_, _], _ => rfl) (fun xs H Q E h => ?_) (fun f cv A out s H xs Q E hr h => ?_)
  · obtain ⟨M, L, es, os, us, bs, rfl, _⟩ := h
    rfl
  · obtain ⟨M, L, es, os, us, bs, rfl, hM, hE, oE, l0, l1, hL, hP, hI, hl, k⟩ := h
    have hr2 : Room 2 _ := hr.mono (by decide)
    refine ⟨_, pss_cons (ps_expr (pe_has GC hr2 (pa_cons (pv 0) pa_nil))) (pss_cons (ps_expr (pe_has GO hr (pa_cons (pv 1) pa_nil)))
      (pss_one (ps_ret (pe_lc (own := [("index", 2), ("effect", 3)]) (g := gTup K 2 (gCons (gName 2) (gCons (gName 3) gNil))) (tt := tB (tCall (spGiv K C) [] E0 (tCons (tVar 3) (tCons (tVar 1) tNil)))) (te := tVar 2) rfl scPs.nd (pi_enum (by rfl) B.enu (pa_cons (pv 0) pa_nil)) (blkOk_by (own := [("index", 2), ("effect", 3)]) (N := ["candidates", "observations", "index", "effect"]) (sc := defScope sPossible) (by decide +kernel))
          (fun _ _ _ _ _ => pg_tup (by rfl) (pgs_cons (pg_name (i := 2) scPs.nd rfl (.inl rfl)) (pgs_cons (pg_name (i := 3) scPs.nd rfl (.inl rfl)) pgs_nil))) (fun _ _ _ _ _ => pts_one (pt_val (pe_has GG hr (pa_cons (pv 3) (pa_cons (pv 1) pa_nil))))) (fun _ _ _ _ _ => pv 2))))), ?_⟩
    refine ⟨_, rfl, M, es, os, rfl, hM, hE, l0, l1, fun H1 s1 => ⟨_, rfl, L, us, bs, rfl, Same.seq s1 hL, obs_same hP s1, hI, hl, fun H2 s2' => ?_⟩⟩
    have s2 := s1.trans s2'
    have hln := paired_len hE
    refine ⟨_, rfl, M, es.map V.ref, rfl, Same.seq s2 hM, fun D hD => lc_it (walk_enum (K := K) (a := M) (xs := es.map V.ref)) (fun j H3 => H3 D = some (.lst ((posM os bs j).map nV)) ∧ Same H2 H3) ⟨upd_same, Same.new hD⟩ (fun _ _ _ q => Same.seq (s2.trans q.2) hM) ?_ ?_⟩
    · rintro j x H3 H4 hj ⟨h3, s3⟩ ⟨T, p, y, rfl, nT, rfl, hp, hy⟩
      have hp := Option.some.inj hp
      subst hp
      dsimp only at hy
      rw [List.getElem?_map] at hy
      cases he : es[j]? with
      | none =>
        rw [he] at hy
        cases hy
      | some e =>
        rw [he] at hy
        have hy := Option.some.inj hy
        subst hy
        obtain ⟨o, ho, hV⟩ := paired_at hE he
        have s4 : Same H3 (upd H3 T (.tup [.int (j : Nat), .ref e])) := Same.new nT
        have s24 := (s2.trans s3).trans s4
        have eo : os.getD j none = o := by
          rw [List.getD_eq_getElem?_getD, ho]
          rfl
        refine ⟨T, _, rfl, .of upd_same, rfl, _, _, rfl, _, _, rfl, rfl, ?_⟩
        refine ⟨rfl, _, rfl, _, rfl, e, L, o, us, bs, rfl, hV.same s24, oE o (List.mem_of_getElem? ho), Same.seq s24 hL, obs_same hP s24, hI, hl, fun H5 s5 => ⟨_, rfl, ?_⟩⟩
        have h5 := (s4.trans s5) _ _ h3
        cases c : givM o bs with
        | true =>
          refine iteT ⟨_, rfl, _, h5, ?_, ?_, ?_⟩
          · have := posM_len os bs j
            have jl := (List.getElem?_eq_some_iff.mp he).1
            rw [List.length_map]
            exact small1000 (by omega)
          · rw [upd_same, posM_succ, eo, if_pos c, List.map_append]
            rfl
          · exact Same.free2 ((s3.trans s4).trans s5) hD
        | false =>
          refine iteF ⟨?_, (s3.trans s4).trans s5⟩
          rw [h5, posM_succ, eo, c]
          rfl
    · rintro H3 ⟨h3, s3⟩
      rw [List.length_map, hln] at h3
      exact k D H3 (s2.trans s3) (s2.free hD) h3
end
end SE
/-! repr of lists that hold objects with an own __repr__, texts, numbers, tuples and further lists. -/
namespace SE
open PySem PySem.Spec PyProof.Rows L2
/-! ### data without lists: what its repr asks of stands in tuples -/
mutual
def noLst : PyData → Bool
  | .none | .bool _ | .int _ | .str _ => true
  | .tuple xs => noLstAll xs
  | .list _ | .dict _ => false
def noLstAll : List PyData → Bool
  | [] => true
  | x :: xs => noLst x && noLstAll xs
end
def TupsAt (h : Heap) (bs : List Addr) : Prop := ∀ b ∈ bs, ∃ o, h.get? b = some o ∧ o.cls = .type "tuple"
section
variable {prog : Program} {w : World} {h₀ : Heap}
mutual
theorem reprK_t : ∀ {v : Value} {d : PyData} {as : List Addr}, Reads h₀ v d as → d.showable = true → noLst d = true → d.shown.length ≤ sizeLine → ∃ bs, ReadAtMost h₀ d.depth bs ∧ TupsAt h₀ bs ∧ ReprK prog w bs h₀ d.depth v d.shown
  | _, _, _, .none, _, _, _ => ⟨[], (fun _ h => nomatch h), (fun _ h => nomatch h), by simp only [PyData.shown]; exact .of_is ReprIs.none _ _ _⟩
  | _, _, _, .bool b, _, _, _ => ⟨[], (fun _ h => nomatch h), (fun _ h => nomatch h), by simp only [PyData.shown]; exact .of_is (ReprIs.bool b) _ _ _⟩
  | _, _, _, .int i t, hs, _, _ => ⟨[], (fun _ h => nomatch h), (fun _ h => nomatch h), by simp only [PyData.shown]; exact .of_is (ReprIs.int t (by simpa [PyData.showable] using hs)) _ _ _⟩
  | _, _, _, .str x t, _, _, hz => ⟨[], (fun _ h => nomatch h), (fun _ h => nomatch h), by simp only [PyData.shown]; exact .of_is (ReprIs.str x t (by simpa only [PyData.shown] using hz)) _ _ _⟩
  | _, _, _, .list _ _ _ _, _, hn, _ => by simp [noLst] at hn
  | _, _, _, .tuple (a := a) (xs := xs) h1 h2 h3 h4, hs, hn, hz => by
    have hz' : (tupleText (PyData.shownAll xs)).length ≤ sizeLine := by simpa only [PyData.shown] using hz
    obtain ⟨bs, hb, ht, hk⟩ := reprAll_t h4 (by simpa [PyData.showable] using hs) (by simpa [noLst] using hn) (fun t ht => Nat.le_trans (tupleText_mem_le ht) hz')
    have r : Reads h₀ (.ref a) (.tuple xs) _ := .tuple h1 h2 h3 h4
    have hna : a ∉ bs := not_mem_of_deeper r (by simp only [PyData.depth]; omega) hb
    refine ⟨a :: bs, ReadAtMost.cons r (by simp only [PyData.depth]; omega) hb, fun b m => ?_, ?_⟩
    · rcases List.mem_cons.mp m with e | m
      · exact e ▸ ⟨_, h1, h2⟩
      · exact ht b m
    · simp only [PyData.depth, PyData.shown]
      exact ReprK.tuple h1 h2 h3 hna hk
  | _, _, _, .dict _ _ _ _ _, _, hn, _ => by simp [noLst] at hn
theorem reprAll_t : ∀ {vs : List Value} {ds : List PyData} {as : List Addr}, ReadsAll h₀ vs ds as → PyData.showableAll ds = true → noLstAll ds = true → (∀ t ∈ PyData.shownAll ds, t.length ≤ sizeLine) →
    ∃ bs, ReadAtMost h₀ (PyData.depthAll ds) bs ∧ TupsAt h₀ bs ∧ ReprAllK prog w bs h₀ (PyData.depthAll ds) vs (PyData.shownAll ds)
  | _, _, _, .nil, _, _, _ => ⟨[], (fun _ h => nomatch h), (fun _ h => nomatch h), by simp only [PyData.shownAll]; exact .nil⟩
  | _, _, _, .cons (d := d) (ds := ds) r rs, hs, hn, hz => by
    have hs' : d.showable = true ∧ PyData.showableAll ds = true := by simpa [PyData.showableAll] using hs
    have hn' : noLst d = true ∧ noLstAll ds = true := by simpa [noLstAll] using hn
    obtain ⟨b1, hb1, t1, k1⟩ := reprK_t r hs'.1 hn'.1 (hz _ (by simp only [PyData.shownAll]; exact List.mem_cons_self ..))
    obtain ⟨b2, hb2, t2, k2⟩ := reprAll_t rs hs'.2 hn'.2 (fun t ht => hz t (by simp only [PyData.shownAll]; exact List.mem_cons_of_mem _ ht))
    refine ⟨b1 ++ b2, ?_, fun b m => ?_, ?_⟩
    · simp only [PyData.depthAll]
      exact (hb1.mono (Nat.le_max_left _ _)).append (hb2.mono (Nat.le_max_right _ _))
    · rcases List.mem_append.mp m with m | m
      · exact t1 b m
      · exact t2 b m
    · simp only [PyData.depthAll, PyData.shownAll]
      exact .cons ((k1.more fun b hb => List.mem_append_left _ hb).level_le (Nat.le_max_left _ _)) (k2.more_le (fun b hb => List.mem_append_right _ hb) (Nat.le_max_right _ _))
end
end
/-! ### a value's repr while the reprs g are under way -/
def EnvTo (X : Cx) (A : Around) : Prop := ∀ (s : Shared) (H : Hp), Env0 X.prog X.w X.K X.mg X.base X.A X.stack s H → Env0 X.prog X.w X.K X.mg X.base A X.stack s H
structure RU (X : Cx) (g : List Code) (n : Nat) (v : V) (t : Str) (H : Hp) : Prop where
  run : ∀ {A : Around} {pins : List (Addr × Obj)} {σ : L2.St} {H' : Hp} {s : Shared} {u : Value} {b : Nat} {E : Value → Shared → Prop} {Q : Str → Shared → Prop}, A.guards = some g → Room n A → EnvTo X A → Same H H' → Inv X pins σ H' s → RelV v u → b + t.length ≤ sizeLine →
    (∀ H'' s', Same H' H'' → Inv X pins σ H'' s' → Q t s') → wpAny (model X.prog X.w) A (pyReprUnder b u) Q E s
section
variable {X : Cx} {g : List Code} {n : Nat} {H : Hp}
theorem RU.mono {v : V} {t : Str} {m : Nat} (h : RU X g n v t H) (hm : n ≤ m) : RU X g m v t H := ⟨fun hg hr he s I r hb k => h.run hg (hr.mono hm) he s I r hb k⟩
theorem RU.same {v : V} {t : Str} {H1 : Hp} (h : RU X g n v t H) (s1 : Same H H1) : RU X g n v t H1 := ⟨fun hg hr he s I r hb k => h.run hg hr he (Same.trans s1 s) I r hb k⟩
theorem GuL.same {H' : Hp} (h : GuL g H) (s : Same H H') : GuL g H' := fun id v rest kw m => by
  obtain ⟨L, us, e, hL⟩ := h id v rest kw m
  exact ⟨L, us, e, s _ _ hL⟩
theorem GuL.nil : GuL [] H := fun _ _ _ _ m => by cases m
theorem GuL.cons {id : String} {L : Addr} {us : List V} {rest : List Value} {kw : List (Str × Value)} (h : GuL g H) (hL : H L = some (.lst us)) : GuL (.builtin id ⟨.ref L :: rest, kw⟩ :: g) H := fun id' v rest' kw' m => by
  rcases List.mem_cons.mp m with e | m
  · cases e
    exact ⟨L, us, rfl, hL⟩
  · exact h _ _ _ _ m
/-- data without lists -/
theorem ru_dp {v : V} {d : PyData} (hD : ∀ H', Same H H' → Dp X.K H' v d) (hs : d.showable = true) (hn : noLst d = true) (hdep : d.depth ≤ 20) (hG : GuL g H) : RU X g n v d.shown H := by
  constructor
  intro A pins σ H' s u b E Q hg hr he sm I r hb k
  obtain ⟨as, rd⟩ := Dp.reads I d v u (hD H' sm) r
  obtain ⟨bs, _, ht, hk⟩ := reprK_t (prog := X.prog) (w := X.w) rd hs hn (by omega)
  have un := hr.un
  refine hk b hb A g E s Q hg (fun c hc => ?_) (by omega) (fun _ _ z => z) (fun h' tk keep => k H' _ (fun _ _ z => z) (I.kept (t' := tk) keep))
  obtain ⟨o, ho, oc⟩ := ht c hc
  intro id v rest kw hm
  obtain ⟨L, us, rfl, hL⟩ := (hG.same sm) id v rest kw hm
  intro e
  cases e
  obtain ⟨_, _, _, _, _, eL⟩ := I.lstM hL
  rw [ho] at eL
  cases eL
  simp at oc
/-- an object with an own __repr__ -/
theorem ru_own {C f e : Addr} {fd : FuncData} {sp : List Code → Sp} {t : Str} (F : GOkG X.prog X.w X.K X.mg X.base g n f fd ["self"] (sp g)) (hs : PySem.W.findIn X.K (.ref C) "__repr__" = some (some (.ref f))) (hf : PySem.W.isFn X.K (.ref f) = true) (hb : Binds X.K fd ["self"] [])
    (hi : ∃ dx fs, H e = some (.ins C dx fs)) (hsp : ∀ H', Same H H' → sp g [.ref e] H' (fun v H'' => v = .str t ∧ Same H' H'') (fun _ _ _ => False)) : RU X g n (.ref e) t H := by
  constructor
  intro A pins σ H' s u b E Q hg hr he sm I r hb2 k
  cases r
  obtain ⟨dx, fs, hi⟩ := hi
  obtain ⟨mA, J, _⟩ := ins_get I.hok (sm _ _ hi)
  obtain ⟨od, J, _⟩ := J.look
  refine wpAny_pyReprUnder_ref (by omega) (under_own hr.units0 I.kIn J hs hf ?_)
  refine wpAny_call (codeAny_mono (F.run A X.stack s H' ⟨[.ref e], []⟩ [.ref e] [.ref e] _ _ hg hr (he _ _ I.env0) (by simpa using hb s [.ref e] I.kIn rfl) (.cons rfl .nil) (hsp H' sm)) fun r s2 hq => ?_)
  cases r with
  | error e => exact hq.elim
  | ok fl =>
    cases fl with
    | next => exact hq.elim
    | brk => exact hq.elim
    | cont => exact hq.elim
    | ret z =>
      obtain ⟨y, H2, I2, rz, ey, eH⟩ := I.after hq
      subst ey
      obtain ⟨tk, rfl⟩ := rz
      exact ⟨t, tk, rfl, t, tk, rfl, k H2 s2 eH I2⟩
open Builtin Builtin.List in
theorem ru_loop {A : Around} {pins : List (Addr × Obj)} {σ : L2.St} {R : Result → Shared → Prop} {L P : Addr} {vs : List V} {ts : List Str} {base : Nat} (hg : A.guards = some g) (hr : Room (n + 1) A) (he : EnvTo X A) (hLP : L ≠ P) (hL : H L = some (.lst vs)) (hP : H P = none) (hlen : vs.length = ts.length)
    (hsz : base + (listText ts).length ≤ sizeLine) (hT : ∀ (i : Nat) (v : V), vs[i]? = some v → ∃ t, ts[i]? = some t ∧ ∀ rest, RU X (.builtin "list.__repr__.loop" ⟨.ref L :: rest, []⟩ :: g) n v t H)
    (hR : ∀ H' u s', Same H H' → Inv X pins σ H' s' → R (.ok (.ret (.str (listText ts) u))) s') :
    ∀ (k i : Nat) (s : Shared) (Hc : Hp), vs.length - i = k → i ≤ vs.length → Same H Hc → Hc P = some (.lst ((ts.take i).map V.str)) → Inv X pins σ Hc s →
    codeAny (model X.prog X.w) A (.builtin "list.__repr__.loop" ⟨[.ref L, rawInt i, .ref P, rawInt ((base + piled (ts.take i) : Nat) : Int)], []⟩) R s := by
  have hX : (listText ts).length = (textFrom 0 "[" ts).length + 1 := by
    show (textFrom 0 "[" ts ++ "]").length = _
    rw [strLen_append]; rfl
  have hLn := textFrom_len ts 0 "["
  have hsz1 : vs.length ≤ sizeLine := by
    have h1 := hLn.1
    rw [if_neg (Nat.lt_irrefl 0)] at h1
    omega
  have hsz2 : ∀ t ∈ ts, t.length ≤ sizeLine := fun t ht => by
    have h2 := hLn.2.1 t ht
    omega
  have hp3 := piled_le_listText ts
  have hsz3 : (listText ts).length ≤ sizeLine := by omega
  intro k
  induction k with
  | zero =>
    intro i s Hc hk hi sm hPc I
    have hin : i = vs.length := by omega
    obtain ⟨_, its, nL, rL, lL, eL⟩ := I.lstM (sm _ _ hL)
    obtain ⟨_, itp, nP, rP, lP, eP⟩ := I.lstM hPc
    obtain ⟨done, rfl, hdone⟩ := vals_strs rP
    refine codeAny_builtin PySem.F.entry_list_repr_loop ?_
    show wpAny _ _ («list.__repr__.loop» ⟨[.ref L, .int i 0, .ref P, .int ((base + piled (ts.take i) : Nat) : Int) 0], []⟩) _ _ s
    rw [repr_loop_tree]
    refine wpAny_bind (wpAny_listItems eL rfl ?_)
    have hnone : its.toArray[(i : Int).toNat]? = none := by
      simp only [Int.toNat_natCast, List.getElem?_toArray]
      exact List.getElem?_eq_none (by omega)
    simp only [hnone]
    unfold reprEnd
    refine wpAny_bind (wpAny_listItems eP rfl ?_)
    rw [show (strValues done).toArray.toList = strValues done from List.toList_toArray .., repr_fold]
    refine wpAny_bind (wpAny_pure ?_)
    have hall : done.map (·.1) = ts := by rw [hdone, hin, hlen, List.take_length]
    rw [hall]
    refine wpAny_bind (wpAny_mkStr (wpAny_pure ?_) hsz3)
    exact hR Hc _ _ sm (I.tok _)
  | succ k ih =>
    intro i s Hc hk hi sm hPc I
    have hlt : i < vs.length := by omega
    obtain ⟨_, its, nL, rL, lL, eL⟩ := I.lstM (sm _ _ hL)
    obtain ⟨t, ht, hru⟩ := hT i vs[i] (by simp [hlt])
    obtain ⟨u, hu, ru⟩ := rL.get (i := i) (x := vs[i]) (by simp [hlt])
    have hp1 := piled_take_succ ht
    have hp2 := piled_take_le ts (i + 1)
    refine codeAny_builtin PySem.F.entry_list_repr_loop ?_
    show wpAny _ _ («list.__repr__.loop» ⟨[.ref L, .int i 0, .ref P, .int ((base + piled (ts.take i) : Nat) : Int) 0], []⟩) _ _ s
    rw [repr_loop_tree]
    refine wpAny_bind (wpAny_listItems eL rfl ?_)
    have hsome : its.toArray[(i : Int).toNat]? = some u := by simpa using hu
    simp only [hsome]
    rw [Int.toNat_natCast]
    refine wpAny_bind (wpAny_holding ((hru _).run (guards_under_guard (isGuard_list_loop _) hg) (Room.loop hr _) (fun s' H' e => Env0.loop (he s' H' e) _) sm I ru (by omega) fun H2 s2 sm2 I2 => ?_))
    refine wpAny_bind (wpAny_mkStr ?_ (hsz2 t (List.mem_of_getElem? ht)))
    refine wpAny_bind ?_
    show wpAny _ _ (updateSeq P _) _ _ _
    have I3 := I2.tok (s2.toks + 1)
    have hP2 := sm2 _ _ hPc
    obtain ⟨zP, itp, nP, rP, lP, eP⟩ := I3.lstM hP2
    have lt : ((ts.take i).map V.str).length ≤ i := by rw [List.length_map, List.length_take]; omega
    have hasz : itp.toArray.size ≤ sizeLine := by rw [List.size_toArray]; omega
    refine wpAny_updateSeq eP rfl (wpAny_pure ⟨PySem.F.quiet_list_repr_loop _, ?_⟩) hasz
    have e1 : ((i : Int) + 1) = ((i + 1 : Nat) : Int) := by omega
    have e2 : base + piled (ts.take i) + (t.length + 2) = base + piled (ts.take (i + 1)) := by omega
    rw [e1, e2]
    have ev : (ts.take (i + 1)).map V.str = (ts.take i).map V.str ++ [V.str t] := by
      rw [List.take_add_one, ht, List.map_append]
      rfl
    have I4 := I3.lset (its' := itp ++ [.str t s2.toks]) (f := fun x => x.push (.str t s2.toks)) (ys := (ts.take (i + 1)).map V.str) (t' := s2.toks + 1) hP2 eP (by simp) (by rw [ev]; exact rP.append (.cons ⟨_, rfl⟩ .nil)) (by rw [List.length_map, List.length_take]; omega)
    exact ih (i + 1) _ _ (by omega) hlt (Same.free2 (Same.trans sm sm2) hP) upd_same I4
open Builtin Builtin.List in
theorem listAt {A : Around} {pins : List (Addr × Obj)} {σ : L2.St} {R : Result → Shared → Prop} {L : Addr} {v : V} {vs : List V} {ts : List Str} {base : Nat} {s : Shared} (hg : A.guards = some g) (hr : Room (n + 1) A) (he : EnvTo X A) (hL : H L = some (.lst (v :: vs))) (hc : Clear g L) (hlen : (v :: vs).length = ts.length)
    (hsz : base + (listText ts).length ≤ sizeLine) (hT : ∀ (i : Nat) (y : V), (v :: vs)[i]? = some y → ∃ t, ts[i]? = some t ∧ ∀ rest, RU X (.builtin "list.__repr__.loop" ⟨.ref L :: rest, []⟩ :: g) n y t H) (I : Inv X pins σ H s)
    (hR : ∀ H' u s', Same H H' → Inv X pins σ H' s' → R (.ok (.ret (.str (listText ts) u))) s') :
    wpAny (model X.prog X.w) A.in1 (Builtin.listReprAt base ⟨[.ref L], []⟩) (fun fin s' => match fin with | .done f => R (.ok f) s' | .again c' => c'.quiet = true ∧ codeAny (model X.prog X.w) A c' R s') (fun e s' => R (.error e) s') s := by
  obtain ⟨_, its, nL, rL, lL, eL⟩ := I.lstM hL
  cases its with
  | nil => simp at lL
  | cons u us =>
    refine wpAny_list_repr_head (A := A.in1) hg (fun v rest kw hm => listSameRef_of_ne (hc _ _ _ _ hm)) eL rfl ?_
    refine wpAny_bind (m := newList []) (wpAny_newObj_type ?_)
    refine wpAny_pure ⟨PySem.F.quiet_list_repr_loop _, ?_⟩
    have hP : H s.heap.objs.size = none := I.hok.fresh (Nat.le_refl _)
    have I1 : Inv X pins σ (upd H s.heap.objs.size (.lst [])) { s with heap := s.heap.push ({ cls := .type "list", data := .seq #[] } : Obj) } := I.laid (t' := s.toks) (fun b u q => Heap.get?_push_of_some _ q) (Nat.le_refl _) ⟨Nat.zero_le _, [], 0, .nil, Heap.get?_push_size _ rfl⟩
    have hLP : L ≠ s.heap.objs.size := fun z => by rw [z, hP] at hL; cases hL
    exact ru_loop hg hr he hLP hL hP hlen hsz hT hR _ 0 _ _ rfl (Nat.zero_le _) (Same.new hP) upd_same I1
theorem ru_list {L : Addr} {vs : List V} {ts : List Str} (hL : H L = some (.lst vs)) (hc : Clear g L) (hlen : vs.length = ts.length)
    (hT : ∀ (i : Nat) (y : V), vs[i]? = some y → ∃ t, ts[i]? = some t ∧ ∀ rest, RU X (.builtin "list.__repr__.loop" ⟨.ref L :: rest, []⟩ :: g) n y t H) : RU X g (n + 1) (.ref L) (listText ts) H := by
  constructor
  intro A pins σ H' s u b E Q hg hr he sm I r hb k
  cases r
  have hL' := sm _ _ hL
  obtain ⟨_, its, nL, rL, lL, eL⟩ := I.lstM hL'
  cases vs with
  | nil =>
    cases ts with
    | cons t ts => simp at hlen
    | nil =>
      cases its with
      | cons u us => simp at lL
      | nil =>
        rw [listText_nil] at k
        exact wpAny_pyReprUnder_ref (by omega) (wpAny_pyReprObjUnder_list_empty ⟨_, eL, rfl⟩ hr.units0 eL rfl ⟨_, _, rfl, k H' _ (fun _ _ z => z) (I.tok _)⟩)
  | cons v vs =>
    refine wpAny_pyReprUnder_ref (by omega) (wpAny_pyReprObjUnder_twin (twin := "list.__repr__.under") ⟨_, eL, rfl⟩ PySem.F.slot_list_repr.toG rfl hr.units0 ?_)
    refine call_twin_plain PySem.F.plain_list_repr_under PySem.F.entry_list_repr_under PySem.F.check_list_repr_under ⟨_, eL, rfl⟩ PySem.F.slot_list_repr.toG (PySem.F.args_list_repr_1 _) ?_
    exact listAt hg hr he hL' hc hlen hb (fun i y hy => by
      obtain ⟨t, ht, q⟩ := hT i y hy
      exact ⟨t, ht, fun rest => (q rest).same sm⟩) I fun H2 u s2 sm2 I2 => ⟨⟨_, _, rfl⟩, _, _, rfl, k H2 s2 sm2 I2⟩
/-- repr of a list -/
def rReprR (X : Cx) (n : Nat) : List V → Hp → VK → Prop := fun xs H Q => ∃ (L : Addr) (vs : List V) (ts : List Str), xs = [.ref L] ∧ H L = some (.lst vs) ∧ vs.length = ts.length ∧ (listText ts).length ≤ sizeLine ∧
  (∀ (i : Nat) (y : V), vs[i]? = some y → ∃ t, ts[i]? = some t ∧ ∀ rest, RU X [.builtin "list.__repr__.loop" ⟨.ref L :: rest, []⟩] n y t H) ∧ ∀ H', Same H H' → Q (.str (listText ts)) H'
theorem call_reprR (hgu : X.A.guards = some []) (hr : Room (n + 3) X.A) : CallR X (.builtin "repr") (rReprR X n) := by
  intro pins s σ H xs us Q I r h
  obtain ⟨L, vs, ts, rfl, hL, hlen, hsz, hT, k⟩ := h
  cases r with
  | cons r1 r2 =>
    cases r2
    cases r1
    obtain ⟨_, its, nL, rL, lL, eL⟩ := I.lstM hL
    have hu := hr.units
    refine call_repr_slot (T := "list") (by omega) ⟨_, eL, rfl⟩ PySem.F.slot_list_repr.toG ?_
    cases vs with
    | nil =>
      cases ts with
      | cons t ts => simp at hlen
      | nil =>
        cases its with
        | cons u us => simp at lL
        | nil =>
          rw [listText_nil] at k
          exact call_list_repr_empty ⟨_, eL, rfl⟩ eL rfl ⟨_, _, rfl, .str "[]", H, I.tok _, ⟨_, rfl⟩, k H fun _ _ z => z⟩
    | cons v vs =>
      refine wpAny_call (codeAny_call_builtin PySem.F.slot_list_repr.plain PySem.F.entry_list_repr (PySem.F.slot_list_repr.check _ _ _ _ _ _ _ _ ⟨_, eL, rfl⟩ (PySem.F.args_list_repr_1 _) ?_))
      exact listAt (A := X.A.in1) (R := callEnd (fun r s₁ => ∃ x t, r = .str x t ∧ EP X pins σ Q r s₁) X.xe) (base := 0) (g := []) (n := n) hgu (Room.in1 (hr.mono (by omega))) (fun s' H' e => e.in1) hL (Clear.nil _) hlen (by omega) hT I fun H2 u s2 sm2 I2 => ⟨_, _, rfl, .str (listText ts), _, I2, ⟨u, rfl⟩, k _ sm2⟩
end
end SE
namespace SE
open PySem PySem.Spec PyProof.Rows L2
/-! ### heaps without some objects -/
def hid (S : List Addr) (H : Hp) : Hp := fun b => if b ∈ S then none else H b
theorem hid_ne {S : List Addr} {b : Addr} {H : Hp} (h : b ∉ S) : hid S H b = H b := if_neg h
theorem hid_out (S : List Addr) (H : Hp) : Same (hid S H) H := fun b o h => by
  unfold hid at h
  by_cases c : b ∈ S
  · rw [if_pos c] at h
    cases h
  · rw [if_neg c] at h
    exact h
theorem hid_map {S T : List Addr} {H H' : Hp} (h : ∀ b o, b ∉ S → H b = some o → b ∉ T ∧ H' b = some o) : Same (hid S H) (hid T H') := fun b o q => by
  unfold hid at q
  by_cases c : b ∈ S
  · rw [if_pos c] at q
    cases q
  · rw [if_neg c] at q
    obtain ⟨h1, h2⟩ := h b o c q
    rw [hid_ne h1]
    exact h2
theorem hid_of {S : List Addr} {H H' : Hp} (h : Same H H') : Same (hid S H) (hid S H') := hid_map fun b o c q => ⟨c, h b o q⟩
theorem hid_but {S : List Addr} {p : Addr} {H H' : Hp} (h : But p H H') (hp : p ∈ S) : Same (hid S H) (hid S H') := hid_map fun b o c q => ⟨c, h b o (fun e => c (e ▸ hp)) q⟩
theorem hid_upd {S : List Addr} {D : Addr} {H : Hp} {o : HO} (hD : D ∈ S) : Same (hid S H) (hid S (upd H D o)) := hid_map fun b u c q => ⟨c, by
  have e : b ≠ D := fun e => c (by rw [e]; exact hD)
  rw [upd_ne e]
  exact q⟩
/-- what H does not know may be hidden too -/
theorem hid_free {S : List Addr} {D : Addr} {H : Hp} (hD : H D = none) : Same (hid S H) (hid (D :: S) H) := hid_map fun b o c q => ⟨fun m => by
  rcases List.mem_cons.mp m with e | m
  · rw [e, hD] at q
    cases q
  · exact c m, q⟩
theorem hid_less {S : List Addr} {D : Addr} {H : Hp} : Same (hid (D :: S) H) (hid S H) := hid_map fun b o c q => ⟨fun m => c (List.mem_cons_of_mem _ m), q⟩
/-! ### a list of steps -/
def StW (H : Hp) (v : V) (ss : List Stp) : Prop := ∃ a us, v = .ref a ∧ H a = some (.lst us) ∧ StepsH H us ss
theorem stepsH_same {H H' : Hp} {xs : List V} {ss : List Stp} (h : StepsH H xs ss) (s : Same H H') : StepsH H' xs ss := Paired.mapP h fun _ _ q => by
  obtain ⟨t, e, z⟩ := q
  exact ⟨t, e, s _ _ z⟩
theorem StW.same {H H' : Hp} {v : V} {ss : List Stp} (h : StW H v ss) (s : Same H H') : StW H' v ss := by
  obtain ⟨a, us, e, h1, h2⟩ := h
  exact ⟨a, us, e, s _ _ h1, stepsH_same h2 s⟩
theorem stW_all {H H' : Hp} {vs : List V} {sss : List (List Stp)} (h : Paired (StW H) vs sss) (s : Same H H') : Paired (StW H') vs sss := Paired.mapP h fun _ _ q => q.same s
/-! ### observations as data -/
def obD (b : Ob) : PyData := .tuple [.tuple (b.1.map .str), oD b.2]
section
variable {K : PySem.W.Frag} {C : Addr}
theorem ObV.dp {H : Hp} {v : V} {b : Ob} (h : ObV K H v b) : Dp K H v (obD b) := by
  obtain ⟨t, a, r, rfl, h1, h2, h3⟩ := h
  exact .tup h1 (.cons (.tup h2 (dp_strs _)) (.cons h3.dp .nil))
theorem oD_nice {o : Option (List Str)} (h : OWOk o) : Nice 1 45000 (oD o) := by
  cases o with
  | none =>
    have q : Nice 0 1 .none := by
      refine ⟨?_, ?_, ?_, ?_, ?_, ?_⟩
      · simp only [PyData.canLay0]
      · simp only [PyData.depth]; exact Nat.le_refl _
      · simp only [PyData.showable]
      · simp only [PyData.hasDict]
      · simp only [PyData.intsShort]
      · simp only [PyData.weight]; first | exact Nat.le_refl _ | decide
    exact q.mono (by decide) (by decide)
  | some zs =>
    obtain ⟨h1, h2⟩ := h zs rfl
    exact (nice_tuple (nice_strs h1)).mono (by decide) (by rw [List.length_map]; omega)
theorem obD_nice {b : Ob} (h : ObOk b) : Nice 2 90002 (obD b) := by
  refine (nice_tuple (k := 1) (B := 45000) fun d m => ?_).mono (Nat.le_refl _) (by show 2 * 45001 ≤ _; decide)
  rcases List.mem_cons.mp m with e | m
  · rw [e]
    exact (nice_tuple (nice_strs h.i)).mono (by decide) (by rw [List.length_map]; have := h.l; omega)
  · rw [List.mem_singleton.mp m]
    exact oD_nice h.o
theorem noLst_strs : ∀ zs : List Str, noLstAll (zs.map PyData.str) = true
  | [] => by simp [noLstAll]
  | z :: zs => by simp [noLstAll, noLst, noLst_strs zs]
theorem noLst_oD : ∀ o : Option (List Str), noLst (oD o) = true
  | none => by simp [oD, noLst]
  | some zs => by simp [oD, noLst, noLst_strs]
theorem noLst_ob (b : Ob) : noLst (obD b) = true := by
  simp [obD, noLst, noLstAll, noLst_strs, noLst_oD]
def reprTwo (os : List Eff) (bs : List Ob) : Str := listText [listText (os.map shownE), listText (bs.map fun b => (obD b).shown)]
theorem shownE_le {o : Eff} (h : EffOk o) : (shownE o).length ≤ 300000 := by
  cases o with
  | none => decide +kernel
  | some o =>
    obtain ⟨xs, ys, p⟩ := o
    obtain ⟨i1, i2, l1, l2, p0, p1⟩ := h
    have z1 := (nice_tuple (nice_strs i1)).shownLe
    have z2 := (nice_tuple (nice_strs i2)).shownLe
    rw [List.length_map] at z1 z2
    have tl : (toString p : Str).length ≤ 13 := by
      have := PyData.shown_int_le (i := p) (by omega)
      exact this
    have w0 : (Str.empty : Str).length = 0 := by decide +kernel
    have w1 : ("Effect(" : Str).length = 7 := by decide +kernel
    have w2 : (", " : Str).length = 2 := by decide +kernel
    have w3 : (", peak=" : Str).length = 7 := by decide +kernel
    have w4 : (")" : Str).length = 1 := by decide +kernel
    unfold shownE
    simp only [len_add, w0, w1, w2, w3, w4]
    omega
theorem sum_le {n B : Nat} : ∀ {ts : List Str}, (∀ t ∈ ts, t.length ≤ B) → ts.length ≤ n → (ts.map fun x : Str => x.length).sum ≤ n * B
  | [], _, _ => Nat.zero_le _
  | t :: ts, h, hl => by
    have h1 := h t (List.mem_cons_self ..)
    match n, hl with
    | m + 1, hl =>
      have ih := sum_le (n := m) (fun t m => h t (List.mem_cons_of_mem _ m)) (Nat.le_of_succ_le_succ hl)
      rw [List.map_cons, List.sum_cons, Nat.succ_mul]
      omega
theorem repr_two {X : Cx} (RP : ReprHasG X.prog X.w X.K X.mg X.base C) {H : Hp} {T E B : Addr} {es : List Addr} {os : List Eff} {us : List V} {bs : List Ob} {Q : VK} (hT : H T = some (.lst [.ref E, .ref B])) (hE : H E = some (.lst (es.map V.ref))) (hB : H B = some (.lst us)) (hTE : T ≠ E) (hTB : T ≠ B)
    (hP : Paired (EffV X.K C H) es os) (oE : ∀ o ∈ os, EffOk o) (hO : Paired (ObV X.K H) us bs) (oB : ∀ b ∈ bs, ObOk b) (le : es.length ≤ 12) (lb : us.length ≤ 5) (k : ∀ H', Same H H' → Q (.str (reprTwo os bs)) H') : rReprR X 2 [.ref T] H Q := by
  obtain ⟨f, fd, F, r1, r2, r3⟩ := RP
  have lo := paired_len hP
  have lbs := paired_len hO
  refine ⟨T, _, _, rfl, hT, rfl, ?_, fun i y hy => ?_, k⟩
  · have q := listText_len_le [listText (os.map shownE), listText (bs.map fun b => (obD b).shown)]
    have q1 := listText_len_le (os.map shownE)
    have q2 := listText_len_le (bs.map fun b => (obD b).shown)
    have z1 := sum_le (n := 12) (B := 300000) (ts := os.map shownE) (fun t m => by
      obtain ⟨o, mo, rfl⟩ := List.mem_map.mp m
      exact shownE_le (oE o mo)) (by rw [List.length_map]; omega)
    have z2 := sum_le (n := 5) (B := 1400000) (ts := bs.map fun b => (obD b).shown) (fun t m => by
      obtain ⟨b, mb, rfl⟩ := List.mem_map.mp m
      have := (obD_nice (oB b mb)).shownLe
      omega) (by rw [List.length_map]; omega)
    simp only [List.map_cons, List.map_nil, List.sum_cons, List.sum_nil, List.length_cons, List.length_nil] at q
    rw [List.length_map] at q1 q2
    rw [sizeLine_eq]
    omega
  · have h2 : i = 0 ∨ i = 1 := by
      have := (List.getElem?_eq_some_iff.mp hy).1
      simp only [List.length_cons, List.length_nil] at this
      omega
    rcases h2 with rfl | rfl
    · cases hy
      refine ⟨_, rfl, fun rest => ru_list (n := 1) hE ((Clear.nil E).cons hTE) (by rw [List.length_map, List.length_map]; exact lo) fun j z hz => ?_⟩
      rw [List.getElem?_map] at hz
      cases he : es[j]? with
      | none =>
        rw [he] at hz
        cases hz
      | some e =>
        rw [he] at hz
        cases hz
        obtain ⟨o, ho, hV⟩ := paired_at hP he
        refine ⟨shownE o, by rw [List.getElem?_map, ho]; rfl, fun rest2 => ru_own (F _) r1 r2 r3 hV.ins fun H' s => ⟨e, o, rfl, hV.same s, oE o (List.mem_of_getElem? ho), ((GuL.nil.cons hT).cons hE).same s, rfl, Same.refl _⟩⟩
    · cases hy
      refine ⟨_, rfl, fun rest => ru_list (n := 1) hB ((Clear.nil B).cons hTB) (by rw [List.length_map]; exact lbs) fun j z hz => ?_⟩
      obtain ⟨b, hb, hV⟩ := paired_at hO hz
      have ob := obD_nice (oB b (List.mem_of_getElem? hb))
      exact ⟨_, by rw [List.getElem?_map, hb]; rfl, fun rest2 => ru_dp (fun H' s => (hV.same s).dp) ob.sh (noLst_ob b) (Nat.le_trans ob.dep (by decide)) ((GuL.nil.cons hT).cons hB)⟩
end
end SE
/-! A dict whose keys are None and tuples of texts together. -/
namespace SE
open PySem PySem.Spec PyProof.Rows L2 SeqAt
/-- a row: what the key is, the key as it stands, the value -/
abbrev Row := NestedKey × Value × Value
def rowE (w : World) (r : Row) : DictEntry := ⟨r.1.hash w, r.2.1, r.2.2⟩
def NoneRef (v : Value) : Prop := v = .none ∨ ∃ a, v = .ref a
/-- rows that may stand in a dict -/
structure RowsOk (h : Heap) (rows : List Row) : Prop where
  is : ∀ r ∈ rows, NestedIs h r.1 r.2.1
  dp : ∀ r ∈ rows, r.1.depth ≤ 8
  nr : ∀ r ∈ rows, NoneRef r.2.1
  nd : (rows.map (·.1)).Nodup
def idxR : List Row → NestedKey → Option Nat
  | [], _ => none
  | r :: rest, k => if r.1 = k then some 0 else (idxR rest k).map (· + 1)
theorem idxR_some : ∀ {rows : List Row} {k : NestedKey} {j : Nat}, idxR rows k = some j → ∃ p, rows[j]? = some (k, p)
  | [], _, _, h => by cases h
  | r :: rest, k, j, h => by
    unfold idxR at h
    split at h
    · rename_i e
      cases h
      exact ⟨r.2, by rw [← e]; rfl⟩
    · obtain ⟨i, hi, rfl⟩ := Option.map_eq_some_iff.mp h
      obtain ⟨p, q⟩ := idxR_some hi
      exact ⟨p, q⟩
theorem idxR_none : ∀ {rows : List Row} {k : NestedKey}, idxR rows k = none → ∀ (j : Nat) p, rows[j]? ≠ some (k, p)
  | [], _, _, j, p => by simp
  | r :: rest, k, h, j, p => by
    unfold idxR at h
    split at h
    · cases h
    · rename_i ne
      have h2 := Option.map_eq_none_iff.mp h
      cases j with
      | zero =>
        intro q
        have q2 : r = (k, p) := Option.some.inj q
        exact ne (by rw [q2])
      | succ j => exact idxR_none h2 j p
theorem idxR_of : ∀ {rows : List Row} {k : NestedKey} {j : Nat} {p : Value × Value}, (rows.map (·.1)).Nodup → rows[j]? = some (k, p) → idxR rows k = some j
  | [], _, j, _, _, h => by simp at h
  | r :: rest, k, 0, p, _, h => by
    have e : r = (k, p) := Option.some.inj h
    unfold idxR
    rw [if_pos (by rw [e])]
  | r :: rest, k, j + 1, p, nd, h => by
    have nd2 := (List.nodup_cons.mp nd)
    have h2 : rest[j]? = some (k, p) := h
    have ne : ¬ r.1 = k := fun e => nd2.1 (by
      show r.1 ∈ _
      rw [e]
      exact List.mem_map.mpr ⟨_, List.mem_of_getElem? h2, rfl⟩)
    unfold idxR
    rw [if_neg ne, idxR_of nd2.2 h2]
    rfl
section
variable {prog : Program} {w : World} {A : Around} {E : Value → Shared → Prop} {s : Shared} {d : Addr} {ob : Obj} {es : Array DictEntry} {ep : Nat} {rows : List Row} {k : NestedKey} {key : Value}
theorem row_at (he : es.toList = rows.map (rowE w)) (j : Nat) : es[j]? = (rows[j]?).map (rowE w) := by
  rw [← Array.getElem?_toList, he, List.getElem?_map]
theorem row_size (he : es.toList = rows.map (rowE w)) : es.size = rows.length := by
  rw [← Array.length_toList, he, List.length_map]
theorem tell_not {stored : List Value} {Q : Bool → Shared → Prop} (hk : NestedIs s.heap k key) (hd : k.depth ≤ 8) (hst : ∀ v ∈ stored, ∃ k', NestedIs s.heap k' v ∧ k'.depth ≤ 8) (h : Q false s) :
    wpAny (model prog w) A (tableMayTell key stored) Q E s := by
  unfold tableMayTell
  split
  · exact wpAny_pure h
  refine wpAny_bind (quiet_key k key 8 s hk hd A E _ ?_)
  rw [if_neg (show ¬ (!true) = true by decide)]
  refine wpAny_bind (wpAny_forIn_list _ (fun left out t => t = s ∧ out = (none, ()) ∧ ∀ v ∈ left, ∃ k', NestedIs s.heap k' v ∧ k'.depth ≤ 8) _ ?_ ?_ _ _ ⟨rfl, rfl, hst⟩)
  · rintro v left out t ⟨rfl, rfl, all⟩
    obtain ⟨k', q1, q2⟩ := all v List.mem_cons_self
    refine wpAny_bind (quiet_key k' v 8 t q1 q2 A E _ ?_)
    rw [if_neg (show ¬ (!true) = true by decide)]
    exact wpAny_pure ⟨rfl, rfl, fun u m => all u (List.mem_cons_of_mem _ m)⟩
  · rintro out t ⟨rfl, rfl, _⟩
    exact wpAny_pure h
/-- where a key stands -/
theorem find_row {Q : Option Nat → Shared → Prop} (room : A.units + 8 < cLine) (hk : NestedIs s.heap k key) (dk : k.depth ≤ 8) (nr : NoneRef key) (at_d : s.heap.get? d = some ob) (in_d : ob.data = .dict es ep) (he : es.toList = rows.map (rowE w)) (ok : RowsOk s.heap rows)
    (h : Q (idxR rows k) s) : wpAny (model prog w) A (dictFind d key (k.hash w)) Q E s := by
  have sz := row_size he
  have has : ∀ (j : Nat) (p : Value × Value), rows[j]? = some (k, p) → ((es[j]?.map (·.hash)) == some (k.hash w)) = true := fun j p hj => by
    rw [row_at he j, hj]
    simp [rowE]
  have mem : ∀ e ∈ es, ∃ r ∈ rows, e = rowE w r := fun e m => by
    have m2 : e ∈ rows.map (rowE w) := he ▸ Array.mem_toList_iff.mpr m
    obtain ⟨r, m3, q⟩ := List.mem_map.mp m2
    exact ⟨r, m3, q.symm⟩
  have held : ∀ v ∈ (placesWithHash es.size (fun i => es[i]?.map (·.hash)) (k.hash w)).filterMap (fun i => es[i]?.map (·.key)), ∃ k', NestedIs s.heap k' v ∧ k'.depth ≤ 8 := fun v m => by
    obtain ⟨i, _, q⟩ := List.mem_filterMap.mp m
    obtain ⟨e, e1, e2⟩ := Option.map_eq_some_iff.mp q
    obtain ⟨r, m3, rfl⟩ := mem e (Array.mem_of_getElem? e1)
    exact ⟨r.1, by rw [← e2]; exact ok.is r m3, ok.dp r m3⟩
  -- what is known of the places before i
  have low : ∀ {i x : Nat} {rest : List Nat}, x :: rest = (List.range' i (es.size - i)).filter (fun i => (es[i]?.map (·.hash)) == some (k.hash w)) → i ≤ x := fun hr => (filter_range'_cons _ _ _ _ _ hr.symm).1
  have next : ∀ {i x : Nat} {rest : List Nat}, x :: rest = (List.range' i (es.size - i)).filter (fun i => (es[i]?.map (·.hash)) == some (k.hash w)) → i ≤ es.size →
      x < es.size ∧ rest = (List.range' (x + 1) (es.size - (x + 1))).filter (fun i => (es[i]?.map (·.hash)) == some (k.hash w)) ∧ ((∀ j p, j < i → rows[j]? ≠ some (k, p)) → ∀ j p, j < x → rows[j]? ≠ some (k, p)) := fun {i x rest} hr hi => by
    obtain ⟨a1, a2, a3, a4, a5⟩ := filter_range'_cons _ _ _ _ _ hr.symm
    refine ⟨by omega, by rw [a5]; congr 2; omega, fun hn j p hj q => ?_⟩
    rcases Nat.lt_or_ge j i with c | c
    · exact hn j p c q
    · have z := a4 j c hj
      rw [has j p q] at z
      cases z
  have done : ∀ {i : Nat}, ([] : List Nat) = (List.range' i (es.size - i)).filter (fun i => (es[i]?.map (·.hash)) == some (k.hash w)) → i ≤ es.size → (∀ j p, j < i → rows[j]? ≠ some (k, p)) → idxR rows k = none := fun {i} hr hi hn => by
    cases q : idxR rows k with
    | none => rfl
    | some j =>
      obtain ⟨p, hj⟩ := idxR_some q
      rcases Nat.lt_or_ge j i with c | c
      · exact absurd hj (hn j p c)
      · have jl : j < es.size := by
          rw [sz]
          exact (List.getElem?_eq_some_iff.mp hj).1
        have z := List.filter_eq_nil_iff.mp hr.symm j (List.mem_range'_1.mpr ⟨c, by omega⟩)
        exact absurd (has j p hj) z
  have eqv : ∀ {r : Row} {Q2 : Bool → Shared → Prop}, r ∈ rows → Q2 (decide (r.1 = k)) s → wpAny (model prog w) A (eqBool r.2.1 key) Q2 E s := fun {r Q2} m q => by
    refine eqAt_key r.1 k A s _ _ (ok.is r m) hk (by have := Nat.min_le_right r.1.depth k.depth; omega) _ _ _ _ ?_
    rw [← NestedKey.decide_eq]
    exact q
  unfold dictFind
  refine wpAny_holding (wpAny_bind (wpAny_dictEntries at_d in_d ?_))
  rcases nr with rfl | ⟨a, rfl⟩
  · dsimp only
    generalize hst : (placesWithHash es.size (fun i => es[i]?.map (·.hash)) (k.hash w)).filterMap (fun i => es[i]?.map (·.key)) = stored at held ⊢
    by_cases all : ((Value.none :: stored).all carriedByValue) = true
    · rw [if_pos all]
      refine wpAny_bind ?_
      refine wpAny_forIn_list _ (fun rest out t => t = s ∧ out = (none, ()) ∧ ∃ i, rest = (List.range' i (es.size - i)).filter (fun i => (es[i]?.map (·.hash)) == some (k.hash w)) ∧ i ≤ es.size ∧ ∀ j p, j < i → rows[j]? ≠ some (k, p)) _ ?_ ?_ _ _
        ⟨rfl, rfl, 0, by rw [placesWithHash, List.range_eq_range', Nat.sub_zero], Nat.zero_le _, fun _ _ z => absurd z (Nat.not_lt_zero _)⟩
      · rintro x rest out t ⟨rfl, rfl, i, hr, hi, hn⟩
        obtain ⟨lt, tl, sk⟩ := next hr hi
        obtain ⟨r, hrow⟩ : ∃ r, rows[x]? = some r := ⟨rows[x]'(by rw [← sz]; exact lt), List.getElem?_eq_getElem _⟩
        have mr := List.mem_of_getElem? hrow
        have ex : es[x]? = some (rowE w r) := by rw [row_at he x, hrow]; rfl
        have before := sk hn
        have stay : ¬ r.1 = k → ∀ j p, j < x + 1 → rows[j]? ≠ some (k, p) := fun ne j p hj q => by
          rcases Nat.lt_or_ge j x with c | c
          · exact before j p c q
          · have e : j = x := by omega
            rw [e, hrow] at q
            have e2 : r = (k, p) := Option.some.inj q
            exact ne (by rw [e2])
        rw [ex]
        dsimp only
        by_cases same : ((rowE w r).hash == k.hash w) = true
        · rw [if_pos same]
          refine wpAny_bind (wpAny_dictEpoch at_d in_d (wpAny_bind (eqv mr (wpAny_bind (wpAny_dictEpoch at_d in_d ?_)))))
          rw [if_neg (by simp)]
          by_cases eq : r.1 = k
          · rw [decide_eq_true eq, if_pos rfl]
            have hk2 : rows[x]? = some (k, r.2) := by rw [hrow, ← eq]
            rw [idxR_of ok.nd hk2] at h
            exact wpAny_bind (wpAny_rule (wpAny_pure (wpAny_pure h)))
          · rw [decide_eq_false eq, if_neg (by simp)]
            exact wpAny_bind (wpAny_rule (wpAny_pure ⟨rfl, rfl, x + 1, tl, lt, stay eq⟩))
        · rw [if_neg same]
          refine wpAny_pure ⟨rfl, rfl, x + 1, tl, lt, stay fun eq => same ?_⟩
          show (r.1.hash w == k.hash w) = true
          rw [eq]
          simp
      · rintro out t ⟨rfl, rfl, i, hr, hi, hn⟩
        rw [done hr hi hn] at h
        exact wpAny_pure h
    · rw [if_neg all]
      by_cases one : (stored == [Value.none]) = true
      · rw [if_pos one]
        refine wpAny_bind (wpAny_pure ?_)
        rw [if_neg (by simp)]
        refine wpAny_bind (wpAny_forIn_list _ (fun rest out t => t = s ∧ ∃ i hit, out = (none, hit) ∧ rest = (List.range' i (es.size - i)).filter (fun i => (es[i]?.map (·.hash)) == some (k.hash w)) ∧ i ≤ es.size ∧
          ((hit = none ∧ ∀ j p, j < i → rows[j]? ≠ some (k, p)) ∨ ∃ j p, hit = some j ∧ j < i ∧ rows[j]? = some (k, p))) _ ?_ ?_ _ _ ⟨rfl, 0, none, rfl, by rw [placesWithHash, List.range_eq_range', Nat.sub_zero], Nat.zero_le _, .inl ⟨rfl, fun _ _ z => absurd z (Nat.not_lt_zero _)⟩⟩)
        · rintro x rest out t ⟨rfl, i, hit, rfl, hr, hi, hh⟩
          obtain ⟨lt, tl, sk⟩ := next hr hi
          obtain ⟨r, hrow⟩ : ∃ r, rows[x]? = some r := ⟨rows[x]'(by rw [← sz]; exact lt), List.getElem?_eq_getElem _⟩
          have mr := List.mem_of_getElem? hrow
          have ex : es[x]? = some (rowE w r) := by rw [row_at he x, hrow]; rfl
          have before : (hit = none ∧ ∀ j p, j < x → rows[j]? ≠ some (k, p)) ∨ ∃ j p, hit = some j ∧ j < x ∧ rows[j]? = some (k, p) := by
            rcases hh with ⟨h0, hn⟩ | ⟨j, p, h1, h2, h3⟩
            · exact .inl ⟨h0, sk hn⟩
            · refine .inr ⟨j, p, h1, ?_, h3⟩
              have := low hr
              omega
          have stay : ¬ r.1 = k → (hit = none ∧ ∀ j p, j < x + 1 → rows[j]? ≠ some (k, p)) ∨ ∃ j p, hit = some j ∧ j < x + 1 ∧ rows[j]? = some (k, p) := fun ne => by
            rcases before with ⟨h0, hn⟩ | ⟨j, p, h1, h2, h3⟩
            · refine .inl ⟨h0, fun j p hj q => ?_⟩
              rcases Nat.lt_or_ge j x with c | c
              · exact hn j p c q
              · have e : j = x := by omega
                rw [e, hrow] at q
                have e2 : r = (k, p) := Option.some.inj q
                exact ne (by rw [e2])
            · exact .inr ⟨j, p, h1, by omega, h3⟩
          rw [ex]
          dsimp only
          by_cases same : ((rowE w r).hash == k.hash w) = true
          · rw [if_pos same]
            refine wpAny_bind (wpAny_dictEpoch at_d in_d (wpAny_bind (eqv mr (wpAny_bind (wpAny_dictEpoch at_d in_d ?_)))))
            rw [if_neg (by simp)]
            by_cases eq : r.1 = k
            · rw [decide_eq_true eq, if_pos rfl]
              have hk2 : rows[x]? = some (k, r.2) := by rw [hrow, ← eq]
              rcases before with ⟨rfl, _⟩ | ⟨j, p, _, h2, h3⟩
              · rw [if_neg (by simp)]
                refine wpAny_bind (wpAny_rule ?_)
                split
                · refine wpAny_pure (wpAny_pure ?_)
                  rw [idxR_of ok.nd hk2] at h
                  exact h
                · exact wpAny_pure ⟨rfl, x + 1, some x, rfl, tl, lt, .inr ⟨x, _, rfl, Nat.lt_succ_self x, hk2⟩⟩
              · have z1 := idxR_of ok.nd h3
                rw [idxR_of ok.nd hk2] at z1
                have z2 := Option.some.inj z1
                omega
            · rw [decide_eq_false eq, if_neg (by simp)]
              refine wpAny_bind (wpAny_rule ?_)
              rw [if_neg (by simp)]
              exact wpAny_pure ⟨rfl, x + 1, hit, rfl, tl, lt, stay eq⟩
          · rw [if_neg same]
            refine wpAny_pure ⟨rfl, x + 1, hit, rfl, tl, lt, stay fun eq => same ?_⟩
            show (r.1.hash w == k.hash w) = true
            rw [eq]
            simp
        · rintro out t ⟨rfl, i, hit, rfl, hr, hi, hh⟩
          rcases hh with ⟨rfl, hn⟩ | ⟨j, p, rfl, _, h3⟩
          · rw [done hr hi hn] at h
            exact wpAny_pure h
          · rw [idxR_of ok.nd h3] at h
            exact wpAny_pure h
      · rw [if_neg one]
        refine wpAny_bind (tell_not hk dk held ?_)
        rw [if_neg (by simp)]
        refine wpAny_bind (wpAny_forIn_list _ (fun rest out t => t = s ∧ ∃ i hit, out = (none, hit) ∧ rest = (List.range' i (es.size - i)).filter (fun i => (es[i]?.map (·.hash)) == some (k.hash w)) ∧ i ≤ es.size ∧
          ((hit = none ∧ ∀ j p, j < i → rows[j]? ≠ some (k, p)) ∨ ∃ j p, hit = some j ∧ j < i ∧ rows[j]? = some (k, p))) _ ?_ ?_ _ _ ⟨rfl, 0, none, rfl, by rw [placesWithHash, List.range_eq_range', Nat.sub_zero], Nat.zero_le _, .inl ⟨rfl, fun _ _ z => absurd z (Nat.not_lt_zero _)⟩⟩)
        · rintro x rest out t ⟨rfl, i, hit, rfl, hr, hi, hh⟩
          obtain ⟨lt, tl, sk⟩ := next hr hi
          obtain ⟨r, hrow⟩ : ∃ r, rows[x]? = some r := ⟨rows[x]'(by rw [← sz]; exact lt), List.getElem?_eq_getElem _⟩
          have mr := List.mem_of_getElem? hrow
          have ex : es[x]? = some (rowE w r) := by rw [row_at he x, hrow]; rfl
          have before : (hit = none ∧ ∀ j p, j < x → rows[j]? ≠ some (k, p)) ∨ ∃ j p, hit = some j ∧ j < x ∧ rows[j]? = some (k, p) := by
            rcases hh with ⟨h0, hn⟩ | ⟨j, p, h1, h2, h3⟩
            · exact .inl ⟨h0, sk hn⟩
            · refine .inr ⟨j, p, h1, ?_, h3⟩
              have := low hr
              omega
          have stay : ¬ r.1 = k → (hit = none ∧ ∀ j p, j < x + 1 → rows[j]? ≠ some (k, p)) ∨ ∃ j p, hit = some j ∧ j < x + 1 ∧ rows[j]? = some (k, p) := fun ne => by
            rcases before with ⟨h0, hn⟩ | ⟨j, p, h1, h2, h3⟩
            · refine .inl ⟨h0, fun j p hj q => ?_⟩
              rcases Nat.lt_or_ge j x with c | c
              · exact hn j p c q
              · have e : j = x := by omega
                rw [e, hrow] at q
                have e2 : r = (k, p) := Option.some.inj q
                exact ne (by rw [e2])
            · exact .inr ⟨j, p, h1, by omega, h3⟩
          rw [ex]
          dsimp only
          by_cases same : ((rowE w r).hash == k.hash w) = true
          · rw [if_pos same]
            refine wpAny_bind (wpAny_dictEpoch at_d in_d (wpAny_bind (eqv mr (wpAny_bind (wpAny_dictEpoch at_d in_d ?_)))))
            rw [if_neg (by simp)]
            by_cases eq : r.1 = k
            · rw [decide_eq_true eq, if_pos rfl]
              have hk2 : rows[x]? = some (k, r.2) := by rw [hrow, ← eq]
              rcases before with ⟨rfl, _⟩ | ⟨j, p, _, h2, h3⟩
              · rw [if_neg (by simp)]
                refine wpAny_bind (wpAny_rule ?_)
                split
                · refine wpAny_pure (wpAny_pure ?_)
                  rw [idxR_of ok.nd hk2] at h
                  exact h
                · exact wpAny_pure ⟨rfl, x + 1, some x, rfl, tl, lt, .inr ⟨x, _, rfl, Nat.lt_succ_self x, hk2⟩⟩
              · have z1 := idxR_of ok.nd h3
                rw [idxR_of ok.nd hk2] at z1
                have z2 := Option.some.inj z1
                omega
            · rw [decide_eq_false eq, if_neg (by simp)]
              refine wpAny_bind (wpAny_rule ?_)
              rw [if_neg (by simp)]
              exact wpAny_pure ⟨rfl, x + 1, hit, rfl, tl, lt, stay eq⟩
          · rw [if_neg same]
            refine wpAny_pure ⟨rfl, x + 1, hit, rfl, tl, lt, stay fun eq => same ?_⟩
            show (r.1.hash w == k.hash w) = true
            rw [eq]
            simp
        · rintro out t ⟨rfl, i, hit, rfl, hr, hi, hh⟩
          rcases hh with ⟨rfl, hn⟩ | ⟨j, p, rfl, _, h3⟩
          · rw [done hr hi hn] at h
            exact wpAny_pure h
          · rw [idxR_of ok.nd h3] at h
            exact wpAny_pure h
  · dsimp only
    generalize hst : (placesWithHash es.size (fun i => es[i]?.map (·.hash)) (k.hash w)).filterMap (fun i => es[i]?.map (·.key)) = stored at held ⊢
    rw [if_neg (show ¬ ((Value.ref a :: stored).all carriedByValue) = true by simp [carriedByValue])]
    have kept : ¬ (es.any fun e => e.key == Value.ref a && e.hash != k.hash w) = true := by
      rw [← Array.any_toList, List.any_eq_true]
      rintro ⟨e, m, c⟩
      obtain ⟨r, m2, rfl⟩ := mem e (Array.mem_toList_iff.mp m)
      simp only [rowE, Bool.and_eq_true, beq_iff_eq, bne_iff_ne, ne_eq] at c
      have q := ok.is r m2
      rw [c.1] at q
      exact c.2 (by rw [NestedIs.inj _ _ _ q hk])
    rw [if_neg kept]
    by_cases one : (stored == [Value.ref a]) = true
    · rw [if_pos one]
      refine wpAny_bind (wpAny_pure ?_)
      rw [if_neg (by simp)]
      refine wpAny_bind (wpAny_forIn_list _ (fun rest out t => t = s ∧ ∃ i hit, out = (none, hit) ∧ rest = (List.range' i (es.size - i)).filter (fun i => (es[i]?.map (·.hash)) == some (k.hash w)) ∧ i ≤ es.size ∧
        ((hit = none ∧ ∀ j p, j < i → rows[j]? ≠ some (k, p)) ∨ ∃ j p, hit = some j ∧ j < i ∧ rows[j]? = some (k, p))) _ ?_ ?_ _ _ ⟨rfl, 0, none, rfl, by rw [placesWithHash, List.range_eq_range', Nat.sub_zero], Nat.zero_le _, .inl ⟨rfl, fun _ _ z => absurd z (Nat.not_lt_zero _)⟩⟩)
      · rintro x rest out t ⟨rfl, i, hit, rfl, hr, hi, hh⟩
        obtain ⟨lt, tl, sk⟩ := next hr hi
        obtain ⟨r, hrow⟩ : ∃ r, rows[x]? = some r := ⟨rows[x]'(by rw [← sz]; exact lt), List.getElem?_eq_getElem _⟩
        have mr := List.mem_of_getElem? hrow
        have ex : es[x]? = some (rowE w r) := by rw [row_at he x, hrow]; rfl
        have before : (hit = none ∧ ∀ j p, j < x → rows[j]? ≠ some (k, p)) ∨ ∃ j p, hit = some j ∧ j < x ∧ rows[j]? = some (k, p) := by
          rcases hh with ⟨h0, hn⟩ | ⟨j, p, h1, h2, h3⟩
          · exact .inl ⟨h0, sk hn⟩
          · refine .inr ⟨j, p, h1, ?_, h3⟩
            have := low hr
            omega
        have stay : ¬ r.1 = k → (hit = none ∧ ∀ j p, j < x + 1 → rows[j]? ≠ some (k, p)) ∨ ∃ j p, hit = some j ∧ j < x + 1 ∧ rows[j]? = some (k, p) := fun ne => by
          rcases before with ⟨h0, hn⟩ | ⟨j, p, h1, h2, h3⟩
          · refine .inl ⟨h0, fun j p hj q => ?_⟩
            rcases Nat.lt_or_ge j x with c | c
            · exact hn j p c q
            · have e : j = x := by omega
              rw [e, hrow] at q
              have e2 : r = (k, p) := Option.some.inj q
              exact ne (by rw [e2])
          · exact .inr ⟨j, p, h1, by omega, h3⟩
        rw [ex]
        dsimp only
        by_cases same : ((rowE w r).hash == k.hash w) = true
        · rw [if_pos same]
          refine wpAny_bind (wpAny_dictEpoch at_d in_d (wpAny_bind (eqv mr (wpAny_bind (wpAny_dictEpoch at_d in_d ?_)))))
          rw [if_neg (by simp)]
          by_cases eq : r.1 = k
          · rw [decide_eq_true eq, if_pos rfl]
            have hk2 : rows[x]? = some (k, r.2) := by rw [hrow, ← eq]
            rcases before with ⟨rfl, _⟩ | ⟨j, p, _, h2, h3⟩
            · rw [if_neg (by simp)]
              refine wpAny_bind (wpAny_rule ?_)
              split
              · refine wpAny_pure (wpAny_pure ?_)
                rw [idxR_of ok.nd hk2] at h
                exact h
              · exact wpAny_pure ⟨rfl, x + 1, some x, rfl, tl, lt, .inr ⟨x, _, rfl, Nat.lt_succ_self x, hk2⟩⟩
            · have z1 := idxR_of ok.nd h3
              rw [idxR_of ok.nd hk2] at z1
              have z2 := Option.some.inj z1
              omega
          · rw [decide_eq_false eq, if_neg (by simp)]
            refine wpAny_bind (wpAny_rule ?_)
            rw [if_neg (by simp)]
            exact wpAny_pure ⟨rfl, x + 1, hit, rfl, tl, lt, stay eq⟩
        · rw [if_neg same]
          refine wpAny_pure ⟨rfl, x + 1, hit, rfl, tl, lt, stay fun eq => same ?_⟩
          show (r.1.hash w == k.hash w) = true
          rw [eq]
          simp
      · rintro out t ⟨rfl, i, hit, rfl, hr, hi, hh⟩
        rcases hh with ⟨rfl, hn⟩ | ⟨j, p, rfl, _, h3⟩
        · rw [done hr hi hn] at h
          exact wpAny_pure h
        · rw [idxR_of ok.nd h3] at h
          exact wpAny_pure h
    · rw [if_neg one]
      refine wpAny_bind (tell_not hk dk held ?_)
      rw [if_neg (by simp)]
      refine wpAny_bind (wpAny_forIn_list _ (fun rest out t => t = s ∧ ∃ i hit, out = (none, hit) ∧ rest = (List.range' i (es.size - i)).filter (fun i => (es[i]?.map (·.hash)) == some (k.hash w)) ∧ i ≤ es.size ∧
        ((hit = none ∧ ∀ j p, j < i → rows[j]? ≠ some (k, p)) ∨ ∃ j p, hit = some j ∧ j < i ∧ rows[j]? = some (k, p))) _ ?_ ?_ _ _ ⟨rfl, 0, none, rfl, by rw [placesWithHash, List.range_eq_range', Nat.sub_zero], Nat.zero_le _, .inl ⟨rfl, fun _ _ z => absurd z (Nat.not_lt_zero _)⟩⟩)
      · rintro x rest out t ⟨rfl, i, hit, rfl, hr, hi, hh⟩
        obtain ⟨lt, tl, sk⟩ := next hr hi
        obtain ⟨r, hrow⟩ : ∃ r, rows[x]? = some r := ⟨rows[x]'(by rw [← sz]; exact lt), List.getElem?_eq_getElem _⟩
        have mr := List.mem_of_getElem? hrow
        have ex : es[x]? = some (rowE w r) := by rw [row_at he x, hrow]; rfl
        have before : (hit = none ∧ ∀ j p, j < x → rows[j]? ≠ some (k, p)) ∨ ∃ j p, hit = some j ∧ j < x ∧ rows[j]? = some (k, p) := by
          rcases hh with ⟨h0, hn⟩ | ⟨j, p, h1, h2, h3⟩
          · exact .inl ⟨h0, sk hn⟩
          · refine .inr ⟨j, p, h1, ?_, h3⟩
            have := low hr
            omega
        have stay : ¬ r.1 = k → (hit = none ∧ ∀ j p, j < x + 1 → rows[j]? ≠ some (k, p)) ∨ ∃ j p, hit = some j ∧ j < x + 1 ∧ rows[j]? = some (k, p) := fun ne => by
          rcases before with ⟨h0, hn⟩ | ⟨j, p, h1, h2, h3⟩
          · refine .inl ⟨h0, fun j p hj q => ?_⟩
            rcases Nat.lt_or_ge j x with c | c
            · exact hn j p c q
            · have e : j = x := by omega
              rw [e, hrow] at q
              have e2 : r = (k, p) := Option.some.inj q
              exact ne (by rw [e2])
          · exact .inr ⟨j, p, h1, by omega, h3⟩
        rw [ex]
        dsimp only
        by_cases same : ((rowE w r).hash == k.hash w) = true
        · rw [if_pos same]
          refine wpAny_bind (wpAny_dictEpoch at_d in_d (wpAny_bind (eqv mr (wpAny_bind (wpAny_dictEpoch at_d in_d ?_)))))
          rw [if_neg (by simp)]
          by_cases eq : r.1 = k
          · rw [decide_eq_true eq, if_pos rfl]
            have hk2 : rows[x]? = some (k, r.2) := by rw [hrow, ← eq]
            rcases before with ⟨rfl, _⟩ | ⟨j, p, _, h2, h3⟩
            · rw [if_neg (by simp)]
              refine wpAny_bind (wpAny_rule ?_)
              split
              · refine wpAny_pure (wpAny_pure ?_)
                rw [idxR_of ok.nd hk2] at h
                exact h
              · exact wpAny_pure ⟨rfl, x + 1, some x, rfl, tl, lt, .inr ⟨x, _, rfl, Nat.lt_succ_self x, hk2⟩⟩
            · have z1 := idxR_of ok.nd h3
              rw [idxR_of ok.nd hk2] at z1
              have z2 := Option.some.inj z1
              omega
          · rw [decide_eq_false eq, if_neg (by simp)]
            refine wpAny_bind (wpAny_rule ?_)
            rw [if_neg (by simp)]
            exact wpAny_pure ⟨rfl, x + 1, hit, rfl, tl, lt, stay eq⟩
        · rw [if_neg same]
          refine wpAny_pure ⟨rfl, x + 1, hit, rfl, tl, lt, stay fun eq => same ?_⟩
          show (r.1.hash w == k.hash w) = true
          rw [eq]
          simp
      · rintro out t ⟨rfl, i, hit, rfl, hr, hi, hh⟩
        rcases hh with ⟨rfl, hn⟩ | ⟨j, p, rfl, _, h3⟩
        · rw [done hr hi hn] at h
          exact wpAny_pure h
        · rw [idxR_of ok.nd h3] at h
          exact wpAny_pure h
end
end SE
/-! A dict whose keys are None and tuples of texts together: d[k], d[k] = v, d.get, d.setdefault, in. -/
namespace SE
open PySem PySem.Spec PyProof.Rows L2 SeqAt
/-! ### rows as they change -/
def putR (k : NestedKey) (key v : Value) : List Row → List Row
  | [] => [(k, key, v)]
  | r :: rest => if r.1 = k then (r.1, r.2.1, v) :: rest else r :: putR k key v rest
def valR (k : NestedKey) : List Row → Option Value
  | [] => none
  | r :: rest => if r.1 = k then some r.2.2 else valR k rest
theorem valR_none : ∀ {rows : List Row} {k : NestedKey}, idxR rows k = none → valR k rows = none
  | [], _, _ => rfl
  | r :: rest, k, h => by
    unfold idxR at h
    split at h
    · cases h
    · rename_i ne
      unfold valR
      rw [if_neg ne]
      exact valR_none (Option.map_eq_none_iff.mp h)
theorem valR_some : ∀ {rows : List Row} {k : NestedKey} {j : Nat}, idxR rows k = some j → valR k rows = (rows[j]?).map (·.2.2)
  | [], _, _, h => by cases h
  | r :: rest, k, j, h => by
    unfold idxR at h
    unfold valR
    split at h
    · rename_i e
      cases h
      rw [if_pos e]
      rfl
    · rename_i ne
      obtain ⟨i, hi, rfl⟩ := Option.map_eq_some_iff.mp h
      rw [if_neg ne, valR_some hi]
      rfl
theorem putR_none : ∀ {rows : List Row} {k : NestedKey} {key v : Value}, idxR rows k = none → putR k key v rows = rows ++ [(k, key, v)]
  | [], _, _, _, _ => rfl
  | r :: rest, k, key, v, h => by
    unfold idxR at h
    unfold putR
    split at h
    · cases h
    · rename_i ne
      rw [if_neg ne, putR_none (Option.map_eq_none_iff.mp h)]
      rfl
theorem putR_some (w : World) : ∀ {rows : List Row} {k : NestedKey} {key v : Value} {j : Nat}, idxR rows k = some j → (putR k key v rows).map (rowE w) = (rows.map (rowE w)).modify j fun e => { e with val := v }
  | [], _, _, _, _, h => by cases h
  | r :: rest, k, key, v, j, h => by
    unfold idxR at h
    unfold putR
    split at h
    · rename_i e
      cases h
      rw [if_pos e]
      rfl
    · rename_i ne
      obtain ⟨i, hi, rfl⟩ := Option.map_eq_some_iff.mp h
      rw [if_neg ne, List.map_cons, List.map_cons, putR_some w hi]
      rfl
theorem putR_length (k : NestedKey) (key v : Value) : ∀ rows : List Row, (putR k key v rows).length ≤ rows.length + 1
  | [] => Nat.le_refl _
  | r :: rest => by
    unfold putR
    split
    · simp
    · have := putR_length k key v rest
      simp only [List.length_cons]
      omega
/-- at d stands a dict of these rows -/
def RowsAt (w : World) (h : Heap) (d : Addr) (rows : List Row) : Prop :=
  (d == sysModules) = false ∧ rows.length ≤ sizeLine ∧ ∃ o es ep, h.get? d = some o ∧ o.ExactDict ∧ o.data = .dict es ep ∧ es.toList = rows.map (rowE w)
/-- the key -/
structure KeyOk (h : Heap) (k : NestedKey) (key : Value) : Prop where
  is : NestedIs h k key
  dp : k.depth ≤ 8
  nr : NoneRef key
section
variable {prog : Program} {w : World} {A : Around} {E : Value → Shared → Prop} {s : Shared} {d : Addr} {rows : List Row} {k : NestedKey} {key v dflt : Value}
theorem RowsAt.typeIs (m : RowsAt w s.heap d rows) : s.TypeIs (.ref d) "dict" := by
  obtain ⟨_, _, o, es, ep, ho, hc, _⟩ := m
  exact ⟨o, ho, hc.1⟩
theorem rows_get {Q : Option Value → Shared → Prop} (room : A.units + 8 < cLine) (hk : KeyOk s.heap k key) (m : RowsAt w s.heap d rows) (ok : RowsOk s.heap rows) (h : Q (valR k rows) { s with toks := s.toks + k.draws }) :
    wpAny (model prog w) A (dictGet d key) Q E s := by
  obtain ⟨hd, hz, o, es, ep, ho, hc, hdat, he⟩ := m
  unfold dictGet
  refine wpAny_holding (wpAny_bind (pyHash_key k key A s _ hk.is (by have := hk.dp; omega) (wpAny_bind ?_)))
  refine find_row (s := { s with toks := s.toks + k.draws }) room hk.is hk.dp hk.nr ho hdat he ok ?_
  cases q : idxR rows k with
  | none =>
    rw [valR_none q] at h
    exact wpAny_pure h
  | some j =>
    rw [valR_some q] at h
    refine wpAny_bind (wpAny_dictEntries (s := { s with toks := s.toks + k.draws }) ho hdat (wpAny_pure ?_))
    rw [row_at he j, Option.map_map]
    exact h
theorem rows_write {o : Obj} {es : Array DictEntry} {ep : Nat} {j : Nat} (hd : (d == sysModules) = false) (hz : rows.length ≤ sizeLine) (ho : s.heap.get? d = some o) (hc : o.ExactDict) (hdat : o.data = .dict es ep) (he : es.toList = rows.map (rowE w)) (q : idxR rows k = some j) :
    RowsAt w (s.heap.update d (Obj.mapDict fun es => es.modify j fun e => { e with val := v })) d (putR k key v rows) := by
  refine ⟨hd, ?_, _, _, ep, Heap.get?_update_self _ ho (Obj.isFreed_of_dict (Obj.data_mapDict hdat _)), hc.mapDict _, Obj.data_mapDict hdat _, ?_⟩
  · have e := congrArg List.length (putR_some w (key := key) (v := v) q)
    rw [List.length_map, List.length_modify, List.length_map] at e
    omega
  · rw [putR_some w q, ← he]
    obtain ⟨l⟩ := es
    simp
theorem rows_push {o : Obj} {es : Array DictEntry} {ep : Nat} (hd : (d == sysModules) = false) (hz : rows.length < sizeLine) (ho : s.heap.get? d = some o) (hc : o.ExactDict) (hdat : o.data = .dict es ep) (he : es.toList = rows.map (rowE w)) (q : idxR rows k = none) :
    RowsAt w (s.heap.update d (Obj.mapDictKeys fun es => es.push ⟨k.hash w, key, v⟩)) d (putR k key v rows) := by
  refine ⟨hd, Nat.le_trans (putR_length k key v rows) hz, _, _, ep + 1, Heap.get?_update_self _ ho (Obj.isFreed_of_dict (Obj.data_mapDictKeys hdat _)), hc.mapDictKeys _, Obj.data_mapDictKeys hdat _, ?_⟩
  rw [putR_none q]
  simp [he, rowE]
theorem rows_set {Q : Unit → Shared → Prop} (room : A.units + 8 < cLine) (hk : KeyOk s.heap k key) (m : RowsAt w s.heap d rows) (ok : RowsOk s.heap rows) (hz : rows.length < sizeLine)
    (h : ∀ h', RowsAt w h' d (putR k key v rows) → Heap.SameBut d s.heap h' → Q () { s with heap := h', toks := s.toks + k.draws }) : wpAny (model prog w) A (dictSet d key v) Q E s := by
  obtain ⟨hd, _, o, es, ep, ho, hc, hdat, he⟩ := m
  unfold dictSet
  refine wpAny_holding (wpAny_bind (pyHash_key k key A s _ hk.is (by have := hk.dp; omega) ?_))
  unfold dictSetHashed
  refine wpAny_holding (wpAny_bind ?_)
  refine find_row (s := { s with toks := s.toks + k.draws }) room hk.is hk.dp hk.nr ho hdat he ok ?_
  cases q : idxR rows k with
  | none =>
    exact wpAny_bind (wpAny_rule (wpAny_updateDictKeys (hz := by have e := row_size he; omega) (s := { s with toks := s.toks + k.draws }) ho hdat (h _ (rows_push hd hz ho hc hdat he q) (Heap.SameBut.update ..))))
  | some j =>
    exact wpAny_bind (wpAny_rule (wpAny_bind (wpAny_updateDict (s := { s with toks := s.toks + k.draws }) ho hdat (wpAny_point (h _ (rows_write hd (Nat.le_of_lt hz) ho hc hdat he q) (Heap.SameBut.update ..))))))
theorem rows_setdefault {Q : Value → Shared → Prop} (room : A.units + 8 < cLine) (hk : KeyOk s.heap k key) (m : RowsAt w s.heap d rows) (ok : RowsOk s.heap rows) (hz : rows.length < sizeLine)
    (h1 : ∀ x, valR k rows = some x → Q x { s with toks := s.toks + k.draws })
    (h2 : valR k rows = none → ∀ h', RowsAt w h' d (putR k key dflt rows) → Heap.SameBut d s.heap h' → Q dflt { s with heap := h', toks := s.toks + k.draws }) : wpAny (model prog w) A (dictSetDefault d key dflt) Q E s := by
  obtain ⟨hd, _, o, es, ep, ho, hc, hdat, he⟩ := m
  unfold dictSetDefault
  refine wpAny_holding (wpAny_bind (pyHash_key k key A s _ hk.is (by have := hk.dp; omega) (wpAny_bind ?_)))
  refine find_row (s := { s with toks := s.toks + k.draws }) room hk.is hk.dp hk.nr ho hdat he ok ?_
  cases q : idxR rows k with
  | none =>
    exact wpAny_bind (wpAny_rule (wpAny_bind (wpAny_updateDictKeys (hz := by have e := row_size he; omega) (s := { s with toks := s.toks + k.draws }) ho hdat (wpAny_pure (h2 (valR_none q) _ (rows_push hd hz ho hc hdat he q) (Heap.SameBut.update ..))))))
  | some j =>
    refine wpAny_bind (wpAny_dictEntries (s := { s with toks := s.toks + k.draws }) ho hdat ?_)
    obtain ⟨p, hj⟩ := idxR_some q
    rw [row_at he j, hj]
    refine wpAny_bind (wpAny_rule (wpAny_pure (h1 _ ?_)))
    rw [valR_some q, hj]
    rfl
/-! ### the operations -/
theorem rows_in {Q : Value → Shared → Prop} (room : A.units + 9 < cLine) (hk : KeyOk s.heap k key) (m : RowsAt w s.heap d rows) (ok : RowsOk s.heap rows) (h : Q (.bool (valR k rows).isSome) { s with toks := s.toks + k.draws }) :
    wpAny (model prog w) A (compareOp .In key (.ref d)) Q E s := by
  have room1 : A.in1.units + 8 < cLine := by rw [Around.in1_units]; omega
  show wpAny _ _ (do return .bool (← contains (.ref d) key)) Q E s
  refine wpAny_bind ?_
  unfold contains
  refine wpAny_holding (wpAny_bind (wpAny_specialOf m.typeIs slot_dict_contains.lookup ?_))
  show wpAny _ _ (if (some (Value.builtin "dict.__contains__") == some Value.none) = true then _ else _) _ E s
  rw [if_neg (by rw [beq_builtin_none]; exact Bool.false_ne_true)]
  refine wpAny_bind (wpAny_callSpecialUnlessNone?_slot (name := Str.ofString "__contains__") m.typeIs slot_dict_contains (wpAny_call_entry slot_dict_contains m.typeIs entry_dict_contains ?_ (args_dict_contains _ _)))
  show wpAny _ _ (dictGet d key >>= _) _ _ s
  refine wpAny_bind (rows_get room1 hk m ok ?_)
  cases hf : valR k rows with
  | some p =>
    rw [hf] at h
    show wpAny _ _ (ret (.bool true)) _ _ _
    exact wpAny_pure ⟨_, rfl, wpAny_truthy_bool (wpAny_pure h)⟩
  | none =>
    rw [hf] at h
    show wpAny _ _ (Builtin.Dict.pendingKey? d key >>= _) _ _ _
    exact wpAny_bind (wpAny_pendingKey_other m.1 (wpAny_pure ⟨_, rfl, wpAny_truthy_bool (wpAny_pure h)⟩))
theorem rows_item {Q : Value → Shared → Prop} (room : A.units + 9 < cLine) (hk : KeyOk s.heap k key) (m : RowsAt w s.heap d rows) (ok : RowsOk s.heap rows) (hv : valR k rows = some v) (h : Q v { s with toks := s.toks + k.draws }) :
    wpAny (model prog w) A (getItem (.ref d) key) Q E s := by
  have room1 : A.in1.units + 8 < cLine := by rw [Around.in1_units]; omega
  unfold getItem
  refine wpAny_holding (wpAny_bind (wpAny_sequenceKey m.typeIs (by decide) ?_))
  refine wpAny_bind (wpAny_callSpecial?_slot (name := Str.ofString "__getitem__") m.typeIs slot_dict_getitem (wpAny_call_entry slot_dict_getitem m.typeIs entry_dict_getitem ?_ (args_dict_getitem _ _)))
  show wpAny _ _ (dictGet d key >>= _) _ _ s
  refine wpAny_bind (rows_get room1 hk m ok ?_)
  rw [hv]
  exact wpAny_pure ⟨v, rfl, wpAny_pure h⟩
theorem rows_setItem {Q : Unit → Shared → Prop} (room : A.units + 9 < cLine) (hk : KeyOk s.heap k key) (m : RowsAt w s.heap d rows) (ok : RowsOk s.heap rows) (hz : rows.length < sizeLine)
    (h : ∀ h', RowsAt w h' d (putR k key v rows) → Heap.SameBut d s.heap h' → Q () { s with heap := h', toks := s.toks + k.draws }) : wpAny (model prog w) A (setItem (.ref d) key v) Q E s := by
  have room1 : A.in1.units + 8 < cLine := by rw [Around.in1_units]; omega
  unfold setItem
  refine wpAny_holding (wpAny_bind (wpAny_sequenceKey m.typeIs (by decide) ?_))
  refine wpAny_bind (wpAny_callSpecial?_slot (name := Str.ofString "__setitem__") m.typeIs slot_dict_setitem (wpAny_call_entry slot_dict_setitem m.typeIs entry_dict_setitem ?_ (args_dict_setitem _ _ _)))
  show wpAny _ _ (Builtin.Dict.notOrdered "__setitem__" ⟨[.ref d, key, v], []⟩ >>= _) _ _ s
  refine wpAny_bind (wpAny_notOrdered_dict m.typeIs ?_)
  show wpAny _ _ (dictSet d key v >>= _) _ _ s
  exact wpAny_bind (rows_set room1 hk m ok hz fun h' m' sb => wpAny_pure ⟨.none, rfl, wpAny_pure (h h' m' sb)⟩)
theorem rows_getD {Q : Value → Shared → Prop} (room : A.units + 9 < cLine) (hk : KeyOk s.heap k key) (m : RowsAt w s.heap d rows) (ok : RowsOk s.heap rows) (h : Q ((valR k rows).getD dflt) { s with toks := s.toks + k.draws }) :
    wpAny (model prog w) A (call (.builtin "dict.get") [.ref d, key, dflt]) Q E s := by
  have room1 : A.in1.units + 8 < cLine := by rw [Around.in1_units]; omega
  refine call_meetsIn (S := fun A' R s' => A' = A ∧ s' = s ∧ R (.ok (.ret ((valR k rows).getD dflt))) { s with toks := s.toks + k.draws }) F.slot_dict_get m.typeIs F.entry_dict_get (F.args_dict_get_3 _ _ _) (.of_wp ?_) ⟨rfl, rfl, h⟩
  rintro A' R s' ⟨rfl, rfl, hR⟩
  show wpAny _ _ (dictGet d key >>= _) _ _ _
  refine wpAny_bind (rows_get room1 hk m ok ?_)
  cases hf : valR k rows with
  | some v =>
    rw [hf] at hR
    exact wpAny_pure ⟨v, rfl, hR⟩
  | none =>
    rw [hf] at hR
    show wpAny _ _ (Builtin.Dict.missed d key >>= _) _ _ _
    exact wpAny_bind (wpAny_missed_other m.1 (wpAny_pure ⟨dflt, rfl, hR⟩))
theorem rows_setD {Q : Value → Shared → Prop} (room : A.units + 9 < cLine) (hk : KeyOk s.heap k key) (m : RowsAt w s.heap d rows) (ok : RowsOk s.heap rows) (hz : rows.length < sizeLine)
    (h1 : ∀ x, valR k rows = some x → Q x { s with toks := s.toks + k.draws })
    (h2 : valR k rows = none → ∀ h', RowsAt w h' d (putR k key dflt rows) → Heap.SameBut d s.heap h' → Q dflt { s with heap := h', toks := s.toks + k.draws }) : wpAny (model prog w) A (call (.builtin "dict.setdefault") [.ref d, key, dflt]) Q E s := by
  have room1 : A.in1.units + 8 < cLine := by rw [Around.in1_units]; omega
  refine call_meetsIn (S := fun A' R s' => A' = A ∧ s' = s ∧ (∀ x, valR k rows = some x → R (.ok (.ret x)) { s with toks := s.toks + k.draws }) ∧ (valR k rows = none → ∀ h', RowsAt w h' d (putR k key dflt rows) → Heap.SameBut d s.heap h' → R (.ok (.ret dflt)) { s with heap := h', toks := s.toks + k.draws }))
    F.slot_dict_setdefault m.typeIs F.entry_dict_setdefault (F.args_dict_setdefault_3 _ _ _) (.of_wp ?_) ⟨rfl, rfl, h1, h2⟩
  rintro A' R s' ⟨rfl, rfl, r1, r2⟩
  unfold Builtin.«dict.setdefault»
  refine wpAny_bind ?_
  unfold Builtin.Dict.keyAndDefault
  refine wpAny_bind (wpAny_notOrdered_dict m.typeIs ?_)
  show wpAny _ _ (pure (d, key, some dflt)) _ _ _
  refine wpAny_pure ?_
  show wpAny _ _ (if (d == sysModules) = true then _ else (dictSetDefault d key dflt >>= _)) _ _ _
  rw [if_neg (by rw [m.1]; exact Bool.false_ne_true)]
  exact wpAny_bind (rows_setdefault room1 hk m ok hz (fun p hp => wpAny_pure ⟨p, rfl, r1 p hp⟩) fun hn h' m' sb => wpAny_pure ⟨dflt, rfl, r2 hn h' m' sb⟩)
end
end SE
/-! Rules for a dict whose keys are None and tuples of texts, whose values are objects. -/
namespace SE
open PySem PySem.Spec PyProof.Rows L2 SeqAt
def keyT : Option (List Str) → NestedKey
  | none => .none
  | some xs => .tup (xs.map .text)
theorem texts_inj : ∀ {xs ys : List Str}, xs.map NestedKey.text = ys.map NestedKey.text → xs = ys
  | [], [], _ => rfl
  | [], _ :: _, h => by cases h
  | _ :: _, [], h => by cases h
  | x :: xs, y :: ys, h => by
    obtain ⟨h1, h2⟩ := List.cons.inj h
    cases h1
    rw [texts_inj h2]
theorem keyT_inj : ∀ {a b : Option (List Str)}, keyT a = keyT b → a = b
  | none, none, _ => rfl
  | none, some _, h => by cases h
  | some _, none, h => by cases h
  | some xs, some ys, h => by rw [texts_inj (NestedKey.tup.inj h)]
theorem texts_flat : ∀ xs : List Str, NestedKey.depthAll (xs.map .text) = 0
  | [] => rfl
  | x :: xs => by
    show max 0 (NestedKey.depthAll (xs.map .text)) = 0
    rw [texts_flat xs]
    rfl
theorem keyT_depth (k : Option (List Str)) : (keyT k).depth ≤ 8 := by
  cases k with
  | none => exact Nat.zero_le _
  | some xs =>
    show NestedKey.depthAll (xs.map .text) + 1 ≤ 8
    rw [texts_flat]
    decide
/-- a row: the key, the key's value, the object -/
abbrev RowV := Option (List Str) × V × Addr
def keyVal : V → Value
  | .ref b => .ref b
  | _ => .none
def toRow (r : RowV) : Row := (keyT r.1, keyVal r.2.1, .ref r.2.2)
def rowAt (k : Option (List Str)) : List RowV → Option Addr
  | [] => none
  | r :: rest => if r.1 = k then some r.2.2 else rowAt k rest
def rowPut (k : Option (List Str)) (y : V) (l : Addr) : List RowV → List RowV
  | [] => [(k, y, l)]
  | r :: rest => if r.1 = k then (r.1, r.2.1, l) :: rest else r :: rowPut k y l rest
theorem valR_rows (k : Option (List Str)) : ∀ rows : List RowV, valR (keyT k) (rows.map toRow) = (rowAt k rows).map .ref
  | [] => rfl
  | r :: rest => by
    rw [List.map_cons]
    unfold valR rowAt
    by_cases e : r.1 = k
    · rw [if_pos e, if_pos (show (toRow r).1 = keyT k by rw [← e]; rfl)]
      rfl
    · rw [if_neg e, if_neg (show ¬ (toRow r).1 = keyT k from fun z => e (keyT_inj z)), valR_rows k rest]
theorem putR_rows (k : Option (List Str)) (y : V) (l : Addr) : ∀ rows : List RowV, putR (keyT k) (keyVal y) (.ref l) (rows.map toRow) = (rowPut k y l rows).map toRow
  | [] => rfl
  | r :: rest => by
    rw [List.map_cons]
    unfold putR rowPut
    by_cases e : r.1 = k
    · rw [if_pos e, if_pos (show (toRow r).1 = keyT k by rw [← e]; rfl)]
      rfl
    · rw [if_neg e, if_neg (show ¬ (toRow r).1 = keyT k from fun z => e (keyT_inj z)), putR_rows k y l rest]
      rfl
theorem rowPut_length (k : Option (List Str)) (y : V) (l : Addr) : ∀ rows : List RowV, (rowPut k y l rows).length ≤ rows.length + 1
  | [] => Nat.le_refl _
  | r :: rest => by
    unfold rowPut
    split
    · simp
    · have := rowPut_length k y l rest
      simp only [List.length_cons]
      omega
theorem rowPut_mem {k : Option (List Str)} {y : V} {l : Addr} : ∀ {rows : List RowV} {r : RowV}, r ∈ rowPut k y l rows → (∃ r0 ∈ rows, r.1 = r0.1 ∧ r.2.1 = r0.2.1) ∨ r = (k, y, l)
  | [], r, h => by
    have e : r = (k, y, l) := by simpa [rowPut] using h
    exact .inr e
  | q :: rest, r, h => by
    unfold rowPut at h
    split at h
    · rcases List.mem_cons.mp h with e | m
      · exact .inl ⟨q, List.mem_cons_self, by rw [e], by rw [e]⟩
      · exact .inl ⟨r, List.mem_cons_of_mem _ m, rfl, rfl⟩
    · rcases List.mem_cons.mp h with e | m
      · exact .inl ⟨q, List.mem_cons_self, by rw [e], by rw [e]⟩
      · rcases rowPut_mem m with ⟨r0, m0, e⟩ | e
        · exact .inl ⟨r0, List.mem_cons_of_mem _ m0, e⟩
        · exact .inr e
theorem rowPut_keys {k : Option (List Str)} {y : V} {l : Addr} : ∀ {rows : List RowV}, (rows.map (·.1)).Nodup → ((rowPut k y l rows).map (·.1)).Nodup
  | [], _ => by simp [rowPut]
  | q :: rest, h => by
    have h2 := List.nodup_cons.mp h
    unfold rowPut
    split
    · exact h
    · rename_i ne
      refine List.nodup_cons.mpr ⟨fun m => ?_, rowPut_keys h2.2⟩
      obtain ⟨r, m1, e⟩ := List.mem_map.mp m
      rcases rowPut_mem m1 with ⟨r0, m0, e0, _⟩ | z
      · exact h2.1 (List.mem_map.mpr ⟨r0, m0, e0.symm.trans e⟩)
      · exact ne ((show q.1 = r.1 from e.symm).trans (by rw [z]))
/-- the dict's object -/
def rowsO (w : World) (d : Addr) (rows : List RowV) : HO := .ext fun h => RowsAt w h d (rows.map toRow)
/-- a key's value -/
def KeyV (K : PySem.W.Frag) (H : Hp) (y : V) : Option (List Str) → Prop
  | none => y = .non
  | some xs => ∃ b, y = .ref b ∧ SqT K H b (xs.map .str)
structure RowsK (K : PySem.W.Frag) (H : Hp) (rows : List RowV) : Prop where
  keys : ∀ r ∈ rows, KeyV K H r.2.1 r.1
  nd : (rows.map (·.1)).Nodup
theorem KeyV.mono {K : PySem.W.Frag} {H H' : Hp} {y : V} (t : ∀ b xs, SqT K H b xs → SqT K H' b xs) : ∀ {k : Option (List Str)}, KeyV K H y k → KeyV K H' y k
  | none, h => h
  | some xs, ⟨b, e, q⟩ => ⟨b, e, t b _ q⟩
theorem RowsK.mono {K : PySem.W.Frag} {H H' : Hp} {rows : List RowV} (t : ∀ b xs, SqT K H b xs → SqT K H' b xs) (r : RowsK K H rows) : RowsK K H' rows := ⟨fun q m => (r.keys q m).mono t, r.nd⟩
theorem RowsK.nil {K : PySem.W.Frag} {H : Hp} : RowsK K H [] := ⟨fun q m => (by cases m), List.nodup_nil⟩
theorem RowsK.put {K : PySem.W.Frag} {H : Hp} {rows : List RowV} {k : Option (List Str)} {y : V} (l : Addr) (r : RowsK K H rows) (q : KeyV K H y k) : RowsK K H (rowPut k y l rows) := by
  refine ⟨fun z m => ?_, rowPut_keys r.nd⟩
  rcases rowPut_mem m with ⟨r0, m0, e1, e2⟩ | e
  · rw [e1, e2]
    exact r.keys r0 m0
  · rw [e]
    exact q
/-- a dict that is written leaves the tuples -/
theorem rows_tup {K : PySem.W.Frag} {H : Hp} {w : World} {d : Addr} {rows : List RowV} {o : HO} (e : H d = some (rowsO w d rows)) : ∀ b xs, SqT K H b xs → SqT K (upd H d o) b xs := fun b xs q => by
  rcases q with (q | ⟨ob, q⟩) | q
  · exact .inl (.inl (by rw [upd_ne (ne_of q e (fun z => nomatch z))]; exact q))
  · exact .inl (.inr ⟨ob, by rw [upd_ne (ne_of q e (fun z => nomatch z))]; exact q⟩)
  · exact .inr q
theorem rowsAt_at {w : World} {h h' : Heap} {d : Addr} {rows : List Row} (m : RowsAt w h d rows) (k : ∀ o, h.get? d = some o → h'.get? d = some o) : RowsAt w h' d rows := by
  obtain ⟨a, b, o, es, ep, ho, r⟩ := m
  exact ⟨a, b, o, es, ep, k o ho, r⟩
theorem rowsO_ok {P : Program} {w : World} {H : Hp} {h : Heap} {d : Addr} {rows : List RowV} (m : RowsAt w h d (rows.map toRow)) : ObjOk P w H h d (rowsO w d rows) := by
  have ⟨_, _, o, _, _, ho, _⟩ := m
  exact ⟨m, ⟨o, ho⟩, fun h1 h2 p k => rowsAt_at p k⟩
section
variable {X : Cx} {pins : List (Addr × Obj)} {σ : L2.St} {H : Hp} {s : Shared} {d : Addr} {rows : List RowV} {y : V} {k : Option (List Str)} {u : Value} {A : Around} {E : Value → Shared → Prop}
theorem rows_read (I : Inv X pins σ H s) (e : Rd H d (rowsO X.w d rows)) : RowsAt X.w s.heap d (rows.map toRow) := (e.ok I.hok).1
theorem texts_all {h : Heap} : ∀ {xs : List Str} {us : List Value}, Vals (xs.map .str) us → NestedAll h (xs.map .text) us
  | [], _, r => by cases r; exact .nil
  | x :: xs, _, r => by
    cases r with
    | cons a b =>
      obtain ⟨t, rfl⟩ := a
      exact .cons (.text x t) (texts_all b)
theorem key_ok (I : Inv X pins σ H s) (q : KeyV X.K H y k) (r : RelV y u) : u = keyVal y ∧ KeyOk s.heap (keyT k) u := by
  cases k with
  | none =>
    cases q
    cases r
    exact ⟨rfl, .none, Nat.zero_le _, .inl rfl⟩
  | some xs =>
    obtain ⟨b, rfl, q⟩ := q
    cases r
    obtain ⟨its, rv, ⟨o, h1, h2, n, h3⟩, _⟩ := I.tuple q
    exact ⟨rfl, .tup h1 h2 h3 (texts_all (by simpa using rv)), keyT_depth _, .inr ⟨b, rfl⟩⟩
theorem rows_ok (I : Inv X pins σ H s) (rk : RowsK X.K H rows) : RowsOk s.heap (rows.map toRow) := by
  have rel : ∀ r ∈ rows, RelV r.2.1 (keyVal r.2.1) := fun r m => by
    have q := rk.keys r m
    revert q
    cases e : r.1 with
    | none =>
      intro q
      rw [show r.2.1 = .non from q]
      rfl
    | some xs =>
      rintro ⟨b, eb, _⟩
      rw [eb]
      rfl
  refine ⟨?_, ?_, ?_, ?_⟩
  · intro r m
    obtain ⟨q, m2, rfl⟩ := List.mem_map.mp m
    exact (key_ok I (rk.keys q m2) (rel q m2)).2.is
  · intro r m
    obtain ⟨q, m, rfl⟩ := List.mem_map.mp m
    exact keyT_depth _
  · intro r m
    obtain ⟨q, m2, rfl⟩ := List.mem_map.mp m
    exact (key_ok I (rk.keys q m2) (rel q m2)).2.nr
  · rw [List.map_map, show ((·.1) ∘ toRow) = keyT ∘ (fun r : RowV => r.1) from rfl, ← List.map_map]
    exact (List.pairwise_map.mpr (rk.nd.imp fun ne z => ne (keyT_inj z)))
theorem rows_turned {h' : Heap} {t' : Nat} {rows' : List RowV} (I : Inv X pins σ H s) (e : H d = some (rowsO X.w d rows)) (m : RowsAt X.w h' d (rows'.map toRow)) (sb : Heap.SameBut d s.heap h') : Inv X pins σ (upd H d (rowsO X.w d rows')) { s with heap := h', toks := t' } :=
  d_write I (by rw [e]; exact True.intro) sb (let ⟨_, _, o, _, _, ho, _⟩ := m; ⟨o, ho⟩) (rowsO_ok m)
end
/-! ### rules -/
/-- {} -/
def tRowsNew (w : World) : TE := fun _ H Q => ∀ p, H p = none → Q (.ref p) (upd H p (rowsO w p []))
/-- d[y] -/
def tRowGet (w : World) (K : PySem.W.Frag) (td ty : TE) : TE := fun σ H Q => td σ H fun x H1 => ty σ H1 fun y H2 => ∃ d rows k l, x = .ref d ∧ Rd H2 d (rowsO w d rows) ∧ RowsK K H2 rows ∧ KeyV K H2 y k ∧ rowAt k rows = some l ∧ Q (.ref l) H2
/-- d.get(y, z) -/
def tRowGetD (w : World) (K : PySem.W.Frag) (td ty tx : TE) : TE := fun σ H Q => td σ H fun x H1 => ∃ d rows, x = .ref d ∧ Rd H1 d (rowsO w d rows) ∧ ty σ H1 fun y H2 => tx σ H2 fun z H3 => ∃ k, Rd H3 d (rowsO w d rows) ∧ RowsK K H3 rows ∧ KeyV K H3 y k ∧
  (∀ l, rowAt k rows = some l → Q (.ref l) H3) ∧ (rowAt k rows = none → Q z H3)
/-- d.setdefault(y, z) -/
def tRowSetD (w : World) (K : PySem.W.Frag) (td ty tx : TE) : TE := fun σ H Q => td σ H fun x H1 => ∃ d rows, x = .ref d ∧ Rd H1 d (rowsO w d rows) ∧ ty σ H1 fun y H2 => tx σ H2 fun z H3 => ∃ k l, z = .ref l ∧ H3 d = some (rowsO w d rows) ∧ RowsK K H3 rows ∧ KeyV K H3 y k ∧ rows.length < sizeLine ∧
  (∀ l, rowAt k rows = some l → Q (.ref l) H3) ∧ (rowAt k rows = none → Q (.ref l) (upd H3 d (rowsO w d (rowPut k y l rows))))
/-- y in d -/
def tRowIn (w : World) (K : PySem.W.Frag) (ty td : TE) : TE := fun σ H Q => ty σ H fun y H1 => td σ H1 fun x H2 => ∃ d rows k, x = .ref d ∧ Rd H2 d (rowsO w d rows) ∧ RowsK K H2 rows ∧ KeyV K H2 y k ∧ Q (.bl (rowAt k rows).isSome) H2
/-- d[y] = v -/
def sRowPut (w : World) (K : PySem.W.Frag) (td ty tv : TE) : TS := fun D σ H => tv σ H fun v H1 => td σ H1 fun x H2 => ty σ H2 fun y H3 => ∃ d rows k l, v = .ref l ∧ x = .ref d ∧ H3 d = some (rowsO w d rows) ∧ RowsK K H3 rows ∧ KeyV K H3 y k ∧ rows.length < sizeLine ∧ D.nx σ (upd H3 d (rowsO w d (rowPut k y l rows)))
section
variable {X : Cx} {o i e f value : Expr} {pos pos' apos cpos : Pos} {td ty tx tv : TE}
theorem pe_rowsNew : PE X (.Dict [] [] pos) (tRowsNew X.w) := ⟨fun pins s σ H Q I h => by
  have big : (s.heap.objs.size == sysModules) = false := beq_eq_false_iff_ne.mpr (Ne.symm (Nat.ne_of_lt I.big))
  refine wpAny_Dict_empty ⟨.ref s.heap.objs.size, _, I.laid (a := s.heap.objs.size) (o := rowsO X.w s.heap.objs.size []) (t' := s.toks) (fun _ _ q => Heap.get?_push_of_some _ q) (Nat.le_refl _) (rowsO_ok ?_), rfl, h _ (I.hok.fresh (Nat.le_refl _))⟩
  exact ⟨big, Nat.zero_le _, _, #[], 0, Heap.get?_push_size _ rfl, ⟨rfl, rfl, rfl⟩, rfl, rfl⟩⟩
theorem pe_rowGet (room : X.A.units + 9 < cLine) (ho : PE X o td) (hi : PE X i ty) (hs : NoSl i) : PE X (.Subscript o i pos) (tRowGet X.w X.K td ty) := by
  refine ⟨fun pins s σ H Q I h => ?_⟩
  refine subD_of PySem.F.slot_dict_getitem.lookup hs (thn (ho.run pins s σ H _ I h) fun u s1 ⟨x, H1, I1, rx, q1⟩ => thn (hi.run pins s1 σ H1 _ I1 q1) fun iv s2 ⟨y, H2, I2, ry, d, rows, k, l, ex, rd, rk, kv, at_k, q2⟩ => ?_)
  subst ex
  obtain rfl : u = Value.ref d := rx
  have m := rows_read I2 rd
  refine ⟨m.typeIs, rows_item (v := .ref l) room (key_ok I2 kv ry).2 m (rows_ok I2 rk) (by rw [valR_rows, at_k]; rfl) ?_⟩
  exact ⟨.ref l, H2, I2.tok _, rfl, q2⟩
theorem pc_rowIn (room : X.A.units + 9 < cLine) (hi : PE X i ty) (ho : PE X o td) : PC X .In i o (tRowIn X.w X.K ty td) := by
  refine ⟨fun pins s σ H Q I h => ?_⟩
  refine thn (hi.run pins s σ H _ I h) fun iv s1 ⟨y, H1, I1, ry, q1⟩ => thn (ho.run pins s1 σ H1 _ I1 q1) fun u s2 ⟨x, H2, I2, rx, d, rows, k, ex, rd, rk, kv, q2⟩ => ?_
  subst ex
  obtain rfl : u = Value.ref d := rx
  refine rows_in room (key_ok I2 kv ry).2 (rows_read I2 rd) (rows_ok I2 rk) ?_
  refine ⟨.bl (rowAt k rows).isSome, H2, I2.tok _, ?_, q2⟩
  rw [valR_rows, Option.isSome_map]
  rfl
theorem ps_rowPut (room : X.A.units + 9 < cLine) (ho : PE X o td) (hi : PE X i ty) (hv : PE X value tv) (hs : swapsWith value (some (.Subscript o i pos')) pos.line X.env = pure false) :
    PS X (.Assign [.Subscript o i pos'] value pos) (sRowPut X.w X.K td ty tv) := by
  refine ⟨fun pins s σ H D I h => ?_⟩
  refine wpAny_Assign_Subscript (thn (hv.run pins s σ H _ I h) fun r s1 ⟨v, H1, I1, rv, q1⟩ => thn (ho.run pins s1 σ H1 _ I1 q1) fun u s2 ⟨x, H2, I2, rx, q2⟩ => thn (hi.run pins s2 σ H2 _ I2 q2) fun iv s3 ⟨y, H3, I3, ry, d, rows, k, l, ev, ex, e, rk, kv, hz, q3⟩ => ?_) hs
  subst ev ex
  obtain rfl : u = Value.ref d := rx
  obtain rfl : r = Value.ref l := rv
  obtain ⟨ey, kk⟩ := key_ok I3 kv ry
  refine rows_setItem room kk (rows_read I3 (.of e)) (rows_ok I3 rk) (by rw [List.length_map]; exact hz) fun h' m sb => ?_
  rw [ey, putR_rows] at m
  exact ⟨σ, _, rows_turned I3 e m sb, q3⟩
theorem rows_at (I : Inv X pins σ H s) {d : Addr} {rows : List RowV} (e : Rd H d (rowsO X.w d rows)) : s.TypeIs (.ref d) "dict" ∧ ∀ b, Value.ref d = .ref b → ∃ ob, s.heap.get? b = some ob ∧ ob.dict = none := by
  have m := rows_read I e
  refine ⟨m.typeIs, fun b q => ?_⟩
  cases q
  obtain ⟨_, _, ob, _, _, h1, h2, _⟩ := m
  exact ⟨ob, h1, h2.2.1⟩
theorem pe_rowGetD (room : X.A.units + 9 < cLine) (ho : PE X o td) (he : PE X e ty) (hf : PE X f tx) (m : M2 X o "get" apos e f cpos) : PE X (.Call (.Attribute o "get" apos) [e, f] [] cpos) (tRowGetD X.w X.K td ty tx) := by
  refine ⟨fun pins s σ H Q I h => ?_⟩
  refine wpAny_Call_method m.base m.few m.line PySem.F.plainAttrs_dict PySem.F.slot_dict_get PySem.F.type_dict_get (thn (ho.run pins s σ H _ I h) fun u s1 ⟨x, H1, I1, rx, d, rows, ex, rd, q1⟩ => ?_)
  subst ex
  obtain rfl : u = Value.ref d := rx
  obtain ⟨t1, t2⟩ := rows_at I1 rd
  refine ⟨t1, t2, ?_⟩
  rw [m.trees]
  refine Calls.callWith_builtin rfl (Calls.evalArgs_plain (Calls.spliced_cons (thn (he.run pins s1 σ H1 _ I1 q1) fun iv s2 ⟨y, H2, I2, ry, q2⟩ => Calls.spliced_cons (thn (hf.run pins s2 σ H2 _ I2 q2) fun fv s3 ⟨z, H3, I3, rz, k, rd3, rk, kv, c1, c2⟩ => Calls.spliced_nil ?_))))
  refine rows_getD room (key_ok I3 kv ry).2 (rows_read I3 rd3) (rows_ok I3 rk) ?_
  rw [valR_rows]
  cases q : rowAt k rows with
  | some l => exact ⟨.ref l, H3, I3.tok _, rfl, c1 l q⟩
  | none => exact ⟨z, H3, I3.tok _, rz, c2 q⟩
theorem pe_rowSetD (room : X.A.units + 9 < cLine) (ho : PE X o td) (he : PE X e ty) (hf : PE X f tx) (m : M2 X o "setdefault" apos e f cpos) : PE X (.Call (.Attribute o "setdefault" apos) [e, f] [] cpos) (tRowSetD X.w X.K td ty tx) := by
  refine ⟨fun pins s σ H Q I h => ?_⟩
  refine wpAny_Call_method m.base m.few m.line PySem.F.plainAttrs_dict PySem.F.slot_dict_setdefault PySem.F.type_dict_setdefault (thn (ho.run pins s σ H _ I h) fun u s1 ⟨x, H1, I1, rx, d, rows, ex, rd, q1⟩ => ?_)
  subst ex
  obtain rfl : u = Value.ref d := rx
  obtain ⟨t1, t2⟩ := rows_at I1 rd
  refine ⟨t1, t2, ?_⟩
  rw [m.trees]
  refine Calls.callWith_builtin rfl (Calls.evalArgs_plain (Calls.spliced_cons (thn (he.run pins s1 σ H1 _ I1 q1) fun iv s2 ⟨y, H2, I2, ry, q2⟩ => Calls.spliced_cons (thn (hf.run pins s2 σ H2 _ I2 q2) fun fv s3 ⟨z, H3, I3, rz, k, l, ez, e3, rk, kv, hz, c1, c2⟩ => Calls.spliced_nil ?_))))
  subst ez
  obtain rfl : fv = Value.ref l := rz
  obtain ⟨ey, kk⟩ := key_ok I3 kv ry
  refine rows_setD room kk (rows_read I3 (.of e3)) (rows_ok I3 rk) (by rw [List.length_map]; exact hz) (fun x hx => ?_) fun hn h' m' sb => ?_
  · rw [valR_rows] at hx
    obtain ⟨l', q, rfl⟩ := Option.map_eq_some_iff.mp hx
    exact ⟨.ref l', H3, I3.tok _, rfl, c1 l' q⟩
  · rw [valR_rows] at hn
    rw [ey, putR_rows] at m'
    exact ⟨.ref l, _, rows_turned I3 e3 m' sb, rfl, c2 (Option.map_eq_none_iff.mp hn)⟩
end
/-! ### walks -/
/-- the keys of the locked dict at d -/
def ItRk (w : World) (d : Addr) (o : Obj) (rows : List RowV) : It :=
  ⟨fun i H => H d = some (.frz o (rowsO w d rows)) ∧ i < rows.length, fun i H x H' => H' = H ∧ ∃ r, rows[i]? = some r ∧ keyVal x = keyVal r.2.1 ∧ (x = .non ∨ ∃ b, x = .ref b), fun i H => H d = some (.frz o (rowsO w d rows)) ∧ rows.length ≤ i⟩
/-- its values -/
def ItRv (w : World) (d : Addr) (o : Obj) (rows : List RowV) : It :=
  ⟨fun i H => H d = some (.frz o (rowsO w d rows)) ∧ i < rows.length, fun i H x H' => H' = H ∧ ∃ r, rows[i]? = some r ∧ x = .ref r.2.2, fun i H => H d = some (.frz o (rowsO w d rows)) ∧ rows.length ≤ i⟩
section
variable {X : Cx} {pins : List (Addr × Obj)} {σ : L2.St} {H : Hp} {s : Shared} {d : Addr} {o : Obj} {rows : List RowV}
theorem rows_frz (I : Inv X pins σ H s) (h : H d = some (.frz o (rowsO X.w d rows))) : (d == sysModules) = false ∧ ∃ (es : Array DictEntry) (ep : Nat), o.data = .dict es ep ∧ s.heap.DictRaw d es ep ∧ es.size = rows.length ∧ ∀ (i : Nat) (r : RowV), rows[i]? = some r → es[i]? = some (rowE X.w (toRow r)) := by
  obtain ⟨hd, ⟨a, b, o', es, ep, ho, hx, hdt, he⟩, _⟩ := I.hok d _ h
  rw [hd] at ho
  cases ho
  refine ⟨a, es, ep, hdt, ⟨o, hd, hx, hdt⟩, ?_, fun i r e => ?_⟩
  · rw [row_size he, List.length_map]
  · rw [row_at he i, List.getElem?_map, e]
    rfl
end
section
variable {P : Program} {w : World} {K : PySem.W.Frag} {tg : Expr} {d : Addr} {o : Obj} {es : Array DictEntry} {ep : Nat} {rows : List RowV}
theorem turn_rowKeys (it : Addr) (hod : o.data = .dict es ep) : Turn P w K tg (ItRk w d o rows) [it] it (fun i h => h.IsKeyIter it d i rows.length ep) where
  mem := by simp
  obj := fun i h st b hb => by
    obtain rfl : b = it := by simpa using hb
    obtain ⟨oi, e, c, dd⟩ := st
    exact ⟨oi, e, fun v z => by rw [dd] at z; cases z⟩
  keep := fun i h h' st k => st.at fun oi e => k it (by simp) oi e
  item := by
    intro X hP hw hK hc i pins s σ H E I hf st hg
    subst hP hw hK
    obtain ⟨hd, hi⟩ := hg
    obtain ⟨f0, f1, f2, f3, f4, f5⟩ := hf it (by simp)
    obtain ⟨hs, es', ep', hdt, raw, hsz, ent⟩ := rows_frz I hd
    obtain ⟨rfl, rfl⟩ := dict_ep hod hdt
    obtain ⟨r, hr⟩ : ∃ r, rows[i]? = some r := ⟨rows[i], List.getElem?_eq_getElem hi⟩
    have en := ent i r hr
    have hlt : i < es'.size := by omega
    have ei : es'[i].key = keyVal r.2.1 := by
      rw [Array.getElem?_eq_getElem hlt] at en
      rw [Option.some.inj en]
      rfl
    rw [← hsz] at st
    refine wpAny_pyNext_keys_item_raw st raw hlt fun h' st' sb => ?_
    have I1 : Inv X pins σ H { s with heap := h' } := I.turned (t' := s.toks) (fun b ob hb e => (sb.2 b hb).trans e) f0 f1 f3 f4 f5
    obtain ⟨oi, e, c, dd⟩ := id st'
    rw [hsz] at st'
    refine ⟨_, rfl, go_of (s := { s with heap := h' }) e c dd (by decide) ?_⟩
    rw [ei]
    cases ev : r.2.1 with
    | ref b => exact ⟨.ref b, H, I1, rfl, ⟨rfl, r, hr, by rw [ev], .inr ⟨b, rfl⟩⟩, st', fun b hb => (hf b hb).1⟩
    | _ => exact ⟨.non, H, I1, rfl, ⟨rfl, r, hr, by rw [ev] <;> rfl, .inl rfl⟩, st', fun b hb => (hf b hb).1⟩
  done := by
    intro X hP hw hK hc i pins s σ H E I hf st hg
    subst hP hw hK
    obtain ⟨hd, hi⟩ := hg
    obtain ⟨f0, f1, f2, f3, f4, f5⟩ := hf it (by simp)
    obtain ⟨hs, es', ep', hdt, raw, hsz, ent⟩ := rows_frz I hd
    obtain ⟨rfl, rfl⟩ := dict_ep hod hdt
    rw [← hsz] at st
    exact wpAny_pyNext_keys_end_raw (I.ok.hd hc) st raw (by omega) fun h' eb => ⟨rfl, I.turned (t' := s.toks) (fun b ob hb e => eb b ob hb e) f0 f1 f3 f4 f5⟩
  self := fun A i s Q E st h => wpAny_pyIter_keyiter st h
theorem turn_rowVals (it : Addr) (hod : o.data = .dict es ep) : Turn P w K tg (ItRv w d o rows) [it] it (fun i h => h.IsValIter it d i rows.length ep) where
  mem := by simp
  obj := fun i h st b hb => by
    obtain rfl : b = it := by simpa using hb
    obtain ⟨oi, e, c, dd⟩ := st
    exact ⟨oi, e, fun v z => by rw [dd] at z; cases z⟩
  keep := fun i h h' st k => st.at fun oi e => k it (by simp) oi e
  item := by
    intro X hP hw hK hc i pins s σ H E I hf st hg
    subst hP hw hK
    obtain ⟨hd, hi⟩ := hg
    obtain ⟨f0, f1, f2, f3, f4, f5⟩ := hf it (by simp)
    obtain ⟨hs, es', ep', hdt, raw, hsz, ent⟩ := rows_frz I hd
    obtain ⟨rfl, rfl⟩ := dict_ep hod hdt
    obtain ⟨r, hr⟩ : ∃ r, rows[i]? = some r := ⟨rows[i], List.getElem?_eq_getElem hi⟩
    have en := ent i r hr
    have hlt : i < es'.size := by omega
    have ei : es'[i].val = .ref r.2.2 := by
      rw [Array.getElem?_eq_getElem hlt] at en
      rw [Option.some.inj en]
      rfl
    rw [← hsz] at st
    refine wpAny_pyNext_values_item_raw st raw hlt fun h' st' sb => ?_
    have I1 : Inv X pins σ H { s with heap := h' } := I.turned (t' := s.toks) (fun b ob hb e => (sb.2 b hb).trans e) f0 f1 f3 f4 f5
    obtain ⟨oi, e, c, dd⟩ := id st'
    rw [hsz] at st'
    refine ⟨_, rfl, go_of (s := { s with heap := h' }) e c dd (by decide) ?_⟩
    rw [ei]
    exact ⟨.ref r.2.2, H, I1, rfl, ⟨rfl, r, hr, rfl⟩, st', fun b hb => (hf b hb).1⟩
  done := by
    intro X hP hw hK hc i pins s σ H E I hf st hg
    subst hP hw hK
    obtain ⟨hd, hi⟩ := hg
    obtain ⟨f0, f1, f2, f3, f4, f5⟩ := hf it (by simp)
    obtain ⟨hs, es', ep', hdt, raw, hsz, ent⟩ := rows_frz I hd
    obtain ⟨rfl, rfl⟩ := dict_ep hod hdt
    rw [← hsz] at st
    exact wpAny_pyNext_values_end_raw (I.ok.hd hc) st raw (by omega) fun h' eb => ⟨rfl, I.turned (t' := s.toks) (fun b ob hb e => eb b ob hb e) f0 f1 f3 f4 f5⟩
  self := fun A i s Q E st h => wpAny_pyIter_valiter st h
end
def iRows (w : World) (td : TE) : TI := fun σ H R => td σ H fun x H1 => ∃ d o rows, x = .ref d ∧ H1 d = some (.frz o (rowsO w d rows)) ∧ R (ItRk w d o rows) H1
def iRowVals (w : World) (td : TE) : TI := fun σ H R => td σ H fun x H1 => ∃ d o rows, x = .ref d ∧ H1 d = some (.frz o (rowsO w d rows)) ∧ R (ItRv w d o rows) H1
section
variable {X : Cx} {tg e : Expr} {td : TE} {apos cpos : Pos}
theorem pi_rows (he : PE X e td) : PI X tg e (iRows X.w td) := by
  refine ⟨fun pins s σ H R I h => ?_⟩
  refine thn (he.run pins s σ H _ I h) fun u s1 ⟨x, H1, I1, rx, d, o, rows, ex, hd, q⟩ => ?_
  subst ex
  obtain rfl : u = Value.ref d := rx
  obtain ⟨hs, es, ep, hdt, raw, hsz, ent⟩ := rows_frz I1 hd
  refine wpAny_pyIter_dict_raw hs raw (pi_one (tk := s1.toks) I1 _ (turn_rowKeys _ hdt) ⟨_, Heap.get?_push_size _ rfl, rfl, ?_⟩ q)
  rw [hsz] <;> rfl
theorem pi_rowVals (he : PE X e td) (hbase : attributeBase e "values" X.env (eval e X.env) = eval e X.env := by rfl) (hline : (apos.endLine == cpos.line) = true := by rfl) : PI X tg (.Call (.Attribute e "values" apos) [] [] cpos) (iRowVals X.w td) := by
  refine ⟨fun pins s σ H R I h => ?_⟩
  refine wpAny_Call_method (T := "dict") (id := "dict.values") hbase rfl hline F.plainAttrs_dict F.slot_dict_values F.type_dict_values (thn (he.run pins s σ H _ I h) fun u s1 ⟨x, H1, I1, rx, d, o, rows, ex, hd, q⟩ => ?_)
  subst ex
  obtain rfl : u = Value.ref d := rx
  obtain ⟨t1, t2⟩ := rows_at I1 (.inr ⟨o, hd⟩)
  obtain ⟨hs, es, ep, hdt, raw, hsz, ent⟩ := rows_frz I1 hd
  refine ⟨t1, t2, ?_⟩
  have I2 : Inv X pins σ H1 { s1 with heap := s1.heap.push { cls := .type "dict_values", data := .fields #[.ref d] } } := I1.kept (t' := s1.toks) fun b ob q => Heap.get?_push_of_some _ q
  have raw2 : (s1.heap.push { cls := .type "dict_values", data := .fields #[.ref d] }).DictRaw d es ep := raw.at fun ob e => Heap.get?_push_of_some _ e
  have fin : wpAny (model X.prog X.w) X.A (pyIter (.ref s1.heap.objs.size)) (PIE X pins σ tg R) X.xe { s1 with heap := s1.heap.push { cls := .type "dict_values", data := .fields #[.ref d] } } := by
    refine wpAny_pyIter_values_raw (d := d) ⟨_, Heap.get?_push_size _ rfl, rfl, rfl⟩ raw2 (pi_one (tk := s1.toks) I2 _ (turn_rowVals _ hdt) ⟨_, Heap.get?_push_size _ rfl, rfl, ?_⟩ q)
    rw [hsz] <;> rfl
  show wpAny _ _ (callWith cpos (.builtin "dict.values") [.ref d] [] []) _ X.xe s1
  exact method_meetsIn F.slot_dict_values F.entry_dict_values rfl (PySem.evalArgs_none ⟨rfl, t1, F.args_dict_values_1 _, _, meets_dict_values_raw d hs, ⟨es, ep, raw⟩, fin⟩)
end
end SE
/-! min(list, key = own function, default = ..): the keys are data. -/
namespace SE
open PySem PySem.Spec PyProof.Rows L2 SeqAt
open PySem.W (alike dataLt rcLt_alike)
/-- an object of a built-in's own: it may turn, and be pinned as it stands -/
structure Mine (X : Cx) (pins : List (Addr × Obj)) (b : Addr) : Prop where
  l : b ≠ X.env.locals
  f : b ∉ X.fs
  a : b ∈ X.ex ∨ X.s_0.heap.objs.size ≤ b
  c : ∀ x c, X.env.cells.lookup x = some c → c ≠ b
  p : ∀ p ∈ X.pn ++ pins, p.1 ≠ b
section
variable {X : Cx} {pins : List (Addr × Obj)} {σ : L2.St} {H H' : Hp} {s : Shared} {b : Addr} {o : Obj} {h' : Heap} {t' : Nat}
theorem Mine.of (I : Inv X pins σ H s) (hb : s.heap.objs.size ≤ b) (hn : H b = none) : Mine X pins b := by
  obtain ⟨h0, h1, h2, h3, h4, h5⟩ := I.fpOk (H' := H) hb hn
  exact ⟨h1, h2, h3, h4, h5⟩
theorem repin (I : Inv X pins σ H s) (m : Mine X pins b) (hn : H b = none) (ho : s.heap.get? b = some o) (hc : ∀ v, o.data ≠ .cell v) : Inv X ((b, o) :: pins) σ H s :=
  I.pins_of fun q hq => by
    rcases List.mem_cons.mp hq with rfl | hq
    · exact ⟨ho, hn, m.l, m.f, hc⟩
    · exact I.pin q (List.mem_append_right _ hq)
theorem Mine.turn (m : Mine X pins b) (I : Inv X pins σ H s) (hn : H b = none) (k : ∀ c o, c ≠ b → s.heap.get? c = some o → h'.get? c = some o) : Inv X pins σ H { s with heap := h', toks := t' } :=
  I.turned k hn m.l m.a m.c m.p
/-- an own function called within a built-in -/
theorem call_in1 {k : Nat} {f : Addr} {fd : FuncData} {px : Str} {sp : Sp} {x : V} {u : Value} {Q : VK} {E : Value → Shared → Prop} (F : FnOk X.prog X.w X.K X.mg X.base CX0 k f fd [px] sp) (hb : Binds X.K fd [px] []) (hr : Room (k + 1) X.A) (I : Inv X pins σ H s) (r : RelV x u)
    (h : sp [x] H Q (fun _ _ _ => False)) : wpAny (model X.prog X.w) X.A.in1 (call (.ref f) [u]) (EP X pins σ Q) E s := by
  refine wpAny_call (codeAny_mono (F.run X.A.in1 X.stack s H ⟨[u], []⟩ [u] [x] _ _ hr.in1 I.env0.in1 (by simpa using hb s [u] I.kIn rfl) (.cons r .nil) h) fun r s2 hq => ?_)
  cases r with
  | error e => exact hq.elim
  | ok fl =>
    cases fl with
    | ret z => exact I.after hq
    | next => exact hq.elim
    | brk => exact hq.elim
    | cont => exact hq.elim
end
section
variable {K : PySem.W.Frag} {H H' : Hp}
mutual
theorem dpSame (s : Same H H') : ∀ (d : PyData) (v : V), Dp K H v d → Dp K H' v d
  | .none, _, h => by cases h; exact .non
  | .bool b, _, h => by cases h; exact .bl b
  | .int i, _, h => by cases h; exact .int i
  | .str x, _, h => by cases h; exact .str x
  | .list ds, _, h => by
    cases h with
    | lst a b => exact .lst (Same.seq s a) (dpsSame s ds _ b)
  | .tuple ds, _, h => by
    cases h with
    | tup a b => exact .tup (Same.tup s a) (dpsSame s ds _ b)
  | .dict kvs, _, h => by cases h
theorem dpsSame (s : Same H H') : ∀ (ds : List PyData) (vs : List V), DpAll K H vs ds → DpAll K H' vs ds
  | [], _, h => by cases h; exact .nil
  | d :: ds, _, h => by
    cases h with
    | cons a b => exact .cons (dpSame s d _ a) (dpsSame s ds _ b)
end
end
def seqO (us : Array Value) (c : Nat) : Obj := { cls := .type "list", dict := none, data := .seq us c, slots := #[] }
/-- what is asked of the keys of xs -/
structure Keys (K : PySem.W.Frag) (sp : Sp) (H0 : Hp) (xs : List V) (kd : Nat → PyData) : Prop where
  k : ∀ i x H1, xs[i]? = some x → Same H0 H1 → sp [x] H1 (fun y H2 => Same H1 H2 ∧ Dp K H2 y (kd i)) (fun _ _ _ => False)
  al : ∀ i j, i < xs.length → j < xs.length → alike (kd i) (kd j) = true
  nn : ∀ i, i < xs.length → kd i ≠ .none
  dp : ∀ i, i < xs.length → (kd i).depth ≤ 20
def ltK (kd : Nat → PyData) (i j : Nat) : Bool := dataLt (kd i) (kd j)
theorem argBest_le (bt : Nat → Nat → Bool) : ∀ k, argBest bt k ≤ k
  | 0 => Nat.le_refl _
  | k + 1 => by
    unfold argBest
    split
    · exact Nat.le_refl _
    · exact Nat.le_succ_of_le (argBest_le bt k)
section
variable {X : Cx} {k : Nat} {f : Addr} {fd : FuncData} {px : Str} {sp : Sp} {pins : List (Addr × Obj)} {σ : L2.St} {H0 : Hp} {a it S : Addr} {xs : List V} {kd : Nat → PyData} {Q : VK} {R : Result → Shared → Prop}
theorem mk_loop (FF : FnOk X.prog X.w X.K X.mg X.base CX0 k f fd [px] sp) (hb : Binds X.K fd [px] []) (hr : Room (k + 1) X.A) (hcalm : X.calm = true) (KY : Keys X.K sp H0 xs kd) (hl : SqL X.K H0 a xs) (mi : Mine X pins it) (mS : Mine X pins S) (nS : it ≠ S) (kw : List (Str × Value))
    (hq : ∀ x H', xs[argBest (ltK kd) (xs.length - 1)]? = some x → Same H0 H' → Q x H') (hR : ∀ v s', EP X pins σ Q v s' → R (.ok (.ret v)) s') :
    ∀ (m j : Nat) (s : Shared) (H : Hp) (vb kb : Value) (xb yb : V) (c : Nat), xs.length - (j + 1) = m → j + 1 ≤ xs.length → Inv X pins σ H s → Same H0 H → H it = none → H S = none → s.heap.IsListIter it a (j + 1) → s.heap.get? S = some (seqO #[vb, kb] c) →
    xs[argBest (ltK kd) j]? = some xb → RelV xb vb → RelV yb kb → Dp X.K H yb (kd (argBest (ltK kd) j)) → codeAny (model X.prog X.w) X.A (.builtin "min.loop" ⟨[.ref it, .ref f, .ref S], kw⟩) R s := by
  have hname : (toString "min" ++ toString ".loop" : String) = "min.loop" := by decide
  have nc : ∀ (us : Array Value) (c : Nat) (v : Option Value), (seqO us c).data ≠ .cell v := fun us c v z => by cases z
  intro m
  induction m with
  | zero =>
    intro j s H vb kb xb yb c hm hj I s0 ni nSn st hS hx rb ry hd
    have hin : j + 1 = xs.length := by omega
    obtain ⟨its, rv, pl, hz⟩ := I.list (Same.seq s0 hl)
    have lv := rv.length
    refine codeAny_builtin F.entry_min_loop ?_
    rw [Around.under_plainId F.plain_min_loop _]
    show wpAny _ X.A.in1 (seqItems? (.ref S) >>= _) _ _ s
    refine wpAny_bind (wpAny_seqItems hS rfl ?_)
    show wpAny _ X.A.in1 (tryCatch (pyNext (.ref it)) _ >>= _) _ _ s
    refine wpAny_bind (wpAny_tryCatch (wpAny_pyNext_list_end (I.ok.hd hcalm) st pl.isList (by simp; omega) fun h' eb => ?_))
    have hS' : h'.get? S = some (seqO #[vb, kb] c) := eb S _ (Ne.symm nS) hS
    have I1 : Inv X pins σ H { s with heap := h' } := mi.turn (t' := s.toks) I ni fun b o hb e => eb b o hb e
    show wpAny _ X.A.in1 (updateSeq S (fun _ => #[]) >>= _) _ _ _
    refine wpAny_bind ?_
    refine wpAny_updateSeq hS' rfl (wpAny_bind (wpAny_letGo (wpAny_pure ?_)))
    refine hR _ _ ⟨xb, H, mS.turn (s := { s with heap := h' }) (t' := s.toks) I1 nSn fun b o hb e => (Heap.get?_update_other _ _ (Ne.symm hb)).trans e, rb, hq xb H ?_ s0⟩
    rw [← hin]
    exact hx
  | succ m ih =>
    intro j s H vb kb xb yb c hm hj I s0 ni nSn st hS hx rb ry hd
    have hlt : j + 1 < xs.length := by omega
    obtain ⟨its, rv, pl, hz⟩ := I.list (Same.seq s0 hl)
    have hx1 : xs[j + 1]? = some xs[j + 1] := List.getElem?_eq_getElem hlt
    obtain ⟨u, hu, ru⟩ := rv.get hx1
    refine codeAny_builtin F.entry_min_loop ?_
    rw [Around.under_plainId F.plain_min_loop _]
    show wpAny _ X.A.in1 (seqItems? (.ref S) >>= _) _ _ s
    refine wpAny_bind (wpAny_seqItems hS rfl ?_)
    show wpAny _ X.A.in1 (tryCatch (pyNext (.ref it)) _ >>= _) _ _ s
    refine wpAny_bind (wpAny_tryCatch (wpAny_pyNext_list_item st pl.isList (x := u) (by simpa using hu) fun h' st' sb => ?_))
    have hS' : h'.get? S = some (seqO #[vb, kb] c) := (sb.2 S (Ne.symm nS)).trans hS
    have I1 : Inv X pins σ H { s with heap := h' } := mi.turn (t' := s.toks) I ni fun b o hb e => (sb.2 b hb).trans e
    obtain ⟨io, ie, ic, idt⟩ := id st'
    have I2 := repin I1 mS nSn hS' (nc _ _)
    have mi2 : Mine X ((S, seqO #[vb, kb] c) :: pins) it := ⟨mi.l, mi.f, mi.a, mi.c, fun q hq => by
      rcases List.mem_append.mp hq with z | z
      · exact mi.p q (List.mem_append_left _ z)
      · rcases List.mem_cons.mp z with rfl | z
        · exact Ne.symm nS
        · exact mi.p q (List.mem_append_right _ z)⟩
    have I3 := repin I2 mi2 ni ie (fun v z => by rw [idt] at z; cases z)
    show wpAny _ X.A.in1 (tryCatch (holding [u] (call (.ref f) [u])) _ >>= _) _ _ _
    refine wpAny_bind (wpAny_tryCatch (wpAny_holding (wpAny_mono (call_in1 FF hb hr I3 ru (KY.k (j + 1) _ H hx1 s0)) (fun kx s2 hh => ?_) fun _ _ z => z)))
    obtain ⟨yk, H2, I4, rk, s12, hdk⟩ := hh
    have s02 := s0.trans s12
    have ie2 := ClX.pin_at I4
    have ni2 := ClX.pin_un I4
    have I5 := ClX.unpin I4
    have hS2 := ClX.pin_at I5
    have nS2 := ClX.pin_un I5
    have I6 := ClX.unpin I5
    have st2 : s2.heap.IsListIter it a (j + 1 + 1) := ⟨io, ie2, ic, idt⟩
    have le := argBest_le (ltK kd) j
    have lt0 : argBest (ltK kd) j < xs.length := by omega
    obtain ⟨as1, r1⟩ := Dp.reads I6 (kd (j + 1)) yk kx hdk rk
    obtain ⟨as2, r2⟩ := Dp.reads I6 (kd (argBest (ltK kd) j)) yb kb (dpSame s12 _ _ hd) ry
    have cmp : RcLt X.A.in1 s2 kx kb (ltK kd (j + 1) (argBest (ltK kd) j)) := rcLt_alike _ _ X.A.in1 s2 kx kb as1 as2 r1 r2 (KY.al _ _ hlt lt0) (KY.nn _ hlt) (by
      have h1 := KY.dp _ hlt
      have h2 := hr.in1.units
      have : min (kd (j + 1)).depth (kd (argBest (ltK kd) j)).depth ≤ 20 := Nat.le_trans (Nat.min_le_left _ _) h1
      omega)
    show wpAny _ X.A.in1 (tryCatch (holding [u, kx] (richCompare .Lt kx kb >>= _)) _ >>= _) _ _ _
    refine wpAny_bind (wpAny_tryCatch (wpAny_holding (wpAny_bind (cmp X.prog X.w _ _ ?_))))
    refine wpAny_bind (wpAny_holding (wpAny_truthy_bool ?_))
    refine wpAny_bind (wpAny_letGo (wpAny_pure ?_))
    cases hbt : ltK kd (j + 1) (argBest (ltK kd) j) with
    | true =>
      simp only [if_true]
      have e1 : argBest (ltK kd) (j + 1) = j + 1 := by simp only [argBest, hbt, if_true]
      refine wpAny_bind ?_
      refine wpAny_updateSeq hS2 rfl (wpAny_bind (wpAny_letGo ?_))
      rw [hname]
      refine wpAny_pure ⟨plainId_quiet F.plain_min_loop _, ih (j + 1) _ H2 u kx xs[j + 1] yk _ (by omega) hlt (mS.turn (t' := s2.toks) I6 nS2 fun b o hb e => (Heap.get?_update_other _ _ (Ne.symm hb)).trans e) s02 ni2 nS2 (st2.at fun o e => (Heap.get?_update_other _ _ (Ne.symm nS)).trans e)
        (Heap.get?_update_self _ hS2 rfl) (by rw [e1]; exact hx1) ru rk (by rw [e1]; exact hdk)⟩
    | false =>
      simp only [Bool.false_eq_true, if_false]
      have e1 : argBest (ltK kd) (j + 1) = argBest (ltK kd) j := by simp only [argBest, hbt, Bool.false_eq_true, if_false]
      refine wpAny_bind (wpAny_letGo ?_)
      rw [hname]
      exact wpAny_pure ⟨plainId_quiet F.plain_min_loop _, ih (j + 1) _ H2 vb kb xb yb c (by omega) hlt I6 s02 ni2 nS2 st2 hS2 (by rw [e1]; exact hx) rb ry (by rw [e1]; exact dpSame s12 _ _ hd)⟩
/-- min(list, key = f, default = d) -/
def rMinK (K : PySem.W.Frag) (f : Addr) (sp : Sp) : List V → List V → Hp → VK → Prop := fun vs zs H Q => ∃ (a : Addr) (xs : List V) (d : V) (kd : Nat → PyData), vs = [.ref a] ∧ zs = [.ref f, d] ∧ SqL K H a xs ∧ Keys K sp H xs kd ∧ (xs = [] → ∀ H', Same H H' → Q d H') ∧
  (xs ≠ [] → ∀ x H', xs[argBest (ltK kd) (xs.length - 1)]? = some x → Same H H' → Q x H')
theorem call_minK (FF : FnOk X.prog X.w X.K X.mg X.base CX0 k f fd [px] sp) (hb : Binds X.K fd [px] []) (hr : Room (k + 1) X.A) (hcalm : X.calm = true) : CallRK X (.builtin "min") [Str.ofString "key", Str.ofString "default"] (rMinK X.K f sp) := by
  intro pins s σ H vs zs us ws Q I r1 r2 h
  obtain ⟨a, xs, d, kd, rfl, rfl, hl, KY, hq0, hq⟩ := h
  have hname : (toString "min" ++ toString ".loop" : String) = "min.loop" := by decide
  have nc : ∀ (us : Array Value) (c : Nat) (v : Option Value), (seqO us c).data ≠ .cell v := fun us c v z => by cases z
  obtain ⟨ua, rfl, ra⟩ : ∃ ua, us = [ua] ∧ RelV (.ref a) ua := by
    cases r1 with
    | cons p q =>
      cases q
      exact ⟨_, rfl, p⟩
  cases ra
  obtain ⟨uf, ud, rfl, rf, rd⟩ := vals2 r2
  cases rf
  show wpAny (model X.prog X.w) X.A (call (.builtin "min") [.ref a] [(Str.ofString "key", .ref f), (Str.ofString "default", ud)]) (EP X pins σ Q) X.xe s
  refine PyProof.Rows.kmk_tree F.kind_min F.plain_min F.entry_min (args_min_key_default _ _ _) ?_
  show wpAny _ X.A.in1 (Builtin.Builtins.bindParams "min" ["key", "default"] 0 ⟨[], [(Str.ofString "key", .ref f), (Str.ofString "default", ud)]⟩ >>= _) _ _ s
  refine wpAny_bind (wpAny_of_eq (show Builtin.Builtins.bindParams "min" ["key", "default"] 0 ⟨[], [(Str.ofString "key", .ref f), (Str.ofString "default", ud)]⟩ = pure [some (.ref f), some ud] from rfl) ?_)
  refine wpAny_bind (wpAny_pure ?_)
  obtain ⟨its, rv, pl, hz⟩ := I.list hl
  have lv := rv.length
  refine wpAny_bind (wpAny_pyIter_list pl.isList ?_)
  have ni : H s.heap.objs.size = none := I.hok.fresh (Nat.le_refl _)
  have I1 : Inv X pins σ H { s with heap := s.heap.push { cls := .type "list_iterator", data := .fields #[.ref a, .int 0 0] }, toks := s.toks } := I.kept fun b o e => Heap.get?_push_of_some _ e
  have mi : Mine X pins s.heap.objs.size := Mine.of I (Nat.le_refl _) ni
  have st : (s.heap.push { cls := .type "list_iterator", data := .fields #[.ref a, .int 0 0] }).IsListIter s.heap.objs.size a 0 := ⟨_, Heap.get?_push_size _ rfl, rfl, rfl⟩
  generalize hs1 : s.heap.push { cls := .type "list_iterator", data := .fields #[.ref a, .int 0 0] } = h1 at I1 st
  have z1 : s.heap.objs.size < h1.objs.size := by
    rw [← hs1, Heap.size_push]
    exact Nat.lt_succ_self _
  show wpAny _ _ (newList [] >>= _) _ _ _
  refine wpAny_bind (wpAny_newObj_type ?_)
  have nS : H h1.objs.size = none := I1.hok.fresh (Nat.le_refl _)
  have mS : Mine X pins h1.objs.size := Mine.of I1 (Nat.le_refl _) nS
  have I2 : Inv X pins σ H { s with heap := h1.push { cls := .type "list", data := .seq #[] 0 }, toks := s.toks } := I1.kept fun b o e => Heap.get?_push_of_some _ e
  have st2 : (h1.push { cls := .type "list", data := .seq #[] 0 }).IsListIter s.heap.objs.size a 0 := st.at fun o e => Heap.get?_push_of_some _ e
  have hS2 : (h1.push { cls := .type "list", data := .seq #[] 0 }).get? h1.objs.size = some (seqO #[] 0) := Heap.get?_push_size _ rfl
  have nn : s.heap.objs.size ≠ h1.objs.size := Nat.ne_of_lt z1
  rw [hname]
  refine wpAny_pure ⟨plainId_quiet F.plain_min_loop _, ?_⟩
  generalize h1.push { cls := .type "list", data := .seq #[] 0 } = h2 at I2 st2 hS2
  generalize s.heap.objs.size = it at *
  generalize h1.objs.size = S at *
  refine codeAny_builtin F.entry_min_loop ?_
  rw [Around.under_plainId F.plain_min_loop _]
  obtain ⟨its, rv, pl, hz⟩ := I2.list hl
  have lv := rv.length
  show wpAny _ X.A.in1 (seqItems? (.ref S) >>= _) _ _ _
  refine wpAny_bind (wpAny_seqItems hS2 rfl ?_)
  show wpAny _ X.A.in1 (tryCatch (pyNext (.ref it)) _ >>= _) _ _ _
  cases hxs : xs with
  | nil =>
    have l0 : its = [] := List.length_eq_zero_iff.mp (by rw [← lv, hxs]; rfl)
    refine wpAny_bind (wpAny_tryCatch (wpAny_pyNext_list_end (I.ok.hd hcalm) st2 pl.isList (by simp [l0]) fun h' eb => ?_))
    have I3 : Inv X pins σ H { s with heap := h', toks := s.toks } := mi.turn (s := { s with heap := h2, toks := s.toks }) (t' := s.toks) I2 ni fun b o hb e => eb b o hb e
    refine wpAny_bind (wpAny_rule (wpAny_pure ?_))
    exact ⟨d, H, I3, rd, hq0 hxs H (Same.refl H)⟩
  | cons x r =>
    have hlt : 0 < xs.length := by rw [hxs]; exact Nat.succ_pos _
    have hx1 : xs[0]? = some xs[0] := List.getElem?_eq_getElem hlt
    obtain ⟨u, hu, ru⟩ := rv.get hx1
    refine wpAny_bind (wpAny_tryCatch (wpAny_pyNext_list_item st2 pl.isList (x := u) (by simpa using hu) fun h' st' sb => ?_))
    have hS' : h'.get? S = some (seqO #[] 0) := (sb.2 S (Ne.symm nn)).trans hS2
    have I1 : Inv X pins σ H { s with heap := h', toks := s.toks } := mi.turn (s := { s with heap := h2, toks := s.toks }) (t' := s.toks) I2 ni fun b o hb e => (sb.2 b hb).trans e
    obtain ⟨io, ie, ic, idt⟩ := id st'
    have I3 := repin I1 mS nS hS' (nc _ _)
    have mi2 : Mine X ((S, seqO #[] 0) :: pins) it := ⟨mi.l, mi.f, mi.a, mi.c, fun q hq => by
      rcases List.mem_append.mp hq with z | z
      · exact mi.p q (List.mem_append_left _ z)
      · rcases List.mem_cons.mp z with rfl | z
        · exact Ne.symm nn
        · exact mi.p q (List.mem_append_right _ z)⟩
    have I4 := repin I3 mi2 ni ie (fun v z => by rw [idt] at z; cases z)
    show wpAny _ X.A.in1 (tryCatch (holding [u] (call (.ref f) [u])) _ >>= _) _ _ _
    refine wpAny_bind (wpAny_tryCatch (wpAny_holding (wpAny_mono (call_in1 FF hb hr I4 ru (KY.k 0 _ H hx1 (Same.refl H))) (fun kx s2 hh => ?_) fun _ _ z => z)))
    obtain ⟨yk, H2, I5, rk, s12, hdk⟩ := hh
    have ie2 := ClX.pin_at I5
    have ni2 := ClX.pin_un I5
    have I6 := ClX.unpin I5
    have hS3 := ClX.pin_at I6
    have nS2 := ClX.pin_un I6
    have I7 := ClX.unpin I6
    have st3 : s2.heap.IsListIter it a 1 := ⟨io, ie2, ic, idt⟩
    show wpAny _ X.A.in1 (updateSeq S (fun _ => #[u, kx]) >>= _) _ _ _
    refine wpAny_bind ?_
    refine wpAny_updateSeq hS3 rfl ?_
    rw [hname]
    refine wpAny_pure ⟨plainId_quiet F.plain_min_loop _, mk_loop FF hb hr hcalm KY hl mi mS nn _ (hq (by rw [hxs]; simp)) (fun v s' e => e) _ 0 _ H2 u kx xs[0] yk _ rfl hlt (mS.turn (t' := s2.toks) I7 nS2 fun b o hb e => (Heap.get?_update_other _ _ (Ne.symm hb)).trans e) s12 ni2 nS2 (st3.at fun o e => (Heap.get?_update_other _ _ (Ne.symm nn)).trans e)
      (Heap.get?_update_self _ hS3 rfl) hx1 ru rk hdk⟩
end
end SE
/-! sorted(list, key = own function), the keys are data; sorted(list of data). -/
namespace SE
open PySem PySem.Spec PyProof.Rows L2 SeqAt
open PySem.W (alike dataLt AllAlike Sortable dataLe KeyedOut)
/-- the heap without the object at a -/
def lessO (h : Heap) (a : Addr) : Heap := h.update a fun _ => { cls := .none, data := .freed }
theorem lessO_at (h : Heap) (a : Addr) : (lessO h a).get? a = none := by
  unfold lessO Heap.update Heap.get?
  by_cases l : a < h.objs.size
  · simp [l, Array.getElem_modify]
  · simp [l]
theorem lessO_ne {h : Heap} {a b : Addr} (n : b ≠ a) : (lessO h a).get? b = h.get? b := Heap.get?_update_ne _ _ _ _ n
section
variable {X : Cx} {pins : List (Addr × Obj)} {σ : L2.St} {H H' : Hp} {s : Shared} {b : Addr} {o : Obj} {h' : Heap} {t' : Nat}
theorem Mine.fp (m : Mine X pins b) (hn : H b = none) : FpOk X pins H b := ⟨hn, m.l, m.f, m.a, m.c, m.p⟩
theorem call_in2 {k : Nat} {f : Addr} {fd : FuncData} {px : Str} {sp : Sp} {x : V} {u : Value} {Q : VK} {E : Value → Shared → Prop} (F : FnOk X.prog X.w X.K X.mg X.base CX0 k f fd [px] sp) (hb : Binds X.K fd [px] []) (hr : Room (k + 2) X.A) (I : Inv X pins σ H s) (r : RelV x u)
    (h : sp [x] H Q (fun _ _ _ => False)) : wpAny (model X.prog X.w) X.A.in1.in1 (call (.ref f) [u]) (EP X pins σ Q) E s := by
  refine wpAny_call (codeAny_mono (F.run X.A.in1.in1 X.stack s H ⟨[u], []⟩ [u] [x] _ _ hr.in1.in1 I.env0.in1.in1 (by simpa using hb s [u] I.kIn rfl) (.cons r .nil) h) fun r s2 hq => ?_)
  cases r with
  | error e => exact hq.elim
  | ok fl =>
    cases fl with
    | ret z => exact I.after hq
    | next => exact hq.elim
    | brk => exact hq.elim
    | cont => exact hq.elim
end
def sortedI (xs : List V) (kd : Nat → PyData) : List V := ((List.range xs.length).mergeSort (dataLe false kd)).map fun i => xs.getD i .non
theorem vals_each {xs : List V} {us : List Value} (r : Vals xs us) : PySem.W.EachIs (fun v i => ∃ x, xs[i]? = some x ∧ RelV x v) us (List.range xs.length) := by
  refine PySem.W.EachIs.of_zip (by rw [List.length_range, r.length]) ?_
  rintro ⟨v, i⟩ m
  obtain ⟨j, hj⟩ := List.mem_iff_getElem?.mp m
  rw [List.getElem?_zip_eq_some] at hj
  obtain ⟨h1, h2⟩ := hj
  have lt : j < xs.length := by
    have := (List.getElem?_eq_some_iff.mp h1).1
    rw [r.length]
    exact this
  rw [List.getElem?_range lt] at h2
  obtain rfl : j = i := Option.some.inj h2
  obtain ⟨u, hu, ru⟩ := r.get (List.getElem?_eq_getElem lt)
  rw [h1] at hu
  cases hu
  exact ⟨_, List.getElem?_eq_getElem lt, ru⟩
theorem each_vals {xs : List V} : ∀ {out : List Value} {js : List Nat}, PySem.W.EachIs (fun v i => ∃ x, xs[i]? = some x ∧ RelV x v) out js → Vals (js.map fun i => xs.getD i .non) out
  | _, _, .nil => .nil
  | _, _, .cons ⟨x, h1, h2⟩ t => .cons (show L2.RelV (xs.getD _ V.non) _ by rw [List.getD_eq_getElem?_getD, h1]; exact h2) (each_vals t)
section
variable {X : Cx} {k : Nat} {f : Addr} {fd : FuncData} {px : Str} {sp : Sp} {pins : List (Addr × Obj)} {σ : L2.St} {H0 : Hp} {a kS : Addr} {xs : List V} {kd : Nat → PyData} {Q : VK}
/-- the keys so far -/
def KeysAt (K : PySem.W.Frag) (H : Hp) (kd : Nat → PyData) (ys : List V) : Prop := ∀ (j : Nat) y, ys[j]? = some y → Dp K H y (kd j)
theorem KeysAt.snoc {K : PySem.W.Frag} {H : Hp} {ys : List V} {y : V} (h : KeysAt K H kd ys) (d : Dp K H y (kd ys.length)) : KeysAt K H kd (ys ++ [y]) := fun j z e => by
  rcases Nat.lt_or_ge j ys.length with l | l
  · rw [List.getElem?_append_left l] at e
    exact h j z e
  · rw [List.getElem?_append_right l] at e
    have e0 : j - ys.length = 0 := by
      have := (List.getElem?_eq_some_iff.mp e).1
      simp at this
      omega
    have ej : j = ys.length := by omega
    rw [e0] at e
    obtain rfl : y = z := Option.some.inj e
    rw [ej]
    exact d
theorem KeysAt.mono {K : PySem.W.Frag} {H H' : Hp} {ys : List V} (h : KeysAt K H kd ys) (s : Same H H') : KeysAt K H' kd ys := fun j y e => dpSame s _ _ (h j y e)
theorem vals_snoc {ys : List V} {us : List Value} {y : V} {u : Value} (r : Vals ys us) (q : RelV y u) : Vals (ys ++ [y]) (us ++ [u]) := by
  induction r with
  | nil => exact .cons q .nil
  | cons a b ih => exact .cons a ih
theorem keys_read {s : Shared} {H : Hp} {ys : List V} {us : List Value} {n : Nat} (I : Inv X pins σ H s) (r : Vals ys us) (ka : KeysAt X.K H kd ys) (hn : ys.length = n) : PySem.W.EachIs (fun v d => ∃ as, Reads s.heap v d as) us ((List.range n).map kd) := by
  refine PySem.W.EachIs.of_zip (by rw [List.length_map, List.length_range, ← hn, r.length]) ?_
  rintro ⟨v, d⟩ m
  obtain ⟨j, hj⟩ := List.mem_iff_getElem?.mp m
  rw [List.getElem?_zip_eq_some] at hj
  obtain ⟨h1, h2⟩ := hj
  have lt : j < ys.length := by
    have := (List.getElem?_eq_some_iff.mp h1).1
    rw [r.length]
    exact this
  rw [List.getElem?_map, List.getElem?_range (by omega)] at h2
  obtain rfl : kd j = d := Option.some.inj h2
  obtain ⟨u, hu, ru⟩ := r.get (List.getElem?_eq_getElem lt)
  rw [h1] at hu
  cases hu
  exact Dp.reads I (kd j) _ _ (ka j _ (List.getElem?_eq_getElem lt)) ru
theorem sk_rest {vs : List Value} {e1 : Nat} {s : Shared} {E : Value → Shared → Prop} {P : PySem.Fin → Shared → Prop} (FF : FnOk X.prog X.w X.K X.mg X.base CX0 k f fd [px] sp) (hb : Binds X.K fd [px] []) (hr : Room (k + 2) X.A) (KY : Keys X.K sp H0 xs kd) (hal : AllAlike ((List.range xs.length).map kd)) (hsk : Sortable ((List.range xs.length).map kd))
    (I : Inv X pins σ H0 s) (rv : Vals xs vs) (hz : xs.length ≤ sizeLine) (ma : Mine X pins a) (mS : Mine X pins kS) (hne : kS ≠ a) (na : H0 a = none) (nS : H0 kS = none) (at_a : s.heap.get? a = some (seqO #[] e1)) (at_S : s.heap.get? kS = some (seqO #[] 0))
    (hq : ∀ s' H', Inv X pins σ H' s' → Same H0 H' → H' a = some (.lst (sortedI xs kd)) → (∃ H1, Same H0 H1 ∧ H1 a = none ∧ H' = upd H1 a (.lst (sortedI xs kd))) → P (.done (.ret .none)) s') :
    wpAny (model X.prog X.w) X.A.in1.in1 (ksk_rest a (.ref f) false vs.toArray e1 (.ref kS)) P E s := by
  have nc : ∀ (us : Array Value) (c : Nat) (v : Option Value), (seqO us c).data ≠ .cell v := fun us c v z => by cases z
  have lv := rv.length
  unfold ksk_rest
  refine wpAny_bind (wpAny_rule ?_)
  first
    | rw [List.forIn_toArray]
    | (rw [← Array.forIn_toList]; simp only [List.toList_toArray])
  refine wpAny_bind (ksk_fold (fun i s' => ∃ H ys kA e, Inv X pins σ H s' ∧ Same H0 H ∧ H a = none ∧ H kS = none ∧ s'.heap.get? kS = some (seqO kA e) ∧ s'.heap.get? a = some (seqO #[] e1) ∧ Vals ys kA.toList ∧ ys.length = i ∧ KeysAt X.K H kd ys) vs 0 s
    ⟨H0, [], #[], 0, I, Same.refl H0, na, nS, at_S, at_a, .nil, rfl, fun j y e => by simp at e⟩ ?_ ?_)
  · rintro j v s' hv ⟨H, ys, kA, e, I, s0, na, nS, at_S, at_a, ry, hl, ka⟩
    have hj : j < xs.length := by
      rw [lv]
      exact (List.getElem?_eq_some_iff.mp hv).1
    obtain ⟨u, hu, ru⟩ := rv.get (List.getElem?_eq_getElem hj)
    rw [hv] at hu
    cases hu
    have kz : kA.size ≤ sizeLine := by
      have z : ys.length = kA.toList.length := Paired.length ry
      rw [Array.length_toList (xs := kA)] at z
      rw [← z, hl, Nat.zero_add]
      omega
    have I2 := repin I mS nS at_S (nc _ _)
    have ma2 : Mine X ((kS, seqO kA e) :: pins) a := ⟨ma.l, ma.f, ma.a, ma.c, fun q hq => by
      rcases List.mem_append.mp hq with z | z
      · exact ma.p q (List.mem_append_left _ z)
      · rcases List.mem_cons.mp z with rfl | z
        · exact hne
        · exact ma.p q (List.mem_append_right _ z)⟩
    have I3 := repin I2 ma2 na at_a (nc _ _)
    refine wpAny_bind (wpAny_attempt (wpAny_mono (call_in2 FF hb hr I3 ru (KY.k j _ H (List.getElem?_eq_getElem hj) s0)) (fun kx s2 hh => ?_) fun _ _ z => z))
    obtain ⟨yk, H2, I4, rk, s12, hdk⟩ := hh
    have at_a2 := ClX.pin_at I4
    have na2 := ClX.pin_un I4
    have I5 := ClX.unpin I4
    have at_S2 := ClX.pin_at I5
    have nS2 := ClX.pin_un I5
    have I6 := ClX.unpin I5
    dsimp only
    refine wpAny_bind (listUpdate_at at_S2 rfl ?_ kz (by rw [Array.size_push]; omega))
    refine wpAny_pure ⟨rfl, H2, ys ++ [yk], kA.push kx, _, mS.turn (t' := s2.toks) I6 nS2 fun b o hb e => (Heap.get?_update_other _ _ (Ne.symm hb)).trans e, s0.trans s12, na2, nS2, Heap.get?_update_self _ at_S2 rfl, (Heap.get?_update_other _ _ hne).trans at_a2, ?_, by rw [List.length_append, hl]; simp, ?_⟩
    · rw [Array.toList_push]
      exact vals_snoc ry rk
    · refine (ka.mono s12).snoc ?_
      rw [hl, Nat.zero_add]
      exact hdk
  · rintro s' ⟨H, ys, kA, e, I, s0, na, nS, at_S, at_a, ry, hl, ka⟩
    rw [Nat.zero_add, ← lv] at hl
    refine wpAny_bind (listItems_at at_S rfl ?_)
    have hk := keys_read I ry ka hl
    have hu : ∀ d ∈ (List.range xs.length).map kd, X.A.in1.in1.units + d.depth < cLine := fun d m => by
      obtain ⟨i, m2, rfl⟩ := List.mem_map.mp m
      have h1 := KY.dp i (List.mem_range.mp m2)
      have h2 := hr.in1.in1.units
      omega
    have kAl : kA.size = vs.length := by
      have z : ys.length = kA.toList.length := Paired.length ry
      rw [Array.length_toList (xs := kA)] at z
      omega
    refine PySem.W.keyH_end (κ := PySem.W.dataKind s'.heap ((List.range xs.length).map kd)) (h₁ := lessO s'.heap kS) (vs := vs) (fun b o hb q => ?_) (lessO_at _ _) at_S at_a hne (PySem.W.SortsAt.data hk hal hsk hu) kAl (by rw [← lv]; exact hz) fun h3 tk3 c k3 n3 => ?_
    · by_cases e : b = kS
      · rw [e, lessO_at] at q
        cases q
      · rw [lessO_ne e] at q
        exact q
    · have out := PySem.W.keyedOut_each kd (rev := false) ⟨s'.heap, kA.toList, hal, rfl, hk⟩ (vals_each rv)
      have outV := each_vals out
      have I2 : Inv X pins σ H { s' with heap := h3, toks := tk3 } := I.turnedL (t' := tk3) (ch := [a, kS]) (fun b o hb q => k3 b o (fun z => hb (by simp [z])) (by rw [lessO_ne (fun z => hb (by simp [z]))]; exact q)) fun b hb => by
        rcases List.mem_cons.mp hb with rfl | hb
        · exact ma.fp na
        · obtain rfl : b = kS := by simpa using hb
          exact mS.fp nS
      have l2 : (sortedI xs kd).length = xs.length := by
        unfold sortedI
        rw [List.length_map, List.length_mergeSort, List.length_range]
      have I3 : Inv X pins σ (upd H a (.lst (sortedI xs kd))) { s' with heap := h3, toks := tk3 } := I2.take (t' := tk3) (fun b o _ e => e) (ma.fp na) ⟨by rw [l2]; exact hz, _, _, outV, n3⟩
      exact hq _ _ I3 (s0.trans (Same.new na)) upd_same ⟨H, s0, na, rfl⟩
/-- sorted(list, key = f) -/
def rSortK (K : PySem.W.Frag) (f : Addr) (sp : Sp) : List V → List V → Hp → VK → Prop := fun vs zs H Q => ∃ (l : Addr) (xs : List V) (kd : Nat → PyData), vs = [.ref l] ∧ zs = [.ref f] ∧ SqL K H l xs ∧ Keys K sp H xs kd ∧ AllAlike ((List.range xs.length).map kd) ∧ Sortable ((List.range xs.length).map kd) ∧
  ∀ H1 p, Same H H1 → H1 p = none → Q (.ref p) (upd H1 p (.lst (sortedI xs kd)))
theorem call_sortK (FF : FnOk X.prog X.w X.K X.mg X.base CX0 k f fd [px] sp) (hb : Binds X.K fd [px] []) (hr : Room (k + 2) X.A) : CallRK X (.builtin "sorted") [Str.ofString "key"] (rSortK X.K f sp) := by
  intro pins s σ H vs zs us ws Q I r1 r2 h
  obtain ⟨l, xs, kd, rfl, rfl, hl, KY, hal, hsk, hq⟩ := h
  obtain ⟨ul, rfl, rl⟩ : ∃ ul, us = [ul] ∧ RelV (.ref l) ul := by
    cases r1 with
    | cons p q =>
      cases q
      exact ⟨_, rfl, p⟩
  cases rl
  obtain ⟨uf, rfl, rf⟩ : ∃ uf, ws = [uf] ∧ RelV (.ref f) uf := by
    cases r2 with
    | cons p q =>
      cases q
      exact ⟨_, rfl, p⟩
  cases rf
  show wpAny (model X.prog X.w) X.A (call (.builtin "sorted") [.ref l] [(Str.ofString "key", .ref f)]) (EP X pins σ Q) X.xe s
  obtain ⟨its, rv, pl, hz⟩ := I.list hl
  have lv := rv.length
  have hzi : its.length ≤ sizeLine := by omega
  refine PySem.W.sorted_of_sort pl.isList hzi (ksk_s1 _ _) (fun _ => ksk_l1 _ _) fun E' => ?_
  rw [ksk_t1]
  unfold ksk_tree
  have at1 := PySem.W.copyHeap_at s.heap its
  obtain ⟨e1, at2⟩ : ∃ e1, ((PySem.W.copyHeap s.heap its).update (s.heap.objs.size + 1) (Obj.mapSeq fun _ => (#[] : Array Value))).get? (s.heap.objs.size + 1) = some (seqObj "list" #[] e1) := ⟨_, get?_update_seq at1 fun _ => #[]⟩
  refine wpAny_bind (listItems_at at1 rfl ?_)
  refine wpAny_bind (listUpdate_at at1 rfl ?_ (by rw [List.size_toArray]; exact hzi) (Nat.zero_le _))
  refine wpAny_bind (seqEpoch_at at2 rfl ?_)
  refine wpAny_bind (wpAny_newTuple ?_ (by show its.length ≤ _; exact hzi))
  refine wpAny_bind (wpAny_newList ?_ (Nat.zero_le _))
  refine wpAny_holding ?_
  have I1 : Inv X pins σ H { s with heap := PySem.W.sortingHeap (PySem.W.copyHeap s.heap its) (s.heap.objs.size + 1) its } := I.kept (t' := s.toks) fun b o e => PySem.W.sorting_copy_old e
  have na : H (s.heap.objs.size + 1) = none := I.hok.fresh (Nat.le_succ _)
  generalize hS : (((PySem.W.copyHeap s.heap its).update (s.heap.objs.size + 1) (Obj.mapSeq fun _ => (#[] : Array Value))).push { cls := .type "tuple", data := .seq its.toArray }).objs.size = kS
  have big : s.heap.objs.size + 1 < kS := by
    have h1 := Heap.lt_size at1
    rw [← hS, size_push', Heap.size_update]
    exact Nat.lt_succ_of_lt h1
  have nS : H kS = none := I.hok.fresh (by omega)
  have at_S : (PySem.W.sortingHeap (PySem.W.copyHeap s.heap its) (s.heap.objs.size + 1) its).get? kS = some (seqO #[] 0) := by
    rw [← hS]
    exact Heap.get?_push_size _ rfl
  have at_a : (PySem.W.sortingHeap (PySem.W.copyHeap s.heap its) (s.heap.objs.size + 1) its).get? (s.heap.objs.size + 1) = some (seqO #[] e1) := Heap.get?_push_of_some _ (Heap.get?_push_of_some _ at2)
  refine sk_rest (s := { s with heap := PySem.W.sortingHeap (PySem.W.copyHeap s.heap its) (s.heap.objs.size + 1) its }) FF hb hr KY hal hsk I1 rv hz (Mine.of I (Nat.le_succ _) na) (Mine.of I (Nat.le_of_lt (Nat.lt_of_succ_lt big)) nS) (Nat.ne_of_gt big) na nS at_a at_S fun s' H' I' _ _ ⟨H1, s1, n1, eH⟩ => ⟨rfl, ?_⟩
  rw [eH] at I'
  exact ⟨.ref (s.heap.objs.size + 1), _, I', rfl, hq H1 _ s1 n1⟩
/-- sorted(list of data) -/
def rSortD (K : PySem.W.Frag) : List V → Hp → VK → Prop := fun vs H Q => ∃ (l : Addr) (xs : List V) (kd : Nat → PyData), vs = [.ref l] ∧ SqL K H l xs ∧ (∀ (i : Nat) x, xs[i]? = some x → Dp K H x (kd i)) ∧ AllAlike ((List.range xs.length).map kd) ∧ Sortable ((List.range xs.length).map kd) ∧ (∀ i, i < xs.length → (kd i).depth ≤ 20) ∧
  ∀ p, H p = none → Q (.ref p) (upd H p (.lst (sortedI xs kd)))
theorem call_sortD (hu : X.A.units + 30 < cLine) : CallR X (.builtin "sorted") (rSortD X.K) := by
  intro pins s σ H vs us Q I r h
  obtain ⟨l, xs, kd, rfl, hl, hd, hal, hsk, hdp, hq⟩ := h
  obtain ⟨ul, rfl, rl⟩ := vals1 r
  cases rl
  obtain ⟨its, rv, pl, hz⟩ := I.list hl
  have lv := rv.length
  refine PySem.W.sorted_data (enc := kd) (bs := List.range xs.length) pl.isList (vals_each rv) (keys_read I rv (fun j y e => hd j y e) rfl |> PySem.W.each_of_map kd) hal hsk (by rw [List.length_range]; exact hz) (fun i m => ?_) fun out l2 eo => ?_
  · have := hdp i (List.mem_range.mp m)
    omega
  · obtain ⟨c, hc⟩ := sortedAll_at s.heap its out.toArray
    have na : H (s.heap.objs.size + 1) = none := I.hok.fresh (Nat.le_succ _)
    have l3 : (sortedI xs kd).length = xs.length := by
      unfold sortedI
      rw [List.length_map, List.length_mergeSort, List.length_range]
    have I2 : Inv X pins σ (upd H (s.heap.objs.size + 1) (.lst (sortedI xs kd))) { s with heap := sortedAll s.heap its out.toArray } := I.laid (t' := s.toks) (fun b o e => sortedAll_old e) (Nat.le_succ _) ⟨by rw [l3]; exact hz, _, _, each_vals eo, hc⟩
    exact ⟨.ref (s.heap.objs.size + 1), _, I2, rfl, hq _ na⟩
end
end SE
namespace SE
open PySem PySem.Spec PyProof.Rows L2 SeqAt
open PySem.W (alike alikeAll dataLt)
/-! ### groups of indexes by result -/
abbrev Res := Option (List Str)
abbrev Grp := List (Res × List Nat)
def addG (k : Res) (i : Nat) : Grp → Grp
  | [] => [(k, [i])]
  | g :: rest => if g.1 = k then (g.1, g.2 ++ [i]) :: rest else g :: addG k i rest
def grpM (rs : List Res) : Nat → Grp
  | 0 => []
  | n + 1 => addG (rs.getD n none) n (grpM rs n)
theorem addG_len (k : Res) (i : Nat) : ∀ G : Grp, (addG k i G).length ≤ G.length + 1
  | [] => Nat.le_refl _
  | g :: rest => by
    unfold addG
    split
    · simp
    · have := addG_len k i rest
      simp only [List.length_cons]
      omega
theorem grpM_len (rs : List Res) : ∀ n, (grpM rs n).length ≤ n
  | 0 => Nat.le_refl _
  | n + 1 => Nat.le_trans (addG_len _ _ _) (Nat.succ_le_succ (grpM_len rs n))
theorem addG_mem {k : Res} {i : Nat} : ∀ {G : Grp} {g : Res × List Nat}, g ∈ addG k i G → (∃ g0 ∈ G, g.1 = g0.1 ∧ (g.2 = g0.2 ∨ g.2 = g0.2 ++ [i])) ∨ g = (k, [i])
  | [], g, h => .inr (by simpa [addG] using h)
  | q :: rest, g, h => by
    unfold addG at h
    split at h
    · rcases List.mem_cons.mp h with e | m
      · exact .inl ⟨q, List.mem_cons_self, by rw [e], .inr (by rw [e])⟩
      · exact .inl ⟨g, List.mem_cons_of_mem _ m, rfl, .inl rfl⟩
    · rcases List.mem_cons.mp h with e | m
      · exact .inl ⟨q, List.mem_cons_self, by rw [e], .inl (by rw [e])⟩
      · rcases addG_mem m with ⟨g0, m0, e⟩ | e
        · exact .inl ⟨g0, List.mem_cons_of_mem _ m0, e⟩
        · exact .inr e
theorem grpM_lists (rs : List Res) : ∀ n, ∀ g ∈ grpM rs n, g.2.length ≤ n ∧ ∀ j ∈ g.2, j < n
  | 0, g, h => by cases h
  | n + 1, g, h => by
    rcases addG_mem h with ⟨g0, m0, _, e | e⟩ | e
    · obtain ⟨a, b⟩ := grpM_lists rs n g0 m0
      rw [e]
      exact ⟨by omega, fun j hj => Nat.lt_succ_of_lt (b j hj)⟩
    · obtain ⟨a, b⟩ := grpM_lists rs n g0 m0
      rw [e, List.length_append, List.length_singleton]
      refine ⟨by omega, fun j hj => ?_⟩
      rcases List.mem_append.mp hj with q | q
      · exact Nat.lt_succ_of_lt (b j q)
      · rw [List.mem_singleton.mp q]
        exact Nat.lt_succ_self _
    · rw [e]
      refine ⟨by show 1 ≤ n + 1; omega, fun j hj => ?_⟩
      rw [List.mem_singleton.mp hj]
      exact Nat.lt_succ_self _
theorem grpM_keys {rs : List Res} : ∀ {n : Nat}, n ≤ rs.length → ∀ g ∈ grpM rs n, g.1 ∈ rs
  | 0, _, g, h => by cases h
  | n + 1, l, g, h => by
    rcases addG_mem h with ⟨g0, m0, e, _⟩ | e
    · rw [e]
      exact grpM_keys (by omega) g0 m0
    · rw [e]
      show rs.getD n none ∈ rs
      rw [List.getD_eq_getElem?_getD, List.getElem?_eq_getElem (show n < rs.length by omega)]
      exact List.getElem_mem _
/-- a row and its group -/
def RowG (H : Hp) (r : RowV) (g : Res × List Nat) : Prop := r.1 = g.1 ∧ H r.2.2 = some (.lst (g.2.map nV))
theorem RowG.mono {H H' : Hp} {rows : List RowV} {G : Grp} (h : Paired (RowG H) rows G) (s : ∀ r ∈ rows, ∀ us, H r.2.2 = some (.lst us) → H' r.2.2 = some (.lst us)) : Paired (RowG H') rows G := by
  induction h with
  | nil => exact .nil
  | @cons r g rows G a b ih => exact .cons ⟨a.1, s r List.mem_cons_self _ a.2⟩ (ih fun q m => s q (List.mem_cons_of_mem _ m))
theorem row_absent {k : Res} : ∀ {rows : List RowV} {G : Grp} {H : Hp} (i : Nat) (y : V) (l : Addr), Paired (RowG H) rows G → rowAt k rows = none → addG k i G = G ++ [(k, [i])] ∧ rowPut k y l rows = rows ++ [(k, y, l)]
  | [], _, _, i, y, l, .nil, _ => ⟨rfl, rfl⟩
  | r :: rows, g :: G, H, i, y, l, .cons a b, h => by
    unfold rowAt at h
    by_cases e : r.1 = k
    · rw [if_pos e] at h
      cases h
    · rw [if_neg e] at h
      obtain ⟨h1, h2⟩ := row_absent i y l b h
      unfold addG rowPut
      rw [if_neg e, if_neg (show ¬ g.1 = k from fun z => e (a.1.trans z)), h1, h2]
      exact ⟨rfl, rfl⟩
theorem rowAt_mem {k : Res} {l : Addr} : ∀ {rows : List RowV}, rowAt k rows = some l → ∃ r ∈ rows, r.1 = k ∧ r.2.2 = l
  | [], h => by cases h
  | r :: rows, h => by
    unfold rowAt at h
    split at h
    · rename_i e
      exact ⟨r, List.mem_cons_self, e, Option.some.inj h⟩
    · obtain ⟨q, m, e⟩ := rowAt_mem h
      exact ⟨q, List.mem_cons_of_mem _ m, e⟩
/-- the list of a row grows -/
theorem row_grows {k : Res} {l : Addr} : ∀ {rows : List RowV} {G : Grp} {H : Hp} (i : Nat), Paired (RowG H) rows G → (rows.map (·.2.2)).Nodup → rowAt k rows = some l → ∃ xs : List Nat, H l = some (.lst (xs.map nV)) ∧ (∃ g ∈ G, g.2 = xs) ∧ Paired (RowG (upd H l (.lst ((xs ++ [i]).map nV)))) rows (addG k i G)
  | [], _, _, _, .nil, _, h => by cases h
  | r :: rows, g :: G, H, i, .cons a b, nd, h => by
    have nd2 := List.nodup_cons.mp nd
    unfold rowAt at h
    by_cases e : r.1 = k
    · rw [if_pos e] at h
      have el : r.2.2 = l := Option.some.inj h
      refine ⟨g.2, by rw [← el]; exact a.2, ⟨g, List.mem_cons_self, rfl⟩, ?_⟩
      unfold addG
      rw [if_pos (show g.1 = k from a.1.symm.trans e)]
      refine .cons ⟨a.1, by rw [el]; exact upd_same⟩ (RowG.mono b fun q m us hq => ?_)
      rw [upd_ne (fun z => nd2.1 (by show r.2.2 ∈ _; rw [el, ← z]; exact List.mem_map.mpr ⟨q, m, rfl⟩))]
      exact hq
    · rw [if_neg e] at h
      obtain ⟨xs, h1, ⟨g0, m0, e0⟩, h2⟩ := row_grows i b nd2.2 h
      obtain ⟨q, m, _, eq⟩ := rowAt_mem h
      refine ⟨xs, h1, ⟨g0, List.mem_cons_of_mem _ m0, e0⟩, ?_⟩
      unfold addG
      rw [if_neg (show ¬ g.1 = k from fun z => e (a.1.trans z))]
      refine .cons ⟨a.1, ?_⟩ h2
      rw [upd_ne (fun z => nd2.1 (by show r.2.2 ∈ _; rw [z, ← eq]; exact List.mem_map.mpr ⟨q, m, rfl⟩))]
      exact a.2
/-- a row gets another list -/
theorem row_other {k : Res} {l : Addr} : ∀ {rows : List RowV} {G : Grp} {H : Hp} (i : Nat) (y : V), Paired (RowG H) rows G → rowAt k rows = some l → ∃ xs : List Nat, H l = some (.lst (xs.map nV)) ∧ (∃ g ∈ G, g.2 = xs) ∧ ∀ (H' : Hp) (m : Addr), (∀ r ∈ rows, ∀ us, H r.2.2 = some (.lst us) → H' r.2.2 = some (.lst us)) → H' m = some (.lst ((xs ++ [i]).map nV)) → Paired (RowG H') (rowPut k y m rows) (addG k i G)
  | [], _, _, _, _, .nil, h => by cases h
  | r :: rows, g :: G, H, i, y, .cons a b, h => by
    unfold rowAt at h
    by_cases e : r.1 = k
    · rw [if_pos e] at h
      have el : r.2.2 = l := Option.some.inj h
      refine ⟨g.2, by rw [← el]; exact a.2, ⟨g, List.mem_cons_self, rfl⟩, fun H' m s hm => ?_⟩
      unfold addG rowPut
      rw [if_pos e, if_pos (show g.1 = k from a.1.symm.trans e)]
      exact .cons ⟨a.1, hm⟩ (RowG.mono b fun q mq => s q (List.mem_cons_of_mem _ mq))
    · rw [if_neg e] at h
      obtain ⟨xs, h1, ⟨g0, m0, e0⟩, h2⟩ := row_other i y b h
      refine ⟨xs, h1, ⟨g0, List.mem_cons_of_mem _ m0, e0⟩, fun H' m s hm => ?_⟩
      unfold addG rowPut
      rw [if_neg e, if_neg (show ¬ g.1 = k from fun z => e (a.1.trans z))]
      exact .cons ⟨a.1, s r List.mem_cons_self _ a.2⟩ (h2 H' m (fun q mq => s q (List.mem_cons_of_mem _ mq)) hm)
theorem rowG_snoc {H : Hp} {r : RowV} {g : Res × List Nat} : ∀ {rows : List RowV} {G : Grp}, Paired (RowG H) rows G → RowG H r g → Paired (RowG H) (rows ++ [r]) (G ++ [g])
  | _, _, .nil, q => .cons q .nil
  | _, _, .cons a b, q => .cons a (rowG_snoc b q)
theorem ow_key {K : PySem.W.Frag} {H : Hp} {v : V} : ∀ {o : Res}, OW K H v o → KeyV K H v o
  | none, h => h
  | some _, h => h
theorem key_ow {K : PySem.W.Frag} {H : Hp} {v : V} : ∀ {o : Res}, KeyV K H v o → OW K H v o
  | none, h => h
  | some _, h => h
/-- the dict at d holds the groups G, in lists of its own -/
structure DictG (w : World) (K : PySem.W.Frag) (H0 H : Hp) (d : Addr) (G : Grp) : Prop where
  ex : ∃ rows, H d = some (rowsO w d rows) ∧ RowsK K H rows ∧ Paired (RowG H) rows G ∧ (rows.map (·.2.2)).Nodup ∧ ∀ r ∈ rows, H0 r.2.2 = none
end SE
namespace SE
open PySem PySem.Spec PyProof.Rows L2 SeqAt
open PySem.W (alike alikeAll dataLt)
structure RowsG (w : World) (K : PySem.W.Frag) (H0 H : Hp) (d : Addr) (rows : List RowV) (G : Grp) : Prop where
  d : H d = some (rowsO w d rows)
  k : RowsK K H rows
  p : Paired (RowG H) rows G
  n : (rows.map (·.2.2)).Nodup
  z : ∀ r ∈ rows, H0 r.2.2 = none
section
variable {w : World} {K : PySem.W.Frag} {H0 H H' : Hp} {d l m : Addr} {rows : List RowV} {G : Grp} {k : Res} {y : V}
theorem RowsG.lists (g : RowsG w K H0 H d rows G) : ∀ r ∈ rows, ∃ us, H r.2.2 = some (.lst us) := by
  have := g.p
  clear g
  induction this with
  | nil => exact fun r h => by cases h
  | cons a b ih => exact fun r h => (List.mem_cons.mp h).elim (fun e => by rw [e]; exact ⟨_, a.2⟩) (ih r)
theorem RowsG.same (g : RowsG w K H0 H d rows G) (s : Same H H') : RowsG w K H0 H' d rows G :=
  ⟨s _ _ g.d, g.k.mono fun b xs q => Same.tup s q, RowG.mono g.p fun r _ us q => s _ _ q, g.n, g.z⟩
theorem tup_lst {us vs : List V} (h : H l = some (.lst us)) : ∀ b xs, SqT K H b xs → SqT K (upd H l (.lst vs)) b xs := fun b xs q => by
  rcases q with (q | ⟨o, q⟩) | q
  · exact .inl (.inl (by rw [upd_ne (ne_of q h (fun z => nomatch z))]; exact q))
  · exact .inl (.inr ⟨o, by rw [upd_ne (ne_of q h (fun z => nomatch z))]; exact q⟩)
  · exact .inr q
theorem rowPut_adr : ∀ {rows : List RowV}, (rows.map (·.2.2)).Nodup → (∀ r ∈ rows, r.2.2 ≠ m) → ((rowPut k y m rows).map (·.2.2)).Nodup
  | [], _, _ => by simp [rowPut]
  | q :: rest, h, hm => by
    have h2 := List.nodup_cons.mp h
    have hm2 : ∀ r ∈ rest, r.2.2 ≠ m := fun r mr => hm r (List.mem_cons_of_mem _ mr)
    unfold rowPut
    split
    · refine List.nodup_cons.mpr ⟨fun mm => ?_, h2.2⟩
      obtain ⟨r, mr, e⟩ := List.mem_map.mp mm
      exact hm2 r mr e
    · refine List.nodup_cons.mpr ⟨fun mm => ?_, rowPut_adr h2.2 hm2⟩
      obtain ⟨r, mr, e⟩ := List.mem_map.mp mm
      rcases rowPut_adr_mem mr with ⟨r0, m0, e0⟩ | e0
      · exact h2.1 (List.mem_map.mpr ⟨r0, m0, e0.symm.trans e⟩)
      · exact hm q List.mem_cons_self ((show q.2.2 = r.2.2 from e.symm).trans e0)
where
  rowPut_adr_mem : ∀ {rows : List RowV} {r : RowV}, r ∈ rowPut k y m rows → (∃ r0 ∈ rows, r.2.2 = r0.2.2) ∨ r.2.2 = m
    | [], r, h => by
      have e : r = (k, y, m) := by simpa [rowPut] using h
      exact .inr (by rw [e])
    | q :: rest, r, h => by
      unfold rowPut at h
      split at h
      · rcases List.mem_cons.mp h with e | mr
        · exact .inr (by rw [e])
        · exact .inl ⟨r, List.mem_cons_of_mem _ mr, rfl⟩
      · rcases List.mem_cons.mp h with e | mr
        · exact .inl ⟨q, List.mem_cons_self, by rw [e]⟩
        · rcases rowPut_adr_mem mr with ⟨r0, m0, e⟩ | e
          · exact .inl ⟨r0, List.mem_cons_of_mem _ m0, e⟩
          · exact .inr e
theorem RowsG.grow (i : Nat) (g : RowsG w K H0 H d rows G) (h : rowAt k rows = some l) : ∃ xs : List Nat, H l = some (.lst (xs.map nV)) ∧ (∃ q ∈ G, q.2 = xs) ∧ H0 l = none ∧ RowsG w K H0 (upd H l (.lst ((xs ++ [i]).map nV))) d rows (addG k i G) := by
  obtain ⟨xs, h1, h2, h3⟩ := row_grows i g.p g.n h
  obtain ⟨r, mr, _, er⟩ := rowAt_mem h
  refine ⟨xs, h1, h2, by rw [← er]; exact g.z r mr, ?_, g.k.mono (tup_lst h1), h3, g.n, g.z⟩
  rw [upd_ne (ne_of g.d h1 (fun z => nomatch z))]
  exact g.d
theorem RowsG.put (i : Nat) (g : RowsG w K H0 H d rows G) (xs : List Nat) (hx : ∀ l, rowAt k rows = some l → H l = some (.lst (xs.map nV))) (h0 : rowAt k rows = none → xs = []) (hy : KeyV K H y k) (hm : H m = some (.lst ((xs ++ [i]).map nV))) (ne : ∀ r ∈ rows, r.2.2 ≠ m) (z0 : H0 m = none) :
    RowsG w K H0 (upd H d (rowsO w d (rowPut k y m rows))) d (rowPut k y m rows) (addG k i G) := by
  have nd : ∀ {b : Addr} {us : List V} {o : HO}, H b = some (.lst us) → (upd H d o) b = some (.lst us) := fun q => by
    rw [upd_ne (ne_of q g.d (fun z => nomatch z))]
    exact q
  have t := rows_tup (K := K) (o := rowsO w d (rowPut k y m rows)) g.d
  refine ⟨upd_same, (g.k.put m hy).mono t, ?_, rowPut_adr g.n ne, fun r mr => ?_⟩
  · cases q : rowAt k rows with
    | none =>
      obtain ⟨e1, e2⟩ := row_absent i y m g.p q
      rw [e1, e2]
      refine rowG_snoc (RowG.mono g.p fun r _ us hr => nd hr) ⟨rfl, ?_⟩
      have := h0 q
      subst this
      exact nd hm
    | some l =>
      obtain ⟨xs2, h1, _, h3⟩ := row_other i y g.p q
      have e : xs2.map nV = xs.map nV := by
        have e := h1.symm.trans (hx l q)
        exact HO.lst.inj (Option.some.inj e)
      refine h3 _ m (fun r _ us hr => nd hr) ?_
      rw [List.map_append, e, ← List.map_append]
      exact nd hm
  · rcases rowPut_adr.rowPut_adr_mem mr with ⟨r0, m0, e⟩ | e
    · rw [e]
      exact g.z r0 m0
    · rw [e]
      exact z0
end
end SE
namespace SE
open PySem PySem.Spec PyProof.Rows L2 SeqAt
open PySem.W (alike alikeAll dataLt)
section
variable {P : Program} {w : World} {K : PySem.W.Frag} {mg : Str → Option Value} {base : Heap} {C : Addr}
/-! ### indexes_by_result -/
def resM (os : List Eff) (zs : List Str) : List Res := os.map fun o => replM o zs
def spIdx (w : World) (K : PySem.W.Frag) (C : Addr) : Sp := fun vs H Q _ => ∃ (L a : Addr) (es : List Addr) (os : List Eff) (zs : List Str), vs = [.ref L, .ref a] ∧ SqL K H L (es.map V.ref) ∧ Paired (EffV K C H) es os ∧ (∀ o ∈ os, EffOk o) ∧ es.length ≤ 20 ∧ SqT K H a (zs.map V.str) ∧ (∀ z ∈ zs, Item z) ∧ zs.length ≤ 1000 ∧
  ∀ (d : Addr) (rows : List RowV) (H' : Hp), Same H H' → H d = none → RowsG w K H H' d rows (grpM (resM os zs) es.length) → Q (.ref d) H'
abbrev nIx : List Str := ["candidates", "stack", "indexes", "index", "effect"]
theorem scIx : FnScope nIx ["candidates", "stack"] (defScope sIndexesByResult) := ⟨rfl, rfl, rfl, by decide +kernel, rfl, by decide +kernel, by decide +kernel⟩
theorem has_idx (D : Def K mg "indexes_by_result" sIndexesByResult) (GR : Has P w K mg base "replaced" 3 ["effect", "stack"] [] (spRepd K C)) (B : Blt mg) : Has P w K mg base "indexes_by_result" 4 ["candidates", "stack"] [] (spIdx w K C) := by
  refine has_of D scIx (fun _ _ _ _ _ _ us hl => match us, hl with | [_, _], _ => rfl) (fun xs H Q E h => ?_) (fun f cv A out s H xs Q E hr h => ?_)
  · obtain ⟨L, a, es, os, zs, rfl, _⟩ := h
    rfl
  · obtain ⟨L, a, es, os, zs, rfl, hL, hE, oE, l1, hT, hI, hl, k⟩ := h
    refine ⟨_, pss_cons (ps_set (i := 2) scIx.nd rfl (.inl rfl) pe_rowsNew)
      (pss_cons (ps_for PassesOwn.never rfl (pi_enum (by rfl) B.enu (pa_cons (pv 0) pa_nil)) (pg_tup (by rfl) (pgs_cons (pg_name (i := 3) scIx.nd rfl (.inl rfl)) (pgs_cons (pg_name (i := 4) scIx.nd rfl (.inl rfl)) pgs_nil)))
        (pss_one (ps_expr (pe_bm PySem.F.plainAttrs_list PySem.F.slot_list_append PySem.F.type_list_append mt_append (pe_rowSetD (by have := hr.un; show (A.deeper _).units + 9 < cLine; omega) (pv 2) (pe_has GR hr (pa_cons (pv 4) (pa_cons (pv 1) pa_nil))) (pe_lst pa_nil) ⟨rfl, rfl, rfl, rfl⟩) (pa_cons (pv 3) pa_nil)))))
      (pss_one (ps_ret (pv 2)))), ?_⟩
    intro d hd
    have s1 : Same H (upd H d (rowsO w d [])) := Same.new hd
    have g1 : RowsG w K H (upd H d (rowsO w d [])) d [] (grpM (resM os zs) 0) := ⟨upd_same, RowsK.nil, .nil, List.nodup_nil, fun r h => by cases h⟩
    refine ⟨_, rfl, L, es.map V.ref, rfl, Same.seq s1 hL, for_it (walk_enum (K := K) (a := L) (xs := es.map V.ref)) (fun i σ H2 => ∃ y3 y4 rows, σ = [some (.ref L), some (.ref a), some (.ref d), y3, y4] ∧ Same H H2 ∧ RowsG w K H H2 d rows (grpM (resM os zs) i)) ⟨none, none, [], rfl, s1, g1⟩ (fun i σ H2 _ q => ?_) ?_ ?_⟩
    · obtain ⟨_, _, _, _, s2, _⟩ := q
      exact Same.seq s2 hL
    · rintro i x σ H2 H3 hi ⟨y3, y4, rows, rfl, s2, g⟩ ⟨T, p, y, rfl, nT, rfl, hp, hy⟩
      refine ⟨T, _, rfl, .of upd_same, rfl, _, _, rfl, _, _, rfl, rfl, ?_⟩
      have hp := Option.some.inj hp
      subst hp
      dsimp only at hy
      rw [List.getElem?_map] at hy
      obtain ⟨e, he, rfl⟩ := Option.map_eq_some_iff.mp hy
      obtain ⟨o, ho, hV⟩ := paired_at hE he
      have s3 : Same H2 (upd H2 T (.tup [.int (i : Nat), .ref e])) := Same.new nT
      have g3 := g.same s3
      have s03 := s2.trans s3
      generalize upd H2 T (.tup [.int (i : Nat), .ref e]) = H4 at s3 g3 s03
      have er : (resM os zs).getD i none = replM o zs := by
        unfold resM
        rw [List.getD_eq_getElem?_getD, List.getElem?_map, ho]
        rfl
      have il : i < es.length := (List.getElem?_eq_some_iff.mp he).1
      refine ⟨_, rfl, d, rows, rfl, .of g3.d, _, rfl, _, rfl, e, a, o, zs, rfl, hV.same s03, oE o (List.mem_of_getElem? ho), Same.tup s03 hT, hI, hl, fun v H5 s5 hv => ?_⟩
      refine ⟨(by show 0 ≤ sizeLine; decide), fun l hl5 => ?_⟩
      have s6 : Same H5 (upd H5 l (.lst [])) := Same.new hl5
      have s06 := (s03.trans s5).trans s6
      have g6 := g3.same (s5.trans s6)
      have ne : ∀ r ∈ rows, r.2.2 ≠ l := fun r mr z => by
        obtain ⟨us, hu⟩ := (g3.same s5).lists r mr
        rw [z, hl5] at hu
        cases hu
      have hl6 : (upd H5 l (.lst [])) l = some (.lst []) := upd_same
      have z0 : H l = none := by
        cases q : H l with
        | none => rfl
        | some u =>
          have := (s03.trans s5) _ _ q
          rw [hl5] at this
          cases this
      have kv : KeyV K (upd H5 l (.lst [])) v (replM o zs) := ow_key (hv.same s6)
      generalize upd H5 l (.lst []) = H6 at s6 s06 g6 hl6 kv
      have lg : rows.length ≤ i := by
        rw [paired_len g6.p]
        exact grpM_len _ _
      have fin : ∀ {H7 : Hp} {rows' : List RowV}, Same H H7 → RowsG w K H H7 d rows' (addG (replM o zs) i (grpM (resM os zs) i)) → ∃ y3 y4 rows, [some (V.ref L), some (V.ref a), some (V.ref d), some (V.int (i : Nat)), some (V.ref e)] = [some (V.ref L), some (V.ref a), some (V.ref d), y3, y4] ∧ Same H H7 ∧ RowsG w K H H7 d rows (grpM (resM os zs) (i + 1)) := fun {H7 rows'} s7 g7 => by
        refine ⟨_, _, rows', rfl, s7, ?_⟩
        show RowsG w K H H7 d rows' (addG ((resM os zs).getD i none) i (grpM (resM os zs) i))
        rw [er]
        exact g7
      refine ⟨replM o zs, l, rfl, g6.d, g6.k, kv, Nat.lt_of_le_of_lt (Nat.le_trans lg (show i ≤ 20 by omega)) (by decide), fun l0 q => ?_, fun q => ?_⟩
      · obtain ⟨xs, h1, ⟨g0, m0, e0⟩, z1, g7⟩ := g6.grow i q
        have lx := (grpM_lists _ _ g0 m0).1
        rw [e0] at lx
        refine ⟨.inl ⟨rfl, _, .inl (.inl h1)⟩, _, rfl, l0, _, .int (i : Nat), rfl, rfl, h1, ?_, ?_⟩
        · rw [List.length_map]
          exact Nat.lt_of_le_of_lt (show xs.length ≤ 20 by omega) (by decide)
        · rw [List.map_append] at g7
          exact fin (Same.free2 s06 z1) g7
      · have h7 : (upd H6 d (rowsO w d (rowPut (replM o zs) v l rows))) l = some (.lst []) := by
          rw [upd_ne (ne_of hl6 g6.d (fun z => nomatch z))]
          exact hl6
        refine ⟨.inl ⟨rfl, _, .inl (.inl h7)⟩, _, rfl, l, _, .int (i : Nat), rfl, rfl, h7, (by show 0 < sizeLine; decide), ?_⟩
        have g8 := (RowsG.put (w := w) (m := l) (H := upd H6 l (.lst [nV i])) i ⟨by rw [upd_ne (ne_of g6.d hl6 (fun z => nomatch z))]; exact g6.d, g6.k.mono (tup_lst hl6), RowG.mono g6.p fun r mr us hr => by rw [upd_ne (ne r mr)]; exact hr, g6.n, g6.z⟩ [] (fun l2 q2 => by rw [q] at q2; cases q2) (fun _ => rfl) (kv.mono (tup_lst hl6)) upd_same ne z0)
        have e8 : upd (upd H6 l (.lst [nV i])) d (rowsO w d (rowPut (replM o zs) v l rows)) = upd (upd H6 d (rowsO w d (rowPut (replM o zs) v l rows))) l (.lst ([] ++ [V.int (i : Nat)])) := by
          funext b
          unfold upd
          by_cases b1 : b = d
          · have n1 : ¬ b = l := fun z => ne_of g6.d hl6 (fun z => nomatch z) (b1.symm.trans z)
            simp only [if_pos b1, if_neg n1]
          · simp only [if_neg b1]
            rfl
        rw [e8] at g8
        exact fin (Same.free2 (Same.free2 s06 hd) z0) g8
    · rintro σ H2 ⟨y3, y4, rows, rfl, s2, g⟩
      rw [List.length_map] at g
      exact ⟨_, rfl, k d rows H2 s2 hd g⟩
end
end SE
namespace SE
open PySem PySem.Spec PyProof.Rows L2 SeqAt
open PySem.W (alike alikeAll dataLt AllAlike Sortable dataLe)
/-! ### words by their height -/
def keyD (xs : List Str) : PyData := .tuple [.int xs.length, .tuple (xs.map .str)]
theorem alike_strs : ∀ xs ys : List Str, alikeAll (xs.map PyData.str) (ys.map PyData.str) = true
  | [], [] => by unfold alikeAll; rfl
  | [], _ :: _ => by simp [alikeAll]
  | _ :: _, [] => by simp [alikeAll]
  | x :: xs, y :: ys => by
    have ih := alike_strs xs ys
    simp only [List.map_cons, alikeAll, ih, Bool.and_true]
    simp [alike]
theorem alike_key (xs ys : List Str) : alike (keyD xs) (keyD ys) = true := by
  have h := alike_strs xs ys
  unfold keyD
  simp [alike, alikeAll, h]
theorem depth_strs : ∀ xs : List Str, PyData.depthAll (xs.map .str) = 0
  | [] => by simp [PyData.depthAll]
  | x :: xs => by simp [PyData.depthAll, PyData.depth, depth_strs xs]
theorem depth_key (xs : List Str) : (keyD xs).depth ≤ 20 := by
  unfold keyD
  simp [PyData.depth, PyData.depthAll, depth_strs]
def keyI (ws : List (List Str)) (i : Nat) : PyData := keyD (ws.getD i [])
theorem keyI_alike (ws : List (List Str)) (l : List Nat) : AllAlike (l.map (keyI ws)) := AllAlike.of fun _ _ => alike_key _ _
theorem keyI_sortable (ws : List (List Str)) (l : List Nat) : Sortable (l.map (keyI ws)) := Sortable.tuples fun _ => ⟨_, _, rfl⟩
def sortIx (ws : List (List Str)) : List Nat := (List.range ws.length).mergeSort (dataLe false (keyI ws))
def sortW (ws : List (List Str)) : List (List Str) := (sortIx ws).map fun i => ws.getD i []
theorem sortIx_lt {ws : List (List Str)} : ∀ i ∈ sortIx ws, i < ws.length := fun i m => List.mem_range.mp (List.mem_mergeSort.mp m)
theorem sortW_mem {ws : List (List Str)} {x : List Str} (h : x ∈ sortW ws) : x ∈ ws := by
  obtain ⟨i, m, rfl⟩ := List.mem_map.mp h
  have := sortIx_lt i m
  rw [List.getD_eq_getElem?_getD, List.getElem?_eq_getElem this]
  exact List.getElem_mem _
theorem sortW_len (ws : List (List Str)) : (sortW ws).length = ws.length := by
  unfold sortW sortIx
  rw [List.length_map, List.length_mergeSort, List.length_range]
def WdV (K : PySem.W.Frag) (H : Hp) (v : V) (w : List Str) : Prop := ∃ a, v = .ref a ∧ SqT K H a (w.map V.str)
theorem words_same {K : PySem.W.Frag} {H H' : Hp} {vs : List V} {ws : List (List Str)} (h : Paired (WdV K H) vs ws) (s : Same H H') : Paired (WdV K H') vs ws := Paired.mapP h fun _ _ q => by
  obtain ⟨a, e, q⟩ := q
  exact ⟨a, e, Same.tup s q⟩
theorem paired_idx {α β : Type} {F : α → β → Prop} {l : List α} {k : List β} (a : α) (b : β) (h : Paired F l k) : ∀ js : List Nat, (∀ j ∈ js, j < k.length) → Paired F (js.map fun i => l.getD i a) (js.map fun i => k.getD i b)
  | [], _ => .nil
  | j :: js, lt => by
    refine .cons ?_ (paired_idx a b h js fun i m => lt i (List.mem_cons_of_mem _ m))
    have hl := paired_len h
    have jl := lt j List.mem_cons_self
    have j2 : j < l.length := by omega
    obtain ⟨y, hy, q⟩ := paired_at h (List.getElem?_eq_getElem j2)
    show F (l.getD j a) (k.getD j b)
    rw [List.getD_eq_getElem?_getD, List.getD_eq_getElem?_getD, List.getElem?_eq_getElem j2, hy]
    exact q
theorem sorted_words {K : PySem.W.Frag} {H : Hp} {vs : List V} {ws : List (List Str)} (h : Paired (WdV K H) vs ws) : Paired (WdV K H) (sortedI vs (keyI ws)) (sortW ws) := by
  unfold sortedI sortW sortIx
  rw [paired_len h]
  exact paired_idx _ _ h _ sortIx_lt
/-! ### what outcomes gives -/
def lookG (k : Res) : Grp → List Nat
  | [] => []
  | g :: rest => if g.1 = k then g.2 else lookG k rest
def hasG (k : Res) (G : Grp) : Bool := G.any fun g => decide (g.1 = k)
def wordsG (G : Grp) : List (List Str) := G.filterMap (·.1)
def keysG (G : Grp) : List Res := (if hasG none G = true then [none] else []) ++ (sortW (wordsG G)).map some
def outM (G : Grp) : Grp := (keysG G).map fun k => (k, lookG k G)
theorem row_look {k : Res} {H : Hp} : ∀ {rows : List RowV} {G : Grp}, Paired (RowG H) rows G → if hasG k G = true then ∃ l, rowAt k rows = some l ∧ H l = some (.lst ((lookG k G).map nV)) else rowAt k rows = none
  | _, _, .nil => by
    rw [if_neg (by simp [hasG])]
    rfl
  | r :: rows, g :: G, .cons a b => by
    have ih := row_look (k := k) b
    unfold rowAt lookG hasG
    rw [List.any_cons]
    by_cases e : g.1 = k
    · rw [decide_eq_true e, Bool.true_or, if_pos rfl, if_pos e, if_pos (a.1.trans e)]
      exact ⟨_, rfl, a.2⟩
    · rw [decide_eq_false e, Bool.false_or, if_neg e, if_neg (fun z => e (a.1.symm.trans z))]
      exact ih
theorem row_has {k : Res} {H : Hp} {rows : List RowV} {G : Grp} (h : Paired (RowG H) rows G) (c : hasG k G = true) : ∃ l, rowAt k rows = some l ∧ H l = some (.lst ((lookG k G).map nV)) := by
  have := row_look (k := k) h
  rw [if_pos c] at this
  exact this
theorem row_is {k : Res} {H : Hp} {rows : List RowV} {G : Grp} (h : Paired (RowG H) rows G) : (rowAt k rows).isSome = hasG k G := by
  have := row_look (k := k) h
  cases c : hasG k G with
  | true =>
    rw [if_pos c] at this
    obtain ⟨l, q, _⟩ := this
    rw [q]
    rfl
  | false =>
    rw [if_neg (by rw [c]; decide)] at this
    rw [this]
    rfl
theorem keysG_has {G : Grp} : ∀ k ∈ keysG G, hasG k G = true := fun k m => by
  rcases List.mem_append.mp m with q | q
  · split at q
    · rename_i c
      rw [List.mem_singleton.mp q]
      exact c
    · cases q
  · obtain ⟨w, mw, rfl⟩ := List.mem_map.mp q
    obtain ⟨g, mg, e⟩ := List.mem_filterMap.mp (sortW_mem mw)
    exact List.any_eq_true.mpr ⟨g, mg, decide_eq_true e⟩
theorem wordsG_len (G : Grp) : (wordsG G).length ≤ G.length := List.length_filterMap_le _ _
theorem keysG_len (G : Grp) : (keysG G).length ≤ G.length + 1 := by
  have := wordsG_len G
  unfold keysG
  rw [List.length_append, List.length_map, sortW_len]
  split
  · simp only [List.length_singleton]
    omega
  · simp only [List.length_nil]
    omega
/-! ### the walk over the keys -/
theorem walk_rows {w : World} {d : Addr} {o : Obj} {rows : List RowV} : Walk (ItRk w d o rows) rows.length (fun H => H d = some (.frz o (rowsO w d rows))) (fun i H x H' => H' = H ∧ ∃ r, rows[i]? = some r ∧ keyVal x = keyVal r.2.1 ∧ (x = .non ∨ ∃ b, x = .ref b)) :=
  ⟨fun _ _ hi q => ⟨q, hi⟩, fun _ q => ⟨q, Nat.le_refl _⟩, fun _ _ _ _ _ _ y => y⟩
theorem key_same {K : PySem.W.Frag} {H : Hp} {v x : V} {k : Res} (h : KeyV K H v k) (e : keyVal x = keyVal v) (c : x = .non ∨ ∃ b, x = .ref b) : x = v := by
  cases k with
  | none =>
    cases h
    rcases c with rfl | ⟨b, rfl⟩
    · rfl
    · cases e
  | some ws =>
    obtain ⟨a, rfl, _⟩ := h
    rcases c with rfl | ⟨b, rfl⟩
    · cases e
    · cases e
      rfl
structure RowsR (w : World) (K : PySem.W.Frag) (H : Hp) (d : Addr) (rows : List RowV) (G : Grp) : Prop where
  d : Rd H d (rowsO w d rows)
  k : RowsK K H rows
  p : Paired (RowG H) rows G
theorem RowsR.same {w : World} {K : PySem.W.Frag} {H H' : Hp} {d : Addr} {rows : List RowV} {G : Grp} (g : RowsR w K H d rows G) (s : Same H H') : RowsR w K H' d rows G :=
  ⟨g.d.elim (fun q => .inl (s _ _ q)) (fun ⟨o, q⟩ => .inr ⟨o, s _ _ q⟩), g.k.mono fun b xs q => Same.tup s q, RowG.mono g.p fun r _ us q => s _ _ q⟩
theorem RowsG.lock {w : World} {K : PySem.W.Frag} {H0 H : Hp} {d : Addr} {rows : List RowV} {G : Grp} (g : RowsG w K H0 H d rows G) (o : Obj) : RowsR w K (upd H d (.frz o (rowsO w d rows))) d rows G :=
  ⟨.inr ⟨o, upd_same⟩, g.k.mono (rows_tup g.d), RowG.mono g.p fun r _ us q => by
    rw [upd_ne (ne_of q g.d (fun z => nomatch z))]
    exact q⟩
section
variable {P : Program} {w : World} {K : PySem.W.Frag} {mg : Str → Option Value} {base : Heap} {C : Addr}
theorem keys_words {H : Hp} {spBy : Sp} (hb : ∀ (a : Addr) (xs : List Str) (H : Hp) (Q : VK), SqT K H a (xs.map V.str) → (∀ v H', Same H H' → Dp K H' v (keyD xs) → Q v H') → spBy [.ref a] H Q (fun _ _ _ => False)) {vs : List V} {ws : List (List Str)} (h : Paired (WdV K H) vs ws) : Keys K spBy H vs (keyI ws) where
  k := fun i x H1 hx s => by
    obtain ⟨w, hw, a, rfl, ha⟩ := paired_at h hx
    refine hb a w H1 _ (Same.tup s ha) fun v H' s' hv => ⟨s', ?_⟩
    unfold keyI
    rw [List.getD_eq_getElem?_getD, hw]
    exact hv
  al := fun i j _ _ => alike_key _ _
  nn := fun i _ z => by cases z
  dp := fun i _ => depth_key _
def spBy (K : PySem.W.Frag) : Sp := fun vs H Q _ => ∃ (a : Addr) (xs : List Str), vs = [.ref a] ∧ SqT K H a (xs.map V.str) ∧ ∀ v H', Same H H' → Dp K H' v (keyD xs) → Q v H'
theorem scBy : FnScope ["stack"] ["stack"] (defScope sByHeight) := ⟨rfl, rfl, rfl, by decide +kernel, rfl, by decide +kernel, by decide +kernel⟩
theorem ok_by {f : Addr} {fd : FuncData} (F : Fun K "by_height" "by_height" sByHeight f fd) (B : Blt mg) : FnOk P w K mg base CX0 1 f fd ["stack"] (spBy K) := by
  refine F.ok scBy (fun vs H Q E h => ?_) (fun cdv A outer s H vs Q E hr h => ?_)
  · obtain ⟨a, xs, rfl, _⟩ := h
    rfl
  · obtain ⟨a, xs, rfl, ha, k⟩ := h
    refine ⟨_, pss_one (ps_ret (pe_tup (pa_cons (pe_callB call_len_seq (by rfl) B.len PySem.boot_len (pa_cons (pv 0) pa_nil)) (pa_cons (pv 0) pa_nil)))), ?_⟩
    refine ⟨_, rfl, a, _, rfl, .inr ha, _, rfl, (by show 2 ≤ sizeLine; decide), fun t ht => k (.ref t) _ (Same.new ht) ?_⟩
    rw [List.length_map]
    exact .tup (.of upd_same) (.cons (.int _) (.cons (.tup (Same.tup (Same.new ht) ha) (dp_strs _)) .nil))
def ByHas (P : Program) (w : World) (K : PySem.W.Frag) (mg : Str → Option Value) (base : Heap) : Prop := ∃ f fd, FnOk P w K mg base CX0 1 f fd ["stack"] (spBy K) ∧ Binds K fd ["stack"] [] ∧ mg "by_height" = some (.ref f)
theorem by_of (D : Def K mg "by_height" sByHeight) (B : Blt mg) : ByHas P w K mg base := by
  obtain ⟨f, fd, F, hm⟩ := D
  exact ⟨f, fd, ok_by F B, F.binds (ps := ["stack"]) fun _ _ _ _ _ _ us hl => match us, hl with | [_], _ => rfl, hm⟩
end
end SE
/-! Dicts: a comprehension over any walk; a value that is locked for good. -/
namespace SE
open PySem PySem.Spec PyProof.Rows L2
section
variable {J : It} {n : Nat} {G : Hp → Prop} {Y : Nat → Hp → V → Hp → Prop}
theorem dc_it (w : Walk J n G Y) {g : TG} {tt : TT} {tk tv : TE} {vs : List Nat} {σ : L2.St} {H1 : Hp} {D : Addr} {Qd : Hp → Prop} (Pv : Nat → Hp → Prop) (h0 : Pv 0 (upd H1 D (.dK []))) (hG : ∀ i H, i ≤ n → Pv i H → G H)
    (hs : ∀ i x H H', i < n → Pv i H → Y i H x H' → g x (wipe σ vs) H' fun σ2 H2 => wipe σ2 vs = wipe σ vs ∧ tt σ2 H2 fun b H3 =>
      if b = true then tk σ2 H3 fun y H4 => tv σ2 H4 fun z H5 => ∃ kvs k, y = kV k ∧ H5 D = some (.dK kvs) ∧ kvs.length < sizeLine ∧ Pv (i + 1) (upd H5 D (.dK (putK kvs k z))) else Pv (i + 1) H3) (hd : ∀ H, Pv n H → Qd H) :
    ∃ W : Nat → Nat → Hp → Prop, (∃ m, W 0 m (upd H1 D (.dK []))) ∧ ∀ i m H, W i m H →
      (J.stop i H ∧ Qd H) ∨ (J.go i H ∧ ∃ Nx : Hp → Prop, (∀ H', Nx H' → ∃ m', m' < m ∧ W (i + 1) m' H') ∧ ∀ x H', J.yld i H x H' → g x (wipe σ vs) H' fun σ2 H2 => wipe σ2 vs = wipe σ vs ∧ tt σ2 H2 fun b H3 =>
        if b = true then tk σ2 H3 fun y H4 => tv σ2 H4 fun z H5 => ∃ kvs k, y = kV k ∧ H5 D = some (.dK kvs) ∧ kvs.length < sizeLine ∧ Nx (upd H5 D (.dK (putK kvs k z))) else Nx H3) := by
  refine ⟨fun i m H => m = n - i ∧ i ≤ n ∧ Pv i H, ⟨n, by simp, Nat.zero_le _, h0⟩, ?_⟩
  rintro i m H ⟨rfl, hi, p⟩
  have q := hG i H hi p
  by_cases hlt : i < n
  · exact .inr ⟨w.goes i H hlt q, Pv (i + 1), fun H' p' => ⟨n - (i + 1), by omega, rfl, hlt, p'⟩, fun x H' y => hs i x H H' hlt p (w.yields i H x H' hlt q y)⟩
  · have e : i = n := by omega
    subst e
    exact .inl ⟨w.stops H q, hd H p⟩
end
/-- the value of e, from now on locked -/
def tFrz (te : TE) : TE := fun σ H Q => te σ H fun x H1 => ∃ d u, x = .ref d ∧ H1 d = some u ∧ Mut (some u) ∧ ∀ od, Q x (upd H1 d (.frz od u))
section
variable {X : Cx}
theorem pe_frz {e : Expr} {te : TE} (h : PE X e te) : PE X e (tFrz te) := by
  refine ⟨fun pins s σ H Q I hw => thn (h.run pins s σ H _ I hw) fun v s1 ⟨x, H1, I1, r, d, u, ex, hd, mu, q⟩ => ?_⟩
  obtain ⟨od, I2⟩ := I1.lock hd mu
  exact ⟨x, _, I2, r, q od⟩
end
/-! ### name = {.. for ..} on one line -/
section
variable {X : Cx}
theorem ps_setDc {i : Nat} {y : Str} {yp : Pos} {kx vx tgt itx : Expr} {cs : List Expr} {sco : Scope} {ow : List (Str × Nat)} {dp sp : Pos} {wi : TI} {g : TG} {tt : TT} {tk tv : TE} (calm : X.calm = true) (nod : X.N.Nodup) (hy : X.N[i]? = some y) (loc : X.env.scope.names.lookup y = some .local)
    (sw : swapsWith (.DictComp kx vx [⟨tgt, itx, cs, 0⟩] sco dp) (some (.Name y yp)) sp.line X.env = pure true) (hi : PI X tgt itx wi) (ok : BlkOk X.N X.env.scope sco ow)
    (hg : ∀ (s : Shared) (H : Hp) (U : Addr) (cl : List (Str × Addr)) (fp : List Addr), PG (X.blk s H sco (compEnvC sco cl U X.env) fp) tgt g) (ht : ∀ (s : Shared) (H : Hp) (U : Addr) (cl : List (Str × Addr)) (fp : List Addr), PTs (X.blk s H sco (compEnvC sco cl U X.env) fp) cs tt)
    (hk : ∀ (s : Shared) (H : Hp) (U : Addr) (cl : List (Str × Addr)) (fp : List Addr), PE (X.blk s H sco (compEnvC sco cl U X.env) fp) kx tk)
    (hv : ∀ (s : Shared) (H : Hp) (U : Addr) (cl : List (Str × Addr)) (fp : List Addr), PE (X.blk s H sco (compEnvC sco cl U X.env) fp) vx tv) (fold : ∀ x, foldedSetIterable itx X.env x = pure x := by intro _; rfl) :
    PS X (.Assign [.Name y yp] (.DictComp kx vx [⟨tgt, itx, cs, 0⟩] sco dp) sp) (tAsg (tDc wi g tt tk tv (ow.map (·.2))) (gName i)) := by
  constructor
  intro pins s σ H Dn I q
  rw [exec_Assign_Name_used _ _ _ _ sw]
  refine wpAny_bind (wpAny_standAt (wpAny_bind ?_))
  show wpAny _ X.A (do let _ ← comprehension (.DictComp kx vx [⟨tgt, itx, cs, 0⟩] sco dp) sco X.env (firstIterPos [⟨tgt, itx, cs, 0⟩] dp) newDict false (eval itx X.env) (some (assign (.Name y yp) X.env))) _ _ s
  have q : tDc wi g tt tk tv (ow.map (·.2)) σ H (fun x H1 => gName i x σ H1 Dn.nx) := q
  refine wpAny_bind (thn (dc_core (Qf := fun _ s' => SP X pins Dn .next s') calm nod I hi ok hg ht hk hv fold q fun L U s' m H' J r nm fp => ?_) fun _ s' z => wpAny_pure (wpAny_pure z))
  show wpAny _ _ (assign (.Name y yp) X.env (.ref L)) _ _ _
  obtain ⟨p0, p1, p2, p3, p4, p5⟩ := fp
  refine wpAny_assign_Name (store_ok2 (v := V.ref L) J nod hy (.inl loc) rfl (fun s2 J2 ⟨a, same, wh⟩ => ?_) (.inr loc))
  have ne : U ≠ a := by
    rcases wh with z | z
    · rw [z]; exact p1
    · exact fun e => p4 y a z e.symm
  refine ⟨m, nm.sameBut same ne, fun h3 z3 => ⟨_, H', J2.turned (t' := s2.toks) (fun b o hb e => (z3.2 b hb).trans e) p0 p1 p3 p4 p5, r⟩⟩
theorem swd_true {kx vx : Expr} {gs : List Comprehension} {sco : Scope} {dp yp : Pos} {y : Str} {l : Nat} {env : Env} (fn : env.scope.kind = .function) (loc : env.scope.names.lookup y = some .local) (ln : (yp.line == dp.line) = true)
    (own : (sco.names.any fun (n, k) => n == y && (k == .local || k == .cell)) = false) : swapsWith (.DictComp kx vx gs sco dp) (some (.Name y yp)) l env = pure true := by
  have k1 : env.kindOf y = some .local := loc
  have k2 : env.blockKind = .function := by unfold Env.blockKind; rw [fn]; rfl
  unfold swapsWith
  simp only [k2, k1, own, Expr.pos, ln]
  rfl
end
end SE
namespace SE
open PySem PySem.Spec PyProof.Rows L2 SeqAt
open PySem.W (alike alikeAll dataLt AllAlike Sortable dataLe)
/-- a pair that outcomes gives -/
def OutV (K : PySem.W.Frag) (Z : Addr → Prop) (H : Hp) (t : V) (g : Res × List Nat) : Prop := ∃ a y l, t = .ref a ∧ SqT K H a [y, .ref l] ∧ OW K H y g.1 ∧ H l = some (.lst (g.2.map nV)) ∧ Z l
theorem outs_same {K : PySem.W.Frag} {Z : Addr → Prop} {H H' : Hp} {ts : List V} {G : Grp} (h : Paired (OutV K Z H) ts G) (s : Same H H') : Paired (OutV K Z H') ts G := Paired.mapP h fun _ _ q => by
  obtain ⟨a, y, l, e, h1, h2, h3, h4⟩ := q
  exact ⟨a, y, l, e, Same.tup s h1, h2.same s, s _ _ h3, h4⟩
theorem ows_words {K : PySem.W.Frag} {H : Hp} : ∀ {vs : List V} {ws : List (List Str)}, Paired (WdV K H) vs ws → Paired (OW K H) vs (ws.map some)
  | _, _, .nil => .nil
  | _, _, .cons a b => .cons a (ows_words b)
theorem paired_snoc {α β : Type} {F : α → β → Prop} {x : α} {y : β} (q : F x y) : ∀ {l : List α} {k : List β}, Paired F l k → Paired F (l ++ [x]) (k ++ [y])
  | _, _, .nil => .cons q .nil
  | _, _, .cons a b => .cons a (paired_snoc q b)
section
variable {P : Program} {w : World} {K : PySem.W.Frag} {mg : Str → Option Value} {base : Heap} {C : Addr}
def spOut (w : World) (K : PySem.W.Frag) (C : Addr) : Sp := fun vs H Q _ => ∃ (L a : Addr) (es : List Addr) (os : List Eff) (zs : List Str), vs = [.ref L, .ref a] ∧ SqL K H L (es.map V.ref) ∧ Paired (EffV K C H) es os ∧ (∀ o ∈ os, EffOk o) ∧ 1 ≤ es.length ∧ es.length ≤ 20 ∧ SqT K H a (zs.map V.str) ∧ (∀ z ∈ zs, Item z) ∧ zs.length ≤ 1000 ∧
  ∀ (R : Addr) (ts : List V) (H' : Hp), Same H H' → H R = none → H' R = some (.lst ts) → Paired (OutV K (fun l => H l = none) H') ts (outM (grpM (resM os zs) es.length)) → Q (.ref R) H'
abbrev nOu : List Str := ["candidates", "stack", "indexes", "results", "result"]
theorem scOu : FnScope nOu ["candidates", "stack"] (defScope sOutcomes) := ⟨rfl, rfl, rfl, by decide +kernel, rfl, by decide +kernel, by decide +kernel⟩
def rNN : R2 := fun x y H Q => y = .non ∧ Q (.bl (!decide (x = .non))) H
theorem has_out (D : Def K mg "outcomes" sOutcomes) (GC : Has P w K mg base "check_candidates" 2 ["candidates"] [] (spChkC K C)) (GW : Has P w K mg base "check_word" 3 ["word"] [] (spChkWord K)) (GI : Has P w K mg base "indexes_by_result" 4 ["candidates", "stack"] [] (spIdx w K C)) (BY : ByHas P w K mg base) (ms : mg "sorted" = none) : Has P w K mg base "outcomes" 5 ["candidates", "stack"] [] (spOut w K C) := by
  obtain ⟨fB, fdB, FB, bB, mB⟩ := BY
  refine has_of D scOu (fun _ _ _ _ _ _ us hl => match us, hl with | [_, _], _ => rfl) (fun xs H Q E h => ?_) (fun f cv A out s H xs Q E hr h => ?_)
  · obtain ⟨L, a, es, os, zs, rfl, _⟩ := h
    rfl
  · obtain ⟨L, a, es, os, zs, rfl, hL, hE, oE, l0, l1, hT, hI, hl, k⟩ := h
    have hr2 : Room 2 _ := hr.mono (by decide)
    have hr3 : Room 3 _ := hr.mono (by decide)
    refine ⟨_, pss_cons (ps_expr (pe_has GC hr2 (pa_cons (pv 0) pa_nil))) (pss_cons (ps_expr (pe_has GW hr3 (pa_cons (pv 1) pa_nil)))
      (pss_cons (ps_set (i := 2) scOu.nd rfl (.inr rfl) (pe_has GI hr (pa_cons (pv 0) (pa_cons (pv 1) pa_nil))))
      (pss_cons (ps_set (i := 3) scOu.nd rfl (.inl rfl) (pe_callBK (call_sortK FB bB hr3) (by rfl) ms (by decide +kernel)
        (pa_cons (pe_lc (own := [("result", 4)]) (g := gName 4) (tt := tTest (tOp rNN (tVar 4) (tC .non))) (te := tVar 4) rfl scOu.nd (pi_rows (pe_frz (pv 2))) (blkOk_by (own := [("result", 4)]) (N := nOu) (sc := defScope sOutcomes) (by decide +kernel))
          (fun _ _ _ _ _ => pg_name (i := 4) scOu.nd rfl (.inl rfl)) (fun _ _ _ _ _ => pts_one (pt_cmpR op_notN (pv 4) pe_non (nomark _))) (fun _ _ _ _ _ => pv 4)) pa_nil)
        (pk_cons (pe_glob (v := .ref fB) rfl mB rfl) pk_nil)))
      (pss_cons (ps_if (pt_cmp (pc_rowIn (by have := hr.un; show (A.deeper _).units + 9 < cLine; omega) pe_non (pv 2))) (pss_one (ps_set (i := 3) scOu.nd rfl (.inl rfl) (pe_op op_cat (pe_lst (pa_cons pe_non pa_nil)) (pv 3)))) pss_nil)
      (pss_one (ps_ret (pe_lc (own := [("result", 4)]) (g := gName 4) (tt := tYes) (te := tTup (tCons (tVar 4) (tCons (tRowGet w K (tVar 2) (tVar 4)) tNil))) rfl scOu.nd (pi_list (pv 3)) (blkOk_by (own := [("result", 4)]) (N := nOu) (sc := defScope sOutcomes) (by decide +kernel))
          (fun _ _ _ _ _ => pg_name (i := 4) scOu.nd rfl (.inl rfl)) (fun _ _ _ _ _ => pts_nil) (fun _ _ _ _ _ => pe_tup (pa_cons (pv 4) (pa_cons (pe_rowGet (by have := hr.un; show (A.deeper _).units + 9 < cLine; omega) (pv 2) (pv 4) (fun _ _ => rfl)) pa_nil)))))))))), ?_⟩
    refine ⟨_, rfl, L, es, os, rfl, hL, hE, l0, l1, fun H1 s1 => ?_⟩
    refine ⟨_, rfl, a, zs, rfl, Same.tup s1 hT, by omega, hI, fun H2 s12 => ?_⟩
    have s2 := s1.trans s12
    refine ⟨_, rfl, _, rfl, L, a, es, os, zs, rfl, Same.seq s2 hL, effs_same hE s2, oE, l1, Same.tup s2 hT, hI, hl, fun d rows H3 s23 hd g => ?_⟩
    have s3 := s2.trans s23
    have hd0 : H d = none := by
      cases q : H d with
      | none => rfl
      | some u =>
        have := s2 _ _ q
        rw [hd] at this
        cases this
    generalize hG : grpM (resM os zs) es.length = G at g k
    have gl : G.length ≤ 20 := by
      rw [← hG]
      exact Nat.le_trans (grpM_len _ _) l1
    have rl := paired_len g.p
    -- the dict is locked
    refine ⟨_, rfl, d, _, rfl, g.d, trivial, fun od => ⟨d, od, rows, rfl, upd_same, fun D hD => ?_⟩⟩
    have r4 := g.lock od
    have s4 : Same H (upd H3 d (.frz od (rowsO w d rows))) := Same.free2 s3 hd0
    have z4 : ∀ r ∈ rows, H r.2.2 = none := fun r mr => by
      cases q : H r.2.2 with
      | none => rfl
      | some u =>
        have := s2 _ _ q
        rw [g.z r mr] at this
        cases this
    have f4 : (upd H3 d (.frz od (rowsO w d rows))) d = some (.frz od (rowsO w d rows)) := upd_same
    generalize upd H3 d (.frz od (rowsO w d rows)) = H4 at hD r4 s4 f4
    refine lc_it walk_rows (fun j H5 => ∃ us, H5 D = some (.lst us) ∧ Paired (WdV K H5) us ((G.take j).filterMap (·.1)) ∧ Same H4 H5) ⟨[], upd_same, .nil, Same.new hD⟩ (fun _ _ _ ⟨_, _, _, q⟩ => q _ _ f4) ?_ ?_
    · rintro j x H5 H5' hj ⟨us, h5, p5, s5⟩ ⟨rfl, r, hr5, ek, cx⟩
      obtain ⟨g0, hg0, q1, q2⟩ := paired_at r4.p hr5
      have kv := (r4.same s5).k.keys r (List.mem_of_getElem? hr5)
      obtain rfl := key_same kv ek cx
      refine ⟨rfl, _, rfl, rfl, !decide (r.2.1 = .non), rfl, ?_⟩
      have tk : (G.take (j + 1)).filterMap (·.1) = (G.take j).filterMap (·.1) ++ (match g0.1 with | none => [] | some w0 => [w0]) := by
        rw [List.take_add_one, hg0, List.filterMap_append]
        congr 1
        show List.filterMap (fun x => x.1) [g0] = _
        cases e : g0.1 <;> simp [e]
      have lj : us.length ≤ 20 := by
        rw [paired_len p5]
        refine Nat.le_trans (List.length_filterMap_le _ _) ?_
        rw [List.length_take]
        omega
      rw [q1] at kv
      cases e : g0.1 with
      | none =>
        rw [e] at kv tk
        rw [show r.2.1 = .non from kv]
        refine iteF ⟨us, h5, ?_, s5⟩
        rw [tk, List.append_nil]
        exact p5
      | some w0 =>
        rw [e] at kv tk
        obtain ⟨b, eb, hb⟩ := kv
        rw [eb]
        refine iteT ⟨_, rfl, us, h5, Nat.lt_of_le_of_lt lj (by decide), us ++ [.ref b], upd_same, ?_, Same.free2 s5 hD⟩
        rw [tk]
        refine paired_snoc ⟨b, rfl, tup_lst h5 _ _ hb⟩ (Paired.mapP p5 fun _ _ q => ?_)
        obtain ⟨b2, e2, q⟩ := q
        exact ⟨b2, e2, tup_lst h5 _ _ q⟩
    · rintro H5 ⟨us, h5, p5, s45⟩
      rw [List.take_of_length_le (by omega)] at p5
      change Paired (WdV K H5) us (wordsG G) at p5
      have hul : us.length ≤ 20 := by
        rw [paired_len p5]
        exact Nat.le_trans (List.length_filterMap_le _ _) gl
      refine ⟨D, us, keyI (wordsG G), rfl, rfl, .of h5, keys_words (fun a xs H Q ha k => ⟨a, xs, rfl, ha, k⟩) p5, keyI_alike _ _, keyI_sortable _ _, fun H6 p s56 hp => ?_⟩
      have s46 := s45.trans s56
      have p6 := sorted_words (words_same p5 s56)
      have s7 : Same H6 (upd H6 p (.lst (sortedI us (keyI (wordsG G))))) := Same.new hp
      have p7 := words_same p6 s7
      have h7 : (upd H6 p (.lst (sortedI us (keyI (wordsG G))))) p = some (.lst (sortedI us (keyI (wordsG G)))) := upd_same
      have s47 := s46.trans s7
      generalize upd H6 p (.lst (sortedI us (keyI (wordsG G)))) = H7 at s7 p7 h7 s47
      have r7 := r4.same s47
      have lS : (sortedI us (keyI (wordsG G))).length ≤ 20 := by
        unfold sortedI
        rw [List.length_map, List.length_mergeSort, List.length_range]
        exact hul
      generalize sortedI us (keyI (wordsG G)) = Ss at p7 h7 lS
      -- the last comprehension
      have fin : ∀ {H8 : Hp} {r : Addr} {vs : List V}, Same H7 H8 → H8 r = some (.lst vs) → Paired (OW K H8) vs (keysG G) → (tLc (iList K (tVar 3)) (gName 4) tYes (tTup (tCons (tVar 4) (tCons (tRowGet w K (tVar 2) (tVar 4)) tNil))) [4]) [some (.ref L), some (.ref a), some (.ref d), some (.ref r), none] H8 Q := by
        intro H8 r vs s78 h8 p8
        have s48 := s47.trans s78
        have r8 := r7.same s78
        have lk : vs.length ≤ 21 := by
          rw [paired_len p8]
          exact Nat.le_trans (keysG_len G) (by omega)
        refine ⟨_, rfl, r, rfl, ⟨_, .of h8⟩, fun R hR => ?_⟩
        refine lc_list (K := K) (a := r) (xs := vs) (fun j H9 => ∃ ts, H9 R = some (.lst ts) ∧ Paired (OutV K (fun l => H l = none ∧ l ≠ R) H9) ts ((outM G).take j) ∧ Same H8 H9) ⟨[], upd_same, .nil, Same.new hR⟩ (fun j H9 _ ⟨_, _, _, q⟩ => .of (q _ _ h8)) ?_ ?_
        · rintro j x H9 hx ⟨ts, h9, p9, s9⟩
          obtain ⟨kk, hk, ow⟩ := paired_at p8 hx
          have hs := keysG_has kk (List.mem_of_getElem? hk)
          have r9 := r8.same s9
          obtain ⟨l, at_k, h_l⟩ := row_has r9.p hs
          obtain ⟨rr, mr, _, er⟩ := rowAt_mem at_k
          refine ⟨rfl, ?_⟩
          unfold tYes
          dsimp only
          rw [if_pos rfl]
          refine ⟨_, rfl, _, rfl, _, rfl, d, rows, kk, l, rfl, r9.d, r9.k, ow_key (ow.same s9), at_k, (by show 2 ≤ sizeLine; decide), fun T hT => ?_⟩
          have s10 : Same H9 (upd H9 T (.tup [x, .ref l])) := Same.new hT
          have lt : ts.length ≤ 21 := by
            rw [paired_len p9, List.length_take]
            refine Nat.le_trans (Nat.min_le_right _ _) ?_
            unfold outM
            rw [List.length_map]
            exact Nat.le_trans (keysG_len G) (by omega)
          have t10 : (upd H9 T (.tup [x, .ref l])) T = some (.tup [x, .ref l]) := upd_same
          have h10 := s10 _ _ h9
          have ow10 := ow.same (s9.trans s10)
          have l10 := s10 _ _ h_l
          have p10 := outs_same p9 s10
          generalize upd H9 T (.tup [x, .ref l]) = H10 at s10 t10 h10 ow10 l10 p10
          have tl : ∀ {b : Addr} {ys : List V}, SqT K H10 b ys → SqT K (upd H10 R (.lst (ts ++ [.ref T]))) b ys := fun q => tup_lst h10 _ _ q
          obtain ⟨l8, at8, h8l⟩ := row_has r8.p hs
          have el : l8 = l := Option.some.inj (at8.symm.trans at_k)
          have neR : l ≠ R := fun z => by
            rw [el, z, hR] at h8l
            cases h8l
          have owm : ∀ {v : V} {o : Res}, OW K H10 v o → OW K (upd H10 R (.lst (ts ++ [.ref T]))) v o := fun {v o} q => by
            cases o with
            | none => exact q
            | some ws =>
              obtain ⟨b, e, q⟩ := q
              exact ⟨b, e, tl q⟩
          refine ⟨ts, h10, Nat.lt_of_le_of_lt lt (by decide), ts ++ [.ref T], upd_same, ?_, Same.free2 (s9.trans s10) hR⟩
          have tk : (outM G).take (j + 1) = (outM G).take j ++ [(kk, lookG kk G)] := by
            rw [List.take_add_one]
            congr 1
            unfold outM
            rw [List.getElem?_map, hk]
            rfl
          rw [tk]
          refine paired_snoc ⟨T, x, l, rfl, tl (.inl (.inl t10)), owm ow10, ?_, by rw [← er]; exact z4 rr mr, neR⟩ (Paired.mapP p10 fun t g q => ?_)
          · obtain ⟨a2, y2, l2, e1, e2, e3, e4, e5, e6⟩ := q
            refine ⟨a2, y2, l2, e1, tl e2, owm e3, ?_, e5, e6⟩
            rw [upd_ne e6]
            exact e4
          · rw [upd_ne neR]
            exact l10
        · rintro H9 ⟨ts, h9, p9, s9⟩
          rw [paired_len p8, List.take_of_length_le (Nat.le_of_eq (by unfold outM; rw [List.length_map]))] at p9
          have s09 := (s4.trans s48).trans s9
          refine k R ts H9 s09 ?_ h9 (Paired.mapP p9 fun t g q => ?_)
          · cases q : H R with
            | none => rfl
            | some u =>
              have := (s4.trans s48) _ _ q
              rw [hR] at this
              cases this
          · obtain ⟨a2, y2, l2, e1, e2, e3, e4, e5, e6⟩ := q
            exact ⟨a2, y2, l2, e1, e2, e3, e4, e5⟩
      refine ⟨_, rfl, d, rows, none, rfl, r7.d, r7.k, rfl, _, rfl, ?_⟩
      rw [row_is r7.p]
      cases hc : hasG none G with
      | true =>
        refine iteT ⟨(by show 1 ≤ sizeLine; decide), fun n hn => ⟨_, rfl, n, p, [.non], Ss, rfl, rfl, upd_same, Same.new hn _ _ h7, ?_, fun q hq => ?_⟩⟩
        · rw [sizeLine_eq, List.length_singleton]
          omega
        · have sn : Same H7 (upd (upd H7 n (.lst [.non])) q (.lst ([.non] ++ Ss))) := (Same.new hn).trans (Same.new hq)
          refine fin sn upd_same ?_
          unfold keysG
          rw [if_pos hc]
          exact .cons rfl (ows_words (words_same p7 sn))
      | false =>
        refine iteF (fin (Same.refl H7) h7 ?_)
        unfold keysG
        rw [if_neg (by rw [hc]; decide)]
        exact ows_words p7
end
end SE
namespace SE
open PySem PySem.Spec PyProof.Rows L2
theorem Same.but3 {H H3 H4 : Hp} {p : Addr} (s : Same H H3) (hp : H p = none) (b : But p H3 H4) : Same H H4 := fun c o e => b c o (ne_of_none e hp) (s c o e)
theorem SqT.same3 {K : PySem.W.Frag} {H H' : Hp} {u p : Addr} {xs : List V} (h : SqT K H u xs) (hp : Pool H p) (b : But p H H') : SqT K H' u xs := by
  rcases h with (h | ⟨o, h⟩) | h
  · exact .inl (.inl (b _ _ (fun e => by obtain ⟨m, s, q, _⟩ := hp.ex; rw [e, q] at h; cases h) h))
  · exact .inl (.inr ⟨o, b _ _ (fun e => by obtain ⟨m, s, q, _⟩ := hp.ex; rw [e, q] at h; cases h) h⟩)
  · exact .inr h
theorem ixN_nat {n j : Nat} (h : j < n) : ixN n (j : Int) = some j := by
  unfold ixN
  rw [if_pos (by omega), if_pos (by omega), Int.toNat_natCast]
theorem paired_at' {α β : Type} {F : α → β → Prop} : ∀ {l : List α} {k : List β} {i : Nat} {x : α}, Paired F l k → l[i]? = some x → ∃ y, k[i]? = some y ∧ F x y
  | _, _, _, _, .nil, e => by simp at e
  | _, _, 0, _, .cons r _, e => by simp at e; subst e; exact ⟨_, rfl, r⟩
  | _, _, i + 1, x, .cons _ t, e => by
    obtain ⟨u, h1, h2⟩ := paired_at' (i := i) (x := x) t (by simpa using e)
    exact ⟨u, by simpa using h1, h2⟩
theorem paired_app {α β : Type} {F : α → β → Prop} : ∀ {l₁ l₂ : List α} {k₁ k₂ : List β}, Paired F l₁ k₁ → Paired F l₂ k₂ → Paired F (l₁ ++ l₂) (k₁ ++ k₂)
  | _, _, _, _, .nil, q => q
  | _, _, _, _, .cons a r, q => .cons a (paired_app r q)
theorem paired_rev {α β : Type} {F : α → β → Prop} : ∀ {l : List α} {k : List β}, Paired F l k → Paired F l.reverse k.reverse
  | _, _, .nil => .nil
  | _, _, .cons a r => by
    rw [List.reverse_cons, List.reverse_cons]
    exact paired_app (paired_rev r) (.cons a .nil)
theorem paired_atR {α β : Type} {F : α → β → Prop} : ∀ {l : List α} {k : List β} {i : Nat} {y : β}, Paired F l k → k[i]? = some y → ∃ x, l[i]? = some x ∧ F x y
  | _, _, _, _, .nil, e => by simp at e
  | _, _, 0, _, .cons r _, e => by simp at e; subst e; exact ⟨_, rfl, r⟩
  | _, _, i + 1, y, .cons _ t, e => by
    obtain ⟨u, h1, h2⟩ := paired_atR (i := i) (y := y) t (by simpa using e)
    exact ⟨u, by simpa using h1, h2⟩
theorem stepsV_same {K : PySem.W.Frag} {H H' : Hp} {xs : List V} {ss : List Stp} (h : StepsV K H xs ss) (s : Same H H') : StepsV K H' xs ss := Paired.mapP h fun _ _ q => q.same s
theorem dp_obs {K : PySem.W.Frag} {H : Hp} : ∀ {vs : List V} {bs : List Ob}, Paired (ObV K H) vs bs → DpAll K H vs (bs.map obD)
  | _, _, .nil => .nil
  | _, _, .cons q r => .cons q.dp (dp_obs r)
/-! ### hiding lists from effects, steps and observations -/
def LstAll (S : List Addr) (H : Hp) : Prop := ∀ b ∈ S, ∃ us, H b = some (.lst us)
theorem LstAll.nil {H : Hp} : LstAll [] H := fun _ m => by cases m
theorem LstAll.cons {S : List Addr} {D : Addr} {us : List V} {H : Hp} (h : LstAll S H) (hD : H D = some (.lst us)) : LstAll (D :: S) H := fun b m => by
  rcases List.mem_cons.mp m with e | m
  · exact ⟨us, e ▸ hD⟩
  · exact h b m
theorem LstAll.pool {H : Hp} {p : Addr} (h : Pool H p) : LstAll [p] H := by
  obtain ⟨m, s, e, _⟩ := h.ex
  exact LstAll.nil.cons e
theorem hid_at {S : List Addr} {H : Hp} {b : Addr} {o : HO} (h : LstAll S H) (hb : H b = some o) (n : ∀ us, o ≠ .lst us) : hid S H b = some o := by
  rw [hid_ne fun m => ?_]
  · exact hb
  · obtain ⟨us, e⟩ := h b m
    rw [e] at hb
    cases hb
    exact n us rfl
theorem hid_tup {K : PySem.W.Frag} {S : List Addr} {H : Hp} {a : Addr} {xs : List V} (h : LstAll S H) (ha : SqT K H a xs) : SqT K (hid S H) a xs := by
  rcases ha with (h1 | ⟨o, h1⟩) | h1
  · exact .inl (.inl (hid_at h h1 fun us e => by cases e))
  · exact .inl (.inr ⟨o, hid_at h h1 fun us e => by cases e⟩)
  · exact .inr h1
theorem hid_steps {S : List Addr} {H : Hp} {us : List V} {ss : List Stp} (h : LstAll S H) (hs : StepsH H us ss) : StepsH (hid S H) us ss := Paired.mapP hs fun _ _ q => by
  obtain ⟨t, e, z⟩ := q
  exact ⟨t, e, hid_at h z fun us e => by cases e⟩
section
variable {K : PySem.W.Frag} {C : Addr} {S : List Addr} {H : Hp}
theorem hid_eff {e : Addr} (h : LstAll S H) : ∀ {o : Eff}, EffV K C H e o → EffV K C (hid S H) e o
  | none, q => by
    obtain ⟨dx, h1⟩ := NevAt.ex q
    exact ⟨dx, hid_at h h1 fun us e => by cases e⟩
  | some (_, _, _), q => by
    obtain ⟨dx, u, v, h1, h2, h3⟩ := EffAt.ex q
    exact ⟨dx, u, v, hid_at h h1 fun us e => (by cases e), hid_tup h h2, hid_tup h h3⟩
theorem hid_ow {v : V} (h : LstAll S H) : ∀ {o : Option (List Str)}, OW K H v o → OW K (hid S H) v o
  | none, q => q
  | some _, ⟨a, e, q⟩ => ⟨a, e, hid_tup h q⟩
theorem hid_ob {v : V} {b : Ob} (h : LstAll S H) (q : ObV K H v b) : ObV K (hid S H) v b := by
  obtain ⟨t, a, r, e, h1, h2, h3⟩ := q
  exact ⟨t, a, r, e, hid_tup h h1, hid_tup h h2, hid_ow h h3⟩
end
theorem paired_set {α β : Type} {F : α → β → Prop} {x : α} {y : β} (h : F x y) : ∀ {l : List α} {k : List β} (j : Nat), Paired F l k → Paired F (l.set j x) (k.set j y)
  | _, _, _, .nil => .nil
  | _, _, 0, .cons _ r => .cons h r
  | _, _, j + 1, .cons q r => .cons q (paired_set h j r)
theorem paired_setL {α β : Type} {F : α → β → Prop} {x : α} : ∀ {l : List α} {k : List β} (j : Nat), (∀ y, k[j]? = some y → F x y) → Paired F l k → Paired F (l.set j x) k
  | _, _, _, _, .nil => .nil
  | _, _, 0, h, .cons _ r => .cons (h _ rfl) r
  | _, _, j + 1, h, .cons q r => .cons q (paired_setL j (fun y e => h y (by simpa using e)) r)
/-- an effect that acts as the steps do -/
def EffLike (o : Eff) (ss : List Stp) : Prop := EffOk o ∧ ∀ zs, replM o zs = runM ss zs
theorem like_all : ∀ {sss : List (List Stp)}, (∀ ss ∈ sss, ss.length ≤ 4 ∧ ∀ s ∈ ss, Item s.2) → Paired EffLike (sss.map effM) sss
  | [], _ => .nil
  | ss :: sss, h => .cons ⟨effM_EffOk (h ss (List.mem_cons_self ..)).2 (by have := (h ss (List.mem_cons_self ..)).1; omega), repl_run ss⟩ (like_all fun t m => h t (List.mem_cons_of_mem _ m))
theorem like_giv {o : Eff} {ss : List Stp} {bs : List Ob} (h : EffLike o ss) : (bs.filter fun b => !decide (runM ss b.1 = b.2)) = [] ↔ givM o bs = true := by
  unfold givM
  rw [List.filter_eq_nil_iff, List.all_eq_true]
  constructor
  · intro q b m
    have := q b m
    rw [h.2]
    simpa using this
  · intro q b m
    have := q b m
    rw [h.2] at this
    simpa using this
theorem like_eff {ss : List Stp} {xs ys : List Str} {p r : Int} (hs : ss.length ≤ 4) (hI : ∀ s ∈ ss, Item s.2) (h : effM ss = some (xs, ys, p)) (r0 : 0 ≤ r) (r1 : r < 60) : EffLike (some (xs, ys, p + r)) ss := by
  have k := effM_EffOk hI (by omega)
  have m := (effM_ok hI h).2.2
  rw [h] at k
  refine ⟨⟨k.1, k.2.1, k.2.2.1, k.2.2.2.1, ?_, ?_⟩, fun zs => ?_⟩
  · have := k.2.2.2.2.1
    omega
  · have : p ≤ (ss.length : Int) := m
    omega
  · rw [← repl_run ss, h]
    rfl
theorem runM_ok {ss : List Stp} {zs : List Str} (hs : ss.length ≤ 4) (hI : ∀ s ∈ ss, Item s.2) (hz : ∀ z ∈ zs, Item z) (hl : zs.length ≤ 1000) : OWOk (runM ss zs) := by
  rw [← repl_run]
  exact replM_ok (effM_EffOk hI (by omega)) hz hl
theorem eqv_nil (ds : List PyData) : PyData.eqv (.list ds) (.list []) = decide (ds = []) := by
  cases ds with
  | nil => simp [PyData.eqv, PyData.eqvAll]
  | cons d ds => simp [PyData.eqv, PyData.eqvAll]
def iDn (n : Nat) : PyData := .int (n : Int)
theorem dp_ns {K : PySem.W.Frag} {H : Hp} : ∀ ns : List Nat, DpAll K H (ns.map nV) (ns.map iDn)
  | [] => .nil
  | n :: ns => .cons (.int _) (dp_ns ns)
theorem nice_n {n : Nat} (h : n ≤ 100) : Nice 0 8 (iDn n) := by
  have q : ∀ m : Fin 101, PyData.showable (.int (m.1 : Int)) = true ∧ PyData.intsShort 13 (.int (m.1 : Int)) = true ∧ PyData.weight (.int (m.1 : Int)) ≤ 8 := by decide +kernel
  obtain ⟨q1, q2, q3⟩ := q ⟨n, by omega⟩
  refine ⟨?_, ?_, q1, ?_, q2, q3⟩
  · unfold iDn; simp only [PyData.canLay0]
  · unfold iDn; simp only [PyData.depth]; exact Nat.le_refl _
  · unfold iDn; simp only [PyData.hasDict]
theorem nice_ns {ns : List Nat} (h : ∀ n ∈ ns, n ≤ 100) (hl : ns.length ≤ 100) : Nice 1 900 (.list (ns.map iDn)) := by
  refine (nice_list (k := 0) (B := 8) fun d m => ?_).mono (Nat.le_refl _) (by rw [List.length_map]; omega)
  obtain ⟨n, mn, rfl⟩ := List.mem_map.mp m
  exact nice_n (h n mn)
theorem posM_le {os : List Eff} {bs : List Ob} {n : Nat} : ∀ i ∈ posM os bs n, i < n := fun i m => by
  unfold posM at m
  exact List.mem_range.mp (List.mem_filter.mp m).1
/-- repr of a list of numbers -/
theorem rep_ns {K : PySem.W.Frag} {H : Hp} {a : Addr} {ns : List Nat} {Q : VK} (ha : H a = some (.lst (ns.map nV))) (h : ∀ n ∈ ns, n ≤ 100) (hl : ns.length ≤ 100) (k : Q (.str (PyData.list (ns.map iDn)).shown) H) : rRep K [.ref a] H Q := by
  have n := nice_ns h hl
  exact ⟨_, _, rfl, .lst (.of ha) (dp_ns ns), ⟨_, rfl⟩, n.sh, n.nd, Nat.le_trans n.dep (by decide), n.shown (by decide) (by decide), k⟩
end SE
/-! min(list of data): the first of the least. -/
namespace SE
open PySem PySem.Spec PyProof.Rows L2 SeqAt
open PySem.W (alike dataLt)
def ltD (ds : List PyData) (i j : Nat) : Bool := dataLt (ds.getD i .none) (ds.getD j .none)
/-- min(list) -/
def rMinD (K : PySem.W.Frag) : List V → Hp → VK → Prop := fun vs H Q => ∃ (l : Addr) (xs : List V) (ds : List PyData), vs = [.ref l] ∧ SqL K H l xs ∧ xs ≠ [] ∧ DpAll K H xs ds ∧ PySem.W.AlikeAll ds ∧ PyData.depthAll ds ≤ 20 ∧ ∀ x, xs[argBest (ltD ds) (xs.length - 1)]? = some x → Q x H
section
variable {X : Cx}
theorem call_minD (hc : X.calm = true) (hu : X.A.units + 30 < cLine) : CallR X (.builtin "min") (rMinD X.K) := by
  intro pins s σ H vs us Q I r h
  obtain ⟨l, xs, ds, rfl, hl, ne, hd, ha, hdp, hq⟩ := h
  obtain ⟨ul, rfl, rl⟩ := vals1 r
  cases rl
  obtain ⟨its, rv, pl, hz⟩ := I.list hl
  have lv := rv.length
  obtain ⟨as, hr⟩ := Dp.readsAll I ds xs its hd rv
  have pos : 0 < its.toArray.size := by
    rw [List.size_toArray, ← lv]
    exact List.length_pos_iff.mpr ne
  refine call_min_walkH (PySem.W.iter_listW (A := X.A.in1) (I.ok.hd hc) pl.isList fun s₂ e W st hfp hw hk => ?_)
  refine ⟨_, _, _, _, _, _, _, s.heap, _, rfl, W, st, hfp, pos, hw, hk, PySem.W.cmpIn_lt (A := X.A.in1) (xs := ds) (as := as) hr ha (by rw [Around.in1_units]; omega), fun v s' hP m => ?_⟩
  obtain ⟨h', tk, rfl, hk'⟩ := PySem.W.moved_old e rfl m
  have hP : its.toArray[argBest (ltD ds) (its.toArray.size - 1)]? = some v := hP
  rw [List.size_toArray, ← lv] at hP
  have le : argBest (ltD ds) (xs.length - 1) < xs.length := by
    have h1 := argBest_le (ltD ds) (xs.length - 1)
    have h2 := List.length_pos_iff.mpr ne
    omega
  obtain ⟨u, hu, ru⟩ := rv.get (List.getElem?_eq_getElem le)
  have e2 : u = v := by
    have hP : its[argBest (ltD ds) (xs.length - 1)]? = some v := by simpa using hP
    rw [hu] at hP
    exact Option.some.inj hP
  rw [← e2]
  exact ⟨_, H, I.kept (t' := tk) hk', ru, hq _ (List.getElem?_eq_getElem le)⟩
end
end SE
namespace SE
open PySem PySem.Spec PyProof.Rows L2 SeqAt
open PySem.W (alike alikeAll dataLt dataLt_pair)
/-! ### the greatest group -/
def largM (G : Grp) : Nat := (G.map fun g => g.2.length).foldl max 0
theorem foldl_max_ge : ∀ (l : List Nat) (a : Nat), a ≤ l.foldl max a ∧ ∀ x ∈ l, x ≤ l.foldl max a
  | [], a => ⟨Nat.le_refl _, fun x m => by cases m⟩
  | y :: l, a => by
    obtain ⟨h1, h2⟩ := foldl_max_ge l (max a y)
    refine ⟨Nat.le_trans (Nat.le_max_left _ _) h1, fun x m => ?_⟩
    rcases List.mem_cons.mp m with e | m
    · rw [e]
      exact Nat.le_trans (Nat.le_max_right _ _) h1
    · exact h2 x m
theorem foldl_max_in : ∀ (l : List Nat) (a : Nat), l.foldl max a = a ∨ l.foldl max a ∈ l
  | [], a => .inl rfl
  | y :: l, a => by
    rcases foldl_max_in l (max a y) with e | m
    · rw [List.foldl_cons, e]
      rcases Nat.le_total a y with c | c
      · rw [Nat.max_eq_right c]
        exact .inr List.mem_cons_self
      · rw [Nat.max_eq_left c]
        exact .inl rfl
    · exact .inr (List.mem_cons_of_mem _ m)
/-- the greatest of counts -/
theorem max_is {ns : List Nat} {m : Int} (h0 : ns ≠ []) (hm : m ∈ ns.map fun n : Nat => (n : Int)) (hx : ∀ y ∈ ns.map fun n : Nat => (n : Int), y ≤ m) : m = ((ns.foldl max 0 : Nat) : Int) := by
  obtain ⟨n, mn, rfl⟩ := List.mem_map.mp hm
  have h1 := (foldl_max_ge ns 0).2 n mn
  rcases foldl_max_in ns 0 with e | q
  · rw [e] at h1 ⊢
    omega
  · have := hx _ (List.mem_map.mpr ⟨_, q, rfl⟩)
    omega
theorem addG_some (k : Res) (i : Nat) : ∀ G : Grp, addG k i G ≠ []
  | [] => by simp [addG]
  | g :: G => by
    unfold addG
    split <;> simp
theorem grpM_some (rs : List Res) {n : Nat} (h : 0 < n) : grpM rs n ≠ [] := by
  obtain ⟨m, rfl⟩ : ∃ m, n = m + 1 := ⟨n - 1, by omega⟩
  exact addG_some _ _ _
theorem walk_rowVals {w : World} {d : Addr} {o : Obj} {rows : List RowV} : Walk (ItRv w d o rows) rows.length (fun H => H d = some (.frz o (rowsO w d rows))) (fun i H x H' => H' = H ∧ ∃ r, rows[i]? = some r ∧ x = .ref r.2.2) :=
  ⟨fun _ _ hi q => ⟨q, hi⟩, fun _ q => ⟨q, Nat.le_refl _⟩, fun _ _ _ _ _ _ y => y⟩
section
variable {P : Program} {w : World} {K : PySem.W.Frag} {mg : Str → Option Value} {base : Heap} {C : Addr}
def spLg (w : World) (K : PySem.W.Frag) (C : Addr) : Sp := fun vs H Q _ => ∃ (L a : Addr) (es : List Addr) (os : List Eff) (zs : List Str), vs = [.ref L, .ref a] ∧ SqL K H L (es.map V.ref) ∧ Paired (EffV K C H) es os ∧ (∀ o ∈ os, EffOk o) ∧ 1 ≤ es.length ∧ es.length ≤ 20 ∧ SqT K H a (zs.map V.str) ∧ (∀ z ∈ zs, Item z) ∧ zs.length ≤ 1000 ∧
  ∀ H', Same H H' → Q (.int (largM (grpM (resM os zs) es.length) : Nat)) H'
abbrev nLg : List Str := ["candidates", "stack", "indexes"]
theorem scLg : FnScope nLg ["candidates", "stack"] (defScope sLargestMany) := ⟨rfl, rfl, rfl, by decide +kernel, rfl, by decide +kernel, by decide +kernel⟩
theorem has_lg (D : Def K mg "largest_many" sLargestMany) (GI : Has P w K mg base "indexes_by_result" 4 ["candidates", "stack"] [] (spIdx w K C)) (B : Blt mg) (mx : mg "max" = none) : Has P w K mg base "largest_many" 5 ["candidates", "stack"] [] (spLg w K C) := by
  refine has_of D scLg (fun _ _ _ _ _ _ us hl => match us, hl with | [_, _], _ => rfl) (fun xs H Q E h => ?_) (fun f cv A out s H xs Q E hr h => ?_)
  · obtain ⟨L, a, es, os, zs, rfl, _⟩ := h
    rfl
  · obtain ⟨L, a, es, os, zs, rfl, hL, hE, oE, l0, l1, hT, hI, hl, k⟩ := h
    refine ⟨_, pss_one (ps_ret (pe_callB (cr_max rfl) (by rfl) mx (by decide +kernel) (pa_cons (pe_lc (own := [("indexes", 2)]) (g := gName 2) (tt := tYes) (te := tCB (Evl.rLenS K) (tCons (tVar 2) tNil)) rfl scLg.nd
      (pi_rowVals (pe_frz (pe_has GI hr (pa_cons (pv 0) (pa_cons (pv 1) pa_nil))))) (blkOk_by (own := [("indexes", 2)]) (N := nLg) (sc := defScope sLargestMany) (by decide +kernel))
      (fun _ _ _ _ _ => pg_name (i := 2) scLg.nd rfl (.inl rfl)) (fun _ _ _ _ _ => pts_nil) (fun _ _ _ _ _ => pe_callB call_len_seq (by rfl) B.len PySem.boot_len (pa_cons (pv 2) pa_nil))) pa_nil))), ?_⟩
    refine ⟨_, rfl, _, rfl, L, a, es, os, zs, rfl, hL, hE, oE, l1, hT, hI, hl, fun d rows H3 s3 hd g => ?_⟩
    generalize hG : grpM (resM os zs) es.length = G at g k
    have gne : G ≠ [] := by
      rw [← hG]
      exact grpM_some _ l0
    have gl : G.length ≤ 20 := by
      rw [← hG]
      exact Nat.le_trans (grpM_len _ _) l1
    have rl := paired_len g.p
    refine ⟨d, _, rfl, g.d, trivial, fun od => ⟨d, od, rows, rfl, upd_same, fun D hD => ?_⟩⟩
    have r4 := g.lock od
    have s4 : Same H (upd H3 d (.frz od (rowsO w d rows))) := Same.free2 s3 hd
    have f4 : (upd H3 d (.frz od (rowsO w d rows))) d = some (.frz od (rowsO w d rows)) := upd_same
    generalize upd H3 d (.frz od (rowsO w d rows)) = H4 at hD r4 s4 f4
    refine lc_it walk_rowVals (fun j H5 => H5 D = some (.lst ((G.take j).map fun g => V.int (g.2.length : Nat))) ∧ Same H4 H5) ⟨upd_same, Same.new hD⟩ (fun _ _ _ q => q.2 _ _ f4) ?_ ?_
    · rintro j x H5 H5' hj ⟨h5, s5⟩ ⟨rfl, r, hr5, rfl⟩
      obtain ⟨g0, hg0, q1, q2⟩ := paired_at r4.p hr5
      refine ⟨rfl, ?_⟩
      unfold tYes
      dsimp only
      rw [if_pos rfl]
      refine ⟨_, rfl, r.2.2, _, rfl, .inl (.of (s5 _ _ q2)), _, h5, ?_, ?_, Same.free2 s5 hD⟩
      · rw [List.length_map, List.length_take]
        exact Nat.lt_of_le_of_lt (Nat.le_trans (Nat.min_le_right _ _) gl) (by decide)
      · rw [upd_same, List.take_add_one, hg0, List.map_append, List.length_map]
        rfl
    · rintro H5 ⟨h5, s5⟩
      rw [List.take_of_length_le (by omega)] at h5
      refine ⟨D, (G.map fun g => g.2.length).map fun n : Nat => (n : Int), rfl, .of (by rw [h5, List.map_map, List.map_map]; rfl), ?_, fun m mm mx => ?_⟩
      · rw [List.length_map, List.length_map]
        exact List.length_pos_iff.mpr gne
      · rw [max_is (by simpa using gne) mm mx]
        exact k H5 (s4.trans s5)
end
end SE
namespace SE
open PySem PySem.Spec PyProof.Rows L2 SeqAt
open PySem.W (alike alikeAll dataLt dataLt_pair)
def lgM (os : List Eff) (ws : List Str) : Nat := largM (grpM (resM os ws) os.length)
def popsM (os : List Eff) : List (List Str) := os.filterMap fun o => o.map (·.1)
def stksM (os : List Eff) : List (List Str) := [[]] ++ popsM os
def rowD (os : List Eff) (ws : List Str) : PyData := .tuple [.int (lgM os ws : Nat), keyD ws]
def bestI (os : List Eff) : Nat := argBest (ltD ((stksM os).map (rowD os))) ((stksM os).length - 1)
def bestM (os : List Eff) : List Str := (stksM os).getD (bestI os) []
theorem row_alike (os : List Eff) (x y : List Str) : alike (rowD os x) (rowD os y) = true := by
  have h := alike_key x y
  unfold rowD
  simp [alike, alikeAll, h]
theorem row_depth (os : List Eff) : ∀ l : List (List Str), PyData.depthAll (l.map (rowD os)) ≤ 20
  | [] => by simp [PyData.depthAll]
  | x :: l => by
    have := row_depth os l
    have h : (rowD os x).depth ≤ 20 := by
      unfold rowD keyD
      simp [PyData.depth, PyData.depthAll, depth_strs]
    show max (rowD os x).depth (PyData.depthAll (l.map (rowD os))) ≤ 20
    omega
theorem rows_alike (os : List Eff) (l : List (List Str)) : PySem.W.AlikeAll (l.map (rowD os)) := by
  refine ⟨fun x hx y hy => ?_, fun x hx => ?_⟩
  · obtain ⟨a, _, rfl⟩ := List.mem_map.mp hx
    obtain ⟨b, _, rfl⟩ := List.mem_map.mp hy
    exact row_alike os a b
  · obtain ⟨a, _, rfl⟩ := List.mem_map.mp hx
    exact fun z => by cases z
theorem dp_strs_inv {K : PySem.W.Frag} {H : Hp} : ∀ {vs : List V} {xs : List Str}, DpAll K H vs (xs.map .str) → vs = xs.map V.str
  | _, [], h => by
    cases h
    rfl
  | _, x :: xs, h => by
    cases h with
    | cons a b =>
      cases a
      rw [dp_strs_inv b]
      rfl
theorem key_inv {K : PySem.W.Frag} {H : Hp} {v : V} {xs : List Str} (h : Dp K H v (keyD xs)) : ∃ k b, v = .ref k ∧ SqT K H k [.int xs.length, .ref b] ∧ SqT K H b (xs.map V.str) := by
  cases h with
  | tup h1 h2 =>
    cases h2 with
    | cons a b =>
      cases a
      cases b with
      | cons c d =>
        cases d
        cases c with
        | tup h3 h4 =>
          rw [dp_strs_inv h4] at h3
          exact ⟨_, _, rfl, h1, h3⟩
/-- a row of best_stack -/
def RwV (K : PySem.W.Frag) (H : Hp) (os : List Eff) (v : V) (ws : List Str) : Prop := ∃ t k b, v = .ref t ∧ SqT K H t [.int (lgM os ws : Nat), .ref k] ∧ SqT K H k [.int ws.length, .ref b] ∧ SqT K H b (ws.map V.str)
theorem dp_rows {K : PySem.W.Frag} {H : Hp} {os : List Eff} : ∀ {vs : List V} {ws : List (List Str)}, Paired (RwV K H os) vs ws → DpAll K H vs (ws.map (rowD os))
  | _, _, .nil => .nil
  | _, _, .cons ⟨t, k, b, e, h1, h2, h3⟩ r => by
    cases e
    exact .cons (.tup h1 (.cons (.int _) (.cons (.tup h2 (.cons (.int _) (.cons (.tup h3 (dp_strs _)) .nil))) .nil))) (dp_rows r)
theorem stks_ok {os : List Eff} (h : ∀ o ∈ os, EffOk o) : ∀ ws ∈ stksM os, (∀ z ∈ ws, Item z) ∧ ws.length ≤ 1000 := fun ws m => by
  rcases List.mem_append.mp m with q | q
  · rw [List.mem_singleton.mp q]
    exact ⟨fun z mz => (by cases mz), Nat.zero_le _⟩
  · obtain ⟨o, mo, e⟩ := List.mem_filterMap.mp q
    obtain ⟨B, rfl, eb⟩ := Option.map_eq_some_iff.mp e
    obtain ⟨xs, ys, p⟩ := B
    obtain ⟨i1, _, h1, _⟩ := h _ mo
    cases eb
    exact ⟨i1, h1⟩
theorem stks_len (os : List Eff) : (stksM os).length ≤ os.length + 1 := by
  have := List.length_filterMap_le (fun o : Eff => o.map (·.1)) os
  show ([[]] ++ popsM os).length ≤ _
  unfold popsM
  rw [List.length_append, List.length_singleton]
  omega
section
variable {P : Program} {w : World} {K : PySem.W.Frag} {mg : Str → Option Value} {base : Heap} {C : Addr}
theorem has_by (D : Def K mg "by_height" sByHeight) (B : Blt mg) : Has P w K mg base "by_height" 1 ["stack"] [] (spBy K) := by
  refine has_of D scBy (fun _ _ _ _ _ _ us hl => match us, hl with | [_], _ => rfl) (fun xs H Q E h => ?_) (fun f cv A out s H xs Q E hr h => ?_)
  · obtain ⟨a, xs, rfl, _⟩ := h
    rfl
  · obtain ⟨a, xs, rfl, ha, k⟩ := h
    refine ⟨_, pss_one (ps_ret (pe_tup (pa_cons (pe_callB call_len_seq (by rfl) B.len PySem.boot_len (pa_cons (pv 0) pa_nil)) (pa_cons (pv 0) pa_nil)))), ?_⟩
    refine ⟨_, rfl, a, _, rfl, .inr ha, _, rfl, (by show 2 ≤ sizeLine; decide), fun t ht => k (.ref t) _ (Same.new ht) ?_⟩
    rw [List.length_map]
    exact .tup (.of upd_same) (.cons (.int _) (.cons (.tup (Same.tup (Same.new ht) ha) (dp_strs _)) .nil))
def spBest (K : PySem.W.Frag) (C : Addr) : Sp := fun vs H Q _ => ∃ (L : Addr) (es : List Addr) (os : List Eff), vs = [.ref L] ∧ SqL K H L (es.map V.ref) ∧ Paired (EffV K C H) es os ∧ (∀ o ∈ os, EffOk o) ∧ 1 ≤ es.length ∧ es.length ≤ 20 ∧ 
  ∀ (t b : Addr) H', Same H H' → SqT K H' t [.int (lgM os (bestM os) : Nat), .ref b] → SqT K H' b ((bestM os).map V.str) → Q (.ref t) H'
abbrev nBs : List Str := ["candidates", "stacks", "best", "effect", "stack"]
theorem scBs : FnScope nBs ["candidates"] (defScope sBestStack) := ⟨rfl, rfl, rfl, by decide +kernel, rfl, by decide +kernel, by decide +kernel⟩
theorem has_best (D : Def K mg "best_stack" sBestStack) (T : EC K mg C) (GC : Has P w K mg base "check_candidates" 2 ["candidates"] [] (spChkC K C)) (GL : Has P w K mg base "largest_many" 5 ["candidates", "stack"] [] (spLg w K C)) (GB : Has P w K mg base "by_height" 1 ["stack"] [] (spBy K)) (GI : PropHas P w K mg base C "is_never" 1 (spIsNev K C)) (GP : PropHas P w K mg base C "pops" 1 (spPops K C)) (mn : mg "min" = none) : Has P w K mg base "best_stack" 6 ["candidates"] [] (spBest K C) := by
  refine has_of D scBs (fun _ _ _ _ _ _ us hl => match us, hl with | [_], _ => rfl) (fun xs H Q E h => ?_) (fun f cv A out s H xs Q E hr h => ?_)
  · obtain ⟨L, es, os, rfl, _⟩ := h
    rfl
  · obtain ⟨L, es, os, rfl, hL, hE, oE, l0, l1, k⟩ := h
    have hr1 : Room 1 _ := hr.mono (by decide)
    have hr2 : Room 2 _ := hr.mono (by decide)
    refine ⟨_, pss_cons (ps_expr (pe_has GC hr2 (pa_cons (pv 0) pa_nil)))
      (pss_cons (ps_set (i := 1) scBs.nd rfl (.inl rfl) (pe_op op_cat (pe_lst (pa_cons (pe_tup pa_nil) pa_nil)) (pe_lc (own := [("effect", 3)]) (g := gName 3) rfl scBs.nd (pi_list (pv 0)) (blkOk_by (own := [("effect", 3)]) (N := nBs) (sc := defScope sBestStack) (by decide +kernel))
        (fun _ _ _ _ _ => pg_name (i := 3) scBs.nd rfl (.inl rfl)) (fun _ _ _ _ _ => pts_one (pt_not (pt_val (pe_propH GI (pv 3) T.cl hr2)))) (fun _ _ _ _ _ => pe_propH GP (pv 3) T.cl hr2))))
      (pss_cons (ps_set (i := 2) scBs.nd rfl (.inl rfl) (pe_callB (call_minD rfl (by have := hr.un; show (A.deeper _).units + 30 < cLine; omega)) (by rfl) mn (by decide +kernel) (pa_cons (pe_lc (own := [("stack", 4)]) (g := gName 4) (tt := tYes) (te := tTup (tCons (tCall (spLg w K C) [] E0 (tCons (tVar 0) (tCons (tVar 4) tNil))) (tCons (tCall (spBy K) [] E0 (tCons (tVar 4) tNil)) tNil))) rfl scBs.nd (pi_list (pv 1)) (blkOk_by (own := [("stack", 4)]) (N := nBs) (sc := defScope sBestStack) (by decide +kernel))
        (fun _ _ _ _ _ => pg_name (i := 4) scBs.nd rfl (.inl rfl)) (fun _ _ _ _ _ => pts_nil) (fun _ _ _ _ _ => pe_tup (pa_cons (pe_has GL hr (pa_cons (pv 0) (pa_cons (pv 4) pa_nil))) (pa_cons (pe_has GB hr1 (pa_cons (pv 4) pa_nil)) pa_nil)))) pa_nil)))
      (pss_one (ps_ret (pe_tup (pa_cons (pe_ix ix_tup (pv 2) pe_int (fun _ _ => rfl)) (pa_cons (pe_ix ix_tup (pe_ix ix_tup (pv 2) pe_int (fun _ _ => rfl)) pe_int (fun _ _ => rfl)) pa_nil))))))), ?_⟩
    refine ⟨_, rfl, L, es, os, rfl, hL, hE, l0, l1, fun H1 s1 => ?_⟩
    have le := paired_len hE
    refine ⟨(by show 0 ≤ sizeLine; decide), fun t0 ht0 => ⟨(by show 1 ≤ sizeLine; decide), fun L0 hL0 => ?_⟩⟩
    have q1 : Same H1 (upd H1 t0 (.tup [])) := Same.new ht0
    have k0 := upd_same (H := H1) (a := t0) (o := .tup [])
    generalize upd H1 t0 (.tup []) = J1 at q1 k0 hL0 ⊢
    have q2 : Same J1 (upd J1 L0 (.lst [.ref t0])) := Same.new hL0
    have k1 := upd_same (H := J1) (a := L0) (o := .lst [.ref t0])
    generalize upd J1 L0 (.lst [.ref t0]) = J2 at q2 k1 ⊢
    have s2 := (s1.trans q1).trans q2
    have hT0 := q2 _ _ k0
    refine ⟨_, rfl, L, rfl, ⟨_, Same.seq s2 hL⟩, fun D hD => lc_list (K := K) (a := L) (xs := es.map V.ref) (fun j H3 => ∃ us, H3 D = some (.lst us) ∧ Paired (WdV K H3) us (popsM (os.take j)) ∧ us.length ≤ j ∧ Same J2 H3) ⟨[], upd_same, .nil, Nat.le_refl _, Same.new hD⟩ (fun j H3 _ ⟨_, _, _, _, q⟩ => Same.seq (s2.trans q) hL) ?_ ?_⟩
    · rintro j x H3 hx ⟨us, h3, p3, lu, s3⟩
      rw [List.getElem?_map] at hx
      obtain ⟨e, he, rfl⟩ := Option.map_eq_some_iff.mp hx
      obtain ⟨o, ho, hV⟩ := paired_at hE he
      have jl := (List.getElem?_eq_some_iff.mp he).1
      have hV3 := hV.same (s2.trans s3)
      obtain ⟨dx, fs, hi⟩ := hV3.ins
      cases o with
      | none =>
        refine ⟨rfl, _, rfl, e, dx, fs, rfl, hi, e, rfl, .inr ⟨hV3, true, rfl, iteF ⟨us, h3, ?_, by omega, s3⟩⟩⟩
        have tk : popsM (os.take (j + 1)) = popsM (os.take j) := by
          rw [List.take_add_one, ho]
          unfold popsM
          rw [List.filterMap_append]
          exact List.append_nil _
        rw [tk]
        exact p3
      | some B =>
        obtain ⟨xs, ys, pk⟩ := B
        refine ⟨rfl, _, rfl, e, dx, fs, rfl, hi, e, rfl, .inl ⟨xs, ys, pk, hV3, false, rfl, iteT ⟨_, rfl, e, dx, fs, rfl, hi, e, xs, ys, pk, rfl, hV3, fun u hu => ⟨us, h3, Nat.lt_of_le_of_lt (show us.length ≤ 20 by omega) (by decide), us ++ [.ref u], upd_same, ?_, by rw [List.length_append, List.length_singleton]; omega, Same.free2 s3 hD⟩⟩⟩⟩
        have tk : popsM (os.take (j + 1)) = popsM (os.take j) ++ [xs] := by
          rw [List.take_add_one, ho]
          unfold popsM
          rw [List.filterMap_append]
          rfl
        rw [tk]
        refine paired_snoc ⟨u, rfl, tup_lst h3 _ _ hu⟩ (Paired.mapP p3 fun _ _ q => ?_)
        obtain ⟨b, e1, q⟩ := q
        exact ⟨b, e1, tup_lst h3 _ _ q⟩
    rintro H3 ⟨us, h3, p3, lu, s3⟩
    rw [List.length_map, le, List.take_length] at p3
    rw [List.length_map] at lu
    refine ⟨L0, D, [.ref t0], us, rfl, rfl, s3 _ _ k1, h3, by rw [sizeLine_eq]; simp only [List.length_singleton]; omega, fun q hq => ?_⟩
    have s4 : Same H3 (upd H3 q (.lst ([.ref t0] ++ us))) := Same.new hq
    have h4 := upd_same (H := H3) (a := q) (o := .lst ([.ref t0] ++ us))
    generalize upd H3 q (.lst ([.ref t0] ++ us)) = H4 at s4 h4 ⊢
    have p4 : Paired (WdV K H4) ([.ref t0] ++ us) (stksM os) := .cons ⟨t0, rfl, .of (s4 _ _ (s3 _ _ hT0))⟩ (words_same p3 s4)
    generalize [V.ref t0] ++ us = ss at h4 p4
    have s04 := (s2.trans s3).trans s4
    have lss := paired_len p4
    have lst := stks_len os
    have sok := stks_ok oE
    refine ⟨_, rfl, q, rfl, ⟨_, .of h4⟩, fun D2 hD2 => lc_list (K := K) (a := q) (xs := ss) (fun j H5 => ∃ rs, H5 D2 = some (.lst rs) ∧ Paired (RwV K H5 os) rs ((stksM os).take j) ∧ Same H4 H5) ⟨[], upd_same, .nil, Same.new hD2⟩ (fun j H5 _ ⟨_, _, _, z⟩ => .of (z _ _ h4)) ?_ ?_⟩
    · rintro j x H5 hx ⟨rs, h5, p5, s5⟩
      obtain ⟨ws, hw, b, rfl, hb⟩ := paired_at p4 hx
      have jl := (List.getElem?_eq_some_iff.mp hx).1
      obtain ⟨iw, lw⟩ := sok ws (List.mem_of_getElem? hw)
      have s05 := s04.trans s5
      have lrs : rs.length ≤ 21 := by
        rw [paired_len p5, List.length_take]
        omega
      refine ⟨rfl, ?_⟩
      unfold tYes
      dsimp only
      rw [if_pos rfl]
      refine ⟨_, rfl, _, rfl, L, b, es, os, ws, rfl, Same.seq s05 hL, effs_same hE s05, oE, l0, l1, Same.tup s5 hb, iw, lw, fun H6 s6 => ⟨_, rfl, b, ws, rfl, Same.tup (s5.trans s6) hb, fun v H7 s7 hv => ⟨(by show 2 ≤ sizeLine; decide), fun t ht => ?_⟩⟩⟩
      obtain ⟨k2, b2, rfl, hk, hb2⟩ := key_inv hv
      rw [le]
      have s8 : Same H7 (upd H7 t (.tup [.int (largM (grpM (resM os ws) os.length) : Nat), .ref k2])) := Same.new ht
      have h8 := upd_same (H := H7) (a := t) (o := .tup [.int (largM (grpM (resM os ws) os.length) : Nat), .ref k2])
      generalize upd H7 t (.tup [.int (largM (grpM (resM os ws) os.length) : Nat), .ref k2]) = H8 at s8 h8 ⊢
      have s58 := (s6.trans s7).trans s8
      have hD8 := s58 _ _ h5
      refine ⟨rs, hD8, Nat.lt_of_le_of_lt lrs (by decide), rs ++ [.ref t], upd_same, ?_, Same.free2 (s5.trans s58) hD2⟩
      have tk : (stksM os).take (j + 1) = (stksM os).take j ++ [ws] := by
        rw [List.take_add_one, hw]
        rfl
      rw [tk]
      have tl : ∀ {b : Addr} {ys : List V}, SqT K H8 b ys → SqT K (upd H8 D2 (.lst (rs ++ [.ref t]))) b ys := fun z => tup_lst hD8 _ _ z
      refine paired_snoc ⟨t, k2, b2, rfl, tl (.inl (.inl h8)), tl (Same.tup s8 hk), tl (Same.tup s8 hb2)⟩ (Paired.mapP p5 fun _ _ z => ?_)
      obtain ⟨t3, k3, b3, e1, e2, e3, e4⟩ := z
      exact ⟨t3, k3, b3, e1, tl (Same.tup s58 e2), tl (Same.tup s58 e3), tl (Same.tup s58 e4)⟩
    rintro H5 ⟨rs, h5, p5, s5⟩
    rw [lss, List.take_length] at p5
    have lrs := paired_len p5
    have pos : 0 < (stksM os).length := by
      show 0 < ([[]] ++ popsM os).length
      rw [List.length_append, List.length_singleton]
      omega
    refine ⟨D2, rs, (stksM os).map (rowD os), rfl, .of h5, fun e => ?_, dp_rows p5, rows_alike os _, row_depth os _, fun x hx => ?_⟩
    · rw [e] at lrs
      simp only [List.length_nil] at lrs
      omega
    rw [lrs] at hx
    obtain ⟨ws, hw, t, k2, b, rfl, e1, e2, e3⟩ := paired_at p5 (show rs[bestI os]? = some x from hx)
    have eb : bestM os = ws := by
      unfold bestM
      rw [List.getD_eq_getElem?_getD, hw]
      rfl
    refine ⟨_, rfl, t, _, 0, _, rfl, rfl, e1, atI_nat (j := 0) rfl, _, rfl, t, _, 1, _, rfl, rfl, e1, atI_nat (j := 1) rfl, k2, _, 1, _, rfl, rfl, e2, atI_nat (j := 1) rfl, (by show 2 ≤ sizeLine; decide), fun r hr => ?_⟩
    have s9 : Same H5 (upd H5 r (.tup [.int (lgM os ws : Nat), .ref b])) := Same.new hr
    refine k r b _ ((s04.trans s5).trans s9) ?_ ?_
    · rw [eb]
      exact .inl (.inl upd_same)
    · rw [eb]
      exact Same.tup s9 e3
end
end SE
/-! Plain data in which empty dicts may stand: its kinds, ==, in, and repr of every kind. -/
namespace SE
open PySem PySem.Spec PyProof.Rows L2
mutual
inductive DpX (K : PySem.W.Frag) (H : Hp) : V → PyData → Prop
  | non : DpX K H .non .none
  | bl (b : Bool) : DpX K H (.bl b) (.bool b)
  | int (i : Int) : DpX K H (.int i) (.int i)
  | str (x : Str) : DpX K H (.str x) (.str x)
  | lst {a : Addr} {xs : List V} {ds : List PyData} : SqL K H a xs → DpXs K H xs ds → DpX K H (.ref a) (.list ds)
  | tup {a : Addr} {xs : List V} {ds : List PyData} : SqT K H a xs → DpXs K H xs ds → DpX K H (.ref a) (.tuple ds)
  | emp {a : Addr} : H a = some (.dK []) → DpX K H (.ref a) (.dict [])
inductive DpXs (K : PySem.W.Frag) (H : Hp) : List V → List PyData → Prop
  | nil : DpXs K H [] []
  | cons {v : V} {vs : List V} {d : PyData} {ds : List PyData} : DpX K H v d → DpXs K H vs ds → DpXs K H (v :: vs) (d :: ds)
end
section
variable {K : PySem.W.Frag} {H H' : Hp}
mutual
theorem DpX.same (s : Same H H') : ∀ (d : PyData) (v : V), DpX K H v d → DpX K H' v d
  | .none, _, h => by cases h; exact .non
  | .bool b, _, h => by cases h; exact .bl b
  | .int i, _, h => by cases h; exact .int i
  | .str x, _, h => by cases h; exact .str x
  | .list ds, _, h => by
    cases h with
    | lst a b => exact .lst (Same.seq s a) (DpXs.same s ds _ b)
  | .tuple ds, _, h => by
    cases h with
    | tup a b => exact .tup (Same.tup s a) (DpXs.same s ds _ b)
  | .dict kvs, _, h => by
    cases h with
    | emp a => exact .emp (s _ _ a)
theorem DpXs.same (s : Same H H') : ∀ (ds : List PyData) (vs : List V), DpXs K H vs ds → DpXs K H' vs ds
  | [], _, h => by cases h; exact .nil
  | d :: ds, _, h => by
    cases h with
    | cons a b => exact .cons (DpX.same s d _ a) (DpXs.same s ds _ b)
end
theorem DpXs.at : ∀ {vs : List V} {ds : List PyData} {i : Nat} {v : V}, DpXs K H vs ds → vs[i]? = some v → ∃ d, ds[i]? = some d ∧ DpX K H v d
  | _, _, 0, v, .cons a b, h => by cases h; exact ⟨_, rfl, a⟩
  | _, _, i + 1, v, .cons a b, h => by
    obtain ⟨d, h1, h2⟩ := DpXs.at b h
    exact ⟨d, h1, h2⟩
theorem DpXs.len : ∀ {vs : List V} {ds : List PyData}, DpXs K H vs ds → vs.length = ds.length
  | _, _, .nil => rfl
  | _, _, .cons a b => by rw [List.length_cons, List.length_cons, DpXs.len b]
end
section
variable {X : Cx} {pins : List (Addr × Obj)} {σ : L2.St} {H : Hp} {s : Shared}
theorem emp_obj (I : Inv X pins σ H s) {a : Addr} (e : H a = some (.dK [])) : (a == sysModules) = false ∧ ∃ o n, s.heap.get? a = some o ∧ o.cls = .type "dict" ∧ o.data = .dict #[] n := by
  obtain ⟨_, hd, vs, rel, o, es, ep, h1, h2, h3, h4, h5, h6⟩ := dk_of I.hok e
  cases rel
  have : es = #[] := by
    have q : es.toList = [] := by
      cases hq : es.toList with
      | nil => rfl
      | cons x r => rw [hq] at h5; cases h5
    exact Array.toList_eq_nil_iff.mp q
  subst this
  exact ⟨hd, o, ep, h1, h2.1, h3⟩
mutual
theorem DpX.reads (I : Inv X pins σ H s) : ∀ (d : PyData) (v : V) (u : Value), DpX X.K H v d → RelV v u → ∃ as, Reads s.heap u d as
  | .none, _, _, h, r => by
    cases h
    cases r
    exact ⟨_, Reads.none⟩
  | .bool b, _, _, h, r => by
    cases h
    cases r
    exact ⟨_, Reads.bool b⟩
  | .int i, _, _, h, r => by
    cases h
    obtain ⟨t, rfl⟩ := r
    exact ⟨_, Reads.int i t⟩
  | .str x, _, _, h, r => by
    cases h
    obtain ⟨t, rfl⟩ := r
    exact ⟨_, Reads.str x t⟩
  | .list ds, _, _, h, r => by
    cases h with
    | lst hs ha =>
      cases r
      obtain ⟨its, rv, ⟨o, n, ho, hc, _, hd⟩, _⟩ := I.list hs
      obtain ⟨as, hr⟩ := DpXs.reads I ds _ its ha rv
      exact ⟨_, Reads.list ho hc hd hr⟩
  | .tuple ds, _, _, h, r => by
    cases h with
    | tup hs ha =>
      cases r
      obtain ⟨its, rv, ⟨o, ho, hc, n, hd⟩, _⟩ := I.tuple hs
      obtain ⟨as, hr⟩ := DpXs.reads I ds _ its ha rv
      exact ⟨_, Reads.tuple ho hc hd hr⟩
  | .dict _, _, _, h, r => by
    cases h with
    | emp e =>
      cases r
      obtain ⟨_, o, n, h1, h2, h3⟩ := emp_obj I e
      exact ⟨_, Reads.dict (kvs := []) h1 h2 h3 .nil .nil⟩
theorem DpXs.reads (I : Inv X pins σ H s) : ∀ (ds : List PyData) (vs : List V) (us : List Value), DpXs X.K H vs ds → Vals vs us → ∃ as, ReadsAll s.heap us ds as
  | [], _, _, h, r => by
    cases h
    cases r
    exact ⟨_, ReadsAll.nil⟩
  | d :: ds, _, _, h, r => by
    cases h with
    | cons h1 h2 =>
      cases r with
      | cons r1 r2 =>
        obtain ⟨as, q1⟩ := DpX.reads I d _ _ h1 r1
        obtain ⟨bs, q2⟩ := DpXs.reads I ds _ _ h2 r2
        exact ⟨_, ReadsAll.cons q1 q2⟩
end
mutual
theorem DpX.reprK (I : Inv X pins σ H s) : ∀ (d : PyData) (v : V) (u : Value), DpX X.K H v d → RelV v u → d.showable = true → d.shown.length ≤ sizeLine → ∃ bs, ReadAtMost s.heap d.depth bs ∧ ReprK X.prog X.w bs s.heap d.depth u d.shown
  | .none, _, _, h, r, _, _ => by
    cases h
    cases r
    exact ⟨[], (fun _ h => nomatch h), by simp only [PyData.shown]; exact .of_is ReprIs.none _ _ _⟩
  | .bool b, _, _, h, r, _, _ => by
    cases h
    cases r
    exact ⟨[], (fun _ h => nomatch h), by simp only [PyData.shown]; exact .of_is (ReprIs.bool b) _ _ _⟩
  | .int i, _, _, h, r, hs, _ => by
    cases h
    obtain ⟨t, rfl⟩ := r
    exact ⟨[], (fun _ h => nomatch h), by simp only [PyData.shown]; exact .of_is (ReprIs.int t (by simpa [PyData.showable] using hs)) _ _ _⟩
  | .str x, _, _, h, r, _, hz => by
    cases h
    obtain ⟨t, rfl⟩ := r
    exact ⟨[], (fun _ h => nomatch h), by simp only [PyData.shown]; exact .of_is (ReprIs.str x t (by simpa only [PyData.shown] using hz)) _ _ _⟩
  | .list ds, _, _, h, r, hs, hz => by
    cases h with
    | @lst a xs _ hs' ha =>
      cases r
      obtain ⟨its, rv, ⟨o, n, ho, hc, _, hd⟩, _⟩ := I.list hs'
      obtain ⟨as, hr⟩ := DpXs.reads I ds _ its ha rv
      have hz' : (listText (PyData.shownAll ds)).length ≤ sizeLine := by simpa only [PyData.shown] using hz
      obtain ⟨bs, hb, hk⟩ := DpXs.reprK I ds _ its ha rv (by simpa [PyData.showable] using hs) (fun t ht => Nat.le_trans (listText_mem_le ht) hz')
      have rr : Reads s.heap (.ref a) (.list ds) _ := .list ho hc hd hr
      have hna : a ∉ bs := not_mem_of_deeper rr (by simp only [PyData.depth]; omega) hb
      refine ⟨a :: bs, ReadAtMost.cons rr (by simp only [PyData.depth]; omega) hb, ?_⟩
      simp only [PyData.depth, PyData.shown]
      cases its with
      | nil =>
        cases hr
        simp only [PyData.shownAll, listText_nil]
        exact ReprK.listEmpty ho hc hd
      | cons x l => exact ReprK.list ho hc hd hna (by simpa using hk.length_eq) (fun i y e => hk.item i y (by simpa using e))
  | .tuple ds, _, _, h, r, hs, hz => by
    cases h with
    | @tup a xs _ hs' ha =>
      cases r
      obtain ⟨its, rv, ⟨o, ho, hc, n, hd⟩, _⟩ := I.tuple hs'
      obtain ⟨as, hr⟩ := DpXs.reads I ds _ its ha rv
      have hz' : (tupleText (PyData.shownAll ds)).length ≤ sizeLine := by simpa only [PyData.shown] using hz
      obtain ⟨bs, hb, hk⟩ := DpXs.reprK I ds _ its ha rv (by simpa [PyData.showable] using hs) (fun t ht => Nat.le_trans (tupleText_mem_le ht) hz')
      have rr : Reads s.heap (.ref a) (.tuple ds) _ := .tuple ho hc hd hr
      have hna : a ∉ bs := not_mem_of_deeper rr (by simp only [PyData.depth]; omega) hb
      refine ⟨a :: bs, ReadAtMost.cons rr (by simp only [PyData.depth]; omega) hb, ?_⟩
      simp only [PyData.depth, PyData.shown]
      exact ReprK.tuple ho hc hd hna hk
  | .dict _, _, _, h, r, _, hz => by
    cases h with
    | @emp a e =>
      cases r
      obtain ⟨hsys, o, n, h1, h2, h3⟩ := emp_obj I e
      have rr : Reads s.heap (.ref a) (.dict []) _ := .dict (kvs := []) h1 h2 h3 .nil .nil
      have h0 : ReadAtMost s.heap 0 [] := fun _ h => nomatch h
      refine ⟨[a], ReadAtMost.cons rr (by simp only [PyData.depth]; omega) h0, ?_⟩
      simp only [PyData.depth, PyData.shown, PyData.depthKv, PyData.shownKv]
      exact ReprK.dict h1 h2 h3 hsys (by simp) .nil
theorem DpXs.reprK (I : Inv X pins σ H s) : ∀ (ds : List PyData) (vs : List V) (us : List Value), DpXs X.K H vs ds → Vals vs us → PyData.showableAll ds = true → (∀ t ∈ PyData.shownAll ds, t.length ≤ sizeLine) →
    ∃ bs, ReadAtMost s.heap (PyData.depthAll ds) bs ∧ ReprAllK X.prog X.w bs s.heap (PyData.depthAll ds) us (PyData.shownAll ds)
  | [], _, _, h, r, _, _ => by
    cases h
    cases r
    exact ⟨[], (fun _ h => nomatch h), by simp only [PyData.shownAll]; exact .nil⟩
  | d :: ds, _, _, h, r, hs, hz => by
    cases h with
    | cons h1 h2 =>
      cases r with
      | cons r1 r2 =>
        have hs' : d.showable = true ∧ PyData.showableAll ds = true := by simpa [PyData.showableAll] using hs
        obtain ⟨b1, hb1, k1⟩ := DpX.reprK I d _ _ h1 r1 hs'.1 (hz _ (by simp only [PyData.shownAll]; exact List.mem_cons_self ..))
        obtain ⟨b2, hb2, k2⟩ := DpXs.reprK I ds _ _ h2 r2 hs'.2 (fun t ht => hz t (by simp only [PyData.shownAll]; exact List.mem_cons_of_mem _ ht))
        refine ⟨b1 ++ b2, ?_, ?_⟩
        · intro b hm
          simp only [PyData.depthAll]
          rcases List.mem_append.mp hm with hm | hm
          · obtain ⟨d', as', r', hd'⟩ := hb1 b hm
            exact ⟨d', as', r', Nat.le_trans hd' (Nat.le_max_left _ _)⟩
          · obtain ⟨d', as', r', hd'⟩ := hb2 b hm
            exact ⟨d', as', r', Nat.le_trans hd' (Nat.le_max_right _ _)⟩
        · simp only [PyData.depthAll, PyData.shownAll]
          exact .cons ((k1.more fun b hb => List.mem_append_left _ hb).level_le (Nat.le_max_left _ _)) (k2.more_le (fun b hb => List.mem_append_right _ hb) (Nat.le_max_right _ _))
end
end
section
variable {X : Cx}
def rEqX (K : PySem.W.Frag) : R2 := fun x y H Q => ∃ d e, DpX K H x d ∧ DpX K H y e ∧ SeqAt.shaped d = true ∧ SeqAt.shaped e = true ∧ Q (.bl (PyData.eqv d e)) H
def rNeX (K : PySem.W.Frag) : R2 := fun x y H Q => ∃ d e, DpX K H x d ∧ DpX K H y e ∧ SeqAt.shaped d = true ∧ SeqAt.shaped e = true ∧ Q (.bl (!PyData.eqv d e)) H
def rInX (K : PySem.W.Frag) : R2 := fun x y H Q => ∃ d ds, DpX K H x d ∧ DpX K H y (.list ds) ∧ SeqAt.shaped d = true ∧ SeqAt.shaped (.list ds) = true ∧ Q (.bl (ds.any fun z => PyData.eqv z d)) H
theorem op_eqX (hu : X.A.units + 64 < cLine) : OpR X (compareOp .Eq) (rEqX X.K) := by
  intro pins s σ H x y v u Q I rx ry h
  obtain ⟨d, e, hd, he, sd, se, q⟩ := h
  obtain ⟨as, r1⟩ := DpX.reads I d x v hd rx
  obtain ⟨bs, r2⟩ := DpX.reads I e y u he ry
  exact SeqAt.compareEq_shaped r1 r2 sd se hu ⟨.bl _, H, I, rfl, q⟩
theorem op_neX (hu : X.A.units + 64 < cLine) : OpR X (compareOp .NotEq) (rNeX X.K) := by
  intro pins s σ H x y v u Q I rx ry h
  obtain ⟨d, e, hd, he, sd, se, q⟩ := h
  obtain ⟨as, r1⟩ := DpX.reads I d x v hd rx
  obtain ⟨bs, r2⟩ := DpX.reads I e y u he ry
  exact SeqAt.compareNe_shaped r1 r2 sd se hu ⟨.bl _, H, I, rfl, q⟩
theorem op_inX (hu : X.A.units + 65 < cLine) : OpR X (compareOp .In) (rInX X.K) := by
  intro pins s σ H x y v u Q I rx ry h
  obtain ⟨d, ds, hd, he, sd, se, q⟩ := h
  obtain ⟨as, r1⟩ := DpX.reads I d x v hd rx
  obtain ⟨bs, r2⟩ := DpX.reads I (.list ds) y u he ry
  exact SeqAt.in_list_reads r2 r1 (SeqAt.canLay_of_shaped se) (SeqAt.canLay_of_shaped sd) (room_in_shaped sd hu) ⟨.bl _, H, I, rfl, q⟩
/-- the kind of such data -/
def tyD : PyData → String
  | .none => "NoneType"
  | .bool _ => "bool"
  | .int _ => "int"
  | .str _ => "str"
  | .list _ => "list"
  | .tuple _ => "tuple"
  | .dict _ => "dict"
theorem DpX.ty {K : PySem.W.Frag} {H : Hp} {v : V} {d : PyData} (h : DpX K H v d) : TyX K H v (.type (tyD d)) := by
  cases h with
  | non => exact .base .non
  | bl b => exact .base (.bl b)
  | int i => exact .base (.int i)
  | str x => exact .base (.str x)
  | lst h _ =>
    rcases h with (h | ⟨o, h⟩) | ⟨o, its, n, h1, h2, _⟩
    · exact .base (.lst h)
    · exact .base (.frz h)
    · exact .kList h1 h2
  | tup h _ =>
    rcases h with (h | ⟨o, h⟩) | ⟨o, its, n, h1, h2, _⟩
    · exact .base (.tup h)
    · exact .fTuple h
    · exact .kTuple h1 h2
  | emp h => exact .base (.dK h)
def isStr : PyData → Bool
  | .str _ => true
  | _ => false
def isTup : PyData → Bool
  | .tuple _ => true
  | _ => false
def isLst : PyData → Bool
  | .list _ => true
  | _ => false
theorem kit_str {K : PySem.W.Frag} : ∀ d : PyData, PySem.W.kitOne K (.type (tyD d)) (.type "str") = some (isStr d)
  | .none => kit_ty (show kitB "NoneType" "str" = some false by decide +kernel)
  | .bool _ => kit_ty (show kitB "bool" "str" = some false by decide +kernel)
  | .int _ => kit_ty (show kitB "int" "str" = some false by decide +kernel)
  | .str _ => kit_ty (show kitB "str" "str" = some true by decide +kernel)
  | .list _ => kit_ty (show kitB "list" "str" = some false by decide +kernel)
  | .tuple _ => kit_ty (show kitB "tuple" "str" = some false by decide +kernel)
  | .dict _ => kit_ty (show kitB "dict" "str" = some false by decide +kernel)
theorem kit_tup {K : PySem.W.Frag} : ∀ d : PyData, PySem.W.kitOne K (.type (tyD d)) (.type "tuple") = some (isTup d)
  | .none => kit_ty (show kitB "NoneType" "tuple" = some false by decide +kernel)
  | .bool _ => kit_ty (show kitB "bool" "tuple" = some false by decide +kernel)
  | .int _ => kit_ty (show kitB "int" "tuple" = some false by decide +kernel)
  | .str _ => kit_ty (show kitB "str" "tuple" = some false by decide +kernel)
  | .list _ => kit_ty (show kitB "list" "tuple" = some false by decide +kernel)
  | .tuple _ => kit_ty (show kitB "tuple" "tuple" = some true by decide +kernel)
  | .dict _ => kit_ty (show kitB "dict" "tuple" = some false by decide +kernel)
theorem kit_lst {K : PySem.W.Frag} : ∀ d : PyData, PySem.W.kitOne K (.type (tyD d)) (.type "list") = some (isLst d)
  | .none => kit_ty (show kitB "NoneType" "list" = some false by decide +kernel)
  | .bool _ => kit_ty (show kitB "bool" "list" = some false by decide +kernel)
  | .int _ => kit_ty (show kitB "int" "list" = some false by decide +kernel)
  | .str _ => kit_ty (show kitB "str" "list" = some false by decide +kernel)
  | .list _ => kit_ty (show kitB "list" "list" = some true by decide +kernel)
  | .tuple _ => kit_ty (show kitB "tuple" "list" = some false by decide +kernel)
  | .dict _ => kit_ty (show kitB "dict" "list" = some false by decide +kernel)
/-- repr(x), x such data of any kind -/
def rRepX (K : PySem.W.Frag) : List V → Hp → VK → Prop := fun xs H Q => ∃ (x : V) (d : PyData), xs = [x] ∧ DpX K H x d ∧ d.showable = true ∧ d.depth ≤ 20 ∧ d.shown.length ≤ sizeLine ∧ Q (.str d.shown) H
theorem call_repX (hgu : X.A.guards = some []) (hu : X.A.units + 64 < cLine) : CallR X (.builtin "repr") (rRepX X.K) := by
  intro pins s σ H xs us Q I r h
  obtain ⟨x, d, rfl, hd, hs, hdep, hz, q⟩ := h
  cases r with
  | cons r1 r2 =>
    cases r2
    rename_i u
    cases hd with
    | non =>
      cases r1
      simp only [PyData.shown] at q
      exact PySem.P.repr_of_none ⟨.str _, H, I.tok _, ⟨_, rfl⟩, q⟩
    | bl b =>
      cases r1
      simp only [PyData.shown] at q
      exact PySem.P.repr_of_bool ⟨.str _, H, I.tok _, ⟨_, rfl⟩, q⟩
    | int i =>
      obtain ⟨t, rfl⟩ := r1
      simp only [PyData.shown] at q
      exact PySem.P.repr_of_int (by simpa [PyData.showable] using hs) ⟨.str _, H, I.tok _, ⟨_, rfl⟩, q⟩
    | str z =>
      obtain ⟨t, rfl⟩ := r1
      simp only [PyData.shown] at q hz
      exact PySem.P.repr_of_str ⟨.str _, H, I.tok _, ⟨_, rfl⟩, q⟩ hz
    | @lst a xs ds hs' ha =>
      cases r1
      obtain ⟨its, rv, ⟨o, n, ho, hc, _, hdd⟩, _⟩ := I.list hs'
      obtain ⟨as, hr⟩ := DpXs.reads I ds _ its ha rv
      have hz' : (listText (PyData.shownAll ds)).length ≤ sizeLine := by simpa only [PyData.shown] using hz
      obtain ⟨bs, hb, hk⟩ := DpXs.reprK I ds _ its ha rv (by simpa [PyData.showable] using hs) (fun t ht => Nat.le_trans (listText_mem_le ht) hz')
      have rr : Reads s.heap (.ref a) (.list ds) _ := .list ho hc hdd hr
      have hna : a ∉ bs := not_mem_of_deeper rr (by simp only [PyData.depth]; omega) hb
      simp only [PyData.depth] at hdep
      simp only [PyData.shown] at q
      refine call_repr_slot (T := "list") (by omega) ⟨o, ho, hc⟩ PySem.F.slot_list_repr.toG ?_
      cases its with
      | nil =>
        cases hr
        simp only [PyData.shownAll, listText_nil] at q
        exact call_list_repr_empty ⟨o, ho, hc⟩ ho hdd ⟨_, _, rfl, .str _, H, I.tok _, ⟨_, rfl⟩, q⟩
      | cons y l =>
        exact call_list_reprK ho hc hdd hna (by simpa using hk.length_eq) (fun i y e => hk.item i y (by simpa using e)) (A := X.A.in1) hgu (fun b _ => Clear.nil b) (by show X.A.units + 1 + _ < cLine; omega) (fun _ _ z => z) (fun h' u tk keep => ⟨_, _, rfl, .str _, H, I.kept (t' := tk) keep, ⟨_, rfl⟩, q⟩) hz'
    | @tup a xs ds hs' ha =>
      cases r1
      obtain ⟨its, rv, ⟨o, ho, hc, n, hdd⟩, _⟩ := I.tuple hs'
      obtain ⟨as, hr⟩ := DpXs.reads I ds _ its ha rv
      have hz' : (tupleText (PyData.shownAll ds)).length ≤ sizeLine := by simpa only [PyData.shown] using hz
      obtain ⟨bs, hb, hk⟩ := DpXs.reprK I ds _ its ha rv (by simpa [PyData.showable] using hs) (fun t ht => Nat.le_trans (tupleText_mem_le ht) hz')
      have rr : Reads s.heap (.ref a) (.tuple ds) _ := .tuple ho hc hdd hr
      have hna : a ∉ bs := not_mem_of_deeper rr (by simp only [PyData.depth]; omega) hb
      simp only [PyData.depth] at hdep
      simp only [PyData.shown] at q
      refine call_repr_slot (T := "tuple") (by omega) ⟨o, ho, hc⟩ PySem.F.slot_tuple_repr ?_
      exact call_tuple_reprK ho hc hdd hna hk (A := X.A.in1) hgu (fun b _ => Clear.nil b) (by show X.A.units + 1 + _ < cLine; omega) (fun _ _ z => z) (fun h' u tk keep => ⟨_, _, rfl, .str _, H, I.kept (t' := tk) keep, ⟨_, rfl⟩, q⟩) hz'
    | @emp a e =>
      cases r1
      obtain ⟨hsys, o, n, h1, h2, h3⟩ := emp_obj I e
      have hz' : (dictText []).length ≤ sizeLine := by simpa only [PyData.shown, PyData.shownKv] using hz
      simp only [PyData.shown, PyData.shownKv] at q
      refine call_repr_slot (T := "dict") (by omega) ⟨o, h1, h2⟩ PySem.F.slot_dict_repr ?_
      exact call_dict_reprK (as := []) (d := 0) h1 h2 h3 hsys (by simp) .nil (A := X.A.in1) hgu (fun b _ => Clear.nil b) (by show X.A.units + 1 + _ < cLine; omega) (fun _ _ z => z) (fun h' u tk keep => ⟨_, _, rfl, .str _, H, I.kept (t' := tk) keep, ⟨_, rfl⟩, q⟩) hz'
end
end SE
namespace SE
open PySem PySem.Spec PyProof.Rows L2
/-! ### data whose dicts are empty -/
mutual
def layE : PyData → Bool
  | .none | .bool _ | .int _ => true
  | .str x => PyData.strOk x
  | .list xs | .tuple xs => layEAll xs
  | .dict kvs => kvs.isEmpty
def layEAll : List PyData → Bool
  | [] => true
  | x :: xs => layE x && layEAll xs
end
mutual
theorem layE_of : ∀ d : PyData, d.canLay0 = true → layE d = true
  | .none, _ => by simp only [layE]
  | .bool _, _ => by simp only [layE]
  | .int _, _ => by simp only [layE]
  | .str x, h => by simpa only [layE, PyData.canLay0] using h
  | .list xs, h => by
    simp only [layE]
    exact layEAll_of xs (by simpa only [PyData.canLay0] using h)
  | .tuple xs, h => by
    simp only [layE]
    exact layEAll_of xs (by simpa only [PyData.canLay0] using h)
  | .dict _, h => by simp only [PyData.canLay0] at h; exact nomatch h
theorem layEAll_of : ∀ xs : List PyData, PyData.canLayAll0 xs = true → layEAll xs = true
  | [], _ => by simp only [layEAll]
  | x :: xs, h => by
    have h' : x.canLay0 = true ∧ PyData.canLayAll0 xs = true := by simpa only [PyData.canLayAll0, Bool.and_eq_true] using h
    simp only [layEAll, Bool.and_eq_true]
    exact ⟨layE_of x h'.1, layEAll_of xs h'.2⟩
end
mutual
theorem leavesShort_of_layE : ∀ d : PyData, layE d = true → d.intsShort 13 = true → d.leavesShort 13 = true
  | .none, _, _ => rfl
  | .bool _, _, _ => rfl
  | .int i, _, h => by simpa only [PyData.leavesShort, PyData.intsShort] using h
  | .str x, hc, _ => PyData.leavesShort_of_canLay0 13 (.str x) (by simpa only [layE, PyData.canLay0] using hc) rfl
  | .list xs, hc, h => by
    simp only [PyData.leavesShort]
    exact leavesShortAll_of_layE xs (by simpa only [layE] using hc) (by simpa only [PyData.intsShort] using h)
  | .tuple xs, hc, h => by
    simp only [PyData.leavesShort]
    exact leavesShortAll_of_layE xs (by simpa only [layE] using hc) (by simpa only [PyData.intsShort] using h)
  | .dict kvs, hc, _ => by
    simp only [layE, List.isEmpty_iff] at hc
    rw [hc]
    rfl
theorem leavesShortAll_of_layE : ∀ xs : List PyData, layEAll xs = true → PyData.intsShortAll 13 xs = true → PyData.leavesShortAll 13 xs = true
  | [], _, _ => rfl
  | x :: xs, hc, h => by
    have hc' : layE x = true ∧ layEAll xs = true := by simpa only [layEAll, Bool.and_eq_true] using hc
    have h' : x.intsShort 13 = true ∧ PyData.intsShortAll 13 xs = true := by simpa only [PyData.intsShortAll, Bool.and_eq_true] using h
    simp only [PyData.leavesShortAll, Bool.and_eq_true]
    exact ⟨leavesShort_of_layE x hc'.1 h'.1, leavesShortAll_of_layE xs hc'.2 h'.2⟩
end
/-! ### small data -/
structure NX (k B : Nat) (d : PyData) : Prop where
  lay : layE d = true
  dep : d.depth ≤ k
  sh : d.showable = true
  ish : d.intsShort 13 = true
  wt : d.weight ≤ B
theorem NX.mono {k j B C : Nat} {d : PyData} (h : NX k B d) (hk : k ≤ j) (hB : B ≤ C) : NX j C d := ⟨h.lay, Nat.le_trans h.dep hk, h.sh, h.ish, Nat.le_trans h.wt hB⟩
theorem Nice.nx {k B : Nat} {d : PyData} (h : Nice k B d) : NX k B d := ⟨layE_of _ h.lay, h.dep, h.sh, h.ish, h.wt⟩
theorem nx_all {k B : Nat} : ∀ {ds : List PyData}, (∀ d ∈ ds, NX k B d) → layEAll ds = true ∧ PyData.depthAll ds ≤ k ∧ PyData.showableAll ds = true ∧ PyData.intsShortAll 13 ds = true ∧ PyData.weightAll ds ≤ ds.length * (B + 1)
  | [], _ => by
    refine ⟨?_, ?_, ?_, ?_, ?_⟩
    · simp only [layEAll]
    · simp only [PyData.depthAll]
      exact Nat.zero_le _
    · simp only [PyData.showableAll]
    · simp only [PyData.intsShortAll]
    · simp only [PyData.weightAll]
      exact Nat.zero_le _
  | d :: ds, h => by
    obtain ⟨a1, a2, a3, a5, a6⟩ := nx_all (ds := ds) fun x hx => h x (List.mem_cons_of_mem _ hx)
    have q := h d List.mem_cons_self
    refine ⟨?_, ?_, ?_, ?_, ?_⟩
    · simp only [layEAll, q.lay, a1, Bool.and_self]
    · simp only [PyData.depthAll]
      exact Nat.max_le.mpr ⟨q.dep, a2⟩
    · simp only [PyData.showableAll, q.sh, a3, Bool.and_self]
    · simp only [PyData.intsShortAll, q.ish, a5, Bool.and_self]
    · simp only [PyData.weightAll, List.length_cons]
      have := q.wt
      rw [Nat.add_mul]
      omega
theorem nx_list {k B : Nat} {ds : List PyData} (h : ∀ d ∈ ds, NX k B d) : NX (k + 1) (ds.length * (B + 1)) (.list ds) := by
  obtain ⟨a1, a2, a3, a5, a6⟩ := nx_all h
  exact ⟨by simp only [layE]; exact a1, by simp only [PyData.depth]; omega, by simp only [PyData.showable]; exact a3, by simp only [PyData.intsShort]; exact a5, by simp only [PyData.weight]; exact a6⟩
theorem nx_tuple {k B : Nat} {ds : List PyData} (h : ∀ d ∈ ds, NX k B d) : NX (k + 1) (ds.length * (B + 1)) (.tuple ds) := by
  obtain ⟨a1, a2, a3, a5, a6⟩ := nx_all h
  exact ⟨by simp only [layE]; exact a1, by simp only [PyData.depth]; omega, by simp only [PyData.showable]; exact a3, by simp only [PyData.intsShort]; exact a5, by simp only [PyData.weight]; exact a6⟩
theorem all_elem {k B : Nat} : ∀ {ds : List PyData}, layEAll ds = true → PyData.depthAll ds ≤ k → PyData.showableAll ds = true → PyData.intsShortAll 13 ds = true → PyData.weightAll ds ≤ B → (∀ d ∈ ds, NX k B d) ∧ ds.length ≤ B
  | [], _, _, _, _, _ => ⟨fun d m => (by cases m), Nat.zero_le _⟩
  | d :: ds, h1, h2, h3, h4, h5 => by
    simp only [layEAll, Bool.and_eq_true] at h1
    simp only [PyData.depthAll] at h2
    simp only [PyData.showableAll, Bool.and_eq_true] at h3
    simp only [PyData.intsShortAll, Bool.and_eq_true] at h4
    simp only [PyData.weightAll] at h5
    have m2 := Nat.max_le.mp h2
    obtain ⟨q1, q2⟩ := all_elem (k := k) (B := B - 1) h1.2 m2.2 h3.2 h4.2 (by omega)
    refine ⟨fun x m => ?_, by rw [List.length_cons]; omega⟩
    rcases List.mem_cons.mp m with e | e
    · rw [e]
      exact ⟨h1.1, m2.1, h3.1, h4.1, by omega⟩
    · exact (q1 x e).mono (Nat.le_refl _) (by omega)
theorem NX.list {k B : Nat} {ds : List PyData} (h : NX k B (.list ds)) : (∀ d ∈ ds, NX k B d) ∧ ds.length ≤ B := by
  obtain ⟨a, b, c, d, e⟩ := h
  simp only [layE] at a
  simp only [PyData.depth] at b
  simp only [PyData.showable] at c
  simp only [PyData.intsShort] at d
  simp only [PyData.weight] at e
  exact all_elem a (by omega) c d e
theorem NX.tuple {k B : Nat} {ds : List PyData} (h : NX k B (.tuple ds)) : (∀ d ∈ ds, NX k B d) ∧ ds.length ≤ B := by
  obtain ⟨a, b, c, d, e⟩ := h
  simp only [layE] at a
  simp only [PyData.depth] at b
  simp only [PyData.showable] at c
  simp only [PyData.intsShort] at d
  simp only [PyData.weight] at e
  exact all_elem a (by omega) c d e
theorem NX.str {k B : Nat} {z : Str} (h : NX k B (.str z)) : z.length ≤ B := by
  have := h.wt
  simp only [PyData.weight] at this
  exact this
theorem NX.shown {k B : Nat} {d : PyData} (h : NX k B d) (hk : k ≤ 64) (hB : B ≤ 2 ^ 20) : d.shown.length ≤ sizeLine :=
  PyData.shown_fits (B := 13) (by decide) (by decide) (leavesShort_of_layE d h.lay h.ish) (Nat.le_trans h.wt hB)
/-- the data that the functions are asked about -/
abbrev OkD (d : PyData) : Prop := NX 20 100000 d
theorem big100 {n : Nat} (h : n ≤ 100001) : n ≤ sizeLine := by
  rw [sizeLine_eq]
  omega
/-! ### what the functions answer -/
def itemD : PyData → Bool
  | .str z => decide (1 ≤ z.length ∧ z.length ≤ 8) && (z.cps.toList.map fun c => decide (c ∈ abc.cps.toList)).all id
  | _ => false
def wordD : PyData → Bool
  | .tuple ds => (ds.map itemD).all id
  | _ => false
def actD : PyData → Bool
  | .str z => decide (z = "push" ∨ z = "pop")
  | _ => false
def stpD : PyData → Bool
  | .tuple [a, b] => actD a && itemD b
  | _ => false
def seqD : PyData → Bool
  | .list ds => decide (ds.length ≤ 1000) && (ds.map stpD).all id
  | .tuple ds => decide (ds.length ≤ 1000) && (ds.map stpD).all id
  | _ => false
end SE
namespace SE
open PySem PySem.Spec PyProof.Rows L2
theorem bl_take {α : Type} {f : α → Bool} {l : List α} {j : Nat} {x : α} (h : l[j]? = some x) : ((l.take j).map f).map V.bl ++ [V.bl (f x)] = ((l.take (j + 1)).map f).map V.bl := by
  rw [List.take_add_one, h, List.map_append, List.map_append]
  rfl
theorem itemD_str (z : Str) : itemD (.str z) = (decide (1 ≤ z.length ∧ z.length ≤ 8) && (z.cps.toList.map fun c => decide (c ∈ abc.cps.toList)).all id) := rfl
section
variable {P : Program} {w : World} {K : PySem.W.Frag} {mg : Str → Option Value} {base : Heap}
/-! ### is_item, is_word -/
def spX (K : PySem.W.Frag) (f : PyData → Bool) : Sp := fun xs H Q _ => ∃ (v : V) (d : PyData), xs = [v] ∧ DpX K H v d ∧ OkD d ∧ ∀ H', Same H H' → Q (.bl (f d)) H'
theorem has_itemX (D : Def K mg "is_item" sIsItem) (B : Blt mg) (C : Cons K w mg) : Has P w K mg base "is_item" 1 ["value"] [] (spX K itemD) := by
  obtain ⟨tl, hL⟩ := C.let_
  obtain ⟨tm, hM⟩ := C.ml
  refine has_of D scIsItem (fun _ _ _ _ _ _ us hl => match us, hl with | [_], _ => rfl) (fun xs H Q E h => ?_) (fun f cv A out s H xs Q E hr h => ?_)
  · obtain ⟨v, d, rfl, _⟩ := h
    rfl
  · obtain ⟨v, d, rfl, hd, ok, k⟩ := h
    refine ⟨_, pss_cons (ps_if (PW.pt (pw_or (pt_not (pt_val (pe_callB call_isi (by rfl) B.isi (by decide +kernel) (pa_cons (pv 0) (pa_cons (pe_bltn (v := .ty "str") (by rfl) B.str (by decide +kernel) rfl) pa_nil)))))
        (pw_or1 (pt_not (pt_chain op_le op_le pe_int (pe_callB call_len_str (by rfl) B.len PySem.boot_len (pa_cons (pv 0) pa_nil)) (pe_glob (v := .int 8) rfl hM ⟨_, rfl⟩)))))) (pss_one (ps_ret pe_bl)) pss_nil)
      (pss_one (ps_ret (pe_callB (cr_all rfl) (by rfl) B.all (by decide +kernel) (pa_cons
        (pe_lc (own := [("letter", 1)]) (g := gName 1) (tt := tYes) rfl scIsItem.nd (pi_str (pv 0)) (blkOk_by (own := [("letter", 1)]) (N := ["value", "letter"]) (sc := defScope sIsItem) (by decide +kernel))
          (fun _ _ _ _ _ => pg_name (i := 1) scIsItem.nd rfl (.inl rfl)) (fun _ _ _ _ _ => pts_nil) (fun _ _ _ _ _ => pe_cmpR op_in_sign (pv 1) (pe_glob (v := .str abc) rfl hL ⟨_, rfl⟩) (by rfl))) pa_nil)))), ?_⟩
    refine ⟨_, rfl, _, .ty "str", .type (tyD d), .type "str", isStr d, rfl, .ty _, hd.ty, kit_str d, _, rfl, ?_⟩
    cases hd with
    | non => exact iteT (iteT (k H (Same.refl H)))
    | bl b => exact iteT (iteT (k H (Same.refl H)))
    | int i => exact iteT (iteT (k H (Same.refl H)))
    | lst _ _ => exact iteT (iteT (k H (Same.refl H)))
    | tup _ _ => exact iteT (iteT (k H (Same.refl H)))
    | emp _ => exact iteT (iteT (k H (Same.refl H)))
    | str z =>
      refine iteF ?_
      have zl : z.length ≤ 100000 := ok.str
      refine ⟨_, rfl, z, rfl, big100 (by omega), 1, _, rfl, rfl, _, rfl, ?_⟩
      by_cases p1 : 1 ≤ z.length
      · have e1 : decide ((1 : Int) ≤ (z.length : Int)) = true := decide_eq_true (by omega)
        rw [e1]
        refine iteT ⟨_, 8, rfl, rfl, _, rfl, ?_⟩
        by_cases p2 : z.length ≤ 8
        · have e2 : decide ((z.length : Int) ≤ 8) = true := decide_eq_true (by omega)
          rw [e2]
          refine iteF ?_
          have e3 : itemD (.str z) = (z.cps.toList.map fun c => decide (c ∈ abc.cps.toList)).all id := by
            rw [itemD_str, decide_eq_true ⟨p1, p2⟩, Bool.true_and]
          rw [e3] at k
          refine ⟨_, rfl, z, rfl, fun D hD => lc_it walk_str (fun j H2 => H2 D = some (.lst (((z.cps.toList.take j).map fun c => decide (c ∈ abc.cps.toList)).map V.bl)) ∧ Same H H2) ⟨upd_same, Same.new hD⟩ (fun _ _ _ _ => trivial) ?_ ?_⟩
          · rintro j x H2 H3 hj ⟨h2, s2⟩ ⟨rfl, c, hc, rfl⟩
            have q : z.cps.toList[j]? = some c := by rw [Array.getElem?_toList]; exact hc
            refine ⟨rfl, yes_in ⟨_, rfl, c, abc, rfl, rfl, _, h2, ?_, ?_, Same.free2 s2 hD⟩⟩
            · rw [List.length_map, List.length_map, List.length_take]
              exact small1000 (by have : j < z.length := hj; omega)
            · rw [upd_same, bl_take (f := fun c => decide (c ∈ abc.cps.toList)) q]
          · rintro H2 ⟨h2, s2⟩
            rw [List.take_of_length_le (by rw [Array.length_toList]; exact Nat.le_refl _)] at h2
            exact ⟨D, _, rfl, .of h2, k H2 s2⟩
        · have e2 : decide ((z.length : Int) ≤ 8) = false := decide_eq_false (by omega)
          rw [e2]
          have e3 : itemD (.str z) = false := by
            rw [itemD_str, decide_eq_false (fun q => p2 q.2), Bool.false_and]
          rw [e3] at k
          exact iteT (k H (Same.refl H))
      · have e1 : decide ((1 : Int) ≤ (z.length : Int)) = false := decide_eq_false (by omega)
        rw [e1]
        have e3 : itemD (.str z) = false := by
          rw [itemD_str, decide_eq_false (fun q => p1 q.1), Bool.false_and]
        rw [e3] at k
        exact iteF ⟨false, rfl, iteT (k H (Same.refl H))⟩
theorem has_wordX (D : Def K mg "is_word" sIsWord) (G : Has P w K mg base "is_item" 1 ["value"] [] (spX K itemD)) (B : Blt mg) : Has P w K mg base "is_word" 2 ["value"] [] (spX K wordD) := by
  refine has_of D scIsWord (fun _ _ _ _ _ _ us hl => match us, hl with | [_], _ => rfl) (fun xs H Q E h => ?_) (fun f cv A out s H xs Q E hr h => ?_)
  · obtain ⟨v, d, rfl, _⟩ := h
    rfl
  · obtain ⟨v, d, rfl, hd, ok, k⟩ := h
    refine ⟨_, pss_one (ps_ret (pe_and (pe_callB call_isi (by rfl) B.isi (by decide +kernel) (pa_cons (pv 0) (pa_cons (pe_bltn (v := .ty "tuple") (by rfl) B.tup (by decide +kernel) rfl) pa_nil)))
      (pe_one (pe_callB (cr_all rfl) (by rfl) B.all (by decide +kernel) (pa_cons
        (pe_lc (own := [("item", 1)]) (g := gName 1) (tt := tYes) (te := tCall (spX K itemD) [] E0 (tCons (tVar 1) tNil)) rfl scIsWord.nd (pi_tup (pv 0)) (blkOk_by (own := [("item", 1)]) (N := ["value", "item"]) (sc := defScope sIsWord) (by decide +kernel))
          (fun _ _ _ _ _ => pg_name (i := 1) scIsWord.nd rfl (.inl rfl)) (fun _ _ _ _ _ => pts_nil) (fun _ _ _ _ _ => pe_has G hr (pa_cons (pv 1) pa_nil))) pa_nil))))), ?_⟩
    refine ⟨_, rfl, _, .ty "tuple", .type (tyD d), .type "tuple", isTup d, rfl, .ty _, hd.ty, kit_tup d, _, rfl, ?_⟩
    cases hd with
    | non => exact iteF (k H (Same.refl H))
    | bl b => exact iteF (k H (Same.refl H))
    | int i => exact iteF (k H (Same.refl H))
    | str z => exact iteF (k H (Same.refl H))
    | lst _ _ => exact iteF (k H (Same.refl H))
    | emp _ => exact iteF (k H (Same.refl H))
    | @tup a xs ds hT ha =>
      refine iteT ?_
      obtain ⟨oks, ln⟩ := ok.tuple
      have le := ha.len
      refine ⟨_, rfl, a, rfl, ⟨_, hT⟩, fun D hD => lc_tup (K := K) (a := a) (xs := xs) (fun j H2 => H2 D = some (.lst (((ds.take j).map itemD).map V.bl)) ∧ Same H H2) ⟨upd_same, Same.new hD⟩ (fun _ _ _ q => Same.tup q.2 hT) ?_ ?_⟩
      · rintro j x H2 hj ⟨h2, s2⟩
        obtain ⟨e, he, hx⟩ := ha.at hj
        refine ⟨rfl, yes_in ⟨_, rfl, x, e, rfl, DpX.same s2 e x hx, oks e (List.mem_of_getElem? he), fun H3 s3 => ⟨_, s3 _ _ h2, ?_, ?_, Same.free2 (s2.trans s3) hD⟩⟩⟩
        · rw [List.length_map, List.length_map, List.length_take, sizeLine_eq]
          omega
        · rw [upd_same, bl_take he]
      · rintro H2 ⟨h2, s2⟩
        rw [le, List.take_length] at h2
        exact ⟨D, _, rfl, .of h2, k H2 s2⟩
end
end SE
/-! Exceptions of own classes below ValueError, each with one field. -/
namespace SE
open PySem PySem.Spec PyProof.Rows L2
section
variable {P : Program} {w : World} {K : PySem.W.Frag} {mg : Str → Option Value} {base : Heap}
/-- a def that may raise keeps the promise sp -/
def HasX (P : Program) (w : World) (K : PySem.W.Frag) (mg : Str → Option Value) (base : Heap) (x : Str) (k : Nat) (ps : List Str) (dvs : List V) (sp : Sp) : Prop :=
  ∃ f fd ds, FnOk P w K mg base (L2.CX P w) k f fd ps sp ∧ mg x = some (.ref f) ∧ PySem.W.keepIn K (.ref f) = true ∧ Binds K fd ps ds ∧ Vals dvs ds ∧ ∃ st, Fun K x x st f fd
abbrev BxX (P : Program) (w : World) (K : PySem.W.Frag) (mg : Str → Option Value) (base : Heap) (N : List Str) (x : Str) (st : Stmt) (f : Addr) (cv : Value) (A : Around) (out : List Env) (s : Shared) (H : Hp) (E : XK) : Cx :=
  cxOf (L2.CX P w) P w K mg base N x (defScope st) f cv A out s H E
theorem hasX_of {x : Str} {st : Stmt} {N ps : List Str} {k : Nat} {sp : Sp} (D : Def K mg x st) (S : FnScope N ps (defScope st))
    (hb : ∀ (kV doc pm : Value) (an : Option Addr) (cv ct : Value) (us : List Value), us.length = ps.length → bindArgs (PySem.W.fnOf x x (defArgs st) (defBody st) (defScope st) .none kV doc pm an cv ct) ⟨us, []⟩ = pure (ps.zip us))
    (len : ∀ xs H Q E, sp xs H Q E → xs.length = ps.length)
    (hbd : ∀ (f : Addr) (cv : Value) (A : Around) (out : List Env) (s : Shared) (H : Hp) (xs : List V) (Q : VK) (E : XK), Room k (A.deeper (envOfC x (defScope st) s.heap.objs.size f cv)) → sp xs H Q E →
      ∃ t, PSs (BxX P w K mg base N x st f cv A out s H E) (defBody st) t ∧ t { nx := fun _ H2 => Q .non H2, rt := Q } (start N xs) H) : HasX P w K mg base x (k + 1) ps [] sp := by
  obtain ⟨f, fd, F, hm⟩ := D
  exact ⟨f, fd, [], F.okX S len fun cv A out s H xs Q E hr h => hbd f cv A out s H xs Q E hr h, hm, F.kp, F.binds hb, .nil, st, F⟩
/-- what stands in a def that may raise: its own way out -/
theorem tkX {N : List Str} {x : Str} {st : Stmt} {f : Addr} {cv : Value} {A : Around} {out : List Env} {s : Shared} {H : Hp} {E : XK} : Takes (BxX P w K mg base N x st f cv A out s H E) (fun cls d _ H => E cls d H) := takes_of rfl rfl rfl rfl
end
section
variable {X : Cx} {k : Nat} {ps : List Str} {sp : Sp} {x : Str} {p pos : Pos} {e : Expr} {es : List Expr} {t : TA} {dvs : List V} {E : XK} {W : WX}
/-- a call whose exceptions leave the def that calls -/
theorem pe_hasX (h : HasX X.prog X.w X.K X.mg X.base x k ps dvs sp) (hr : Room k X.A) (tk : Takes X (fun cls d _ H => E cls d H)) (ha : PA X (e :: es) t) (hg : Gl X x := by rfl) (hdb : (x == ("__debug__" : Str)) = false := by decide)
    (he : starEach (e :: es) X.env = (false, eval e X.env) :: starEach es X.env := by rfl) (hpl : (backTo pos (starEach es X.env)).any (·.1) = false := by rfl) : PE X (.Call (.Name x p) (e :: es) [] pos) (tCall sp dvs E t) := by
  obtain ⟨f, fd, ds, F, hm, hk, hb, hd, _⟩ := h
  exact pe_call F hr hg hm hk hb hd (passes_call tk fun _ _ _ _ z => z) ha hdb he hpl
/-- a call within a try -/
theorem pe_hasS (h : HasX X.prog X.w X.K X.mg X.base x k ps [] sp) (hr : Room k X.A) (tk : Takes X W) (ha : PA X (e :: es) t) (hg : Gl X x := by rfl) (hdb : (x == ("__debug__" : Str)) = false := by decide)
    (he : starEach (e :: es) X.env = (false, eval e X.env) :: starEach es X.env := by rfl) (hpl : (backTo pos (starEach es X.env)).any (·.1) = false := by rfl) : PE X (.Call (.Name x p) (e :: es) [] pos) (tCallS sp (WE W) t) := by
  obtain ⟨f, fd, ds, F, hm, hk, hb, hd, _⟩ := h
  cases hd
  exact pe_callS F hr hg hm hk hb (fun σ => passAt tk σ) ha hdb he hpl
end
/-! ### a class of exceptions -/
def spXI (K : PySem.W.Frag) (C : Addr) (f : Str) : Sp := fun xs H Q _ => ∃ (a : Addr) (v : V), xs = [.ref a, v] ∧ H a = some (exo a C none) ∧ ∀ dx, H dx = none → dx ≠ a → Q .non (upd (upd H dx (exd dx [(f, v)])) a (exo a C (some dx)))
/-- what the written part says of the class at C, whose __init__ sets the field f -/
structure XcC (P : Program) (w : World) (K : PySem.W.Frag) (mg : Str → Option Value) (base : Heap) (x f : Str) (C : Addr) : Prop where
  oex : OexC K C
  gC : mg x = some (.ref C)
  init : ∃ fI fd, PySem.W.findIn K (.ref C) "__init__" = some (some (.ref fI)) ∧ PySem.W.typeIn K (.ref fI) = some (.type "function") ∧ FnOk P w K mg base CX0 1 fI fd ["self", f] (spXI K C f) ∧ Binds K fd ["self", f] []
  xf : XfC K C
  noF : PySem.W.findIn K (.ref C) f = some none
  ha : PySem.W.findIn K (.ref C) "__class__" = some (some (.builtin "object.__class__"))
  hn : PySem.W.specialIn K (.builtin "object.__class__") "__get__" = some (some (.builtin "getset_descriptor.__get__"))
  ht : PySem.W.takesIn K (.builtin "object.__class__") = some true
  hm : PySem.W.mroIn K C (.type "object") = some true
  te : PySem.W.exmOne K (.ref C) (.ref C) = some true
/-- __init__ -/
theorem init_ok {P : Program} {w : World} {K : PySem.W.Frag} {mg : Str → Option Value} {base : Heap} {q f : Str} {C : Addr} {st : Stmt} {fI : Addr} {fd : FuncData} {p1 p2 p3 p4 : Pos} (F : Fun K "__init__" q st fI fd) (S : FnScope ["self", f] ["self", f] (defScope st)) (T : OexC K C) (noF : PySem.W.findIn K (.ref C) f = some none)
    (hb : defBody st = [.Assign [.Attribute (.Name "self" p1) f p2] (.Name f p3) p4])
    (v0 : Vis (defScope st) "self") (v1 : Vis (defScope st) f) (hdb : (f == ("__debug__" : Str)) = false) (hcd : (f == ("__classdict__" : Str)) = false) : FnOk P w K mg base CX0 1 fI fd ["self", f] (spXI K C f) := by
  refine F.ok S (fun xs H Q E h => ?_) (fun cv A out s H xs Q E hr h => ?_)
  · obtain ⟨a, v, rfl, _⟩ := h
    rfl
  · obtain ⟨a, v, rfl, ha, k⟩ := h
    rw [hb]
    refine ⟨_, pss_one (ps_ost (pe_var (i := 0) rfl v0) (pe_var (i := 1) rfl v1 (hd := hdb) (hcd := hcd))), ?_⟩
    exact ⟨_, rfl, _, rfl, a, C, rfl, T, noF, .inl ⟨ha, fun dx nd ne => k dx nd ne⟩⟩
section
variable {X : Cx} {C : Addr} {x f : Str}
theorem mk_heap {H1 : Hp} {a d C : Addr} {f : Str} {v : V} (na : H1 a = none) (nd : d ≠ a) : upd (del (upd (upd (upd H1 a (exo a C none)) d (exd d [(f, v)])) a (exo a C (some d))) a) d (.xd [(f, v)]) = upd H1 d (.xd [(f, v)]) := by
  funext b
  by_cases e : b = d
  · subst e
    rw [upd_same, upd_same]
  · rw [upd_ne e, upd_ne e]
    by_cases e2 : b = a
    · subst e2
      rw [del_same, na]
    · rw [del_ne e2, upd_ne e2, upd_ne e, upd_ne e2]
theorem mk_red {K : PySem.W.Frag} {H1 : Hp} {v : V} {Q : XK} (h : ∀ d, H1 d = none → Q (.ref C) (some d) (upd H1 d (.xd [(f, v)]))) :
    ([v] : List V).length ≤ 1000 ∧ ∀ a, H1 a = none → spXI K C f (.ref a :: ([v] ++ [])) (upd H1 a (exo a C none))
      (fun u H2 => u = .non ∧ ∃ (d : Addr) (fs : List (Str × V)), H2 a = some (exo a C (some d)) ∧ H2 d = some (exd d fs) ∧ H1 d = none ∧ Q (.ref C) (some d) (upd (del H2 a) d (.xd fs))) (fun _ _ _ => False) := by
  refine ⟨(by decide : 1 ≤ 1000), fun a na => ⟨a, v, rfl, upd_same, fun d nd ne => ⟨rfl, d, [(f, v)], upd_same, ?_, ?_, ?_⟩⟩⟩
  · rw [upd_ne ne]
    exact upd_same
  · rw [upd_ne ne] at nd
    exact nd
  · rw [mk_heap na ne]
    rw [upd_ne ne] at nd
    exact h d nd
/-- C(e): behind the argument mk_red -/
theorem pmk_x {e : Expr} {ta : TA} {p pos : Pos} (T : XcC X.prog X.w X.K X.mg X.base x f C) (hr : Room 2 X.A) (ha : PA X [e] ta) (hg : Gl X x := by rfl)
    (hdb : (x == ("__debug__" : Str)) = false := by decide) (he : starEach (e :: []) X.env = (false, eval e X.env) :: starEach [] X.env := by rfl) (hpl : (backTo pos (starEach [] X.env)).any (·.1) = false := by rfl) :
    PMk X (.Call (.Name x p) [e] [] pos) (tMkO C (spXI X.K C f) [] ta) := by
  obtain ⟨fI, fd, i1, i2, i3, i4⟩ := T.init
  exact pmk_oex (CX := CX0) T.oex i1 i2 i3 hr i4 .nil pass0 hg T.gC ha hdb he hpl
theorem ps_raiseX {W : WX} {e : Expr} {ta : TA} {p pos pos2 : Pos} (hc : X.calm = true) (T : XcC X.prog X.w X.K X.mg X.base x f C) (hr : Room 2 X.A) (tk : Takes X W) (ha : PA X [e] ta) (hg : Gl X x := by rfl)
    (hdb : (x == ("__debug__" : Str)) = false := by decide) (he : starEach (e :: []) X.env = (false, eval e X.env) :: starEach [] X.env := by rfl) (hpl : (backTo pos (starEach [] X.env)).any (·.1) = false := by rfl) :
    PS X (.Raise (some (.Call (.Name x p) [e] [] pos)) none pos2) (fun _ σ H => tMkO C (spXI X.K C f) [] ta σ H fun cls d H' => W cls d σ H') := ps_raise hc tk (pmk_x T hr ha hg hdb he hpl)
/-- isinstance(e, c), e the exception that the suite holds -/
def rIsX (K : PySem.W.Frag) (C a : Addr) (cls : Value) (d : Option Addr) : List V → Hp → VK → Prop := fun xs H Q => ∃ (c : V) (cv : Value) (b : Bool) (dd : Addr) (fs : List (Str × V)), xs = [.ref a, c] ∧ cls = .ref C ∧ (∀ u, RelV c u → u = cv) ∧ PySem.W.kitOne K (.ref C) cv = some b ∧ d = some dd ∧ H dd = some (.xd fs) ∧ Q (.bl b) H
theorem call_isX {a : Addr} {oe : Obj} {cls : Value} {d : Option Addr} {pn : List (Addr × Obj)} (T : XcC X.prog X.w X.K X.mg X.base x f C) (hz : Zc cls d oe) (hf : ∃ vs, oe.data = .fields vs) : CallR (X.suite a ((a, oe) :: pn)) (.builtin "isinstance") (rIsX X.K C a cls d) := by
  intro pins s σ H xs us Q I r h
  obtain ⟨c, cv, b, dd, fs, rfl, rfl, hcv, e, rfl, hH, q⟩ := h
  cases r with
  | cons rx rr =>
    cases rr with
    | cons rt rr =>
      cases rr
      cases rx
      have ec := hcv _ rt
      subst ec
      obtain ⟨hget, _⟩ := I.pin (a, oe) (List.mem_append.mpr (.inl List.mem_cons_self))
      obtain ⟨vs, hv⟩ := hf
      have hx : ObjOk X.prog X.w H s.heap dd (.xd fs) := I.hok dd _ hH
      obtain ⟨mA, hns, hr⟩ := hx
      obtain ⟨od, ho, hl⟩ := lookIn_ns hns
      have J : PySem.W.InstAt s.heap a oe C (some od) := ⟨hget, hz.1, by unfold PySem.W.notCls; rw [hv] <;> rfl, by rw [hz.2]; exact ho⟩
      have hcl : (PySem.W.clsIn X.K C).isSome = true := by
        obtain ⟨cd, hc, _⟩ := PySem.W.any_some T.xf.hdC
        rw [hc]
        rfl
      exact PySem.W.kia_one (PySem.W.kitx_exc hcl T.xf.ga T.xf.gg T.xf.exC T.ha T.hn T.ht T.hm) I.kIn J e (fun z => nomatch z) fun tk => ⟨.bl b, H, I.kept (t' := tk) fun _ _ z => z, rfl, q⟩
end
end SE
/-! Classes and methods called by keyword where exceptions may come, also within a try. -/
namespace SE
open PySem PySem.Spec PyProof.Rows L2
section
variable {X : Cx} {CT : CXT} {k n : Nat} {f C : Addr} {fd : FuncData} {ps ks : List Str} {sp : Sp} {x m : Str} {p pos apos : Pos} {e o : Expr} {es : List Expr} {kws : List Keyword} {te : TE} {t tk : TA} {ex : L2.St → XK}
  {g : List Value → List Value → List Value} {gV : List V → List V → List V}
/-- a def called with some arguments by keyword; ex σ is what is wished of its exceptions -/
theorem run_kwS {pins : List (Addr × Obj)} {σ : L2.St} {H : Hp} {s : Shared} {Q : VK} {us ws : List Value} {vs zs : List V} (F : FnOk X.prog X.w X.K X.mg X.base CT k f fd ps sp) (room : Room k X.A) (bd : KBn X.K fd ps n ks g gV)
    (out : PassesAt CT X σ (ex σ)) (I : Inv X pins σ H s) (r1 : Vals vs us) (r2 : Vals zs ws) (l1 : vs.length = n) (l2 : zs.length = ks.length) (h : sp (gV vs zs) H Q (ex σ)) :
    wpAny (model X.prog X.w) X.A (call (.ref f) us (ks.zip ws)) (EP X pins σ Q) X.xe s := by
  have to := bd.to s us ws I.kIn (r1.length.symm.trans l1) (r2.length.symm.trans l2)
  have run := F.run X.A X.stack s H ⟨us, ks.zip ws⟩ (g us ws) (gV vs zs) Q (ex σ) room I.env0 to (bd.rel r1 r2) h
  refine wpAny_call (codeAny_mono run fun res s2 done => ?_)
  match res, done with
  | .error ev, done => exact out pins H s ev s2 I done
  | .ok (.ret u), done => exact I.after done
  | .ok .next, done => exact done.elim
  | .ok .brk, done => exact done.elim
  | .ok .cont, done => exact done.elim
/-- a class called with some arguments by keyword -/
theorem run_mkS {pins : List (Addr × Obj)} {σ : L2.St} {H : Hp} {s : Shared} {Q : VK} {us ws : List Value} {vs zs : List V} (M : Mk X.K C f) (F : FnOk X.prog X.w X.K X.mg X.base CT k f fd ps sp) (room : Room (k + 1) X.A) (bd : KBn X.K fd ps (n + 1) ks g gV)
    (out : PassesAt CT X σ (ex σ)) (I : Inv X pins σ H s) (r1 : Vals vs us) (r2 : Vals zs ws) (l1 : vs.length = n) (l2 : zs.length = ks.length)
    (h : ∀ b db, H b = none → H db = none → db ≠ b → sp (gV (.ref b :: vs) zs) (upd (upd H db (.own b)) b (.ins C db [])) (fun v H2 => v = .non ∧ Q (.ref b) H2) (ex σ)) :
    wpAny (model X.prog X.w) X.A (call (.ref C) us (ks.zip ws)) (EP X pins σ Q) X.xe s := by
  have new := h (s.heap.objs.size + 1) s.heap.objs.size (I.hok.fresh (Nat.le_succ _)) (I.hok.fresh (Nat.le_refl _)) (Nat.ne_of_lt (Nat.lt_succ_self _))
  have made := Inv.made (C := C) I
  have rs : Vals (V.ref (s.heap.objs.size + 1) :: vs) (Value.ref (s.heap.objs.size + 1) :: us) := .cons rfl r1
  have len : (Value.ref (s.heap.objs.size + 1) :: us).length = n + 1 := congrArg (· + 1) (r1.length.symm.trans l1)
  have to := bd.to _ (Value.ref (s.heap.objs.size + 1) :: us) ws made.kIn len (r2.length.symm.trans l2)
  have run := F.run _ X.stack _ _ ⟨Value.ref (s.heap.objs.size + 1) :: us, ks.zip ws⟩ (g (Value.ref (s.heap.objs.size + 1) :: us) ws) _ _ (ex σ) (room.make C us (ks.zip ws)) (made.env0.make C us (ks.zip ws)) to (bd.rel rs r2) new
  refine wpAny_call (make_map (f := f) I.kIn M.makes M.init (beq_iff_eq.mp M.fn) (codeAny_mono run fun res s2 done => ?_))
  match res, done with
  | .error ev, done => exact out pins _ _ ev s2 made done
  | .ok (.ret u), done =>
    obtain ⟨v, H2, I2, rel, ev, q⟩ := made.after done
    subst ev
    exact ⟨rel, V.ref (s.heap.objs.size + 1), H2, I2, rfl, q⟩
  | .ok .next, done => exact done.elim
  | .ok .brk, done => exact done.elim
  | .ok .cont, done => exact done.elim
/-- C(e, .., k = v, ..) -/
def tMkS (C : Addr) (n m : Nat) (sp : Sp) (gV : List V → List V → List V) (ex : L2.St → XK) (t tk : TA) : TE := fun σ H Q => t σ H fun vs H1 => tk σ H1 fun zs H2 => vs.length = n ∧ zs.length = m ∧
  ∀ b db, H2 b = none → H2 db = none → db ≠ b → sp (gV (.ref b :: vs) zs) (upd (upd H2 db (.own b)) b (.ins C db [])) (fun v H3 => v = .non ∧ Q (.ref b) H3) (ex σ)
theorem pe_mkS (M : Mk X.K C f) (F : FnOk X.prog X.w X.K X.mg X.base CT k f fd ps sp) (room : Room (k + 1) X.A) (hm : X.mg x = some (.ref C)) (bd : KBn X.K fd ps (n + 1) ks g gV) (out : ∀ σ, PassesAt CT X σ (ex σ)) (ha : PA X (e :: es) t) (hk : PK X kws tk)
    (hks : (backToKw pos (keywordEach kws X.env)).filterMap (·.1) = ks := by rfl) (hall : (backToKw pos (keywordEach kws X.env)).all (·.1.isSome) = true := by rfl) (hg : Gl X x := by rfl) (hd : (x == ("__debug__" : Str)) = false := by decide)
    (he : starEach (e :: es) X.env = (false, eval e X.env) :: starEach es X.env := by rfl) (hpl : ((backTo pos (starEach (e :: es) X.env)).any (·.1) || (backToKw pos (keywordEach kws X.env)).any (·.1.isNone)) = false := by rfl) :
    PE X (.Call (.Name x p) (e :: es) kws pos) (tMkS C n ks.length sp gV ex t tk) := by
  constructor
  intro pins s σ H Q I w
  refine wpAny_Call_Name_kw (ld_glob I hg hm ?_ hd)
  refine PySem.W.callWith_KW (h₀ := X.base) I.ok.mod.kin M.kp hall (thn (ha.run pos pins s σ H _ I w) fun us s1 z => ?_) hpl he
  obtain ⟨vs, H1, I1, r1, w1⟩ := z
  refine thn (hk.run pos pins s1 σ H1 _ I1 w1) fun ws s2 z => ?_
  obtain ⟨zs, H2, I2, r2, l1, l2, w2⟩ := z
  rw [hks]
  exact ⟨I2.kIn, run_mkS M F room bd (out σ) I2 r1 r2 l1 l2 w2⟩
/-- o.m(e, .., k = v, ..) -/
def tMethS (C : Addr) (m : Str) (n j : Nat) (sp : Sp) (gV : List V → List V → List V) (ex : L2.St → XK) (te : TE) (t tk : TA) : TE := fun σ H Q => te σ H fun y H1 => ∃ b db fs, y = .ref b ∧ H1 b = some (.ins C db fs) ∧ fs.lookup m = none ∧
  t σ H1 fun vs H2 => tk σ H2 fun zs H3 => vs.length = n ∧ zs.length = j ∧ sp (gV (.ref b :: vs) zs) H3 Q (ex σ)
theorem pe_methS {pl : Sem Bool} (ho : PE X o te) (c : Cls X.K C) (hm : Meth X.K C m f) (F : FnOk X.prog X.w X.K X.mg X.base CT k f fd ps sp) (room : Room k X.A) (bd : KBn X.K fd ps (n + 1) ks g gV) (out : ∀ σ, PassesAt CT X σ (ex σ)) (ha : PA X (e :: es) t) (hk : PK X kws tk)
    (hks : (backToKw pos (keywordEach kws X.env)).filterMap (·.1) = ks := by rfl) (hall : (backToKw pos (keywordEach kws X.env)).all (·.1.isSome) = true := by rfl)
    (he : starEach (e :: es) X.env = (false, eval e X.env) :: starEach es X.env := by rfl) (hpl : ((backTo pos (starEach (e :: es) X.env)).any (·.1) || (backToKw pos (keywordEach kws X.env)).any (·.1.isNone)) = false := by rfl)
    (hev : eval (.Call (.Attribute o m apos) (e :: es) kws pos) X.env = (do
      let ov ← eval o X.env
      standAt apos.atName
      let (f, first) ← holding [ov] (getMethod ov m pl)
      callWith pos f first (backTo pos (starEach (e :: es) X.env)) (backToKw pos (keywordEach kws X.env))) := by rfl) :
    PE X (.Call (.Attribute o m apos) (e :: es) kws pos) (tMethS C m n ks.length sp gV ex te t tk) := by
  constructor
  intro pins s σ H Q I w
  refine PySem.W.methodCall_KW (pl := pl) (thn (ho.run pins s σ H _ I w) fun u s1 z => ?_) hev
  obtain ⟨y, H1, I1, ry, b, db, fs, ey, hb, lk, w1⟩ := z
  subst ey
  obtain rfl : u = Value.ref b := ry
  refine getmeth_ok I1 hb c hm lk ?_
  refine PySem.W.callWith_KW (first := [.ref b]) (h₀ := X.base) I.ok.mod.kin hm.kp hall (thn (ha.run pos pins s1 σ H1 _ I1 w1) fun us s2 z => ?_) hpl he
  obtain ⟨vs, H2, I2, r1, w2⟩ := z
  refine thn (hk.run pos pins s2 σ H2 _ I2 w2) fun ws s3 z => ?_
  obtain ⟨zs, H3, I3, r2, l1, l2, w3⟩ := z
  rw [hks]
  exact ⟨I3.kIn, run_kwS (n := n + 1) (us := .ref b :: us) (vs := .ref b :: vs) F room bd (out σ) I3 (.cons rfl r1) r2 (congrArg (· + 1) l1) l2 w3⟩
/-! ### a static method of a class -/
/-- C.m is a staticmethod: its record at p, its def at f -/
structure SMet (K : PySem.W.Frag) (C : Addr) (mc : Value) (m : Str) (p f : Addr) : Prop where
  at_ : PySem.W.findCls K (.ref C) mc m = some (.get (.builtin "staticmethod.__get__") (.ref p) .none (.ref C))
  rc : ∃ rest, PySem.W.recIn K p "staticmethod" = some (.ref f :: rest)
  kp : PySem.W.keepIn K (.ref f) = true
/-- a def by its promise on positional values, exceptions as ex σ wishes -/
theorem run_rS {pins : List (Addr × Obj)} {σ : L2.St} {H : Hp} {s : Shared} {Q : VK} {us : List Value} {vs : List V} (F : FnR X.prog X.w X.K X.mg X.base CT k f sp) (room : Room k X.A) (out : PassesAt CT X σ (ex σ)) (I : Inv X pins σ H s) (r : Vals vs us) (h : sp vs H Q (ex σ)) :
    wpAny (model X.prog X.w) X.A (call (.ref f) us) (EP X pins σ Q) X.xe s := by
  refine wpAny_call (codeAny_mono (F X.A X.stack s H us vs Q (ex σ) room I.env0 r h) fun res s2 done => ?_)
  match res, done with
  | .error ev, done => exact out pins H s ev s2 I done
  | .ok (.ret u), done => exact I.after done
  | .ok .next, done => exact done.elim
  | .ok .brk, done => exact done.elim
  | .ok .cont, done => exact done.elim
/-- C.m(e, ..) of a staticmethod -/
def tSMeth (C : Addr) (sp : Sp) (ex : L2.St → XK) (te : TE) (t : TA) : TE := fun σ H Q => te σ H fun y H1 => y = .ref C ∧ t σ H1 fun vs H2 => sp vs H2 Q (ex σ)
theorem pe_smeth {pl : Sem Bool} {mc : Value} {q : Addr} (ho : PE X o te) (rd : ClX.CRead X.K C mc) (c : SMet X.K C mc m q f) (F : FnR X.prog X.w X.K X.mg X.base CT k f sp) (room : Room k X.A) (out : ∀ σ, PassesAt CT X σ (ex σ)) (ha : PA X (e :: es) t)
    (he : starEach (e :: es) X.env = (false, eval e X.env) :: starEach es X.env := by rfl) (hpl : (backTo pos (starEach es X.env)).any (·.1) = false := by rfl)
    (hev : eval (.Call (.Attribute o m apos) (e :: es) [] pos) X.env = (do
      let ov ← eval o X.env
      standAt apos.atName
      let (f, first) ← holding [ov] (getMethod ov m pl)
      callWith pos f first (backTo pos (starEach (e :: es) X.env)) (backToKw pos (keywordEach [] X.env))) := by rfl) :
    PE X (.Call (.Attribute o m apos) (e :: es) [] pos) (tSMeth C sp ex te t) := by
  constructor
  intro pins s σ H Q I w
  refine PySem.W.methodCall_KW (pl := pl) (thn (ho.run pins s σ H _ I w) fun u s1 z => ?_) hev
  obtain ⟨y, H1, I1, ry, ey, w1⟩ := z
  subst ey
  obtain rfl : u = Value.ref C := ry
  obtain ⟨rest, rec⟩ := c.rc
  refine PySem.W.method_cls I1.kIn rd.ga (PySem.W.cls_bind I1.kIn rd.rd c.at_ ?_)
  refine wpAny_call (PySem.W.sm_get (s := { s1 with toks := s1.toks + 1 }) I1.kIn rec (PySem.W.handed_on rfl ?_))
  have I2 : Inv X pins σ H1 { s1 with toks := s1.toks + 1 } := I1.tok _
  refine PySem.W.callWith_K (first := []) (h₀ := X.base) I.ok.mod.kin c.kp (thn (ha.run pos pins _ σ H1 _ I2 w1) fun us s3 z => ?_) he hpl
  obtain ⟨vs, H3, I3, r3, w3⟩ := z
  exact ⟨I3.kIn, run_rS F room (out σ) I3 r3 w3⟩
end
end SE
/-! Several clauses 'except C as e', all with the same name e. -/
namespace SE
open PySem PySem.Spec PyProof.Rows L2
abbrev Clause := Value × (Addr → Value → Option Addr → TS)
/-- the clauses' wishes: each passes on to the next what is not its own -/
def wAsL (K : PySem.W.Frag) (i : Nat) (out : WX) (D : Ends) : List Clause → WX
  | [] => out
  | (c, ts) :: more => wAs K c i ts (wAsL K i out D more) D
/-- each clause names its class and has its suite -/
inductive AsOk (X : Cx) (n : Str) : List ExceptHandler → List Clause → Prop
  | nil : AsOk X n [] []
  | cons {y : Str} {c : Value} {ts : Addr → Value → Option Addr → TS} {first : Stmt} {rest : List Stmt} {p1 p2 : Pos} {more : List ExceptHandler} {cl : List Clause} (name : Names X y c)
      (suite : ∀ (b : Addr) (ob : Obj) (cv : Value) (fld : Option Addr) (kept : List (Addr × Obj)),
        Zc cv fld ob → (∃ fs, ob.data = .fields fs) → PSs (X.suite b ((b, ob) :: kept)) (first :: rest) (ts b cv fld))
      (tail : AsOk X n more cl) :
      AsOk X n (.ExceptHandler (some (.Name y p1)) (some n) (first :: rest) p2 :: more) ((c, ts) :: cl)
section
variable {X : Cx} {n : Str} {i : Nat} {main : List Stmt} {top : ExceptHandler} {more : List ExceptHandler} {cl : List Clause} {at_ : Pos} {tm : WX → TS} {out : WX}
theorem ps_try_asL (e1 : X.stack = X.env :: X.outer) (e2 : X.env.frame = some X.env.locals) (nod : X.N.Nodup) (slot : X.N[i]? = some n) (lo : X.env.kindOf n = some .local) (up : Takes X out)
    (hm : ∀ (W : WX) (kept : List (Addr × Obj)) (x2 : Value → Shared → Prop),
      Takes (X.tr kept x2) W → PassesOwn (model X.prog X.w) X.A X.env x2 → PSs (X.tr kept x2) main (tm W))
    (ok : AsOk X n (top :: more) cl) : PS X (.Try main (top :: more) [] [] at_) (fun D σ H => tm (wAsL X.K i out D cl) D σ H) := by
  constructor
  intro pins s0 σ0 H0 D I0 w0
  have inv := I0.ok
  have frames : X.A.frames = some (X.env :: X.outer) := inv.frames.trans (by rw [e1])
  apply wpAny_Try_except
  have big := (hm (wAsL X.K i out D cl) (X.pn ++ pins)
    (fun ev t1 => wpAny (model X.prog X.w) X.A (noteFrame ev X.env)
      (fun _ t2 => wpAny (model X.prog X.w) X.A (setFlight ev none)
        (fun _ t3 => wpAny (model X.prog X.w) X.A
          (handleBy ev X.env (top :: more)) (SP X pins D) X.xe t3) X.xe t2) X.xe t1) ?takes PassesOwn.looking).run [] s0 σ0 H0 D (I0.toTry _) w0
  case takes =>
    rintro u t ⟨b, B, sB, pb, σ, H, cv, fld, rfl, Jt, nb, grow, sky, free, os, ag, wish⟩
    have J : Inv X pins σ H sB := Jt.ofTry inv
    rw [e1] at sky
    show wpAny (model X.prog X.w) X.A (noteFrame (.ref b) X.env) _ _ _
    refine Sky.land Zc.steady frames e2 sky (fun h5 land grow5 => ?_)
    have J5 : Inv X pins σ H { t with heap := h5 } := J.landed nb land.1 (grow.trans grow5) os ag
    obtain ⟨ob5, fs5, there5, zc5, data5⟩ := land.there
    have apart : b ∉ frs (X.env :: X.outer) := fun hin => by
      obtain ⟨_, o2, at2, no⟩ := land.2.2.1.mem hin
      rw [there5] at at2
      cases at2
      exact no _ data5
    have ne1 : b ≠ X.env.locals := fun e => apart (List.mem_filterMap.mpr ⟨X.env, List.mem_cons_self, by rw [e2, e]⟩)
    have ne2 : b ∉ X.fs := fun hin => by
      obtain ⟨v, hv, hq⟩ := List.mem_filterMap.mp hin
      exact apart (List.mem_filterMap.mpr ⟨v, List.mem_cons_of_mem _ hv, hq⟩)
    have S5 := J5.suite there5 data5 free ne1 ne2
    -- clause by clause
    suffices walk : ∀ {hs : List ExceptHandler} {cs : List Clause}, AsOk X n hs cs → wAsL X.K i out D cs cv fld σ H →
        wpAny (model X.prog X.w) X.A (handleBy (.ref b) X.env hs) (SP X pins D) X.xe { t with heap := h5 } from walk ok wish
    intro hs cs good
    induction good with
    | nil =>
      intro wish
      refine wpAny_handleBy_nil ?_
      obtain ⟨k1, k2, k3, o6, f6, T6, oT6, ts6, at6, z6, d6, first6, rest6⟩ := id land
      unfold PySem.passOn
      refine wpAny_bind (wpAny_field at6 d6 first6 ?_)
      rw [if_neg (show ¬ ((Value.ref T6 == Value.none) = true) from by simp)]
      have leave : wpAny (model X.prog X.w) X.A (setFlight (.ref b) X.env.frame)
          (fun _ t7 => wpAny (model X.prog X.w) X.A (throw (.ref b) : Sem Flow) (SP X pins D) X.xe t7) X.xe { t with heap := h5 } := by
        rw [e2]
        refine HandSPX.setFlight_upZ land fun h7 land7 grow7 => wpAny_throw (up _ _ ?_)
        refine ⟨b, B, sB, pins, σ, H, cv, fld, rfl, J, nb, (grow.trans grow5).trans grow7, .inr (.inr ?_), free, os, ag, wish⟩
        rw [e1]
        exact land7
      first
        | exact wpAny_bind (wpAny_pure (wpAny_bind leave))
        | exact wpAny_bind leave
    | @cons y c ts first rest p1 p2 more2 cl2 name suite tail ih =>
      intro wish
      obtain ⟨hit, match1, yes, no⟩ := wish
      refine wpAny_handleBy_cons (codeAny_handlers_test ?_) (fun q => by cases q)
      have kind : PySem.W.Looks (model X.prog X.w) h5 (typeOf (.ref b)) cv := fun A Q E s k q => by
        refine wpAny_typeOf_ref (k _ _ there5) ?_
        rw [zc5.1]
        exact q
      have found := PySem.W.exm_one (M := model X.prog X.w) J5.kIn kind match1
      have look : ∀ {Q E : Value → Shared → Prop}, Q c { t with heap := h5 } →
          wpAny (model X.prog X.w) (X.A.mark (some (.ref b))) (eval (.Name y p1) X.env) Q E { t with heap := h5 } := fun q => by
        obtain ⟨g1, g2, own | ⟨g3, g4, g5⟩⟩ := name
        · exact ld_glob (X := X.suite b ((b, ob5) :: (X.pn ++ pins))) S5 g1 own q g2
        · exact ld_blt (X := X.suite b ((b, ob5) :: (X.pn ++ pins))) S5 g1 g3 g4 q g5 g2
      refine look (found.here ?_)
      cases hit with
      | false => exact ih (no rfl)
      | true =>
        refine codeAny_handlers_suite_as (HandSPX.lands_againZ land fun h8 land8 grow8 => ?_)
        have J8 : Inv X pins σ H { t with heap := h8 } := J.landed nb land8.1 ((grow.trans grow5).trans grow8) os ag
        obtain ⟨ob8, fs8, there8, zc8, data8⟩ := land8.there
        have S8 := J8.suite there8 data8 free ne1 ne2
        refine store_ok (X := X.suite b ((b, ob8) :: (X.pn ++ pins))) (v := .ref b) S8 nod slot (.inl lo) rfl (fun t9 S9 => ?_) (.inr lo)
        have run := (suite b ob8 cv fld (X.pn ++ pins) zc8 ⟨_, data8⟩).run [] t9 _ H _ S9 (yes rfl b free)
        refine wpAny_mono run (fun fl tA done => ?_) (fun _ _ z => z.elim)
        have clear : ∀ {σA : L2.St} {HA : Hp} {Q : Shared → Prop}, Inv (X.suite b ((b, ob8) :: (X.pn ++ pins))) [] σA HA tA →
            (∀ tB, Inv X pins (σA.set i none) HA tB → Q tB) →
            wpAny (model X.prog X.w) X.A (do bindName X.env n .none; unbindBehindTheSuite X.env n p2) (fun _ tB => Q tB) X.xe tA :=
          fun SA goal => gone_ok (SA.unsuite inv) nod slot lo goal
        match fl, done with
        | .next, ⟨_, _, SA, q⟩ => exact clear SA fun tB JB => ⟨_, _, JB, q⟩
        | .brk, ⟨_, _, SA, q⟩ => exact clear SA fun tB JB => ⟨_, _, JB, q⟩
        | .cont, ⟨_, _, SA, q⟩ => exact clear SA fun tB JB => ⟨_, _, JB, q⟩
        | .ret u, ⟨_, _, _, SA, rel, q⟩ => exact clear SA fun tB JB => ⟨_, _, _, JB, rel, q⟩
  refine wpAny_mono big (fun fl t done => ?_) (fun _ _ z => z)
  match fl, done with
  | .next, ⟨_, _, J, q⟩ => exact wpAny_execs_nil ⟨_, _, J.ofTry inv, q⟩
  | .brk, ⟨_, _, J, q⟩ => exact ⟨_, _, J.ofTry inv, q⟩
  | .cont, ⟨_, _, J, q⟩ => exact ⟨_, _, J.ofTry inv, q⟩
  | .ret u, ⟨_, _, _, J, rel, q⟩ => exact ⟨_, _, _, J.ofTry inv, rel, q⟩
end
end SE
namespace SE
open PySem PySem.Spec PyProof.Rows L2
/-! ### what is refused -/
def bad (C : Addr) (H : Hp) (v : V) (E : XK) : Prop := ∀ (dd : Addr) (H' : Hp), Same H H' → H dd = none → H' dd = some (.xd [("value", v)]) → E (.ref C) (some dd) H'
theorem bad.go {C : Addr} {H H1 : Hp} {v : V} {E : XK} (h : bad C H v E) (s : Same H H1) : bad C H1 v E := fun dd H' s' n e => h dd H' (s.trans s') (s.free n) e
def badI (C : Addr) (H : Hp) (v : V) (E : XK) : Prop := ∀ (dd : Addr) (H' : Hp), Same H H' → H dd = none → H' dd = some (.xd [("index", v)]) → E (.ref C) (some dd) H'
theorem badI.go {C : Addr} {H H1 : Hp} {v : V} {E : XK} (h : badI C H v E) (s : Same H H1) : badI C H1 v E := fun dd H' s' n e => h dd H' (s.trans s') (s.free n) e
section
variable {P : Program} {w : World} {K : PySem.W.Frag} {mg : Str → Option Value} {base : Heap}
/-! ### check_word, check_limit -/
def spCwX (K : PySem.W.Frag) (C : Addr) : Sp := fun xs H Q E => ∃ (v : V) (d : PyData), xs = [v] ∧ DpX K H v d ∧ OkD d ∧ (wordD d = true → ∀ H', Same H H' → Q .non H') ∧ (wordD d = false → bad C H v E)
theorem scKw : FnScope ["word"] ["word"] (defScope sChkWord) := ⟨rfl, rfl, rfl, by decide +kernel, rfl, by decide +kernel, by decide +kernel⟩
theorem hasX_cw {C : Addr} (D : Def K mg "check_word" sChkWord) (G : Has P w K mg base "is_word" 2 ["value"] [] (spX K wordD)) (T : XcC P w K mg base "InvalidWord" "value" C) : HasX P w K mg base "check_word" 3 ["word"] [] (spCwX K C) := by
  refine hasX_of D scKw (fun _ _ _ _ _ _ us hl => match us, hl with | [_], _ => rfl) (fun xs H Q E h => ?_) (fun f cv A out s H xs Q E hr h => ?_)
  · obtain ⟨v, d, rfl, _⟩ := h
    rfl
  · obtain ⟨v, d, rfl, hd, ok, kY, kN⟩ := h
    refine ⟨_, pss_one (ps_if (pt_not (pt_val (pe_has G hr (pa_cons (pv 0) pa_nil)))) (pss_one (ps_raiseX rfl T hr tkX (pa_cons (pv 0) pa_nil))) pss_nil), ?_⟩
    refine ⟨_, rfl, v, d, rfl, hd, ok, fun H1 s1 => ⟨wordD d, rfl, ?_⟩⟩
    cases hw : wordD d with
    | true => exact iteF (kY hw H1 s1)
    | false =>
      refine iteT ⟨_, rfl, mk_red fun dd hdd => ?_⟩
      exact kN hw dd _ (s1.trans (Same.new hdd)) (s1.free hdd) upd_same
end
end SE
namespace SE
open PySem PySem.Spec PyProof.Rows L2
/-! ### two promises for one def -/
theorem HasX.or {P : Program} {w : World} {K : PySem.W.Frag} {mg : Str → Option Value} {base : Heap} {x : Str} {k j : Nat} {ps : List Str} {dvs dvs2 : List V} {sp1 sp2 : Sp} (h1 : HasX P w K mg base x k ps dvs sp1) (h2 : Has P w K mg base x j ps dvs2 sp2) (hj : j ≤ k) :
    HasX P w K mg base x k ps dvs (fun vs H Q E => sp1 vs H Q E ∨ sp2 vs H Q E) := by
  obtain ⟨f1, fd1, ds1, F1, m1, kp1, b1, v1, st1, U1⟩ := h1
  obtain ⟨f2, fd2, ds2, F2, m2, kp2, b2, v2, st2, U2⟩ := h2
  obtain rfl : f1 = f2 := Value.ref.inj (Option.some.inj (m1.symm.trans m2))
  have ef : fd1 = fd2 := by
    obtain ⟨_, _, _, _, _, _, _, _, _, _, l1, _⟩ := U1.ex
    obtain ⟨_, _, _, _, _, _, _, _, _, _, l2, _⟩ := U2.ex
    have := Option.some.inj (l1.symm.trans l2)
    simp only [Obj.mk.injEq, Data.func.injEq] at this
    first
      | exact this.2.2.1
      | (injection this with _ _ q; exact Data.func.inj q)
  subst ef
  have F2 := F2.mono hj
  refine ⟨f1, fd1, ds1, ⟨fun vs H Q E h => h.elim (F1.len vs H Q E) (F2.len vs H Q E), fun A outer s H args us vs Q E hr he hb hv h => ?_⟩, m1, kp1, b1, v1, st1, U1⟩
  rcases h with h | h
  · exact F1.run A outer s H args us vs Q E hr he hb hv h
  · refine codeAny_mono (F2.run A outer s H args us vs Q E hr he hb hv h) fun r s' q => ?_
    cases r with
    | ok fl => cases fl <;> exact q
    | error e => exact q.elim
/-! ### observations of any kind -/
def isNon : PyData → Bool
  | .none => true
  | _ => false
def obsD : PyData → Bool
  | .tuple [a, b] => wordD a && (isNon b || wordD b)
  | _ => false
/-- observations that are refused, and what the refusal names -/
def BadO (d : PyData) (r : V) : Prop := (isLst d = false ∧ r = .non) ∨
  ∃ ds j x, d = .list ds ∧ ds.length ≤ 1000 ∧ ds[j]? = some x ∧ obsD x = false ∧ (∀ i y, i < j → ds[i]? = some y → obsD y = true) ∧ (∀ i y, i ≤ j → ds[i]? = some y → OkD y) ∧ r = .int (j : Nat)
/-- candidates that are refused -/
def NoEff (K : PySem.W.Frag) (C : Addr) (H : Hp) (v : V) : Prop := ∃ d, DpX K H v d ∧ PySem.W.kitOne K (.type (tyD d)) (.ref C) = some false
def BadC (K : PySem.W.Frag) (C : Addr) (H : Hp) (v : V) : Prop :=
  (∃ t, TyX K H v t ∧ PySem.W.kitOne K t (.type "list") = some false) ∨
  (∃ a xs, v = .ref a ∧ SqL K H a xs ∧ (xs.length = 0 ∨ 20 < xs.length)) ∨
  (∃ a xs, v = .ref a ∧ SqL K H a xs ∧ 1 ≤ xs.length ∧ xs.length ≤ 20 ∧ (∀ y ∈ xs, (∃ e o, y = .ref e ∧ EffV K C H e o) ∨ NoEff K C H y) ∧ ∃ y ∈ xs, NoEff K C H y)
section
variable {P : Program} {w : World} {K : PySem.W.Frag} {mg : Str → Option Value} {base : Heap} {C : Addr}
theorem has_obsX (D : Def K mg "is_observation" sIsObservation) (G : Has P w K mg base "is_word" 2 ["value"] [] (spX K wordD)) (B : Blt mg) : Has P w K mg base "is_observation" 3 ["value"] [] (spX K obsD) := by
  refine has_of D scIo (fun _ _ _ _ _ _ us hl => match us, hl with | [_], _ => rfl) (fun xs H Q E h => ?_) (fun f cv A out s H xs Q E hr h => ?_)
  · obtain ⟨v, d, rfl, _⟩ := h
    rfl
  · obtain ⟨v, d, rfl, hd, ok, k⟩ := h
    refine ⟨_, pss_cons (ps_if (PW.pt (pw_or (pt_not (pt_val (pe_callB call_isi (by rfl) B.isi (by decide +kernel) (pa_cons (pv 0) (pa_cons (pe_bltn (v := .ty "tuple") (by rfl) B.tup (by decide +kernel) rfl) pa_nil)))))
        (pw_or1 (pt_cmpR op_ne (pe_callB call_len_seq (by rfl) B.len PySem.boot_len (pa_cons (pv 0) pa_nil)) pe_int (nomark _))))) (pss_one (ps_ret pe_bl)) pss_nil)
      (pss_cons (ps_asg (pv 0) (pg_tup (by rfl) (pgs_cons (pg_name (i := 1) scIo.nd rfl (.inl rfl)) (pgs_cons (pg_name (i := 2) scIo.nd rfl (.inl rfl)) pgs_nil))))
      (pss_one (ps_ret (pe_and (pe_has G hr (pa_cons (pv 1) pa_nil)) (pe_one (pe_or (pe_cmpR op_isN (pv 2) pe_non (nomark _)) (pe_one (pe_has G hr (pa_cons (pv 2) pa_nil))))))))), ?_⟩
    refine ⟨_, rfl, _, .ty "tuple", .type (tyD d), .type "tuple", isTup d, rfl, .ty _, hd.ty, kit_tup d, _, rfl, ?_⟩
    have kF : obsD d = false → ∀ {H'}, Same H H' → Q (.bl false) H' := fun e {H'} s' => by
      have := k H' s'
      rw [e] at this
      exact this
    cases hd with
    | non => exact iteT (iteT (k H (Same.refl H)))
    | bl b => exact iteT (iteT (k H (Same.refl H)))
    | int i => exact iteT (iteT (k H (Same.refl H)))
    | str z => exact iteT (iteT (k H (Same.refl H)))
    | lst _ _ => exact iteT (iteT (k H (Same.refl H)))
    | emp _ => exact iteT (iteT (k H (Same.refl H)))
    | @tup t xs ds hT ha =>
      refine iteF ?_
      obtain ⟨oks, ln⟩ := ok.tuple
      refine ⟨_, rfl, t, _, rfl, .inr hT, rfl, _, rfl, ?_⟩
      cases ha with
      | nil => exact iteT (k H (Same.refl H))
      | @cons x1 xs e1 ds h1 ha =>
      cases ha with
      | nil => exact iteT (k H (Same.refl H))
      | @cons x2 xs e2 ds h2 ha =>
      cases ha with
      | nil =>
        refine iteF ?_
        refine ⟨_, rfl, t, _, rfl, hT, rfl, _, _, rfl, _, _, rfl, rfl, ?_⟩
        have k' : ∀ H', Same H H' → Q (.bl (wordD e1 && (isNon e2 || wordD e2))) H' := k
        clear k kF
        refine ⟨_, rfl, x1, e1, rfl, h1, oks e1 (by simp), fun H1 s1 => ⟨wordD e1, rfl, ?_⟩⟩
        cases hw : wordD e1 with
        | false =>
          refine iteF ?_
          have := k' H1 s1
          rw [hw] at this
          exact this
        | true =>
          refine iteT ?_
          have k' : ∀ H', Same H H' → Q (.bl (isNon e2 || wordD e2)) H' := fun H' s' => by
            have := k' H' s'
            rw [hw] at this
            exact this
          have o2 := oks e2 (by simp)
          cases h2 with
          | non => exact ⟨_, rfl, rfl, true, rfl, iteT (k' H1 s1)⟩
          | bl b => exact ⟨_, rfl, rfl, false, rfl, iteF ⟨_, rfl, _, _, rfl, .bl b, o2, fun H' s' => k' H' (s1.trans s')⟩⟩
          | int i => exact ⟨_, rfl, rfl, false, rfl, iteF ⟨_, rfl, _, _, rfl, .int i, o2, fun H' s' => k' H' (s1.trans s')⟩⟩
          | str z => exact ⟨_, rfl, rfl, false, rfl, iteF ⟨_, rfl, _, _, rfl, .str z, o2, fun H' s' => k' H' (s1.trans s')⟩⟩
          | lst q1 q2 => exact ⟨_, rfl, rfl, false, rfl, iteF ⟨_, rfl, _, _, rfl, DpX.same s1 _ _ (.lst q1 q2), o2, fun H' s' => k' H' (s1.trans s')⟩⟩
          | tup q1 q2 => exact ⟨_, rfl, rfl, false, rfl, iteF ⟨_, rfl, _, _, rfl, DpX.same s1 _ _ (.tup q1 q2), o2, fun H' s' => k' H' (s1.trans s')⟩⟩
          | emp q1 => exact ⟨_, rfl, rfl, false, rfl, iteF ⟨_, rfl, _, _, rfl, DpX.same s1 _ _ (.emp q1), o2, fun H' s' => k' H' (s1.trans s')⟩⟩
      | @cons x3 xs e3 ds h3 ha =>
        have hne : decide (V.int (((x1 :: x2 :: x3 :: xs).length : Nat) : Int) = V.int 2) = false := decide_eq_false (by
          intro q
          have q2 := V.int.inj q
          simp only [List.length_cons] at q2
          omega)
        rw [hne]
        exact iteT (kF rfl (Same.refl H))
/-! ### check_observations, of what is refused -/
def spBadO (K : PySem.W.Frag) (CO : Addr) : Sp := fun xs H Q E => ∃ (v : V) (d : PyData) (r : V), xs = [v] ∧ DpX K H v d ∧ BadO d r ∧ badI CO H r E
theorem hasX_chkO {CO : Addr} (D : Def K mg "check_observations" sCheckObservations) (GS : Has P w K mg base "is_observation" 3 ["value"] [] (spX K obsD)) (T : XcC P w K mg base "InvalidObservation" "index" CO) (B : Blt mg) : HasX P w K mg base "check_observations" 4 ["observations"] [] (spBadO K CO) := by
  refine hasX_of D scCo (fun _ _ _ _ _ _ us hl => match us, hl with | [_], _ => rfl) (fun xs H Q E h => ?_) (fun f cv A out s H xs Q E hr h => ?_)
  · obtain ⟨v, d, r, rfl, _⟩ := h
    rfl
  · obtain ⟨v, d, r, rfl, hd, hb, k⟩ := h
    have hr2 : Room 2 _ := hr.mono (by decide)
    rcases hb with ⟨hm, rfl⟩ | ⟨ds, j, x, rfl, hl, hj, hx, hg, hn, rfl⟩
    · refine ⟨_, pss_cons (ps_if (pt_not (pt_val (pe_callB call_isi (by rfl) B.isi (by decide +kernel) (pa_cons (pv 0) (pa_cons (pe_bltn (v := .ty "list") (by rfl) B.lst (by decide +kernel) rfl) pa_nil))))) (pss_one (ps_raiseX rfl T hr2 tkX (pa_cons pe_non pa_nil))) pss_nil) pss_never, ?_⟩
      refine ⟨_, rfl, _, .ty "list", .type (tyD d), .type "list", isLst d, rfl, .ty _, hd.ty, kit_lst d, _, rfl, ?_⟩
      rw [hm]
      exact iteT (mk_red fun dd hdd => k dd _ (Same.new hdd) hdd upd_same)
    · have jl := (List.getElem?_eq_some_iff.mp hj).1
      refine ⟨_, pss_cons (ps_if (pt_not (pt_val (pe_callB call_isi (by rfl) B.isi (by decide +kernel) (pa_cons (pv 0) (pa_cons (pe_bltn (v := .ty "list") (by rfl) B.lst (by decide +kernel) rfl) pa_nil))))) (pss_one (ps_raiseX rfl T hr2 tkX (pa_cons pe_non pa_nil))) pss_nil)
        (pss_one (ps_for (passes_of rfl) rfl (pi_enum (by rfl) B.enu (pa_cons (pv 0) pa_nil)) (pg_tup (by rfl) (pgs_cons (pg_name (i := 1) scCo.nd rfl (.inl rfl)) (pgs_cons (pg_name (i := 2) scCo.nd rfl (.inl rfl)) pgs_nil)))
          (pss_one (ps_if (pt_not (pt_val (pe_has GS hr (pa_cons (pv 2) pa_nil)))) (pss_one (ps_raiseX rfl T hr2 tkX (pa_cons (pv 1) pa_nil))) pss_nil)))), ?_⟩
      refine ⟨_, rfl, _, .ty "list", .type (tyD (.list ds)), .type "list", true, rfl, .ty _, hd.ty, kit_lst (.list ds), true, rfl, iteF ?_⟩
      cases hd with
      | @lst a ys _ hS hV =>
      have ly := hV.len
      refine ⟨_, rfl, a, ys, rfl, hS, for_it (walk_enum (K := K) (a := a) (xs := ys)) (fun i σ H2 => ∃ y1 y2, σ = [some (.ref a), y1, y2] ∧ Same H H2 ∧ i ≤ j) ⟨none, none, rfl, Same.refl H, Nat.zero_le _⟩ (fun i σ H2 _ q => ?_) ?_ ?_⟩
      · obtain ⟨_, _, _, s2, _⟩ := q
        exact Same.seq s2 hS
      · rintro i x' σ H2 H3 hi ⟨y1, y2, rfl, s2, ij⟩ ⟨T', p, y, rfl, nT, rfl, hp, hy⟩
        cases Option.some.inj hp
        refine ⟨T', _, rfl, .of upd_same, rfl, _, _, rfl, _, _, rfl, rfl, ?_⟩
        have s3 : Same H (upd H2 T' (.tup [.int (i : Nat), y])) := Same.free2 s2 (s2.free nT)
        obtain ⟨e, he, hD⟩ := hV.at hy
        refine ⟨_, rfl, y, e, rfl, DpX.same s3 _ _ hD, hn i e ij he, fun H4 s4 => ⟨obsD e, rfl, ?_⟩⟩
        have s5 := s3.trans s4
        by_cases c : i = j
        · have ee : obsD e = false := by
            rw [c, hj] at he
            cases he
            exact hx
          rw [ee]
          refine iteT ⟨_, rfl, mk_red fun dd hdd => ?_⟩
          rw [c] at *
          exact k dd _ (s5.trans (Same.new hdd)) (s5.free hdd) upd_same
        · rw [hg i e (by omega) he]
          exact iteF ⟨_, _, rfl, s5, by omega⟩
      · rintro σ H2 ⟨y1, y2, rfl, s2, ij⟩
        omega
/-! ### candidates that are refused -/
def spBadC (K : PySem.W.Frag) (C : Addr) : Sp := fun vs H Q _ => ∃ v, vs = [v] ∧ BadC K C H v ∧ ∀ H', Same H H' → Q (.bl false) H'
theorem has_areX (D : Def K mg "are_candidates" sAreCandidates) (T : EC K mg C) (TI : EI K C) (B : Blt mg) (mc : ∃ t, mg "MOST_CANDIDATES" = some (.int 20 t)) : Has P w K mg base "are_candidates" 1 ["value"] [] (spBadC K C) := by
  obtain ⟨tm, hM⟩ := mc
  refine has_of D scAc (fun _ _ _ _ _ _ us hl => match us, hl with | [_], _ => rfl) (fun xs H Q E h => ?_) (fun f cv A out s H xs Q E hr h => ?_)
  · obtain ⟨v, rfl, _⟩ := h
    rfl
  · obtain ⟨v, rfl, hb, k⟩ := h
    refine ⟨_, pss_cons (ps_if (PW.pt (pw_or (pt_not (pt_val (pe_callB call_isi (by rfl) B.isi (by decide +kernel) (pa_cons (pv 0) (pa_cons (pe_bltn (v := .ty "list") (by rfl) B.lst (by decide +kernel) rfl) pa_nil)))))
        (pw_or1 (pt_not (pt_chain op_le op_le pe_int (pe_callB call_len_seq (by rfl) B.len PySem.boot_len (pa_cons (pv 0) pa_nil)) (pe_glob (v := .int 20) rfl hM ⟨_, rfl⟩)))))) (pss_one (ps_ret pe_bl)) pss_nil)
      (pss_one (ps_ret (pe_callB (cr_all rfl) (by rfl) B.all (by decide +kernel) (pa_cons
        (pe_lc (own := [("effect", 1)]) (g := gName 1) (tt := tYes) (te := tCB (rIsi K) (tCons (tVar 1) (tCons (tC (.ref C)) tNil))) rfl scAc.nd (pi_list (pv 0)) (blkOk_by (own := [("effect", 1)]) (N := ["value", "effect"]) (sc := defScope sAreCandidates) (by decide +kernel))
          (fun _ _ _ _ _ => pg_name (i := 1) scAc.nd rfl (.inl rfl)) (fun _ _ _ _ _ => pts_nil) (fun _ _ _ _ _ => pe_callB (id := "isinstance") call_isi (by rfl) B.isi (by decide +kernel) (pa_cons (pv 1) (pa_cons (pe_glob (v := .ref C) rfl T.mgE rfl) pa_nil)))) pa_nil)))), ?_⟩
    rcases hb with ⟨t, ht, hk⟩ | ⟨a, xs, rfl, hL, hl⟩ | ⟨a, xs, rfl, hL, l0, l1, hall, y, my, hy⟩
    · exact ⟨_, rfl, _, .ty "list", t, .type "list", false, rfl, .ty _, ht, hk, false, rfl, iteT (iteT (k H (Same.refl H)))⟩
    · refine ⟨_, rfl, _, .ty "list", .type "list", .type "list", true, rfl, .ty _, ty_lst hL, kit_ty (by decide +kernel), true, rfl, iteF ?_⟩
      rcases hl with hl | hl
      · refine ⟨_, rfl, a, _, rfl, .inl hL, 1, _, rfl, rfl, false, ?_, iteF ⟨false, rfl, iteT (k H (Same.refl H))⟩⟩
        exact congrArg V.bl (decide_eq_false (by omega))
      · refine ⟨_, rfl, a, _, rfl, .inl hL, 1, _, rfl, rfl, true, ?_, iteT ⟨_, 20, rfl, rfl, false, ?_, iteT (k H (Same.refl H))⟩⟩
        · exact congrArg V.bl (decide_eq_true (by omega))
        · exact congrArg V.bl (decide_eq_false (by omega))
    · refine ⟨_, rfl, _, .ty "list", .type "list", .type "list", true, rfl, .ty _, ty_lst hL, kit_ty (by decide +kernel), true, rfl, iteF ?_⟩
      refine ⟨_, rfl, a, _, rfl, .inl hL, 1, _, rfl, rfl, true, ?_, iteT ⟨_, 20, rfl, rfl, true, ?_, iteF ?_⟩⟩
      · exact congrArg V.bl (decide_eq_true (by omega))
      · exact congrArg V.bl (decide_eq_true (by omega))
      refine ⟨_, rfl, a, rfl, ⟨_, hL⟩, fun D hD => lc_list (K := K) (a := a) (xs := xs) (fun j H2 => ∃ bs : List Bool, H2 D = some (.lst (bs.map V.bl)) ∧ bs.length = j ∧ (∀ i y, i < j → xs[i]? = some y → NoEff K C H y → bs[i]? = some false) ∧ Same H H2) ⟨[], upd_same, rfl, fun i y h => (by omega), Same.new hD⟩ (fun _ _ _ ⟨_, _, _, _, q⟩ => Same.seq q hL) ?_ ?_⟩
      · rintro j x H2 hj ⟨bs, h2, lb, hbs, s2⟩
        have jl := (List.getElem?_eq_some_iff.mp hj).1
        have step : ∀ b : Bool, (NoEff K C H x → b = false) → ∃ bs' : List Bool, upd H2 D (.lst (bs.map V.bl ++ [.bl b])) D = some (.lst (bs'.map V.bl)) ∧ bs'.length = j + 1 ∧ (∀ i y, i < j + 1 → xs[i]? = some y → NoEff K C H y → bs'[i]? = some false) ∧ Same H (upd H2 D (.lst (bs.map V.bl ++ [.bl b]))) := fun b hb => by
          refine ⟨bs ++ [b], by rw [upd_same, List.map_append]; rfl, by rw [List.length_append, lb]; rfl, fun i y hi hy hn => ?_, Same.free2 s2 hD⟩
          by_cases c : i = j
          · rw [c] at hy ⊢
            rw [hj] at hy
            cases hy
            rw [List.getElem?_append_right (by omega), lb, Nat.sub_self, hb hn]
            rfl
          · rw [List.getElem?_append_left (by omega)]
            exact hbs i y (by omega) hy hn
        have lsz : (bs.map V.bl).length < sizeLine := by
          rw [List.length_map]
          exact small1000 (by omega)
        rcases hall x (List.mem_of_getElem? hj) with ⟨e, o, rfl, hE⟩ | ⟨d, hd, hk⟩
        · obtain ⟨dx, fs, hi⟩ := (hE.same s2).ins
          by_cases c : NoEff K C H (.ref e)
          · obtain ⟨d, hd, hk⟩ := c
            exact ⟨rfl, yes_in ⟨_, rfl, _, .ref C, .type (tyD d), .ref C, false, rfl, .own C, (DpX.same s2 _ _ hd).ty, hk, _, h2, lsz, step false fun _ => rfl⟩⟩
          · exact ⟨rfl, yes_in ⟨_, rfl, _, .ref C, .ref C, .ref C, true, rfl, .own C, .base (.ins hi T.cl TI.ha TI.hn TI.ht TI.hm), TI.ki, _, h2, lsz, step true fun z => absurd z c⟩⟩
        · exact ⟨rfl, yes_in ⟨_, rfl, _, .ref C, .type (tyD d), .ref C, false, rfl, .own C, (DpX.same s2 _ _ hd).ty, hk, _, h2, lsz, step false fun _ => rfl⟩⟩
      · rintro H2 ⟨bs, h2, lb, hbs, s2⟩
        refine ⟨D, _, rfl, .of h2, ?_⟩
        obtain ⟨i, hi, ei⟩ := List.mem_iff_getElem.mp my
        have q := hbs i y hi (by rw [List.getElem?_eq_getElem hi, ei]) hy
        have e : bs.all id = false := List.all_eq_false.mpr ⟨false, List.mem_of_getElem? q, by decide⟩
        rw [e]
        exact k H2 s2
def spChkB (K : PySem.W.Frag) (C CC : Addr) : Sp := fun vs H Q E => ∃ v, vs = [v] ∧ BadC K C H v ∧ bad CC H v E
theorem hasX_chkC {CC : Addr} (D : Def K mg "check_candidates" sCheckCandidates) (G : Has P w K mg base "are_candidates" 1 ["value"] [] (spBadC K C)) (T : XcC P w K mg base "InvalidCandidates" "value" CC) : HasX P w K mg base "check_candidates" 3 ["candidates"] [] (spChkB K C CC) := by
  refine hasX_of D scCc (fun _ _ _ _ _ _ us hl => match us, hl with | [_], _ => rfl) (fun xs H Q E h => ?_) (fun f cv A out s H xs Q E hr h => ?_)
  · obtain ⟨v, rfl, _⟩ := h
    rfl
  · obtain ⟨v, rfl, hb, k⟩ := h
    have hr1 : Room 1 _ := hr.mono (by decide)
    refine ⟨_, pss_one (ps_if (pt_not (pt_val (pe_has G hr1 (pa_cons (pv 0) pa_nil)))) (pss_one (ps_raiseX rfl T hr tkX (pa_cons (pv 0) pa_nil))) pss_nil), ?_⟩
    exact ⟨_, rfl, v, rfl, hb, fun H1 s1 => ⟨false, rfl, iteT ⟨_, rfl, mk_red fun dd hdd => k dd _ (s1.trans (Same.new hdd)) (s1.free hdd) upd_same⟩⟩⟩
/-- candidates that are accepted -/
def GoodC (K : PySem.W.Frag) (C : Addr) (H : Hp) (v : V) (es : List Addr) (os : List Eff) : Prop := ∃ L, v = .ref L ∧ SqL K H L (es.map V.ref) ∧ Paired (EffV K C H) es os ∧ (∀ o ∈ os, EffOk o) ∧ 1 ≤ es.length ∧ es.length ≤ 20
def spPossX (K : PySem.W.Frag) (C CC CO : Addr) : Sp := fun vs H Q E => ∃ u v, vs = [u, v] ∧ ((BadC K C H u ∧ bad CC H u E) ∨ (∃ es os d r, GoodC K C H u es os ∧ DpX K H v d ∧ BadO d r ∧ badI CO H r E))
theorem hasX_poss {CC CO : Addr} (D : Def K mg "possible" sPossible) (GX : HasX P w K mg base "check_candidates" 3 ["candidates"] [] (spChkB K C CC)) (GC : Has P w K mg base "check_candidates" 2 ["candidates"] [] (spChkC K C)) (GO : HasX P w K mg base "check_observations" 4 ["observations"] [] (spBadO K CO)) : HasX P w K mg base "possible" 5 ["candidates", "observations"] [] (spPossX K C CC CO) := by
  refine hasX_of D scPs (fun _ _ _ _ _ _ us hl => match us, hl with | [_, _], _ => rfl) (fun xs H Q E h => ?_) (fun f cv A out s H xs Q E hr h => ?_)
  · obtain ⟨u, v, rfl, _⟩ := h
    rfl
  · obtain ⟨u, v, rfl, h⟩ := h
    have hr2 : Room 2 _ := hr.mono (by decide)
    have hr3 : Room 3 _ := hr.mono (by decide)
    rcases h with ⟨hb, k⟩ | ⟨es, os, d, r, ⟨L, rfl, hL, hE, oE, l0, l1⟩, hd, hb, k⟩
    · refine ⟨_, pss_cons (ps_expr (pe_hasX GX hr3 tkX (pa_cons (pv 0) pa_nil))) pss_never, ?_⟩
      exact ⟨_, rfl, u, rfl, hb, k⟩
    · refine ⟨_, pss_cons (ps_expr (pe_has GC hr2 (pa_cons (pv 0) pa_nil))) (pss_cons (ps_expr (pe_hasX GO hr tkX (pa_cons (pv 1) pa_nil))) pss_never), ?_⟩
      exact ⟨_, rfl, L, es, os, rfl, hL, hE, l0, l1, fun H1 s1 => ⟨_, rfl, v, d, r, rfl, DpX.same s1 _ _ hd, hb, k.go s1⟩⟩
def spOutX (K : PySem.W.Frag) (C CC CW : Addr) : Sp := fun vs H Q E => ∃ u v, vs = [u, v] ∧ ((BadC K C H u ∧ bad CC H u E) ∨ (∃ es os d, GoodC K C H u es os ∧ DpX K H v d ∧ OkD d ∧ wordD d = false ∧ bad CW H v E))
theorem hasX_out {CC CW : Addr} (D : Def K mg "outcomes" sOutcomes) (GX : HasX P w K mg base "check_candidates" 3 ["candidates"] [] (spChkB K C CC)) (GC : Has P w K mg base "check_candidates" 2 ["candidates"] [] (spChkC K C)) (GO : HasX P w K mg base "check_word" 3 ["word"] [] (spCwX K CW)) : HasX P w K mg base "outcomes" 5 ["candidates", "stack"] [] (spOutX K C CC CW) := by
  refine hasX_of D scOu (fun _ _ _ _ _ _ us hl => match us, hl with | [_, _], _ => rfl) (fun xs H Q E h => ?_) (fun f cv A out s H xs Q E hr h => ?_)
  · obtain ⟨u, v, rfl, _⟩ := h
    rfl
  · obtain ⟨u, v, rfl, h⟩ := h
    have hr2 : Room 2 _ := hr.mono (by decide)
    have hr3 : Room 3 _ := hr.mono (by decide)
    rcases h with ⟨hb, k⟩ | ⟨es, os, d, ⟨L, rfl, hL, hE, oE, l0, l1⟩, hd, ok, hw, k⟩
    · refine ⟨_, pss_cons (ps_expr (pe_hasX GX hr3 tkX (pa_cons (pv 0) pa_nil))) pss_never, ?_⟩
      exact ⟨_, rfl, u, rfl, hb, k⟩
    · refine ⟨_, pss_cons (ps_expr (pe_has GC hr2 (pa_cons (pv 0) pa_nil))) (pss_cons (ps_expr (pe_hasX GO hr3 tkX (pa_cons (pv 1) pa_nil))) pss_never), ?_⟩
      exact ⟨_, rfl, L, es, os, rfl, hL, hE, l0, l1, fun H1 s1 => ⟨_, rfl, v, d, rfl, DpX.same s1 _ _ hd, ok, fun z => (by rw [hw] at z; cases z), fun _ => k.go s1⟩⟩
def spBestX (K : PySem.W.Frag) (C CC : Addr) : Sp := fun vs H Q E => ∃ u, vs = [u] ∧ BadC K C H u ∧ bad CC H u E
theorem hasX_best {CC : Addr} (D : Def K mg "best_stack" sBestStack) (GX : HasX P w K mg base "check_candidates" 3 ["candidates"] [] (spChkB K C CC)) : HasX P w K mg base "best_stack" 6 ["candidates"] [] (spBestX K C CC) := by
  refine hasX_of D scBs (fun _ _ _ _ _ _ us hl => match us, hl with | [_], _ => rfl) (fun xs H Q E h => ?_) (fun f cv A out s H xs Q E hr h => ?_)
  · obtain ⟨u, rfl, _⟩ := h
    rfl
  · obtain ⟨u, rfl, hb, k⟩ := h
    have hr3 : Room 3 _ := hr.mono (by decide)
    refine ⟨_, pss_cons (ps_expr (pe_hasX GX hr3 tkX (pa_cons (pv 0) pa_nil))) pss_never, ?_⟩
    exact ⟨_, rfl, u, rfl, hb, k⟩
end
end SE
/-! repr of a tuple that holds objects with an own __repr__, and of any value whose repr is known (RU). -/
namespace SE
open PySem PySem.Spec PyProof.Rows L2
theorem trep_depth {A : Around} {args : Args} : (A.under (.builtin "tuple.__repr__" args)).depth ≤ A.depth + 1 := by
  simp [Around.under, Code.weight, Code.isCreation, Code.isGuard, Code.isCaller, Code.frames, Code.isFrame, guardIds]
theorem Room.trep {k : Nat} {A : Around} (r : Room (k + 1) A) (args : Args) : Room k (A.under (.builtin "tuple.__repr__" args)) :=
  ⟨r.hd, by have := r.dp; have := trep_depth (A := A) (args := args); omega, by have := r.un; rw [units_under_tuple_repr]; omega⟩
theorem Env0.trep {P : Program} {w : World} {K : PySem.W.Frag} {mg : Str → Option Value} {base : Heap} {A : Around} {outer : List Env} {s : Shared} {H : Hp} (e : Env0 P w K mg base A outer s H) (args : Args) :
    Env0 P w K mg base (A.under (.builtin "tuple.__repr__" args)) outer s H := ⟨by first | exact e.frames | (simpa [Around.under, Code.envs, Code.isFrame, pushEnvs] using e.frames), e.mod, e.bs, e.bsz, e.funs, e.frf, e.hok, e.bare⟩
section
variable {X : Cx} {g : List Code} {n : Nat} {H : Hp}
theorem tup_fold {A : Around} {pins : List (Addr × Obj)} {σ : L2.St} {E : Value → Shared → Prop} (hg : A.guards = some g) (hr : Room n A) (he : EnvTo X A) : ∀ (xs : List V) (us : List Value) (ts : List Str) (acc : Array Str) (m : Nat) (s : Shared) (H' : Hp) (Q : (Array Str × Nat) → Shared → Prop), Vals xs us → xs.length = ts.length →
    (∀ (i : Nat) (v : V), xs[i]? = some v → ∃ t, ts[i]? = some t ∧ RU X g n v t H) → m + piled ts ≤ sizeLine → Same H H' → Inv X pins σ H' s → (∀ H'' s', Same H H'' → Inv X pins σ H'' s' → Q ⟨acc ++ ts.toArray, m + piled ts⟩ s') → wpAny (model X.prog X.w) A (forIn us (⟨acc, m⟩ : (Array Str × Nat)) tupBody) Q E s := by
  intro xs
  induction xs with
  | nil =>
    intro us ts acc m s H' Q r hl hT hz sm I k
    cases r
    cases ts with
    | cons t ts => simp at hl
    | nil =>
      have h0 := k H' s sm I
      simp only [List.forIn_nil]
      exact wpAny_pure (by simpa [piled] using h0)
  | cons x xs ih =>
    intro us ts acc m s H' Q r hl hT hz sm I k
    cases r with
    | cons r1 r2 =>
      cases ts with
      | nil => simp at hl
      | cons t ts =>
        obtain ⟨t', e1, ru⟩ := hT 0 x rfl
        obtain rfl : t = t' := Option.some.inj e1
        rw [piled_cons] at hz
        rw [List.forIn_cons]
        refine wpAny_bind (wpAny_bind (ru.run (b := m + 1) hg hr he sm I r1 (by omega) fun H2 s2 sm2 I2 => wpAny_pure ?_))
        refine ih _ ts (acc.push t) (m + (t.length + 2)) _ H2 Q r2 (by simpa using hl) (fun i v e => hT (i + 1) v e) (by omega) (Same.trans sm sm2) I2 fun H3 s3 sm3 I3 => ?_
        have h1 := k H3 s3 sm3 I3
        have e : m + piled (t :: ts) = m + (t.length + 2) + piled ts := by rw [piled_cons]; omega
        rw [e] at h1
        simpa using h1
/-- repr of a tuple -/
def rReprT (X : Cx) (n : Nat) : List V → Hp → VK → Prop := fun xs H Q => ∃ (a : Addr) (vs : List V) (ts : List Str), xs = [.ref a] ∧ SqT X.K H a vs ∧ vs.length = ts.length ∧ (tupleText ts).length ≤ sizeLine ∧
  (∀ (i : Nat) (y : V), vs[i]? = some y → ∃ t, ts[i]? = some t ∧ RU X [.builtin "tuple.__repr__" ⟨[.ref a], []⟩] n y t H) ∧ ∀ H', Same H H' → Q (.str (tupleText ts)) H'
theorem call_reprTup (hgu : X.A.guards = some []) (hr : Room (n + 3) X.A) : CallR X (.builtin "repr") (rReprT X n) := by
  intro pins s σ H xs us Q I r h
  obtain ⟨a, vs, ts, rfl, ha, hlen, hsz, hT, k⟩ := h
  obtain ⟨ua, rfl, ra⟩ := vals1 r
  cases ra
  obtain ⟨its, rv, ⟨o, ho, hc, m, hd⟩, _⟩ := I.tuple ha
  have hu := hr.units
  have lv := rv.length
  have hp := piled_le_tupleText ts
  refine call_repr_slot (T := "tuple") (by omega) ⟨o, ho, hc⟩ PySem.F.slot_tuple_repr ?_
  refine wpAny_call (codeAny_call_builtin_own (Code.quiet_builtin _ (by decide +kernel)) PySem.F.entry_tuple_repr (PySem.F.slot_tuple_repr.check _ _ _ _ _ _ _ _ ⟨o, ho, hc⟩ (PySem.F.args_tuple_repr_1 _) ?_))
  show wpOwn _ _ _ (Builtin.tupleReprAt 0 ⟨[.ref a], []⟩) _ _ s
  rw [tuple_repr_tree, tupleReprUnderWay_eq]
  have hg1 : X.A.in1.guards = some [] := hgu
  refine wpOwn_bind (wpOwn_stackTailAny hg1 (tupGuardF_off _) (tupGuardF_pos _) ?_)
  show wpOwn _ _ _ (tupleReprRest 0 (.ref a)) _ _ s
  refine wpOwn_of_wpAny ?_
  unfold tupleReprRest Builtin.Tuple.tupleItemsOf
  refine wpAny_bind (wpAny_bind (wpAny_seqItems ho hd (wpAny_pure ?_)))
  rw [← Array.forIn_toList]
  refine wpAny_bind (tup_fold (H := H) (n := n) (guards_under_guard (isGuard_tuple_repr _) hg1) (Room.trep (Room.in1 (hr.mono (by omega))) _) (fun s' H' e => Env0.trep e.in1 _) vs _ ts #[] 0 s H _ rv hlen hT (by omega) (fun _ _ z => z) I fun H2 s2 sm2 I2 => ?_)
  have hsz2 : ts.length = its.toArray.size := by rw [List.size_toArray]; omega
  refine wpAny_bind (wpAny_mkStr (wpAny_pure ?_) (by simpa [tupleText, hsz2] using hsz))
  refine ⟨_, _, rfl, .str _, H2, I2.tok _, ⟨_, rfl⟩, ?_⟩
  have := k H2 sm2
  simpa [tupleText, hsz2] using this
/-! ### what reprs are under way: of lists, and of tuples that begin with an object -/
def GuM (K : PySem.W.Frag) (g : List Code) (H : Hp) : Prop := ∀ id v rest kw, Code.builtin id ⟨v :: rest, kw⟩ ∈ g → ∃ L, v = .ref L ∧ ((∃ us, H L = some (.lst us)) ∨ ∃ e xs, SqT K H L (.ref e :: xs))
theorem GuM.same {K : PySem.W.Frag} {H' : Hp} (h : GuM K g H) (s : Same H H') : GuM K g H' := fun id v rest kw m => by
  obtain ⟨L, e, hL⟩ := h id v rest kw m
  refine ⟨L, e, ?_⟩
  rcases hL with ⟨us, hL⟩ | ⟨e, xs, hL⟩
  · exact .inl ⟨us, s _ _ hL⟩
  · exact .inr ⟨e, xs, Same.tup s hL⟩
theorem GuM.nil {K : PySem.W.Frag} : GuM K [] H := fun _ _ _ _ m => by cases m
theorem GuM.lst {K : PySem.W.Frag} {id : String} {L : Addr} {us : List V} {rest : List Value} {kw : List (Str × Value)} (h : GuM K g H) (hL : H L = some (.lst us)) : GuM K (.builtin id ⟨.ref L :: rest, kw⟩ :: g) H := fun id' v rest' kw' m => by
  rcases List.mem_cons.mp m with e | m
  · cases e
    exact ⟨L, rfl, .inl ⟨us, hL⟩⟩
  · exact h _ _ _ _ m
theorem GuM.tup {K : PySem.W.Frag} {id : String} {L e : Addr} {xs : List V} {rest : List Value} {kw : List (Str × Value)} (h : GuM K g H) (hL : SqT K H L (.ref e :: xs)) : GuM K (.builtin id ⟨.ref L :: rest, kw⟩ :: g) H := fun id' v rest' kw' m => by
  rcases List.mem_cons.mp m with q | m
  · cases q
    exact ⟨L, rfl, .inr ⟨e, xs, hL⟩⟩
  · exact h _ _ _ _ m
/-- {x!r}, x a tuple of texts, while the reprs g are under way -/
def tFmtM (K : PySem.W.Frag) (g : List Code) (te : TE) : TE := fun σ H Q => te σ H fun x H1 => ∃ (a : Addr) (zs : List Str), x = .ref a ∧ SqT K H1 a (zs.map V.str) ∧ GuM K g H1 ∧ (PyData.tuple (zs.map PyData.str)).shown.length ≤ sizeLine ∧ Q (.str (PyData.tuple (zs.map PyData.str)).shown) H1
theorem pe_fmtM {e : Expr} {te : TE} {pos : Pos} {g : List Code} (hgu : X.A.guards = some g) (hu : X.A.units + 64 < cLine) (he : PE X e te) : PE X (.FormattedValue e 114 none pos) (tFmtM X.K g te) := by
  constructor
  intro pins s σ H Q I h
  refine wpAny_FormattedValue_repr (thn (he.run pins s σ H _ I h) fun v s1 hv => ?_)
  obtain ⟨x, H1, I1, r1, a, zs, rfl, hT, hc, hz, q⟩ := hv
  cases r1
  obtain ⟨its, rv, ⟨o, ho, oc, n, od⟩, _⟩ := I1.tuple hT
  have hc : Clear g a := fun id v rest kw hm => by
    obtain ⟨L, rfl, hL⟩ := hc id v rest kw hm
    intro e
    cases e
    rcases hL with ⟨us, hL⟩ | ⟨e, xs, hL⟩
    · obtain ⟨_, _, _, _, _, eL⟩ := I1.lstM hL
      rw [ho] at eL
      cases eL
      simp at oc
    · obtain ⟨its2, rv2, ⟨o2, ho2, oc2, n2, od2⟩, _⟩ := I1.tuple hL
      rw [ho] at ho2
      cases ho2
      rw [od] at od2
      have ei : its = its2 := by
        have := (Data.seq.inj od2).1
        simpa using this
      subst ei
      cases rv2 with
      | cons r1 r2 =>
        cases zs with
        | nil => cases rv
        | cons z zs =>
          cases rv with
          | cons r3 r4 =>
            obtain ⟨t, rfl⟩ := r3
            cases r1
  obtain ⟨done, rfl, ed⟩ := vals_strs rv
  subst ed
  have hz' : (tupleText (PyData.shownAll ((done.map (·.1)).map PyData.str))).length ≤ sizeLine := by simpa only [PyData.shown] using hz
  have hall : ∀ z ∈ done.map (·.1), (reprText z).length ≤ sizeLine := fun z m => by
    have mm := mem_shownAll m
    exact Nat.le_trans (tupleText_mem_le mm) hz'
  refine wpAny_pyReprObj_tupleK (as := []) (d := 0) ho oc od (by simp) (repr_strs done hall) hgu (fun b hb => by rw [List.mem_singleton.mp hb]; exact hc) (by omega) (fun _ _ z => z) (fun h2 u tk keep => ?_) hz'
  have I2 := I1.kept (t' := tk) keep
  exact wpAny_formatField_str ⟨.str _, H1, I2, ⟨u, rfl⟩, q⟩ ⟨.str _, H1, I2.tok _, ⟨_, rfl⟩, q⟩ hz'
end
end SE
/-! repr of lists and tuples that hold objects with an own __repr__, also where an exception is handled. -/
namespace SE
open PySem PySem.Spec PyProof.Rows L2
structure RoomQ (X : Cx) (n : Nat) (A : Around) : Prop where
  rm : L2H.RoomH n A
  hh : A.handled = X.A.handled
theorem RoomQ.mono {X : Cx} {j k : Nat} {A : Around} (r : RoomQ X j A) (h : k ≤ j) : RoomQ X k A := ⟨r.rm.mono h, r.hh⟩
theorem RoomQ.un {X : Cx} {k : Nat} {A : Around} (r : RoomQ X k A) : A.units + 16 * k + 200 < cLine := r.rm.un
theorem RoomQ.units {X : Cx} {k : Nat} {A : Around} (r : RoomQ X k A) : A.units + 64 < cLine := by have := r.un; omega
theorem RoomQ.units0 {X : Cx} {k : Nat} {A : Around} (r : RoomQ X k A) : A.units < cLine := by have := r.un; omega
theorem RoomQ.in1 {X : Cx} {k : Nat} {A : Around} (r : RoomQ X (k + 1) A) : RoomQ X k A.in1 := ⟨⟨by have := r.rm.dp; show A.depth + 3 * k + 5 < _; omega, by have := r.un; show A.units + 1 + 16 * k + 200 < _; omega⟩, r.hh⟩
theorem RoomQ.loop {X : Cx} {k : Nat} {A : Around} (r : RoomQ X (k + 1) A) (args : Args) : RoomQ X k (A.under (.builtin "list.__repr__.loop" args)) :=
  ⟨⟨by have := r.rm.dp; have := loop_depth (A := A) (args := args); omega, by have := r.un; rw [units_under_list_loop]; omega⟩, r.hh⟩
theorem RoomQ.trep {X : Cx} {k : Nat} {A : Around} (r : RoomQ X (k + 1) A) (args : Args) : RoomQ X k (A.under (.builtin "tuple.__repr__" args)) :=
  ⟨⟨by have := r.rm.dp; have := trep_depth (A := A) (args := args); omega, by have := r.un; rw [units_under_tuple_repr]; omega⟩, r.hh⟩
theorem roomH_units {k : Nat} {A : Around} (r : L2H.RoomH k A) : A.units + 64 < cLine := by have := r.un; omega
/-- an own __repr__ may be called -/
def CallQ (X : Cx) (g : List Code) (n : Nat) (f : Addr) (fd : FuncData) (sp : Sp) : Prop := ∀ (A : Around) (pins : List (Addr × Obj)) (σ : L2.St) (H : Hp) (s : Shared) (us : List Value) (xs : List V) (Q : VK) (E : XK), A.guards = some g → RoomQ X n A → EnvTo X A → Inv X pins σ H s → BindsTo s fd ⟨us, []⟩ ([("self" : Str)].zip us) → Vals xs us → sp xs H Q E →
  codeAny (model X.prog X.w) A (.call (.ref f) ⟨us, []⟩) (CR (fun _ _ _ _ _ _ => False) X.stack X.prog X.w H s Q E) s
theorem callQ_calm {X : Cx} {g : List Code} {n : Nat} {f : Addr} {fd : FuncData} {sp : Sp} (F : GOkG X.prog X.w X.K X.mg X.base g n f fd ["self"] sp) (hd : X.A.handled = none) : CallQ X g n f fd sp := fun A pins σ H s us xs Q E hg hr he I hb hv h =>
  F.run A X.stack s H ⟨us, []⟩ us xs Q E hg ⟨hr.hh.trans hd, hr.rm.dp, hr.rm.un⟩ (he _ _ I.env0) hb hv h
structure GOkH (P : Program) (w : World) (K : PySem.W.Frag) (mg : Str → Option Value) (base : Heap) (g : List Code) (k : Nat) (f : Addr) (fd : FuncData) (ps : List Str) (sp : Sp) : Prop where
  len : ∀ xs H Q E, sp xs H Q E → xs.length = ps.length
  run : ∀ (A : Around) (out : List Env) (s : Shared) (H : Hp) (args : Args) (us : List Value) (xs : List V) (Q : VK) (E : XK) (p : Addr × Obj), A.guards = some g → L2H.RoomH k A → L2H.PinOk out H s p → Env0 P w K mg base A out s H →
    BindsTo s fd args (ps.zip us) → Vals xs us → sp xs H Q E → codeAny (model P w) A (.call (.ref f) args) (CR (fun _ _ _ _ _ _ => False) out P w H s Q E) s
theorem callQ_hot {X : Cx} {g : List Code} {n : Nat} {f : Addr} {fd : FuncData} {sp : Sp} (F : GOkH X.prog X.w X.K X.mg X.base g n f fd ["self"] sp) (hc : ∃ p, p ∈ X.pn) : CallQ X g n f fd sp := fun A pins σ H s us xs Q E hg hr he I hb hv h => by
  obtain ⟨p, hp⟩ := hc
  have P1 := I.pin p (List.mem_append_left _ hp)
  have hpin : L2H.PinOk X.stack H s p := ⟨P1.1, P1.2.1, fun hm => (List.mem_cons.mp (I.stkSub p.1 hm)).elim P1.2.2.1 P1.2.2.2.1, P1.2.2.2.2⟩
  exact F.run A X.stack s H ⟨us, []⟩ us xs Q E p hg hr.rm hpin (he _ _ I.env0) hb hv h
section
variable {P : Program} {w : World} {K : PySem.W.Frag} {mg : Str → Option Value} {base : Heap} {g : List Code}
theorem gok_ofH {k : Nat} {f : Addr} {nm ql : Str} {pars : Arguments} {bd : List Stmt} {sc : Scope} {dV kV doc pm cv ct oc : Value} {an od : Option Addr}
    {osl : Array (Option Value)} {N ps : List Str} {sp : Sp} (look : K.lookup f = some ⟨oc, od, .func (PySem.W.fnOf nm ql pars bd sc dV kV doc pm an cv ct), osl⟩) (hcode : PySem.W.codeIn K cv ql = true) (S : FnScope N ps sc)
    (len : ∀ xs H Q E, sp xs H Q E → xs.length = ps.length)
    (hbd : ∀ (A : Around) (out : List Env) (s : Shared) (H : Hp) (xs : List V) (Q : VK) (E : XK) (p : Addr × Obj), A.guards = some g → L2H.RoomH k (A.deeper (envOfC ql sc s.heap.objs.size f cv)) → sp xs H Q E →
      ∃ t, PSs (L2H.cxH (fun _ _ _ _ _ _ => False) P w K mg base N ql sc f cv A out s H E p) bd t ∧ t { nx := fun _ H2 => Q .non H2, rt := Q } (start N xs) H) :
    GOkH P w K mg base g (k + 1) f (PySem.W.fnOf nm ql pars bd sc dV kV doc pm an cv ct) ps sp := by
  constructor
  · exact len
  intro A out s H args us xs Q E p hgu hroom hpin env hbind hvals hpre
  have hlen := len _ _ _ _ hpre
  have kin : K.In s.heap := env.mod.kin.keeps fun b o z => (env.bs b o z).1
  have nolim : s.heap.NoLimit := env.mod.nolimit.keeps fun b o z => (env.bs b o z).1
  have kinds : ∀ y ∈ ps.zip us, sc.names.lookup y.1 = some .local ∨ (sc.names.lookup y.1 = some .cell ∧ ((cellsFrom (s.heap.objs.size + 1) sc.names []).lookup y.1).isSome = true) := by
    rintro ⟨n, v⟩ hy
    rcases S.par n (List.of_mem_zip hy).1 with q | q
    · exact .inl q
    · exact .inr ⟨q, PySem.W.cellsFrom_some _ _ _ (.inl q)⟩
  apply codeAny_call_function hroom.depth (kin _ _ look) rfl S.co S.gen rfl (PySem.W.codeRec_of kin hcode)
  apply hbind
  refine wpAny_newFunctionEnv_cells S.kind kinds fun ev hev s2 inc => ?_
  subst hev
  refine ⟨nolim.keeps inc.toInCall.keep, codeAny_func ?_⟩
  obtain ⟨t, der, rd⟩ := hbd A out s H xs Q E p hgu (hroom.deeper _) hpre
  have J0 : Inv (L2H.cxH (fun _ _ _ _ _ _ => False) P w K mg base N ql sc f cv A out s H E p) [] (start N xs) H s2 := L2H.inv_startH S hpin env hlen hvals inc
  refine wpAny_mono (der.run [] s2 (start N xs) H _ J0 rd) (fun fl s3 hs => ?_) fun e s3 hs => hs
  cases fl with
  | ret u =>
    obtain ⟨v, σ3, H3, J, rv, q⟩ := hs
    exact ⟨v, H3, J.os, J.bare, J.base, J.hok, rv, q⟩
  | next =>
    obtain ⟨σ3, H3, J, q⟩ := hs
    exact ⟨V.non, H3, J.os, J.bare, J.base, J.hok, rfl, q⟩
  | brk => exact hs.elim fun _ z => z.elim fun _ z => z.2.elim
  | cont => exact hs.elim fun _ z => z.elim fun _ z => z.2.elim
end
structure RUQ (X : Cx) (g : List Code) (n : Nat) (v : V) (t : Str) (H : Hp) : Prop where
  run : ∀ {A : Around} {pins : List (Addr × Obj)} {σ : L2.St} {H' : Hp} {s : Shared} {u : Value} {b : Nat} {E : Value → Shared → Prop} {Q : Str → Shared → Prop}, A.guards = some g → RoomQ X n A → EnvTo X A → Same H H' → Inv X pins σ H' s → RelV v u → b + t.length ≤ sizeLine →
    (∀ H'' s', Same H' H'' → Inv X pins σ H'' s' → Q t s') → wpAny (model X.prog X.w) A (pyReprUnder b u) Q E s
section
variable {X : Cx} {g : List Code} {n : Nat} {H : Hp}
theorem RUQ.mono {v : V} {t : Str} {m : Nat} (h : RUQ X g n v t H) (hm : n ≤ m) : RUQ X g m v t H := ⟨fun hg hr he s I r hb k => h.run hg (hr.mono hm) he s I r hb k⟩
theorem RUQ.same {v : V} {t : Str} {H1 : Hp} (h : RUQ X g n v t H) (s1 : Same H H1) : RUQ X g n v t H1 := ⟨fun hg hr he s I r hb k => h.run hg hr he (Same.trans s1 s) I r hb k⟩
/-- data without lists -/
theorem ruq_dp {v : V} {d : PyData} (hD : ∀ H', Same H H' → Dp X.K H' v d) (hs : d.showable = true) (hn : noLst d = true) (hdep : d.depth ≤ 20) (hG : GuL g H) : RUQ X g n v d.shown H := by
  constructor
  intro A pins σ H' s u b E Q hg hr he sm I r hb k
  obtain ⟨as, rd⟩ := Dp.reads I d v u (hD H' sm) r
  obtain ⟨bs, _, ht, hk⟩ := reprK_t (prog := X.prog) (w := X.w) rd hs hn (by omega)
  have un := hr.un
  refine hk b hb A g E s Q hg (fun c hc => ?_) (by omega) (fun _ _ z => z) (fun h' tk keep => k H' _ (fun _ _ z => z) (I.kept (t' := tk) keep))
  obtain ⟨o, ho, oc⟩ := ht c hc
  intro id v rest kw hm
  obtain ⟨L, us, rfl, hL⟩ := (hG.same sm) id v rest kw hm
  intro e
  cases e
  obtain ⟨_, _, _, _, _, eL⟩ := I.lstM hL
  rw [ho] at eL
  cases eL
  simp at oc
/-- an object with an own __repr__ -/
theorem ruq_own {C f e : Addr} {fd : FuncData} {sp : List Code → Sp} {t : Str} (F : CallQ X g n f fd (sp g)) (hs : PySem.W.findIn X.K (.ref C) "__repr__" = some (some (.ref f))) (hf : PySem.W.isFn X.K (.ref f) = true) (hb : Binds X.K fd ["self"] [])
    (hi : ∃ dx fs, H e = some (.ins C dx fs)) (hsp : ∀ H', Same H H' → sp g [.ref e] H' (fun v H'' => v = .str t ∧ Same H' H'') (fun _ _ _ => False)) : RUQ X g n (.ref e) t H := by
  constructor
  intro A pins σ H' s u b E Q hg hr he sm I r hb2 k
  cases r
  obtain ⟨dx, fs, hi⟩ := hi
  obtain ⟨mA, J, _⟩ := ins_get I.hok (sm _ _ hi)
  obtain ⟨od, J, _⟩ := J.look
  refine wpAny_pyReprUnder_ref (by omega) (under_own hr.units0 I.kIn J hs hf ?_)
  refine wpAny_call (codeAny_mono (F A pins σ H' s [.ref e] [.ref e] _ _ hg hr he I (by simpa using hb s [.ref e] I.kIn rfl) (.cons rfl .nil) (hsp H' sm)) fun r s2 hq => ?_)
  cases r with
  | error e => exact hq.elim
  | ok fl =>
    cases fl with
    | next => exact hq.elim
    | brk => exact hq.elim
    | cont => exact hq.elim
    | ret z =>
      obtain ⟨y, H2, I2, rz, ey, eH⟩ := I.after hq
      subst ey
      obtain ⟨tk, rfl⟩ := rz
      exact ⟨t, tk, rfl, t, tk, rfl, k H2 s2 eH I2⟩
open Builtin Builtin.List in
theorem ruq_loop {A : Around} {pins : List (Addr × Obj)} {σ : L2.St} {R : Result → Shared → Prop} {L P : Addr} {vs : List V} {ts : List Str} {base : Nat} (hg : A.guards = some g) (hr : RoomQ X (n + 1) A) (he : EnvTo X A) (hLP : L ≠ P) (hL : H L = some (.lst vs)) (hP : H P = none) (hlen : vs.length = ts.length)
    (hsz : base + (listText ts).length ≤ sizeLine) (hT : ∀ (i : Nat) (v : V), vs[i]? = some v → ∃ t, ts[i]? = some t ∧ ∀ rest, RUQ X (.builtin "list.__repr__.loop" ⟨.ref L :: rest, []⟩ :: g) n v t H)
    (hR : ∀ H' u s', Same H H' → Inv X pins σ H' s' → R (.ok (.ret (.str (listText ts) u))) s') :
    ∀ (k i : Nat) (s : Shared) (Hc : Hp), vs.length - i = k → i ≤ vs.length → Same H Hc → Hc P = some (.lst ((ts.take i).map V.str)) → Inv X pins σ Hc s →
    codeAny (model X.prog X.w) A (.builtin "list.__repr__.loop" ⟨[.ref L, rawInt i, .ref P, rawInt ((base + piled (ts.take i) : Nat) : Int)], []⟩) R s := by
  have hX : (listText ts).length = (textFrom 0 "[" ts).length + 1 := by
    show (textFrom 0 "[" ts ++ "]").length = _
    rw [strLen_append]; rfl
  have hLn := textFrom_len ts 0 "["
  have hsz1 : vs.length ≤ sizeLine := by
    have h1 := hLn.1
    rw [if_neg (Nat.lt_irrefl 0)] at h1
    omega
  have hsz2 : ∀ t ∈ ts, t.length ≤ sizeLine := fun t ht => by
    have h2 := hLn.2.1 t ht
    omega
  have hp3 := piled_le_listText ts
  have hsz3 : (listText ts).length ≤ sizeLine := by omega
  intro k
  induction k with
  | zero =>
    intro i s Hc hk hi sm hPc I
    have hin : i = vs.length := by omega
    obtain ⟨_, its, nL, rL, lL, eL⟩ := I.lstM (sm _ _ hL)
    obtain ⟨_, itp, nP, rP, lP, eP⟩ := I.lstM hPc
    obtain ⟨done, rfl, hdone⟩ := vals_strs rP
    refine codeAny_builtin PySem.F.entry_list_repr_loop ?_
    show wpAny _ _ («list.__repr__.loop» ⟨[.ref L, .int i 0, .ref P, .int ((base + piled (ts.take i) : Nat) : Int) 0], []⟩) _ _ s
    rw [repr_loop_tree]
    refine wpAny_bind (wpAny_listItems eL rfl ?_)
    have hnone : its.toArray[(i : Int).toNat]? = none := by
      simp only [Int.toNat_natCast, List.getElem?_toArray]
      exact List.getElem?_eq_none (by omega)
    simp only [hnone]
    unfold reprEnd
    refine wpAny_bind (wpAny_listItems eP rfl ?_)
    rw [show (strValues done).toArray.toList = strValues done from List.toList_toArray .., repr_fold]
    refine wpAny_bind (wpAny_pure ?_)
    have hall : done.map (·.1) = ts := by rw [hdone, hin, hlen, List.take_length]
    rw [hall]
    refine wpAny_bind (wpAny_mkStr (wpAny_pure ?_) hsz3)
    exact hR Hc _ _ sm (I.tok _)
  | succ k ih =>
    intro i s Hc hk hi sm hPc I
    have hlt : i < vs.length := by omega
    obtain ⟨_, its, nL, rL, lL, eL⟩ := I.lstM (sm _ _ hL)
    obtain ⟨t, ht, hru⟩ := hT i vs[i] (by simp [hlt])
    obtain ⟨u, hu, ru⟩ := rL.get (i := i) (x := vs[i]) (by simp [hlt])
    have hp1 := piled_take_succ ht
    have hp2 := piled_take_le ts (i + 1)
    refine codeAny_builtin PySem.F.entry_list_repr_loop ?_
    show wpAny _ _ («list.__repr__.loop» ⟨[.ref L, .int i 0, .ref P, .int ((base + piled (ts.take i) : Nat) : Int) 0], []⟩) _ _ s
    rw [repr_loop_tree]
    refine wpAny_bind (wpAny_listItems eL rfl ?_)
    have hsome : its.toArray[(i : Int).toNat]? = some u := by simpa using hu
    simp only [hsome]
    rw [Int.toNat_natCast]
    refine wpAny_bind (wpAny_holding ((hru _).run (guards_under_guard (isGuard_list_loop _) hg) (RoomQ.loop hr _) (fun s' H' e => Env0.loop (he s' H' e) _) sm I ru (by omega) fun H2 s2 sm2 I2 => ?_))
    refine wpAny_bind (wpAny_mkStr ?_ (hsz2 t (List.mem_of_getElem? ht)))
    refine wpAny_bind ?_
    show wpAny _ _ (updateSeq P _) _ _ _
    have I3 := I2.tok (s2.toks + 1)
    have hP2 := sm2 _ _ hPc
    obtain ⟨zP, itp, nP, rP, lP, eP⟩ := I3.lstM hP2
    have lt : ((ts.take i).map V.str).length ≤ i := by rw [List.length_map, List.length_take]; omega
    have hasz : itp.toArray.size ≤ sizeLine := by rw [List.size_toArray]; omega
    refine wpAny_updateSeq eP rfl (wpAny_pure ⟨PySem.F.quiet_list_repr_loop _, ?_⟩) hasz
    have e1 : ((i : Int) + 1) = ((i + 1 : Nat) : Int) := by omega
    have e2 : base + piled (ts.take i) + (t.length + 2) = base + piled (ts.take (i + 1)) := by omega
    rw [e1, e2]
    have ev : (ts.take (i + 1)).map V.str = (ts.take i).map V.str ++ [V.str t] := by
      rw [List.take_add_one, ht, List.map_append]
      rfl
    have I4 := I3.lset (its' := itp ++ [.str t s2.toks]) (f := fun x => x.push (.str t s2.toks)) (ys := (ts.take (i + 1)).map V.str) (t' := s2.toks + 1) hP2 eP (by simp) (by rw [ev]; exact rP.append (.cons ⟨_, rfl⟩ .nil)) (by rw [List.length_map, List.length_take]; omega)
    exact ih (i + 1) _ _ (by omega) hlt (Same.free2 (Same.trans sm sm2) hP) upd_same I4
open Builtin Builtin.List in
theorem listAtQ {A : Around} {pins : List (Addr × Obj)} {σ : L2.St} {R : Result → Shared → Prop} {L : Addr} {v : V} {vs : List V} {ts : List Str} {base : Nat} {s : Shared} (hg : A.guards = some g) (hr : RoomQ X (n + 1) A) (he : EnvTo X A) (hL : H L = some (.lst (v :: vs))) (hc : Clear g L) (hlen : (v :: vs).length = ts.length)
    (hsz : base + (listText ts).length ≤ sizeLine) (hT : ∀ (i : Nat) (y : V), (v :: vs)[i]? = some y → ∃ t, ts[i]? = some t ∧ ∀ rest, RUQ X (.builtin "list.__repr__.loop" ⟨.ref L :: rest, []⟩ :: g) n y t H) (I : Inv X pins σ H s)
    (hR : ∀ H' u s', Same H H' → Inv X pins σ H' s' → R (.ok (.ret (.str (listText ts) u))) s') :
    wpAny (model X.prog X.w) A.in1 (Builtin.listReprAt base ⟨[.ref L], []⟩) (fun fin s' => match fin with | .done f => R (.ok f) s' | .again c' => c'.quiet = true ∧ codeAny (model X.prog X.w) A c' R s') (fun e s' => R (.error e) s') s := by
  obtain ⟨_, its, nL, rL, lL, eL⟩ := I.lstM hL
  cases its with
  | nil => simp at lL
  | cons u us =>
    refine wpAny_list_repr_head (A := A.in1) hg (fun v rest kw hm => listSameRef_of_ne (hc _ _ _ _ hm)) eL rfl ?_
    refine wpAny_bind (m := newList []) (wpAny_newObj_type ?_)
    refine wpAny_pure ⟨PySem.F.quiet_list_repr_loop _, ?_⟩
    have hP : H s.heap.objs.size = none := I.hok.fresh (Nat.le_refl _)
    have I1 : Inv X pins σ (upd H s.heap.objs.size (.lst [])) { s with heap := s.heap.push ({ cls := .type "list", data := .seq #[] } : Obj) } := I.laid (t' := s.toks) (fun b u q => Heap.get?_push_of_some _ q) (Nat.le_refl _) ⟨Nat.zero_le _, [], 0, .nil, Heap.get?_push_size _ rfl⟩
    have hLP : L ≠ s.heap.objs.size := fun z => by rw [z, hP] at hL; cases hL
    exact ruq_loop hg hr he hLP hL hP hlen hsz hT hR _ 0 _ _ rfl (Nat.zero_le _) (Same.new hP) upd_same I1
theorem ruq_list {L : Addr} {vs : List V} {ts : List Str} (hL : H L = some (.lst vs)) (hc : Clear g L) (hlen : vs.length = ts.length)
    (hT : ∀ (i : Nat) (y : V), vs[i]? = some y → ∃ t, ts[i]? = some t ∧ ∀ rest, RUQ X (.builtin "list.__repr__.loop" ⟨.ref L :: rest, []⟩ :: g) n y t H) : RUQ X g (n + 1) (.ref L) (listText ts) H := by
  constructor
  intro A pins σ H' s u b E Q hg hr he sm I r hb k
  cases r
  have hL' := sm _ _ hL
  obtain ⟨_, its, nL, rL, lL, eL⟩ := I.lstM hL'
  cases vs with
  | nil =>
    cases ts with
    | cons t ts => simp at hlen
    | nil =>
      cases its with
      | cons u us => simp at lL
      | nil =>
        rw [listText_nil] at k
        exact wpAny_pyReprUnder_ref (by omega) (wpAny_pyReprObjUnder_list_empty ⟨_, eL, rfl⟩ hr.units0 eL rfl ⟨_, _, rfl, k H' _ (fun _ _ z => z) (I.tok _)⟩)
  | cons v vs =>
    refine wpAny_pyReprUnder_ref (by omega) (wpAny_pyReprObjUnder_twin (twin := "list.__repr__.under") ⟨_, eL, rfl⟩ PySem.F.slot_list_repr.toG rfl hr.units0 ?_)
    refine call_twin_plain PySem.F.plain_list_repr_under PySem.F.entry_list_repr_under PySem.F.check_list_repr_under ⟨_, eL, rfl⟩ PySem.F.slot_list_repr.toG (PySem.F.args_list_repr_1 _) ?_
    exact listAtQ hg hr he hL' hc hlen hb (fun i y hy => by
      obtain ⟨t, ht, q⟩ := hT i y hy
      exact ⟨t, ht, fun rest => (q rest).same sm⟩) I fun H2 u s2 sm2 I2 => ⟨⟨_, _, rfl⟩, _, _, rfl, k H2 s2 sm2 I2⟩
/-- repr of a list -/
def rReprRQ (X : Cx) (n : Nat) : List V → Hp → VK → Prop := fun xs H Q => ∃ (L : Addr) (vs : List V) (ts : List Str), xs = [.ref L] ∧ H L = some (.lst vs) ∧ vs.length = ts.length ∧ (listText ts).length ≤ sizeLine ∧
  (∀ (i : Nat) (y : V), vs[i]? = some y → ∃ t, ts[i]? = some t ∧ ∀ rest, RUQ X [.builtin "list.__repr__.loop" ⟨.ref L :: rest, []⟩] n y t H) ∧ ∀ H', Same H H' → Q (.str (listText ts)) H'
theorem call_reprRQ (hgu : X.A.guards = some []) (hr : RoomQ X (n + 3) X.A) : CallR X (.builtin "repr") (rReprRQ X n) := by
  intro pins s σ H xs us Q I r h
  obtain ⟨L, vs, ts, rfl, hL, hlen, hsz, hT, k⟩ := h
  cases r with
  | cons r1 r2 =>
    cases r2
    cases r1
    obtain ⟨_, its, nL, rL, lL, eL⟩ := I.lstM hL
    have hu := hr.units
    refine call_repr_slot (T := "list") (by omega) ⟨_, eL, rfl⟩ PySem.F.slot_list_repr.toG ?_
    cases vs with
    | nil =>
      cases ts with
      | cons t ts => simp at hlen
      | nil =>
        cases its with
        | cons u us => simp at lL
        | nil =>
          rw [listText_nil] at k
          exact call_list_repr_empty ⟨_, eL, rfl⟩ eL rfl ⟨_, _, rfl, .str "[]", H, I.tok _, ⟨_, rfl⟩, k H fun _ _ z => z⟩
    | cons v vs =>
      refine wpAny_call (codeAny_call_builtin PySem.F.slot_list_repr.plain PySem.F.entry_list_repr (PySem.F.slot_list_repr.check _ _ _ _ _ _ _ _ ⟨_, eL, rfl⟩ (PySem.F.args_list_repr_1 _) ?_))
      exact listAtQ (A := X.A.in1) (R := callEnd (fun r s₁ => ∃ x t, r = .str x t ∧ EP X pins σ Q r s₁) X.xe) (base := 0) (g := []) (n := n) hgu (RoomQ.in1 (hr.mono (by omega))) (fun s' H' e => e.in1) hL (Clear.nil _) hlen (by omega) hT I fun H2 u s2 sm2 I2 => ⟨_, _, rfl, .str (listText ts), _, I2, ⟨u, rfl⟩, k _ sm2⟩
theorem tup_foldQ {A : Around} {pins : List (Addr × Obj)} {σ : L2.St} {E : Value → Shared → Prop} (hg : A.guards = some g) (hr : RoomQ X n A) (he : EnvTo X A) : ∀ (xs : List V) (us : List Value) (ts : List Str) (acc : Array Str) (m : Nat) (s : Shared) (H' : Hp) (Q : (Array Str × Nat) → Shared → Prop), Vals xs us → xs.length = ts.length →
    (∀ (i : Nat) (v : V), xs[i]? = some v → ∃ t, ts[i]? = some t ∧ RUQ X g n v t H) → m + piled ts ≤ sizeLine → Same H H' → Inv X pins σ H' s → (∀ H'' s', Same H H'' → Inv X pins σ H'' s' → Q ⟨acc ++ ts.toArray, m + piled ts⟩ s') → wpAny (model X.prog X.w) A (forIn us (⟨acc, m⟩ : (Array Str × Nat)) tupBody) Q E s := by
  intro xs
  induction xs with
  | nil =>
    intro us ts acc m s H' Q r hl hT hz sm I k
    cases r
    cases ts with
    | cons t ts => simp at hl
    | nil =>
      have h0 := k H' s sm I
      simp only [List.forIn_nil]
      exact wpAny_pure (by simpa [piled] using h0)
  | cons x xs ih =>
    intro us ts acc m s H' Q r hl hT hz sm I k
    cases r with
    | cons r1 r2 =>
      cases ts with
      | nil => simp at hl
      | cons t ts =>
        obtain ⟨t', e1, ru⟩ := hT 0 x rfl
        obtain rfl : t = t' := Option.some.inj e1
        rw [piled_cons] at hz
        rw [List.forIn_cons]
        refine wpAny_bind (wpAny_bind (ru.run (b := m + 1) hg hr he sm I r1 (by omega) fun H2 s2 sm2 I2 => wpAny_pure ?_))
        refine ih _ ts (acc.push t) (m + (t.length + 2)) _ H2 Q r2 (by simpa using hl) (fun i v e => hT (i + 1) v e) (by omega) (Same.trans sm sm2) I2 fun H3 s3 sm3 I3 => ?_
        have h1 := k H3 s3 sm3 I3
        have e : m + piled (t :: ts) = m + (t.length + 2) + piled ts := by rw [piled_cons]; omega
        rw [e] at h1
        simpa using h1
/-- repr of a tuple -/
def rReprTQ (X : Cx) (n : Nat) : List V → Hp → VK → Prop := fun xs H Q => ∃ (a : Addr) (vs : List V) (ts : List Str), xs = [.ref a] ∧ SqT X.K H a vs ∧ vs.length = ts.length ∧ (tupleText ts).length ≤ sizeLine ∧
  (∀ (i : Nat) (y : V), vs[i]? = some y → ∃ t, ts[i]? = some t ∧ RUQ X [.builtin "tuple.__repr__" ⟨[.ref a], []⟩] n y t H) ∧ ∀ H', Same H H' → Q (.str (tupleText ts)) H'
theorem call_reprTupQ (hgu : X.A.guards = some []) (hr : RoomQ X (n + 3) X.A) : CallR X (.builtin "repr") (rReprTQ X n) := by
  intro pins s σ H xs us Q I r h
  obtain ⟨a, vs, ts, rfl, ha, hlen, hsz, hT, k⟩ := h
  obtain ⟨ua, rfl, ra⟩ := vals1 r
  cases ra
  obtain ⟨its, rv, ⟨o, ho, hc, m, hd⟩, _⟩ := I.tuple ha
  have hu := hr.units
  have lv := rv.length
  have hp := piled_le_tupleText ts
  refine call_repr_slot (T := "tuple") (by omega) ⟨o, ho, hc⟩ PySem.F.slot_tuple_repr ?_
  refine wpAny_call (codeAny_call_builtin_own (Code.quiet_builtin _ (by decide +kernel)) PySem.F.entry_tuple_repr (PySem.F.slot_tuple_repr.check _ _ _ _ _ _ _ _ ⟨o, ho, hc⟩ (PySem.F.args_tuple_repr_1 _) ?_))
  show wpOwn _ _ _ (Builtin.tupleReprAt 0 ⟨[.ref a], []⟩) _ _ s
  rw [tuple_repr_tree, tupleReprUnderWay_eq]
  have hg1 : X.A.in1.guards = some [] := hgu
  refine wpOwn_bind (wpOwn_stackTailAny hg1 (tupGuardF_off _) (tupGuardF_pos _) ?_)
  show wpOwn _ _ _ (tupleReprRest 0 (.ref a)) _ _ s
  refine wpOwn_of_wpAny ?_
  unfold tupleReprRest Builtin.Tuple.tupleItemsOf
  refine wpAny_bind (wpAny_bind (wpAny_seqItems ho hd (wpAny_pure ?_)))
  rw [← Array.forIn_toList]
  refine wpAny_bind (tup_foldQ (H := H) (n := n) (guards_under_guard (isGuard_tuple_repr _) hg1) (RoomQ.trep (RoomQ.in1 (hr.mono (by omega))) _) (fun s' H' e => Env0.trep e.in1 _) vs _ ts #[] 0 s H _ rv hlen hT (by omega) (fun _ _ z => z) I fun H2 s2 sm2 I2 => ?_)
  have hsz2 : ts.length = its.toArray.size := by rw [List.size_toArray]; omega
  refine wpAny_bind (wpAny_mkStr (wpAny_pure ?_) (by simpa [tupleText, hsz2] using hsz))
  refine ⟨_, _, rfl, .str _, H2, I2.tok _, ⟨_, rfl⟩, ?_⟩
  have := k H2 sm2
  simpa [tupleText, hsz2] using this
end
section
variable {X : Cx} {n : Nat} {C f : Addr} {fd : FuncData}
/-- repr(o), an own __repr__ -/
theorem call_reprEQ {sp : Sp} (F : CallQ X [] n f fd sp) (hs : PySem.W.findIn X.K (.ref C) "__repr__" = some (some (.ref f))) (hf : PySem.W.isFn X.K (.ref f) = true) (hb : Binds X.K fd ["self"] []) (hgu : X.A.guards = some []) (hr : RoomQ X (n + 1) X.A) :
    CallR X (.builtin "repr") (fun xs H Q => ∃ (a dx : Addr) (fs : List (Str × V)), xs = [.ref a] ∧ H a = some (.ins C dx fs) ∧ sp [.ref a] H (fun v H' => ∃ z, v = .str z ∧ Q (.str z) H') (fun _ _ _ => False)) := by
  intro pins s σ H xs us Q I r h
  obtain ⟨a, dx, fs, rfl, ha, hsp⟩ := h
  cases r with
  | cons r1 r2 =>
    cases r2
    cases r1
    obtain ⟨mA, J, _⟩ := ins_get I.hok ha
    obtain ⟨od, J, _⟩ := J.look
    obtain ⟨m, hF⟩ := I.fr
    refine PySem.W.repr_K hr.in1.units0 hF I.ok.mod.kin J hs hf ?_
    refine wpAny_call (codeAny_mono (F X.A.in1 pins σ H s [.ref a] [.ref a] _ _ hgu hr.in1 (fun _ _ e => e.in1) I (by simpa using hb s [.ref a] I.kIn rfl) (.cons rfl .nil) hsp) fun r s2 hq => ?_)
    cases r with
    | error e => exact hq.elim
    | ok fl =>
      cases fl with
      | ret z =>
        obtain ⟨y, H2, I2, rz, t, ez, q⟩ := I.after hq
        subst ez
        obtain ⟨tk, rfl⟩ := rz
        exact ⟨.str t, H2, I2, ⟨_, rfl⟩, q⟩
      | next => exact hq.elim
      | brk => exact hq.elim
      | cont => exact hq.elim
end
end SE
namespace SE
open PySem PySem.Spec PyProof.Rows L2
section
variable {P : Program} {w : World} {K : PySem.W.Frag} {mg : Str → Option Value} {base : Heap} {C : Addr}
/-! ### __repr__ while a list's repr is under way -/
def spReprM (K : PySem.W.Frag) (C : Addr) (g : List Code) : Sp := fun vs H Q _ => ∃ (e : Addr) (o : Eff), vs = [.ref e] ∧ EffV K C H e o ∧ EffOk o ∧ GuM K g H ∧ Q (.str (shownE o)) H
theorem ok_reprM {f : Addr} {fd : FuncData} {g : List Code} (F : Fun K "__repr__" "Effect.__repr__" sRepr f fd) (T : EC K mg C) : GOkG P w K mg base g 1 f fd ["self"] (spReprM K C g) := by
  obtain ⟨oc, od, kV, doc, pm, an, cv, ct, osl, rfl, look, hcode⟩ := F.ex
  refine gok_ofG look hcode scRp (fun vs H Q E h => ?_) (fun A out s H vs Q E hgu hr h => ?_)
  · obtain ⟨e, o, rfl, _⟩ := h
    rfl
  · obtain ⟨e, o, rfl, h, ok, hc, k⟩ := h
    have body : ∃ t, PSs (cxOf CX0 P w K mg base ["self"] "Effect.__repr__" (defScope sRepr) f cv A out s H E).nox (defBody sRepr) t ∧ t { nx := fun _ H2 => Q .non H2, rt := Q } (start ["self"] [.ref e]) H := by
      refine ⟨_, pss_cons (ps_if (pt_cmpR op_isN (pe_fld (pv 0) rfl) pe_non (nomark _)) (pss_one (ps_ret pe_str)) pss_nil)
        (pss_one (ps_ret (pe_joined (.cons pe_str (.cons (pe_fmtM hgu hr.units (pe_fld (pv 0) rfl)) (.cons pe_str (.cons (pe_fmtM hgu hr.units (pe_fld (pv 0) rfl)) (.cons pe_str (.cons (pe_fmtR (pe_fld (pv 0) rfl)) (.cons pe_str .nil)))))))))), ?_⟩
      cases o with
      | none =>
        obtain ⟨dx, h1⟩ := NevAt.ex h
        exact ⟨_, rfl, e, C, dx, _, _, rfl, h1, T.cl, T.nN, eF_needs _ _ _, rfl, true, rfl, iteT k⟩
      | some o =>
        obtain ⟨xs, ys, p⟩ := o
        obtain ⟨dx, u, v, h1, h2, h3⟩ := EffAt.ex h
        obtain ⟨i1, i2, l1, l2, p0, p1⟩ := ok
        have n1 := nice_tuple (nice_strs i1)
        have n2 := nice_tuple (nice_strs i2)
        have z1 := n1.shownLe
        have z2 := n2.shownLe
        rw [List.length_map] at z1 z2
        have tl : (toString p : Str).length ≤ 13 := by
          have := PyData.shown_int_le (i := p) (by omega)
          exact this
        have big : ∀ m : Nat, m ≤ 400000 → m ≤ sizeLine := fun m hm => by
          rw [sizeLine_eq]
          omega
        have w0 : (Str.empty : Str).length = 0 := by decide +kernel
        have w1 : ("Effect(" : Str).length = 7 := by decide +kernel
        have w2 : (", " : Str).length = 2 := by decide +kernel
        have w3 : (", peak=" : Str).length = 7 := by decide +kernel
        have w4 : (")" : Str).length = 1 := by decide +kernel
        have lg : p.natAbs.log2 < 1920 := PySem.Flt.log2_lt_of (by decide) (Nat.lt_of_lt_of_le (show p.natAbs < 2 ^ 17 by show _ < 131072; omega) (Nat.pow_le_pow_right (by decide) (by decide)))
        refine ⟨_, rfl, e, C, dx, _, _, rfl, h1, T.cl, T.nN, eF_needs _ _ _, rfl, false, rfl, iteF ?_⟩
        refine ⟨_, rfl, big _ ?_, _, rfl, e, C, dx, _, _, rfl, h1, T.cl, T.nN, eF_needs _ _ _, u, xs, rfl, h2, hc, big _ (by omega), _, rfl, big _ ?_, _, rfl, big _ ?_, _, rfl, e, C, dx, _, _, rfl, h1, T.cl, T.nL, eF_leaves _ _ _, v, ys, rfl, h3, hc, big _ (by omega), _, rfl, big _ ?_, _, rfl, big _ ?_, _, rfl, e, C, dx, _, _, rfl, h1, T.cl, T.nH, eF_high _ _ _, .inr ⟨p, rfl, lg, _, rfl, big _ ?_, _, rfl, big _ ?_, k⟩⟩
        all_goals (simp only [len_add, w0, w1, w2, w3, w4]; omega)
    obtain ⟨t, a, b⟩ := body
    exact ⟨t, a.nox, b⟩
theorem ok_reprH {f : Addr} {fd : FuncData} {g : List Code} (F : Fun K "__repr__" "Effect.__repr__" sRepr f fd) (T : EC K mg C) : GOkH P w K mg base g 1 f fd ["self"] (spReprM K C g) := by
  obtain ⟨oc, od, kV, doc, pm, an, cv, ct, osl, rfl, look, hcode⟩ := F.ex
  refine gok_ofH look hcode scRp (fun vs H Q E h => ?_) (fun A out s H vs Q E p0 hgu hr h => ?_)
  · obtain ⟨e, o, rfl, _⟩ := h
    rfl
  · obtain ⟨e, o, rfl, h, ok, hc, k⟩ := h
    have body : ∃ t, PSs (L2H.cxH CX0 P w K mg base ["self"] "Effect.__repr__" (defScope sRepr) f cv A out s H E p0).nox (defBody sRepr) t ∧ t { nx := fun _ H2 => Q .non H2, rt := Q } (start ["self"] [.ref e]) H := by
      refine ⟨_, pss_cons (ps_if (pt_cmpR op_isN (pe_fld (pv 0) rfl) pe_non (nomark _)) (pss_one (ps_ret pe_str)) pss_nil)
        (pss_one (ps_ret (pe_joined (.cons pe_str (.cons (pe_fmtM hgu (roomH_units hr) (pe_fld (pv 0) rfl)) (.cons pe_str (.cons (pe_fmtM hgu (roomH_units hr) (pe_fld (pv 0) rfl)) (.cons pe_str (.cons (pe_fmtR (pe_fld (pv 0) rfl)) (.cons pe_str .nil)))))))))), ?_⟩
      cases o with
      | none =>
        obtain ⟨dx, h1⟩ := NevAt.ex h
        exact ⟨_, rfl, e, C, dx, _, _, rfl, h1, T.cl, T.nN, eF_needs _ _ _, rfl, true, rfl, iteT k⟩
      | some o =>
        obtain ⟨xs, ys, p⟩ := o
        obtain ⟨dx, u, v, h1, h2, h3⟩ := EffAt.ex h
        obtain ⟨i1, i2, l1, l2, p0, p1⟩ := ok
        have n1 := nice_tuple (nice_strs i1)
        have n2 := nice_tuple (nice_strs i2)
        have z1 := n1.shownLe
        have z2 := n2.shownLe
        rw [List.length_map] at z1 z2
        have tl : (toString p : Str).length ≤ 13 := by
          have := PyData.shown_int_le (i := p) (by omega)
          exact this
        have big : ∀ m : Nat, m ≤ 400000 → m ≤ sizeLine := fun m hm => by
          rw [sizeLine_eq]
          omega
        have w0 : (Str.empty : Str).length = 0 := by decide +kernel
        have w1 : ("Effect(" : Str).length = 7 := by decide +kernel
        have w2 : (", " : Str).length = 2 := by decide +kernel
        have w3 : (", peak=" : Str).length = 7 := by decide +kernel
        have w4 : (")" : Str).length = 1 := by decide +kernel
        have lg : p.natAbs.log2 < 1920 := PySem.Flt.log2_lt_of (by decide) (Nat.lt_of_lt_of_le (show p.natAbs < 2 ^ 17 by show _ < 131072; omega) (Nat.pow_le_pow_right (by decide) (by decide)))
        refine ⟨_, rfl, e, C, dx, _, _, rfl, h1, T.cl, T.nN, eF_needs _ _ _, rfl, false, rfl, iteF ?_⟩
        refine ⟨_, rfl, big _ ?_, _, rfl, e, C, dx, _, _, rfl, h1, T.cl, T.nN, eF_needs _ _ _, u, xs, rfl, h2, hc, big _ (by omega), _, rfl, big _ ?_, _, rfl, big _ ?_, _, rfl, e, C, dx, _, _, rfl, h1, T.cl, T.nL, eF_leaves _ _ _, v, ys, rfl, h3, hc, big _ (by omega), _, rfl, big _ ?_, _, rfl, big _ ?_, _, rfl, e, C, dx, _, _, rfl, h1, T.cl, T.nH, eF_high _ _ _, .inr ⟨p, rfl, lg, _, rfl, big _ ?_, _, rfl, big _ ?_, k⟩⟩
        all_goals (simp only [len_add, w0, w1, w2, w3, w4]; omega)
    obtain ⟨t, a, b⟩ := body
    exact ⟨t, a.nox, b⟩
def ReprHasM (P : Program) (w : World) (K : PySem.W.Frag) (mg : Str → Option Value) (base : Heap) (C : Addr) : Prop := ∃ f fd, (∀ g, GOkG P w K mg base g 1 f fd ["self"] (spReprM K C g)) ∧ (∀ g, GOkH P w K mg base g 1 f fd ["self"] (spReprM K C g)) ∧ PySem.W.findIn K (.ref C) "__repr__" = some (some (.ref f)) ∧ PySem.W.isFn K (.ref f) = true ∧ Binds K fd ["self"] []
end
end SE
namespace SE
open PySem PySem.Spec PyProof.Rows L2
/-! ### what a candidate's repr is -/
theorem gok_nil {P : Program} {w : World} {K : PySem.W.Frag} {mg : Str → Option Value} {base : Heap} {k : Nat} {f : Addr} {fd : FuncData} {ps : List Str} {sp : Sp} (F : GOkG P w K mg base [] k f fd ps sp) : GOk P w K mg base k f fd ps sp := ⟨F.len, F.run⟩
theorem piled_le {B : Nat} : ∀ {ts : List Str}, (∀ t ∈ ts, t.length ≤ B) → piled ts ≤ ts.length * (B + 2)
  | [], _ => Nat.zero_le _
  | t :: ts, h => by
    have h1 := h t List.mem_cons_self
    have h2 := piled_le (ts := ts) fun x m => h x (List.mem_cons_of_mem _ m)
    rw [piled_cons, List.length_cons, Nat.succ_mul]
    omega
theorem tupleText_le {ts : List Str} {B : Nat} (h : ∀ t ∈ ts, t.length ≤ B) : (tupleText ts).length ≤ ts.length * (B + 2) + 5 := by
  have h1 := piled_le h
  have e1 : ((("(" : String) : Str)).length = 1 := rfl
  have e3 : (((if ts.length == 1 then ",)" else ")" : String) : Str)).length ≤ 2 := by split <;> decide
  unfold tupleText
  rw [len_add, len_add, e1]
  by_cases c : ts = []
  · subst c
    have : (Str.join ", " ([] : List Str)).length = 0 := rfl
    omega
  · have := join_length_add ts c
    omega
def ShD (d : PyData) : Prop := d.showable = true ∧ d.depth ≤ 20 ∧ d.shown.length ≤ sizeLine
/-- an element's repr -/
def ShE (K : PySem.W.Frag) (C : Addr) (H : Hp) (y : V) (t : Str) : Prop := (∃ e o, y = .ref e ∧ EffV K C H e o ∧ EffOk o ∧ t = shownE o) ∨ (∃ d, Dp K H y d ∧ d.showable = true ∧ noLst d = true ∧ d.depth ≤ 20 ∧ t = d.shown) ∨ (∃ a, y = .ref a ∧ H a = some (.lst []) ∧ t = listText [])
theorem ShE.same {K : PySem.W.Frag} {C : Addr} {H H' : Hp} {y : V} {t : Str} (h : ShE K C H y t) (s : Same H H') : ShE K C H' y t := by
  rcases h with ⟨e, o, e1, h1, h2, h3⟩ | ⟨d, h1, h2⟩ | ⟨a, e1, h1, h2⟩
  · exact .inl ⟨e, o, e1, h1.same s, h2, h3⟩
  · exact .inr (.inl ⟨d, dpSame s _ _ h1, h2⟩)
  · exact .inr (.inr ⟨a, e1, s _ _ h1, h2⟩)
/-- a value's repr -/
def ShC (K : PySem.W.Frag) (C : Addr) (H : Hp) (v : V) (t : Str) : Prop :=
  (∃ d, DpX K H v d ∧ ShD d ∧ t = d.shown) ∨ (∃ e o, v = .ref e ∧ EffV K C H e o ∧ EffOk o ∧ t = shownE o) ∨
  (∃ a xs ts, v = .ref a ∧ H a = some (.lst xs) ∧ Paired (ShE K C H) xs ts ∧ (listText ts).length ≤ sizeLine ∧ t = listText ts) ∨
  (∃ a e es os, v = .ref a ∧ SqT K H a ((e :: es).map V.ref) ∧ Paired (EffV K C H) (e :: es) os ∧ (∀ o ∈ os, EffOk o) ∧ os.length ≤ 20 ∧ t = tupleText (os.map shownE))
theorem ShC.same {K : PySem.W.Frag} {C : Addr} {H H' : Hp} {v : V} {t : Str} (h : ShC K C H v t) (s : Same H H') : ShC K C H' v t := by
  rcases h with ⟨d, h1, h2⟩ | ⟨e, o, e1, h1, h2, h3⟩ | ⟨a, xs, ts, e1, h1, h2, h3⟩ | ⟨a, e, es, os, e1, h1, h2, h3⟩
  · exact .inl ⟨d, DpX.same s _ _ h1, h2⟩
  · exact .inr (.inl ⟨e, o, e1, h1.same s, h2, h3⟩)
  · exact .inr (.inr (.inl ⟨a, xs, ts, e1, s _ _ h1, Paired.mapP h2 fun _ _ q => q.same s, h3⟩))
  · exact .inr (.inr (.inr ⟨a, e, es, os, e1, Same.tup s h1, effs_same h2 s, h3⟩))
def rRepC (K : PySem.W.Frag) (C : Addr) : List V → Hp → VK → Prop := fun vs H Q => ∃ v t, vs = [v] ∧ ShC K C H v t ∧ ∀ H', Same H H' → Q (.str t) H'
section
variable {X : Cx} {C : Addr}
theorem call_repCQ {f : Addr} {fd : FuncData} (F : ∀ g, CallQ X g 1 f fd (spReprM X.K C g)) (r1 : PySem.W.findIn X.K (.ref C) "__repr__" = some (some (.ref f))) (r2 : PySem.W.isFn X.K (.ref f) = true) (r3 : Binds X.K fd ["self"] []) (hgu : X.A.guards = some []) (hr : RoomQ X 5 X.A) : CallR X (.builtin "repr") (rRepC X.K C) := by
  intro pins s σ H xs us Q I r h
  obtain ⟨v, t, rfl, hv, k⟩ := h
  rcases hv with ⟨d, h1, ⟨q1, q2, q3⟩, rfl⟩ | ⟨e, o, rfl, h1, h2, rfl⟩ | ⟨a, xs, ts, rfl, h1, h2, h3, rfl⟩ | ⟨a, e, es, os, rfl, h1, h2, h3, h4, rfl⟩
  · exact call_repX hgu hr.units pins s σ H _ us Q I r ⟨v, d, rfl, h1, q1, q2, q3, k H (Same.refl H)⟩
  · obtain ⟨dx, fs, hi⟩ := h1.ins
    exact call_reprEQ (F []) r1 r2 r3 hgu (hr.mono (by decide)) pins s σ H _ us Q I r ⟨e, dx, fs, rfl, hi, e, o, rfl, h1, h2, GuM.nil, _, rfl, k H (Same.refl H)⟩
  · refine call_reprRQ (n := 2) hgu hr pins s σ H _ us Q I r ⟨a, xs, ts, rfl, h1, paired_len h2, h3, fun i y hy => ?_, k⟩
    obtain ⟨t, ht, q⟩ := paired_at h2 hy
    refine ⟨t, ht, fun rest => ?_⟩
    rcases q with ⟨e, o, rfl, hE, ok, rfl⟩ | ⟨d, hd, q1, q2, q3, rfl⟩ | ⟨b, rfl, hb, rfl⟩
    · exact (ruq_own (sp := spReprM X.K C) (F _) r1 r2 r3 hE.ins fun H' s => ⟨e, o, rfl, hE.same s, ok, (GuM.nil.lst h1).same s, rfl, Same.refl _⟩).mono (by decide)
    · exact ruq_dp (fun H' s => dpSame s _ _ hd) q1 q2 q3 (GuL.nil.cons h1)
    · have ne : a ≠ b := fun e => by
        rw [e, hb] at h1
        cases h1
        simp at hy
      exact ruq_list (n := 1) hb (Clear.cons (Clear.nil _) ne) rfl fun i y e => by simp at e
  · have lo := paired_len h2
    refine call_reprTupQ (n := 2) hgu hr pins s σ H _ us Q I r ⟨a, _, _, rfl, h1, by rw [List.length_map, List.length_map]; exact lo, ?_, fun i y hy => ?_, k⟩
    · have z := tupleText_le (B := 300000) (ts := os.map shownE) fun t m => by
        obtain ⟨o, mo, rfl⟩ := List.mem_map.mp m
        exact shownE_le (h3 o mo)
      rw [List.length_map] at z
      rw [sizeLine_eq]
      omega
    · rw [List.getElem?_map] at hy
      obtain ⟨e1, he, rfl⟩ := Option.map_eq_some_iff.mp hy
      obtain ⟨o, ho, hV⟩ := paired_at h2 he
      exact ⟨shownE o, by rw [List.getElem?_map, ho]; rfl, (ruq_own (sp := spReprM X.K C) (F _) r1 r2 r3 hV.ins fun H' s => ⟨e1, o, rfl, hV.same s, h3 o (List.mem_of_getElem? ho), (GuM.nil.tup h1).same s, rfl, Same.refl _⟩).mono (by decide)⟩
theorem call_repC (RP : ReprHasM X.prog X.w X.K X.mg X.base C) (hgu : X.A.guards = some []) (hr : Room 5 X.A) : CallR X (.builtin "repr") (rRepC X.K C) := by
  obtain ⟨f, fd, F, _, r1, r2, r3⟩ := RP
  exact call_repCQ (fun g => callQ_calm (F g) hr.hd) r1 r2 r3 hgu ⟨L2H.roomH_of hr, rfl⟩
theorem call_repCH (RP : ReprHasM X.prog X.w X.K X.mg X.base C) (hgu : X.A.guards = some []) (hr : L2H.RoomH 5 X.A) (hc : ∃ p, p ∈ X.pn) : CallR X (.builtin "repr") (rRepC X.K C) := by
  obtain ⟨f, fd, _, F, r1, r2, r3⟩ := RP
  exact call_repCQ (fun g => callQ_hot (F g) hc) r1 r2 r3 hgu ⟨hr, rfl⟩
theorem hot_suite {a : Addr} {oe : Obj} {pn : List (Addr × Obj)} : ∃ p, p ∈ (X.suite a ((a, oe) :: pn)).pn := ⟨(a, oe), List.mem_cons_self⟩
end
end SE
namespace SE
open PySem PySem.Spec PyProof.Rows L2
section
variable {P : Program} {w : World} {K : PySem.W.Frag} {mg : Str → Option Value} {base : Heap} {C CC CO CW : Addr}
/-! ### _law_told -/
abbrev nTo : List Str := ["_law_door", "_law_candidates", "_law_what", "e"]
abbrev pTo : List Str := ["_law_door", "_law_candidates", "_law_what"]
theorem scTo : FnScope nTo pTo (defScope sLawTold) := ⟨rfl, rfl, rfl, by decide +kernel, rfl, by decide +kernel, by decide +kernel⟩
def tsC (K : PySem.W.Frag) (C CC : Addr) : Addr → Value → Option Addr → TS := fun a cls d =>
  tRet (tLst (tCons (tC (.str "candidates")) (tCons (tCB (rRepC K C) (tCons (tXf a cls d CC "value" (tVar 3)) tNil)) tNil)))
def tsO (K : PySem.W.Frag) (CO : Addr) : Addr → Value → Option Addr → TS := fun a cls d =>
  tRet (tLst (tCons (tC (.str "observation")) (tCons (tXf a cls d CO "index" (tVar 3)) tNil)))
def tsW (K : PySem.W.Frag) (CW : Addr) : Addr → Value → Option Addr → TS := fun a cls d =>
  tRet (tLst (tCons (tC (.str "word")) (tCons (tCB (rRepX K) (tCons (tXf a cls d CW "value" (tVar 3)) tNil)) tNil)))
def spP2 (K : PySem.W.Frag) (C CC CO : Addr) : Sp := fun vs H Q E => spPossX K C CC CO vs H Q E ∨ spPoss K C vs H Q E
def spO2 (w : World) (K : PySem.W.Frag) (C CC CW : Addr) : Sp := fun vs H Q E => spOutX K C CC CW vs H Q E ∨ spOut w K C vs H Q E
def spB2 (K : PySem.W.Frag) (C CC : Addr) : Sp := fun vs H Q E => spBestX K C CC vs H Q E ∨ spBest K C vs H Q E
def tbTo (w : World) (K : PySem.W.Frag) (C CC CO CW : Addr) (W : WX) : TS :=
  tIfS (tTest (tOp rEq (tVar 0) (tC (.int 0)))) (tDrop (tCallS (spP2 K C CC CO) (WE W) (tCons (tVar 1) (tCons (tVar 2) tNil))))
    (tIfS (tTest (tOp rEq (tVar 0) (tC (.int 1)))) (tDrop (tCallS (spO2 w K C CC CW) (WE W) (tCons (tVar 1) (tCons (tVar 2) tNil))))
      (tDrop (tCallS (spB2 K C CC) (WE W) (tCons (tVar 1) tNil))))
structure ToX (P : Program) (w : World) (K : PySem.W.Frag) (mg : Str → Option Value) (base : Heap) (CC CO CW : Addr) : Prop where
  xc : XcC P w K mg base "InvalidCandidates" "value" CC
  xo : XcC P w K mg base "InvalidObservation" "index" CO
  xw : XcC P w K mg base "InvalidWord" "value" CW
  oc : PySem.W.exmOne K (.ref CO) (.ref CC) = some false
  wc : PySem.W.exmOne K (.ref CW) (.ref CC) = some false
  wo : PySem.W.exmOne K (.ref CW) (.ref CO) = some false
def spTo (K : PySem.W.Frag) (C : Addr) : Sp := fun vs H Q _ => ∃ (dr : Int) (u v : V), vs = [.int dr, u, v] ∧
  ((∃ t, (dr = 0 ∨ dr = 1 ∨ dr = 2) ∧ BadC K C H u ∧ ShC K C H u t ∧ ∀ l H', Same H H' → H l = none → H' l = some (.lst [.str "candidates", .str t]) → Q (.ref l) H') ∨
   (∃ es os d r, dr = 0 ∧ GoodC K C H u es os ∧ DpX K H v d ∧ BadO d r ∧ ∀ l H', Same H H' → H l = none → H' l = some (.lst [.str "observation", r]) → Q (.ref l) H') ∨
   (∃ es os d, dr = 1 ∧ GoodC K C H u es os ∧ DpX K H v d ∧ OkD d ∧ ShD d ∧ wordD d = false ∧ ∀ l H', Same H H' → H l = none → H' l = some (.lst [.str "word", .str d.shown]) → Q (.ref l) H') ∨
   (∃ es os, GoodC K C H u es os ∧ ((dr = 0 ∧ ∃ L us bs, v = .ref L ∧ SqL K H L us ∧ Paired (ObV K H) us bs ∧ (∀ b ∈ bs, ObOk b) ∧ us.length ≤ 1000) ∨ (dr = 1 ∧ ∃ (a : Addr) (zs : List Str), v = .ref a ∧ SqT K H a (zs.map V.str) ∧ (∀ z ∈ zs, Item z) ∧ zs.length ≤ 1000) ∨ dr = 2) ∧
      ∀ l H', Same H H' → H l = none → H' l = some (.lst [.str "told"]) → Q (.ref l) H'))
theorem ghas_to (D : Def K mg "_law_told" sLawTold) (RX : ToX P w K mg base CC CO CW) (RP : ReprHasM P w K mg base C)
    (GP : HasX P w K mg base "possible" 5 ["candidates", "observations"] [] (spP2 K C CC CO)) (GO : HasX P w K mg base "outcomes" 5 ["candidates", "stack"] [] (spO2 w K C CC CW)) (GB : HasX P w K mg base "best_stack" 6 ["candidates"] [] (spB2 K C CC))
    (mp : mg "repr" = none) : GHas P w K mg base "_law_told" 7 pTo (spTo K C) := by
  refine ghas_of D scTo (fun _ _ _ _ _ _ us hl => match us, hl with | [_, _, _], _ => rfl) (fun xs H Q E h => ?_) (fun f cv A out s H xs Q E hgu hr h => ?_)
  · obtain ⟨dr, u, v, rfl, _⟩ := h
    rfl
  · obtain ⟨dr, u, v, rfl, h⟩ := h
    have hr5 : Room 5 _ := hr.mono (by decide)
    refine ⟨_, pss_cons (ps_try_asL (i := 3) (tm := tbTo w K C CC CO CW) (cl := [(.ref CC, tsC K C CC), (.ref CO, tsO K CO), (.ref CW, tsW K CW)]) (out := fun _ _ _ _ => False) rfl rfl scTo.nd rfl rfl takes0
        (fun W pn xe tk _ => pss_one (ps_if (pt_cmpR op_eq (pv 0) pe_int (nomark _))
          (pss_one (ps_expr (pe_hasS GP hr5 tk (pa_cons (pv 1) (pa_cons (pv 2) pa_nil)))))
          (pss_one (ps_if (pt_cmpR op_eq (pv 0) pe_int (nomark _))
            (pss_one (ps_expr (pe_hasS GO hr5 tk (pa_cons (pv 1) (pa_cons (pv 2) pa_nil)))))
            (pss_one (ps_expr (pe_hasS GB hr tk (pa_cons (pv 1) pa_nil))))))))
        (.cons ⟨rfl, by decide, .inl RX.xc.gC⟩ (fun a oe cls d pn hz hf => pss_one (ps_ret (pe_lst (pa_cons pe_str (pa_cons (pe_callB (call_repCH RP hgu ⟨hr5.dp, hr5.un⟩ hot_suite) (by rfl) mp (by decide +kernel) (pa_cons (pe_xf RX.xc.xf RX.xc.noF hz hf (pv 3)) pa_nil)) pa_nil)))))
        (.cons ⟨rfl, by decide, .inl RX.xo.gC⟩ (fun a oe cls d pn hz hf => pss_one (ps_ret (pe_lst (pa_cons pe_str (pa_cons (pe_xf RX.xo.xf RX.xo.noF hz hf (pv 3)) pa_nil)))))
        (.cons ⟨rfl, by decide, .inl RX.xw.gC⟩ (fun a oe cls d pn hz hf => pss_one (ps_ret (pe_lst (pa_cons pe_str (pa_cons (pe_callB (call_repX hgu hr.units) (by rfl) mp (by decide +kernel) (pa_cons (pe_xf RX.xw.xf RX.xw.noF hz hf (pv 3)) pa_nil)) pa_nil))))) .nil))))
      (pss_one (ps_ret (pe_lst (pa_cons pe_str pa_nil)))), ?_⟩
    have go : ∀ (D : Ends), (∀ x H', Q x H' → D.rt x H') → (∀ σ H', Same H H' → (∀ l H2, Same H H2 → H l = none → H2 l = some (.lst [.str "told"]) → Q (.ref l) H2) → D.nx σ H') → tbTo w K C CC CO CW (wAsL K 3 (fun _ _ _ _ => False) D [(.ref CC, tsC K C CC), (.ref CO, tsO K CO), (.ref CW, tsW K CW)]) D [some (.int dr), some u, some v, none] H := by
      intro D kk nx
      have cand : ∀ {t : Str}, ShC K C H u t → (∀ l H', Same H H' → H l = none → H' l = some (.lst [.str "candidates", .str t]) → Q (.ref l) H') → bad CC H u (WE (wAsL K 3 (fun _ _ _ _ => False) D [(.ref CC, tsC K C CC), (.ref CO, tsO K CO), (.ref CW, tsW K CW)]) [some (.int dr), some u, some v, none]) := fun {t} hs r dd H2 s2 nd hx => by
        refine ⟨true, RX.xc.te, fun _ a na => ?_, fun z => Bool.noConfusion z⟩
        exact ⟨_, rfl, rfl, rfl, dd, _, u, rfl, hx, by simp [List.lookup], u, t, rfl, hs.same s2, fun H3 s3 => ⟨(by show 2 ≤ sizeLine; decide), fun l hl => kk _ _ (r l _ ((s2.trans s3).trans (Same.new hl)) ((s2.trans s3).free hl) upd_same)⟩⟩
      have obse : ∀ {r : V}, (∀ l H', Same H H' → H l = none → H' l = some (.lst [.str "observation", r]) → Q (.ref l) H') → badI CO H r (WE (wAsL K 3 (fun _ _ _ _ => False) D [(.ref CC, tsC K C CC), (.ref CO, tsO K CO), (.ref CW, tsW K CW)]) [some (.int dr), some u, some v, none]) := fun {r} q dd H2 s2 nd hx => by
        refine ⟨false, RX.oc, fun z => Bool.noConfusion z, fun _ => ⟨true, RX.xo.te, fun _ a na => ?_, fun z => Bool.noConfusion z⟩⟩
        exact ⟨_, rfl, rfl, rfl, dd, _, r, rfl, hx, by simp [List.lookup], (by show 2 ≤ sizeLine; decide), fun l hl => kk _ _ (q l _ (s2.trans (Same.new hl)) (s2.free hl) upd_same)⟩
      have word : ∀ {d : PyData}, DpX K H v d → ShD d → (∀ l H', Same H H' → H l = none → H' l = some (.lst [.str "word", .str d.shown]) → Q (.ref l) H') → bad CW H v (WE (wAsL K 3 (fun _ _ _ _ => False) D [(.ref CC, tsC K C CC), (.ref CO, tsO K CO), (.ref CW, tsW K CW)]) [some (.int dr), some u, some v, none]) := fun {d} hd sh r dd H2 s2 nd hx => by
        refine ⟨false, RX.wc, fun z => Bool.noConfusion z, fun _ => ⟨false, RX.wo, fun z => Bool.noConfusion z, fun _ => ⟨true, RX.xw.te, fun _ a na => ?_, fun z => Bool.noConfusion z⟩⟩⟩
        exact ⟨_, rfl, rfl, rfl, dd, _, v, rfl, hx, by simp [List.lookup], v, d, rfl, DpX.same s2 _ _ hd, sh.1, sh.2.1, sh.2.2, (by show 2 ≤ sizeLine; decide), fun l hl => kk _ _ (r l _ (s2.trans (Same.new hl)) (s2.free hl) upd_same)⟩
      have tr : ∀ {i j : Int}, i = j → V.bl (decide (V.int i = V.int j)) = V.bl true := fun e => congrArg V.bl (decide_eq_true (congrArg V.int e))
      have fl : ∀ {i j : Int}, i ≠ j → V.bl (decide (V.int i = V.int j)) = V.bl false := fun e => congrArg V.bl (decide_eq_false fun z => e (V.int.inj z))
      rcases h with ⟨t, hdr, hb, hs, r⟩ | ⟨es, os, d, r, rfl, hG, hd, hb, q⟩ | ⟨es, os, d, rfl, hG, hd, ok, sh, hw, q⟩ | ⟨es, os, hG, hv, q⟩
      · rcases hdr with rfl | rfl | rfl
        · exact ⟨_, rfl, rfl, true, tr rfl, iteT ⟨_, rfl, _, rfl, .inl ⟨u, v, rfl, .inl ⟨hb, cand hs r⟩⟩⟩⟩
        · exact ⟨_, rfl, rfl, false, fl (by decide), iteF ⟨_, rfl, rfl, true, tr rfl, iteT ⟨_, rfl, _, rfl, .inl ⟨u, v, rfl, .inl ⟨hb, cand hs r⟩⟩⟩⟩⟩
        · exact ⟨_, rfl, rfl, false, fl (by decide), iteF ⟨_, rfl, rfl, false, fl (by decide), iteF ⟨_, rfl, .inl ⟨u, rfl, hb, cand hs r⟩⟩⟩⟩
      · exact ⟨_, rfl, rfl, true, tr rfl, iteT ⟨_, rfl, _, rfl, .inl ⟨u, v, rfl, .inr ⟨es, os, d, r, hG, hd, hb, obse q⟩⟩⟩⟩
      · exact ⟨_, rfl, rfl, false, fl (by decide), iteF ⟨_, rfl, rfl, true, tr rfl, iteT ⟨_, rfl, _, rfl, .inl ⟨u, v, rfl, .inr ⟨es, os, d, hG, hd, ok, hw, word hd sh q⟩⟩⟩⟩⟩
      · obtain ⟨L, rfl, hL, hE, oE, l0, l1⟩ := hG
        rcases hv with ⟨rfl, L2, us, bs, rfl, hL2, hO, oB, lb⟩ | ⟨rfl, a, zs, rfl, hT, hI, lz⟩ | rfl
        · exact ⟨_, rfl, rfl, true, tr rfl, iteT ⟨_, rfl, _, rfl, .inr ⟨L, L2, es, os, us, bs, rfl, hL, hE, oE, l0, l1, hL2, hO, oB, lb, fun l H' s' _ _ => nx _ _ s' q⟩⟩⟩
        · exact ⟨_, rfl, rfl, false, fl (by decide), iteF ⟨_, rfl, rfl, true, tr rfl, iteT ⟨_, rfl, _, rfl, .inr ⟨L, a, es, os, zs, rfl, hL, hE, oE, l0, l1, hT, hI, lz, fun R ts H' s' _ _ _ => nx _ _ s' q⟩⟩⟩⟩
        · exact ⟨_, rfl, rfl, false, fl (by decide), iteF ⟨_, rfl, rfl, false, fl (by decide), iteF ⟨_, rfl, .inr ⟨L, es, os, rfl, hL, hE, oE, l0, l1, fun t b H' s' _ _ => nx _ _ s' q⟩⟩⟩⟩
    exact go _ (fun x H' q => q) (fun σ H' s' q => ⟨(by show 1 ≤ sizeLine; decide), fun l hl => q l _ (s'.trans (Same.new hl)) (s'.free hl) upd_same⟩)
end
end SE
/-! Small data with great ints; its kinds; len(set(ints)) with duplicates. -/
namespace SE
open PySem PySem.Spec PyProof.Rows L2
/-- a text of signs -/
def okA (x : Str) : Bool := x.cps.toList.all fun c => decide (c < 0x110000)
theorem okA_app {a b : Str} (ha : okA a = true) (hb : okA b = true) : okA (a ++ b) = true := by
  show ((a.cps ++ b.cps).toList.all fun c => decide (c < 0x110000)) = true
  rw [Array.toList_append, List.all_append, Bool.and_eq_true]
  exact ⟨ha, hb⟩
theorem okA_from : ∀ (ts : List Str) (k : Nat) (acc : Str), okA acc = true → (∀ t ∈ ts, okA t = true) → okA (textFrom k acc ts) = true
  | [], k, acc, h, _ => h
  | t :: r, k, acc, h, hs => by
    refine okA_from r (k + 1) _ (okA_app (okA_app h ?_) (hs t List.mem_cons_self)) fun x m => hs x (List.mem_cons_of_mem _ m)
    split <;> decide +kernel
theorem okA_list {ts : List Str} (h : ∀ t ∈ ts, okA t = true) : okA (listText ts) = true := okA_app (okA_from ts 0 "[" (by decide +kernel) h) (by decide +kernel)
theorem okA_join : ∀ (ts : List Str), (∀ t ∈ ts, okA t = true) → okA (Str.join ", " ts) = true
  | [], _ => by decide +kernel
  | [x], h => h x List.mem_cons_self
  | x :: y :: r, h => okA_app (okA_app (h x List.mem_cons_self) (by decide +kernel)) (okA_join (y :: r) fun t m => h t (List.mem_cons_of_mem _ m))
theorem okA_tuple {ts : List Str} (h : ∀ t ∈ ts, okA t = true) : okA (tupleText ts) = true := by
  refine okA_app (okA_app (by decide +kernel) (okA_join ts h)) ?_
  split <;> decide +kernel
structure SD (k B : Nat) (d : PyData) : Prop where
  dep : d.depth ≤ k
  sh : d.showable = true
  lf : d.leavesShort 45 = true
  wt : d.weight ≤ B
  so : okA d.shown = true
theorem SD.mono {k j B C : Nat} {d : PyData} (h : SD k B d) (hk : k ≤ j) (hB : B ≤ C) : SD j C d := ⟨Nat.le_trans h.dep hk, h.sh, h.lf, Nat.le_trans h.wt hB, h.so⟩
theorem sd_all {k B : Nat} : ∀ {ds : List PyData}, (∀ d ∈ ds, SD k B d) → PyData.depthAll ds ≤ k ∧ PyData.showableAll ds = true ∧ PyData.leavesShortAll 45 ds = true ∧ PyData.weightAll ds ≤ ds.length * (B + 1) ∧ ∀ t ∈ PyData.shownAll ds, okA t = true
  | [], _ => by
    refine ⟨?_, ?_, ?_, ?_, fun t m => by cases m⟩
    · simp only [PyData.depthAll]
      exact Nat.zero_le _
    · simp only [PyData.showableAll]
    · simp only [PyData.leavesShortAll]
    · simp only [PyData.weightAll]
      exact Nat.zero_le _
  | d :: ds, h => by
    obtain ⟨a2, a3, a5, a6, a7⟩ := sd_all (ds := ds) fun x hx => h x (List.mem_cons_of_mem _ hx)
    have q := h d List.mem_cons_self
    refine ⟨?_, ?_, ?_, ?_, fun t m => ?_⟩
    · simp only [PyData.depthAll]
      exact Nat.max_le.mpr ⟨q.dep, a2⟩
    · simp only [PyData.showableAll, q.sh, a3, Bool.and_self]
    · simp only [PyData.leavesShortAll, q.lf, a5, Bool.and_self]
    · simp only [PyData.weightAll, List.length_cons]
      have := q.wt
      rw [Nat.add_mul]
      omega
    · rcases List.mem_cons.mp (show t ∈ d.shown :: PyData.shownAll ds from m) with e | e
      · rw [e]; exact q.so
      · exact a7 t e
theorem sd_list {k B : Nat} {ds : List PyData} (h : ∀ d ∈ ds, SD k B d) : SD (k + 1) (ds.length * (B + 1)) (.list ds) := by
  obtain ⟨a2, a3, a5, a6, a7⟩ := sd_all h
  exact ⟨by simp only [PyData.depth]; omega, by simp only [PyData.showable]; exact a3, by simp only [PyData.leavesShort]; exact a5, by simp only [PyData.weight]; exact a6, by simp only [PyData.shown]; exact okA_list a7⟩
theorem sd_tuple {k B : Nat} {ds : List PyData} (h : ∀ d ∈ ds, SD k B d) : SD (k + 1) (ds.length * (B + 1)) (.tuple ds) := by
  obtain ⟨a2, a3, a5, a6, a7⟩ := sd_all h
  exact ⟨by simp only [PyData.depth]; omega, by simp only [PyData.showable]; exact a3, by simp only [PyData.leavesShort]; exact a5, by simp only [PyData.weight]; exact a6, by simp only [PyData.shown]; exact okA_tuple a7⟩
theorem SD.shown {k B : Nat} {d : PyData} (h : SD k B d) (hB : B ≤ 300000) : d.shown.length ≤ sizeLine := by
  have q := PyData.shown_le 45 (by decide) d h.lf
  have := h.wt
  have m : (45 + 2) * d.weight ≤ 47 * 300000 := Nat.mul_le_mul (by decide) (by omega)
  rw [sizeLine_eq]
  omega
/-! ### kinds -/
def isInt : PyData → Bool
  | .int _ | .bool _ => true
  | _ => false
def isBoo : PyData → Bool
  | .bool _ => true
  | _ => false
theorem kit_int {K : PySem.W.Frag} : ∀ d : PyData, PySem.W.kitOne K (.type (tyD d)) (.type "int") = some (isInt d)
  | .none => kit_ty (show kitB "NoneType" "int" = some false by decide +kernel)
  | .bool _ => kit_ty (show kitB "bool" "int" = some true by decide +kernel)
  | .int _ => kit_ty (show kitB "int" "int" = some true by decide +kernel)
  | .str _ => kit_ty (show kitB "str" "int" = some false by decide +kernel)
  | .list _ => kit_ty (show kitB "list" "int" = some false by decide +kernel)
  | .tuple _ => kit_ty (show kitB "tuple" "int" = some false by decide +kernel)
  | .dict _ => kit_ty (show kitB "dict" "int" = some false by decide +kernel)
theorem kit_boo {K : PySem.W.Frag} : ∀ d : PyData, PySem.W.kitOne K (.type (tyD d)) (.type "bool") = some (isBoo d)
  | .none => kit_ty (show kitB "NoneType" "bool" = some false by decide +kernel)
  | .bool _ => kit_ty (show kitB "bool" "bool" = some true by decide +kernel)
  | .int _ => kit_ty (show kitB "int" "bool" = some false by decide +kernel)
  | .str _ => kit_ty (show kitB "str" "bool" = some false by decide +kernel)
  | .list _ => kit_ty (show kitB "list" "bool" = some false by decide +kernel)
  | .tuple _ => kit_ty (show kitB "tuple" "bool" = some false by decide +kernel)
  | .dict _ => kit_ty (show kitB "dict" "bool" = some false by decide +kernel)
/-! ### len(set(xs)) of ints -/
theorem firstMet_len (f : Nat → Int) : ∀ i, (PyProof.Rows.firstMet f i).length ≤ i
  | 0 => Nat.le_refl _
  | i + 1 => by
    have ih := firstMet_len f i
    rw [PyProof.Rows.firstMet_succ]
    unfold PyProof.Rows.step_dedup
    split
    · omega
    · rw [List.length_append, List.length_singleton]
      omega
theorem firstMet_mem (f : Nat → Int) : ∀ i j, j < i → f j ∈ PyProof.Rows.firstMet f i
  | 0, j, h => absurd h (Nat.not_lt_zero _)
  | i + 1, j, h => by
    rw [PyProof.Rows.firstMet_succ]
    unfold PyProof.Rows.step_dedup
    by_cases e : j = i
    · subst e
      split
      · rename_i q
        obtain ⟨x, mx, ex⟩ := List.any_eq_true.mp q
        rw [← beq_iff_eq.mp ex]
        exact mx
      · exact List.mem_append.mpr (.inr (List.mem_singleton.mpr rfl))
    · have ih := firstMet_mem f i j (by omega)
      split
      · exact ih
      · exact List.mem_append.mpr (.inl ih)
theorem firstMet_full (f : Nat → Int) : ∀ i, (PyProof.Rows.firstMet f i).length = i → ∀ a b, a < b → b < i → f a ≠ f b
  | 0, _, _, _, _, h => absurd h (Nat.not_lt_zero _)
  | i + 1, hl, a, b, hab, hb => by
    have l1 := firstMet_len f i
    rw [PyProof.Rows.firstMet_succ] at hl
    unfold PyProof.Rows.step_dedup at hl
    by_cases q : (PyProof.Rows.firstMet f i).any (· == f i) = true
    · rw [if_pos q] at hl
      omega
    · rw [if_neg q, List.length_append, List.length_singleton] at hl
      have ih := firstMet_full f i (by omega)
      by_cases e : b = i
      · subst e
        intro z
        exact q (List.any_eq_true.mpr ⟨f a, firstMet_mem f b a hab, by rw [z]; exact beq_self_eq_true _⟩)
      · exact ih a b hab (by omega)
theorem firstMet_iff (ns : List Int) : (PyProof.Rows.firstMet (fun i => ns.getD i 0) ns.length).length = ns.length ↔ ns.Nodup := by
  constructor
  · intro h
    rw [List.nodup_iff_pairwise_ne, List.pairwise_iff_getElem]
    intro i j hi hj hij
    have q := firstMet_full _ _ h i j hij hj
    rw [List.getD_eq_getElem?_getD, List.getD_eq_getElem?_getD, List.getElem?_eq_getElem hi, List.getElem?_eq_getElem hj] at q
    exact q
  · intro h
    rw [RZ.firstMet_nodup h ns.length (Nat.le_refl _), List.take_length]
def tLenSetJ (K : PySem.W.Frag) (ta : TE) : TE := fun σ H Q => ta σ H fun x H1 => ∃ (l : Addr) (ns : List Int), x = .ref l ∧ SqL K H1 l (ns.map V.int) ∧ ns.length ≤ 4000 ∧ ∀ m : Nat, (m = ns.length ↔ ns.Nodup) → Q (.int (m : Nat)) H1
theorem pe_lenSetJ {X : Cx} {a : Expr} {ta : TE} {p p2 q pos : Pos} (hg : Gl X "len") (hm : X.mg "len" = none) (hg2 : Gl X "set") (hm2 : X.mg "set" = none) (ha : PE X a ta) (hc : X.calm = true := by rfl)
    (na : starEach [a] X.env = (false, eval a X.env) :: starEach [] X.env := by rfl) : PE X (.Call (.Name "len" p) [.Call (.Name "set" p2) [a] [] q] [] pos) (tLenSetJ X.K ta) := by
  constructor
  intro pins s σ H Q I h
  refine Call_ (ld_blt I hg hm boot_len (PyProof.Rows.callWith_builtin1 (PyProof.Rows.args_cons (Call_ (ld_blt I hg2 hm2 boot_set ?_)) rfl) rfl rfl))
  refine PyProof.Rows.callWith_type1 (PyProof.Rows.args_cons (thn (ha.run pins s σ H _ I h) fun v s1 hh => PyProof.Rows.args_nil ?_) na) na rfl
  obtain ⟨x, H1, I1, r1, l, ns, rfl, hq, hl, q1⟩ := hh
  cases r1
  obtain ⟨its, r, pl, hz⟩ := I1.list hq
  have sz : its.toArray.size = ns.length := by rw [List.size_toArray, ← r.length, List.length_map]
  refine call_set_list (I1.ok.hd hc) pl.isList (by simpa using RZ.intsAre_vals r) (by rw [sz]; unfold scanBound; omega) fun h2 tk hS keep => PyProof.Rows.args_nil ?_
  rw [sz] at hS
  have l2 := firstMet_len (fun i => ns.getD i 0) ns.length
  obtain ⟨o, es, ep, tb, ho, hx, dd, _, _, _, hf, hn⟩ := hS
  have J : Inv X pins σ H1 { s1 with heap := h2, toks := tk } := I1.kept fun b u e => keep b u (Heap.lt_size e) e
  exact call_len_set ho hx dd hf (by rw [hn]; omega) ⟨.int ((PyProof.Rows.firstMet (fun i => ns.getD i 0) ns.length).length : Nat), H1, J.tok _, ⟨_, by rw [hn]⟩, q1 _ (firstMet_iff ns)⟩
end SE
/-! own ==, != with whatever stands beside on the right. -/
namespace SE
open PySem PySem.Spec PyProof.Rows L2
section
variable {prog : Program} {w : World} {A : Around} {E : Value → Shared → Prop} {s : Shared} {K : PySem.W.Frag} {x C f : Addr} {ox : Obj} {od : Option Obj} {b tb : Value} {Q : Value → Shared → Prop}
theorem ne_any (hu : A.units + 1 < cLine) (X : K.In s.heap) (I : PySem.W.InstAt s.heap x ox C od) (hb : PySem.W.Looks (model prog w) s.heap (typeOf b) tb) (hnf : PySem.W.notFirst K C tb = true) (hm : PySem.W.mroIn K C (.type "object") = some true)
    (hn : PySem.W.findIn K (.ref C) "__ne__" = some (some (.builtin "object.__ne__"))) (hs : PySem.W.findIn K (.ref C) "__eq__" = some (some (.ref f))) (hf : PySem.W.isFn K (.ref f) = true)
    (h : wpAny (model prog w) A.in1 (call (.ref f) [.ref x, b]) (fun r s2 => ∃ b, r = .bool b ∧ Q (.bool (!b)) s2) E s) : wpAny (model prog w) A (richCompare .NotEq (.ref x) b) Q E s := by
  have one : wpAny (model prog w) A (tryCompare (.ref x) (cmpInfo .NotEq).2.1 b) (fun r s2 => ∃ v, r = some v ∧ Q v s2) E s := by
    unfold tryCompare
    refine wpAny_bind (bound_slot X I hn PySem.F.cmp_object.ne.bind (ne_call hu X I hm hs hf (wpAny_mono h (fun v s2 z => ?_) fun _ _ z => z)))
    obtain ⟨b, rfl, q⟩ := z
    exact ⟨b, rfl, wpAny_pure ⟨_, rfl, q⟩⟩
  unfold richCompare
  simp only [oneThing_ref]
  refine wpAny_holding (wpAny_bind (wpAny_cRoomFor (Nat.lt_of_succ_lt hu) (wpAny_bind (I.type.here (wpAny_bind (hb.here ?_))))))
  have fin : wpAny (model prog w) A (tryCompare (.ref x) (cmpInfo .NotEq).2.1 b) (fun r s2 => ∃ v, r = some v ∧ Q v s2) E s := one
  split
  · rename_i q
    have e : PySem.W.subIn K tb (.ref C) = some false := by
      rcases Bool.or_eq_true_iff.mp hnf with e | e
      · rw [beq_iff_eq.mp e] at q; simp at q
      · exact beq_iff_eq.mp e
    refine wpAny_bind ((PySem.W.looks_subIn X e).here ?_)
    simp only [Bool.false_eq_true, if_false]
    refine wpAny_bind (wpAny_mono one (fun r s' z => ?_) fun _ _ e => e)
    obtain ⟨v, rfl, hq⟩ := z
    exact wpAny_pure hq
  · refine wpAny_bind (wpAny_pure ?_)
    simp only [Bool.false_eq_true, if_false]
    refine wpAny_bind (wpAny_mono one (fun r s' z => ?_) fun _ _ e => e)
    obtain ⟨v, rfl, hq⟩ := z
    exact wpAny_pure hq
end
/-- what an own == promises of any value beside it -/
def spEqW (R : Addr → V → Bool → Hp → Prop) : Sp := fun vs H Q _ => ∃ (a : Addr) (y : V) (c : Bool), vs = [.ref a, y] ∧ R a y c H ∧ ∀ H', Same H H' → Q (.bl c) H'
def rCmpW (K : PySem.W.Frag) (C : Addr) (R : Addr → V → Bool → Hp → Prop) (neg : Bool) : R2 := fun x y H Q => ∃ (a : Addr) (c : Bool) (dx : Addr) (fs : List (Str × V)) (t : Value), x = .ref a ∧ H a = some (.ins C dx fs) ∧ TyX K H y t ∧ PySem.W.notFirst K C t = true ∧ R a y c H ∧ ∀ H', Same H H' → Q (.bl (c != neg)) H'
section
variable {X : Cx} {n : Nat} {C f : Addr} {fd : FuncData} {ps : List Str} {R : Addr → V → Bool → Hp → Prop}
theorem op_eqW (F : FnOk X.prog X.w X.K X.mg X.base CX0 n f fd ps (spEqW R)) (hs : PySem.W.findIn X.K (.ref C) "__eq__" = some (some (.ref f))) (hf : PySem.W.isFn X.K (.ref f) = true) (hb : Binds X.K fd ps []) (hr : Room n X.A) : OpR X (compareOp .Eq) (rCmpW X.K C R false) := by
  intro pins s σ H x y u v Q I rx ry hq
  obtain ⟨a, c, dx, fs, t, rfl, ha, ty, nf, hR, k⟩ := hq
  cases rx
  obtain ⟨P, Z, p, _⟩ := kit_of I ry ty
  obtain ⟨mA, J, _⟩ := ins_get I.hok ha
  obtain ⟨od, J, _⟩ := J.look
  obtain ⟨m, hF⟩ := I.fr
  show wpAny (model X.prog X.w) X.A (richCompare .Eq (.ref a) v) (EP X pins σ Q) X.xe s
  refine PySem.W.cmp_K (op := .Eq) (tb := t) hr.units0 hF I.ok.mod.kin J (Z.ty _ _ I.kIn p) nf hs hf ?_
  have hsp : spEqW R [.ref a, y] H (fun z H' => z = .bl c ∧ Same H H') (fun _ _ _ => False) := ⟨a, y, c, rfl, hR, fun H' e => ⟨rfl, e⟩⟩
  have hl := F.len _ _ _ _ hsp
  refine wpAny_call (codeAny_mono (F.run X.A X.stack s H ⟨[.ref a, v], []⟩ [.ref a, v] [.ref a, y] _ _ hr I.env0 (by simpa using hb s [.ref a, v] I.kIn (by simpa using hl)) (.cons rfl (.cons ry .nil)) hsp) fun r s2 hq => ?_)
  cases r with
  | error e => exact hq.elim
  | ok fl =>
    cases fl with
    | ret z =>
      obtain ⟨y, H2, I2, rz, ez, ex⟩ := I.after hq
      subst ez
      cases rz
      refine ⟨.bl c, H2, I2, rfl, ?_⟩
      have q := k H2 ex
      rw [show (c != false) = c by cases c <;> rfl] at q
      exact q
    | next => exact hq.elim
    | brk => exact hq.elim
    | cont => exact hq.elim
theorem op_neW (F : FnOk X.prog X.w X.K X.mg X.base CX0 n f fd ps (spEqW R)) (hs : PySem.W.findIn X.K (.ref C) "__eq__" = some (some (.ref f))) (hf : PySem.W.isFn X.K (.ref f) = true) (hb : Binds X.K fd ps []) (hm : PySem.W.mroIn X.K C (.type "object") = some true)
    (hn : PySem.W.findIn X.K (.ref C) "__ne__" = some (some (.builtin "object.__ne__"))) (hr : Room (n + 1) X.A) : OpR X (compareOp .NotEq) (rCmpW X.K C R true) := by
  intro pins s σ H x y u v Q I rx ry hq
  obtain ⟨a, c, dx, fs, t, rfl, ha, ty, nf, hR, k⟩ := hq
  cases rx
  obtain ⟨P, Z, p, _⟩ := kit_of I ry ty
  obtain ⟨mA, J, _⟩ := ins_get I.hok ha
  obtain ⟨od, J, _⟩ := J.look
  show wpAny (model X.prog X.w) X.A (richCompare .NotEq (.ref a) v) (EP X pins σ Q) X.xe s
  refine ne_any (tb := t) (by have := hr.in1.units0; exact this) I.kIn J (Z.ty _ _ I.kIn p) nf hm hn hs hf ?_
  have hsp : spEqW R [.ref a, y] H (fun z H' => z = .bl c ∧ Same H H') (fun _ _ _ => False) := ⟨a, y, c, rfl, hR, fun H' e => ⟨rfl, e⟩⟩
  have hl := F.len _ _ _ _ hsp
  refine wpAny_call (codeAny_mono (F.run X.A.in1 X.stack s H ⟨[.ref a, v], []⟩ [.ref a, v] [.ref a, y] _ _ hr.in1 I.env0.in1 (by simpa using hb s [.ref a, v] I.kIn (by simpa using hl)) (.cons rfl (.cons ry .nil)) hsp) fun r s2 hq => ?_)
  cases r with
  | error e => exact hq.elim
  | ok fl =>
    cases fl with
    | ret z =>
      obtain ⟨y, H2, I2, rz, ez, ex⟩ := I.after hq
      subst ez
      cases rz
      refine ⟨c, rfl, .bl (!c), H2, I2, rfl, ?_⟩
      have q := k H2 ex
      rw [show (c != true) = !c by cases c <;> rfl] at q
      exact q
    | next => exact hq.elim
    | brk => exact hq.elim
    | cont => exact hq.elim
end
/-- a built-in type that is no own class -/
theorem sub_ty {K : PySem.W.Frag} {C : Addr} {T : String} {l : List Value} (h : PySem.W.subIn K (.type T) (.ref C) = some false) : PySem.W.notFirst K C (.type T) = true := by
  unfold PySem.W.notFirst
  rw [h]
  simp
theorem kit_ty0 {K : PySem.W.Frag} {C : Addr} {T : String} (h : PySem.W.subIn K (.type T) (.ref C) = some false) (h2 : PySem.W.typeIn K (.ref C) = some (.type "type")) (h3 : PySem.W.hasDictIn K C = true) : PySem.W.kitOne K (.type T) (.ref C) = some false := by
  obtain ⟨cd, hc, _⟩ := PySem.W.any_some h3
  unfold PySem.W.kitOne
  rw [if_neg (by simp)]
  show (if ((PySem.W.clsIn K C).isSome && PySem.W.typeIn K (.ref C) == some (.type "type")) = true then PySem.W.subIn K (.type T) (.ref C) else none) = some false
  rw [if_pos (by rw [hc, h2]; rfl)]
  exact h
theorem sub_of {K : PySem.W.Frag} {C : Addr} {T : String} {l : List Value} (h : fastBuiltinMro T = some l) (h2 : ∀ v ∈ l, ∃ T', v = .type T') : PySem.W.subIn K (.type T) (.ref C) = some false := by
  show (fastBuiltinMro T).map (·.contains (.ref C)) = some false
  rw [h]
  simp only [Option.map_some, Option.some.injEq]
  rw [Bool.eq_false_iff]
  intro q
  obtain ⟨T', e⟩ := h2 _ (List.contains_iff_mem.mp q)
  cases e
end SE
namespace SE
open PySem PySem.Spec PyProof.Rows L2
/-! ### the reprs are of characters -/
theorem rc_low {c : Nat} (h : 97 ≤ c ∧ c ≤ 122) : Builtin.Str.reprChar 39 c = [c] := by
  have q : ∀ m : Fin 26, Builtin.Str.reprChar 39 (97 + m.1) = [97 + m.1] := by decide +kernel
  have := q ⟨c - 97, by omega⟩
  rwa [show 97 + (c - 97) = c by omega] at this
theorem rep_low {z : Str} (h : ∀ c ∈ z.cps.toList, 97 ≤ c ∧ c ≤ 122) : (reprText z).cps.toList = 39 :: (z.cps.toList ++ [39]) := by
  have q : reprQuote z = 39 := by
    unfold reprQuote
    have n : z.cps.contains 39 = false := by
      rw [Bool.eq_false_iff]
      intro m
      have := h 39 (Array.mem_toList_iff.mpr (Array.contains_iff_mem.mp m))
      omega
    rw [n]
    rfl
  unfold reprText
  rw [q]
  have go : ∀ (l : List Nat) (acc : Array Nat), (∀ c ∈ l, 97 ≤ c ∧ c ≤ 122) → (l.foldl (fun out c => out ++ (Builtin.Str.reprChar 39 c).toArray) acc).toList = acc.toList ++ l := fun l => by
    induction l with
    | nil => intro acc _; simp
    | cons c r ih =>
      intro acc hl
      rw [List.foldl_cons, ih _ (fun d hd => hl d (List.mem_cons_of_mem _ hd)), rc_low (hl c List.mem_cons_self)]
      simp
  show ((z.cps.foldl (fun out c => out ++ (Builtin.Str.reprChar 39 c).toArray) #[39]).push 39).toList = _
  rw [Array.toList_push, ← Array.foldl_toList, go _ _ h]
  rfl
theorem okA_rep {z : Str} (h : Item z) : okA (reprText z) = true := by
  unfold okA
  rw [rep_low h.low, List.all_eq_true]
  intro c m
  refine decide_eq_true ?_
  simp only [List.mem_cons, List.mem_append, List.not_mem_nil, or_false] at m
  rcases m with rfl | m | rfl
  · decide
  · have := h.low c m
    omega
  · decide
theorem okA_word {zs : List Str} (h : ∀ z ∈ zs, Item z) : okA (PyData.tuple (zs.map .str)).shown = true := by
  simp only [PyData.shown]
  refine okA_tuple fun t m => ?_
  have e : PyData.shownAll (zs.map PyData.str) = zs.map reprText := by
    clear h m
    induction zs with
    | nil => simp [PyData.shownAll]
    | cons z zs ih => simp [PyData.shownAll, PyData.shown, ih]
  rw [e] at m
  obtain ⟨z, mz, rfl⟩ := List.mem_map.mp m
  exact okA_rep (h z mz)
/-- a small effect -/
def EffS (o : Eff) : Prop := EffOk o ∧ ∀ xs ys p, o = some (xs, ys, p) → p ≤ 100
theorem okA_shownE {o : Eff} (h : EffS o) : okA (shownE o) = true := by
  cases o with
  | none => decide +kernel
  | some B =>
    obtain ⟨xs, ys, p⟩ := B
    obtain ⟨⟨i1, i2, _, _, p0, _⟩, hp⟩ := h
    have hp := hp xs ys p rfl
    have q : ∀ m : Fin 101, okA (toString ((m.1 : Nat) : Int) : Str) = true := by decide +kernel
    have tp : okA (toString p : Str) = true := by
      have := q ⟨p.toNat, by omega⟩
      rwa [show ((p.toNat : Nat) : Int) = p by omega] at this
    exact okA_app (okA_app (okA_app (okA_app (okA_app (okA_app (okA_app (by decide +kernel) (by decide +kernel)) (okA_word i1)) (by decide +kernel)) (okA_word i2)) (by decide +kernel)) tp) (by decide +kernel)
theorem oks_lay {x : Str} (h : okA x = true) : PyData.strOk x = true := by
  unfold PyData.strOk
  rw [← Array.all_toList]
  exact h
theorem shp_two {n x : Str} (hn : okA n = true) (h : okA x = true) : SeqAt.shaped (.list [.str n, .str x]) = true := by
  have h1 := oks_lay hn
  have h2 := oks_lay h
  simp [SeqAt.shaped, PyData.canLay0, PyData.canLayAll0, PyData.depth, PyData.depthAll, h1, h2]
/-- two lists of the same two texts -/
theorem ne_two {K : PySem.W.Frag} {H : Hp} {l1 l2 : Addr} {n x : Str} {Q : VK} (hn : okA n = true) (h : okA x = true) (h1 : H l1 = some (.lst [.str n, .str x])) (h2 : H l2 = some (.lst [.str n, .str x])) (q : Q (.bl false) H) : rNeD K (.ref l1) (.ref l2) H Q := by
  have s := shp_two hn h
  refine ⟨_, _, .lst (.of h1) (.cons (.str _) (.cons (.str _) .nil)), .lst (.of h2) (.cons (.str _) (.cons (.str _) .nil)), s, s, ?_⟩
  rw [SeqAt.eqv_refl _ (SeqAt.canLay_of_shaped s)]
  exact q
/-! ### candidates that are refused, wherever the heap goes -/
def BadS (K : PySem.W.Frag) (C : Addr) (H : Hp) (v : V) : Prop :=
  (∃ d, DpX K H v d ∧ isLst d = false) ∨ (∃ e o, v = .ref e ∧ EffV K C H e o) ∨ (∃ a xs, v = .ref a ∧ SqT K H a xs) ∨
  (∃ a xs, v = .ref a ∧ SqL K H a xs ∧ (xs.length = 0 ∨ 20 < xs.length)) ∨
  (∃ a xs, v = .ref a ∧ SqL K H a xs ∧ 1 ≤ xs.length ∧ xs.length ≤ 20 ∧ (∀ y ∈ xs, (∃ e o, y = .ref e ∧ EffV K C H e o) ∨ (∃ d, DpX K H y d)) ∧ ∃ y ∈ xs, ∃ d, DpX K H y d)
theorem BadS.same {K : PySem.W.Frag} {C : Addr} {H H' : Hp} {v : V} (h : BadS K C H v) (s : Same H H') : BadS K C H' v := by
  rcases h with ⟨d, h1, h2⟩ | ⟨e, o, h1, h2⟩ | ⟨a, xs, h1, h2⟩ | ⟨a, xs, h1, h2, h3⟩ | ⟨a, xs, h1, h2, h3, h4, h5, y, my, d, hd⟩
  · exact .inl ⟨d, DpX.same s _ _ h1, h2⟩
  · exact .inr (.inl ⟨e, o, h1, h2.same s⟩)
  · exact .inr (.inr (.inl ⟨a, xs, h1, Same.tup s h2⟩))
  · exact .inr (.inr (.inr (.inl ⟨a, xs, h1, Same.seq s h2, h3⟩)))
  · refine .inr (.inr (.inr (.inr ⟨a, xs, h1, Same.seq s h2, h3, h4, fun z m => ?_, y, my, d, DpX.same s _ _ hd⟩)))
    rcases h5 z m with ⟨e, o, e1, h6⟩ | ⟨d, h6⟩
    · exact .inl ⟨e, o, e1, h6.same s⟩
    · exact .inr ⟨d, DpX.same s _ _ h6⟩
theorem BadS.bad {K : PySem.W.Frag} {mg : Str → Option Value} {C : Addr} {H : Hp} {v : V} (T : EC K mg C) (TI : EI K C) (kL : PySem.W.kitOne K (.ref C) (.type "list") = some false) (kC : ∀ d : PyData, PySem.W.kitOne K (.type (tyD d)) (.ref C) = some false) (h : BadS K C H v) : BadC K C H v := by
  rcases h with ⟨d, h1, h2⟩ | ⟨e, o, rfl, h2⟩ | ⟨a, xs, rfl, h2⟩ | ⟨a, xs, h1, h2, h3⟩ | ⟨a, xs, h1, h2, h3, h4, h5, y, my, d, hd⟩
  · exact .inl ⟨_, h1.ty, by rw [kit_lst, h2]⟩
  · obtain ⟨dx, fs, hi⟩ := h2.ins
    exact .inl ⟨_, .base (.ins hi T.cl TI.ha TI.hn TI.ht TI.hm), kL⟩
  · exact .inl ⟨_, ty_tup h2, kit_ty (by decide +kernel)⟩
  · exact .inr (.inl ⟨a, xs, h1, h2, h3⟩)
  · refine .inr (.inr ⟨a, xs, h1, h2, h3, h4, fun z m => ?_, y, my, d, hd, kC d⟩)
    rcases h5 z m with q | ⟨d, q⟩
    · exact .inl q
    · exact .inr ⟨d, q, kC d⟩
/-! ### repeated lists -/
theorem paired_appR {α β : Type} {F : α → β → Prop} {c : List α} {e : List β} (q : Paired F c e) : ∀ {l : List α} {k : List β}, Paired F l k → Paired F (l ++ c) (k ++ e)
  | _, _, .nil => q
  | _, _, .cons a b => .cons a (paired_appR q b)
theorem paired_flat {α β : Type} {F : α → β → Prop} {l : List α} {k : List β} (h : Paired F l k) : ∀ n : Nat, Paired F (List.replicate n l).flatten (List.replicate n k).flatten
  | 0 => .nil
  | n + 1 => by
    rw [List.replicate_succ, List.replicate_succ, List.flatten_cons, List.flatten_cons]
    exact paired_appR (paired_flat h n) h
theorem paired_take {α β : Type} {F : α → β → Prop} : ∀ {l : List α} {k : List β} (n : Nat), Paired F l k → Paired F (l.take n) (k.take n)
  | _, _, 0, _ => .nil
  | _, _, n + 1, .nil => .nil
  | _, _, n + 1, .cons p q => .cons p (paired_take n q)
theorem paired_drop {α β : Type} {F : α → β → Prop} : ∀ {l : List α} {k : List β} (n : Nat), Paired F l k → Paired F (l.drop n) (k.drop n)
  | _, _, 0, h => h
  | _, _, n + 1, .nil => .nil
  | _, _, n + 1, .cons p q => paired_drop n q
theorem flat_len {α : Type} (l : List α) : ∀ n : Nat, (List.replicate n l).flatten.length = n * l.length
  | 0 => by simp
  | n + 1 => by
    rw [List.replicate_succ, List.flatten_cons, List.length_append, flat_len l n, Nat.succ_mul]
    omega
theorem flat_mem {α : Type} {l : List α} {x : α} : ∀ {n : Nat}, x ∈ (List.replicate n l).flatten → x ∈ l
  | 0, h => by simp at h
  | n + 1, h => by
    rw [List.replicate_succ, List.flatten_cons] at h
    rcases List.mem_append.mp h with m | m
    · exact m
    · exact flat_mem m
/-- the repr of a list of candidates and data -/
theorem list_sh {ts : List Str} (h : ∀ t ∈ ts, t.length ≤ 300000) (l : ts.length ≤ 21) : (listText ts).length ≤ sizeLine := by
  have q1 := listText_len_le ts
  have z1 := sum_le (n := 21) (B := 300000) (ts := ts) h l
  rw [sizeLine_eq]
  omega
theorem dpxs_strs {K : PySem.W.Frag} {H : Hp} : ∀ xs : List Str, DpXs K H (xs.map V.str) (xs.map .str)
  | [] => .nil
  | x :: xs => .cons (.str x) (dpxs_strs xs)
theorem dpxs_app {K : PySem.W.Frag} {H : Hp} {vs : List V} {ds : List PyData} (q : DpXs K H vs ds) : ∀ {us : List V} {es : List PyData}, DpXs K H us es → DpXs K H (us ++ vs) (es ++ ds)
  | _, _, .nil => q
  | _, _, .cons a b => .cons a (dpxs_app q b)
theorem dpx_dp {K : PySem.W.Frag} {H : Hp} {vs : List V} {n : Nat} : (∀ v ∈ vs, ∃ t, v = .ref t ∧ H t = some (.lst [.str "told"])) → vs.length = n → DpAll K H vs (List.replicate n (.list [.str "told"])) := by
  intro h hl
  subst hl
  induction vs with
  | nil => exact .nil
  | cons v vs ih =>
    obtain ⟨t, e, q⟩ := h v List.mem_cons_self
    subst e
    exact .cons (.lst (.of q) (.cons (.str _) .nil)) (ih fun v m => h v (List.mem_cons_of_mem _ m))
/-- two lists of the same text and the same number or None -/
theorem ne_pair {K : PySem.W.Frag} {H : Hp} {l1 l2 : Addr} {n : Str} {v : V} {d : PyData} {Q : VK} (hn : okA n = true) (hd : Dp K H v d) (hl : SeqAt.shaped (.list [.str n, d]) = true) (h1 : H l1 = some (.lst [.str n, v])) (h2 : H l2 = some (.lst [.str n, v])) (q : Q (.bl false) H) : rNeD K (.ref l1) (.ref l2) H Q := by
  refine ⟨_, _, .lst (.of h1) (.cons (.str _) (.cons hd .nil)), .lst (.of h2) (.cons (.str _) (.cons hd .nil)), hl, hl, ?_⟩
  rw [SeqAt.eqv_refl _ (SeqAt.canLay_of_shaped hl)]
  exact q
theorem kC_of {K : PySem.W.Frag} {C : Addr} (h2 : PySem.W.typeIn K (.ref C) = some (.type "type")) (h3 : PySem.W.hasDictIn K C = true) : ∀ d : PyData, PySem.W.kitOne K (.type (tyD d)) (.ref C) = some false := fun d => by
  have two : ∀ T : String, fastBuiltinMro T = some [.type T, .type "object"] → PySem.W.kitOne K (.type T) (.ref C) = some false := fun T h => kit_ty0 (sub_of h fun v m => by
    simp only [List.mem_cons, List.not_mem_nil, or_false] at m
    rcases m with rfl | rfl
    · exact ⟨_, rfl⟩
    · exact ⟨_, rfl⟩) h2 h3
  cases d with
  | none => exact two _ rfl
  | int _ => exact two _ rfl
  | str _ => exact two _ rfl
  | list _ => exact two _ rfl
  | tuple _ => exact two _ rfl
  | dict _ => exact two _ rfl
  | bool _ => exact kit_ty0 (sub_of (l := [.type "bool", .type "int", .type "object"]) rfl fun v m => by
      simp only [List.mem_cons, List.not_mem_nil, or_false] at m
      rcases m with rfl | rfl | rfl
      · exact ⟨_, rfl⟩
      · exact ⟨_, rfl⟩
      · exact ⟨_, rfl⟩) h2 h3
theorem kit_tyN {K : PySem.W.Frag} {C : Addr} {T : String} {b : Bool} (hm : PySem.W.kitMeta T = true) (h1 : PySem.W.subIn K (.ref C) (.type T) = some b) : PySem.W.kitOne K (.ref C) (.type T) = some b := by
  unfold PySem.W.kitOne
  rw [if_neg (by simp)]
  show (if PySem.W.kitMeta T = true then PySem.W.subIn K (.ref C) (.type T) else none) = some b
  rw [if_pos hm]
  exact h1
end SE
/-! Displays of data: whatever a display of constants (and of values that are data already) allocates, in the end the data stand there. -/
namespace SE
open PySem PySem.Spec PyProof.Rows L2
mutual
/-- t is the reading of a display of the data d, in a heap that goes on from H0, with the slots σ -/
inductive TD (K : PySem.W.Frag) (H0 : Hp) (σ : L2.St) : TE → PyData → Prop
  | non : TD K H0 σ (tC .non) .none
  | bl (b : Bool) : TD K H0 σ (tC (.bl b)) (.bool b)
  | int (i : Int) : TD K H0 σ (tC (.int i)) (.int i)
  | neg (i : Int) : TD K H0 σ (tUn (rU fun i => .int (-i)) (tC (.int i))) (.int (-i))
  | str (z : Str) : TD K H0 σ (tC (.str z)) (.str z)
  | emp : TD K H0 σ tDNewK (.dict [])
  | lst {t : TA} {ds : List PyData} (h : TDs K H0 σ t ds) (l : ds.length ≤ 1000) : TD K H0 σ (tLst t) (.list ds)
  | tup {t : TA} {ds : List PyData} (h : TDs K H0 σ t ds) (l : ds.length ≤ 1000) : TD K H0 σ (tTup t) (.tuple ds)
  | var {i : Nat} {v : V} {d : PyData} (e : σ[i]? = some (some v)) (h : DpX K H0 v d) : TD K H0 σ (tVar i) d
  | any {t : TE} {d : PyData} (h : ∀ (H : Hp) (Q : VK), Same H0 H → (∀ v H', Same H H' → DpX K H' v d → Q v H') → t σ H Q) : TD K H0 σ t d
inductive TDs (K : PySem.W.Frag) (H0 : Hp) (σ : L2.St) : TA → List PyData → Prop
  | nil : TDs K H0 σ tNil []
  | cons {t : TE} {ts : TA} {d : PyData} {ds : List PyData} (h : TD K H0 σ t d) (r : TDs K H0 σ ts ds) : TDs K H0 σ (tCons t ts) (d :: ds)
end
mutual
theorem TD.run {K : PySem.W.Frag} {H0 : Hp} {σ : L2.St} : ∀ {t : TE} {d : PyData}, TD K H0 σ t d → ∀ {H : Hp} {Q : VK}, Same H0 H → (∀ v H', Same H H' → DpX K H' v d → Q v H') → t σ H Q
  | _, _, .non, H, Q, s, k => k _ H (Same.refl H) .non
  | _, _, .bl b, H, Q, s, k => k _ H (Same.refl H) (.bl b)
  | _, _, .int i, H, Q, s, k => k _ H (Same.refl H) (.int i)
  | _, _, .neg i, H, Q, s, k => ⟨i, rfl, k _ H (Same.refl H) (.int (-i))⟩
  | _, _, .str z, H, Q, s, k => k _ H (Same.refl H) (.str z)
  | _, _, .emp, H, Q, s, k => fun p hp => k _ _ (Same.new hp) (.emp upd_same)
  | _, _, .lst h l, H, Q, s, k => TDs.run h s fun vs H1 s1 hv => ⟨by rw [hv.len, sizeLine_eq]; omega, fun p hp => k _ _ (s1.trans (Same.new hp)) (.lst (.of upd_same) (DpXs.same (Same.new hp) _ _ hv))⟩
  | _, _, .tup h l, H, Q, s, k => TDs.run h s fun vs H1 s1 hv => ⟨by rw [hv.len, sizeLine_eq]; omega, fun p hp => k _ _ (s1.trans (Same.new hp)) (.tup (.of upd_same) (DpXs.same (Same.new hp) _ _ hv))⟩
  | _, _, .var e h, H, Q, s, k => ⟨_, e, k _ H (Same.refl H) (DpX.same s _ _ h)⟩
  | _, _, .any h, H, Q, s, k => h H Q s k
theorem TDs.run {K : PySem.W.Frag} {H0 : Hp} {σ : L2.St} : ∀ {t : TA} {ds : List PyData}, TDs K H0 σ t ds → ∀ {H : Hp} {Q : List V → Hp → Prop}, Same H0 H → (∀ vs H', Same H H' → DpXs K H' vs ds → Q vs H') → t σ H Q
  | _, _, .nil, H, Q, s, k => k _ H (Same.refl H) .nil
  | _, _, .cons h r, H, Q, s, k => TD.run h s fun v H1 s1 hv => TDs.run r (s.trans s1) fun vs H2 s2 hvs => k _ H2 (s1.trans s2) (.cons (DpX.same s2 _ _ hv) hvs)
end
/-- the display's own list -/
theorem TDs.list {K : PySem.W.Frag} {H0 : Hp} {σ : L2.St} {t : TA} {ds : List PyData} (h : TDs K H0 σ t ds) (l : ds.length ≤ 1000) {H : Hp} {Q : VK} (s : Same H0 H) (k : ∀ (p : Addr) (vs : List V) (H' : Hp), Same H H' → H' p = some (.lst vs) → DpXs K H' vs ds → Q (.ref p) H') : tLst t σ H Q :=
  h.run s fun vs H1 s1 hv => ⟨by rw [hv.len, sizeLine_eq]; omega, fun p hp => k p vs _ (s1.trans (Same.new hp)) upd_same (DpXs.same (Same.new hp) _ _ hv)⟩
/-- for x in a display -/
theorem TDs.forL {K : PySem.W.Frag} {H0 : Hp} {σ : L2.St} {t : TA} {ds : List PyData} {g : TG} {tb : TS} {D : Ends} {H : Hp} (h : TDs K H0 σ t ds) (l : ds.length ≤ 1000) (s : Same H0 H)
    (k : ∀ (p : Addr) (vs : List V) (H' : Hp), Same H H' → H' p = some (.lst vs) → DpXs K H' vs ds → tFor (fun _ H2 R => R (Itl K p) H2) g tb D σ H') : tFor (iList K (tLst t)) g tb D σ H := by
  unfold tFor iList
  exact h.list l s fun p vs H' s' hp hv => ⟨p, rfl, ⟨_, .of hp⟩, k p vs H' s' hp hv⟩
/-! ### data without dicts, for == -/
mutual
theorem dp_of {K : PySem.W.Frag} {H : Hp} : ∀ (d : PyData) {v : V}, PyData.canLay0 d = true → DpX K H v d → Dp K H v d
  | .none, _, _, h => by cases h; exact .non
  | .bool b, _, _, h => by cases h; exact .bl b
  | .int i, _, _, h => by cases h; exact .int i
  | .str z, _, _, h => by cases h; exact .str z
  | .list ds, _, c, h => by
    cases h with
    | lst h1 h2 => exact .lst h1 (dps_of ds (by simpa [PyData.canLay0] using c) h2)
  | .tuple ds, _, c, h => by
    cases h with
    | tup h1 h2 => exact .tup h1 (dps_of ds (by simpa [PyData.canLay0] using c) h2)
  | .dict kvs, _, c, h => by simp [PyData.canLay0] at c
theorem dps_of {K : PySem.W.Frag} {H : Hp} : ∀ (ds : List PyData) {vs : List V}, PyData.canLayAll0 ds = true → DpXs K H vs ds → DpAll K H vs ds
  | [], _, _, h => by cases h; exact .nil
  | d :: ds, _, c, h => by
    cases h with
    | cons h1 h2 =>
      have c : PyData.canLay0 d = true ∧ PyData.canLayAll0 ds = true := by simpa [PyData.canLayAll0] using c
      exact .cons (dp_of d c.1 h1) (dps_of ds c.2 h2)
end
/-- the same data on both sides of != -/
theorem ne_data {K : PySem.W.Frag} {H : Hp} {x y : V} {d : PyData} {Q : VK} (lay : PyData.canLay0 d = true) (sh : SeqAt.shaped d = true) (hx : DpX K H x d) (hy : DpX K H y d) (q : Q (.bl false) H) : rNeD K x y H Q := by
  refine ⟨d, d, dp_of d lay hx, dp_of d lay hy, sh, sh, ?_⟩
  rw [SeqAt.eqv_refl d lay]
  exact q
end SE
namespace SE
open PySem PySem.Spec PyProof.Rows L2
theorem item_D {z : Str} (h : Item z) : itemD (.str z) = true := by
  have l1 := h.pos
  have l2 := h.most
  show (decide (1 ≤ z.length ∧ z.length ≤ 8) && (z.cps.toList.map fun c => decide (c ∈ abc.cps.toList)).all id) = true
  rw [decide_eq_true ⟨l1, l2⟩, Bool.true_and, List.all_eq_true]
  intro b mb
  obtain ⟨c, mc, rfl⟩ := List.mem_map.mp mb
  exact decide_eq_true (abc_has (h.low c mc))
theorem word_D {zs : List Str} (h : ∀ z ∈ zs, Item z) : wordD (.tuple (zs.map .str)) = true := by
  show ((zs.map PyData.str).map itemD).all id = true
  rw [List.map_map, List.all_eq_true]
  intro b mb
  obtain ⟨z, mz, rfl⟩ := List.mem_map.mp mb
  exact item_D (h z mz)
def wrongs : List PyData := [.none, .tuple [], .tuple [.tuple []], .tuple [.tuple [], .tuple [], .tuple []], .list [.tuple [], .tuple []], .tuple [.list [.str "a"], .tuple []], .tuple [.tuple [], .list [.str "a"]], .tuple [.tuple [], .str "a"], .tuple [.tuple [.str "A"], .none]]
def wrongs2 : List PyData := wrongs ++ [.tuple [.none, .none]]
def odds : List PyData := [.none, .str "never", .list [], .tuple [.str "pop", .str "a"], .int 5]
def smB (d : PyData) : Bool := layE d && (decide (d.depth ≤ 10) && (d.showable && (d.intsShort 13 && decide (d.weight ≤ 1000))))
theorem sm_of {d : PyData} (h : smB d = true) : NX 10 1000 d := by
  unfold smB at h
  simp only [Bool.and_eq_true, decide_eq_true_eq] at h
  exact ⟨h.1, h.2.1, h.2.2.1, h.2.2.2.1, h.2.2.2.2⟩
theorem wrongs_ok : (wrongs2.all fun d => smB d && !obsD d) = true := by decide +kernel
def isEmp : PyData → Bool
  | .tuple [] => true
  | _ => false
theorem wrongs_word : (wrongs2.all fun d => isEmp d || !wordD d) = true := by decide +kernel
theorem TDs.listN {K : PySem.W.Frag} {H0 : Hp} {σ : L2.St} {t : TA} {ds : List PyData} (h : TDs K H0 σ t ds) (l : ds.length ≤ 1000) {H : Hp} {Q : VK} (s : Same H0 H) (k : ∀ (vs : List V) (H' : Hp) (p : Addr), Same H H' → DpXs K H' vs ds → H' p = none → Q (.ref p) (upd H' p (.lst vs))) : tLst t σ H Q :=
  h.run s fun vs H1 s1 hv => ⟨by rw [hv.len, sizeLine_eq]; omega, fun p hp => k vs H1 p s1 hv hp⟩
theorem wrongs_shown : (wrongs2.all fun d => okA d.shown) = true := by decide +kernel
section
variable {P : Program} {w : World} {K : PySem.W.Frag} {mg : Str → Option Value} {base : Heap} {C CC CO CW : Addr}
def spLaw (K : PySem.W.Frag) : Sp := fun xs H Q _ => ∃ (a : Addr) (ns : List Int), xs = [.ref a] ∧ SqL K H a (ns.map V.int) ∧ ns.length ≤ 63 ∧ ∀ H', Q (.bl true) H'
abbrev nLaw : List Str := ["_law_script", "_law_k", "_law_pool_here", "_law_items_here", "_law_effects", "_law_at", "_law_odd", "_law_bad", "_law_thing", "_law_door", "_law_seen", "_law_spot", "_law_wrong", "_law_one", "_law_turn"]
theorem scLaw : FnScope nLaw ["_law_script"] (defScope sLaw) := ⟨rfl, rfl, rfl, by decide +kernel, rfl, by decide +kernel, by decide +kernel⟩
theorem ok_law {f : Addr} {fd : FuncData} (F : Fun K "law" "law" sLaw f fd) (T : EC K mg C) (TI : EI K C) (NV : NeverHas P w K mg base C) (RP : ReprHasM P w K mg base C)
    (GPl : Has P w K mg base "_law_pool" 1 ["_law_script", "_law_k"] [] (spPool K)) (GT : Has P w K mg base "_law_take" 1 ["_law_pool_here", "_law_many"] [] spTake) (GIt : Has P w K mg base "_law_items" 3 ["_law_pool_here", "_law_many"] [] spItems)
    (GS : Has P w K mg base "_law_steps" 2 ["_law_pool_here", "_law_items_here", "_law_many"] [] spSteps) (GW : Has P w K mg base "_law_word" 2 ["_law_pool_here", "_law_items_here", "_law_most"] [] spWord)
    (GE : Has P w K mg base "effect_of" 8 ["steps"] [] (spEffOf K C)) (GO : GHas P w K mg base "_law_told" 7 pTo (spTo K C))
    (kL : PySem.W.kitOne K (.ref C) (.type "list") = some false) (kC : ∀ d : PyData, PySem.W.kitOne K (.type (tyD d)) (.ref C) = some false)
    (B : Blt mg) (mr : mg "range" = none) (mx : mg "max" = none) (mn : mg "min" = none) (mp : mg "repr" = none) : GOk P w K mg base 9 f fd ["_law_script"] (spLaw K) := by
  refine gok_mk F scLaw (fun xs H Q E h => ?_) (fun cv A out s H xs Q E hgu hr h => ?_)
  · obtain ⟨a, ns, rfl, _⟩ := h
    rfl
  · obtain ⟨a, ns, rfl, hS, hlen, k⟩ := h
    have hr1 : Room 1 _ := hr.mono (by decide)
    have hr2 : Room 2 _ := hr.mono (by decide)
    have hr3 : Room 3 _ := hr.mono (by decide)
    have hr5 : Room 5 _ := hr.mono (by decide)
    have hr6 : Room 6 _ := hr.mono (by decide)
    have hr7 : Room 7 _ := hr.mono (by decide)
    refine ⟨_, pss_cons (ps_for PassesOwn.never rfl (pi_range1 (by rfl) mr (pa_cons (pe_callB (call_max2 rfl) (by rfl) mx (by decide +kernel) (pa_cons pe_int (pa_cons (pe_callB (call_min2 rfl) (by rfl) mn (by decide +kernel) (pa_cons (pe_callB call_len_seq (by rfl) B.len PySem.boot_len (pa_cons (pv 0) pa_nil)) (pa_cons pe_int pa_nil))) pa_nil))) pa_nil)) (pg_name (i := 1) scLaw.nd rfl (.inl rfl))
      (pss_cons (ps_set (i := 2) scLaw.nd rfl (.inr rfl) (pe_has GPl hr1 (pa_cons (pv 0) (pa_cons (pv 1) pa_nil))))
      (pss_cons (ps_set (i := 3) scLaw.nd rfl (.inr rfl) (pe_has GIt hr3 (pa_cons (pv 2) (pa_cons pe_int pa_nil))))
      (pss_cons (ps_set (i := 4) scLaw.nd rfl (.inr rfl) (pe_lc (own := [("_law_turn", 14)]) (g := gName 14) (tt := tYes) (te := tCall (spEffOf K C) [] E0 (tCons (tCall spSteps [] E0 (tCons (tVar 2) (tCons (tVar 3) (tCons (tC (.int 3)) tNil)))) tNil)) rfl scLaw.nd (pi_range1 (by rfl) mr (pa_cons (pe_op op_add pe_int (pe_has GT hr1 (pa_cons (pv 2) (pa_cons pe_int pa_nil)))) pa_nil)) (blkOk_by (own := [("_law_turn", 14)]) (N := nLaw) (sc := defScope sLaw) (by decide +kernel))
        (fun _ _ _ _ _ => pg_name (i := 14) scLaw.nd rfl (.inl rfl)) (fun _ _ _ _ _ => pts_nil) (fun _ _ _ _ _ => pe_has GE hr (pa_cons (pe_has GS hr2 (pa_cons (pv 2) (pa_cons (pv 3) (pa_cons pe_int pa_nil)))) pa_nil))))
      (pss_cons (ps_set (i := 5) scLaw.nd rfl (.inl rfl) (pe_has GT hr1 (pa_cons (pv 2) (pa_cons (pe_callB call_len_seq (by rfl) B.len PySem.boot_len (pa_cons (pv 4) pa_nil)) pa_nil))))
      (pss_cons (ps_set (i := 6) scLaw.nd rfl (.inl rfl) (pe_ix ix_list (pe_lst (pa_cons pe_non (pa_cons pe_str (pa_cons (pe_lst pa_nil) (pa_cons (pe_tup (pa_cons pe_str (pa_cons pe_str pa_nil))) (pa_cons pe_int pa_nil)))))) (pe_has GT hr1 (pa_cons (pv 2) (pa_cons pe_int pa_nil))) (fun _ _ => rfl)))
      (pss_cons (ps_set (i := 7) scLaw.nd rfl (.inl rfl) (pe_lst (pa_cons pe_non (pa_cons (pe_lst pa_nil) (pa_cons (pe_callTy call_tuple_of (by rfl) B.tup (by decide +kernel) (pa_cons (pv 4) pa_nil)) (pa_cons pe_dnewK
        (pa_cons (pe_op op_cat (pe_op op_cat (pe_slice sl_list (pv 4) po_none (po_some (pv 5))) (pe_lst (pa_cons (pv 6) pa_nil))) (pe_slice sl_list (pv 4) (po_some (pe_op op_add (pv 5) pe_int)) po_none))
        (pa_cons (pe_slice sl_list (pe_op op_rep (pv 4) pe_int) po_none (po_some pe_int)) (pa_cons (pe_ix ix_list (pv 4) pe_int (fun _ _ => rfl)) pa_nil)))))))))
      (pss_cons (ps_for PassesOwn.never rfl (pi_list (pv 7)) (pg_name (i := 8) scLaw.nd rfl (.inl rfl))
        (pss_one (ps_for PassesOwn.never rfl (pi_range1 (by rfl) mr (pa_cons pe_int pa_nil)) (pg_name (i := 9) scLaw.nd rfl (.inl rfl))
          (pss_one (ps_if (pt_cmpR (op_neD hr.units) (pe_ghas GO hgu hr7 (pa_cons (pv 9) (pa_cons (pv 8) (pa_cons pe_non pa_nil)))) (pe_lst (pa_cons pe_str (pa_cons (pe_callB (call_repC RP hgu hr5) (by rfl) mp (by decide +kernel) (pa_cons (pv 8) pa_nil)) pa_nil))) (nomark _)) (pss_one (ps_ret pe_bl)) pss_nil)))))
      (pss_cons (ps_set (i := 10) scLaw.nd rfl (.inr rfl) (pe_lst (pa_cons (pe_tup (pa_cons (pe_has GW hr2 (pa_cons (pv 2) (pa_cons (pv 3) (pa_cons pe_int pa_nil)))) (pa_cons pe_non pa_nil))) (pa_cons (pe_tup (pa_cons (pe_has GW hr2 (pa_cons (pv 2) (pa_cons (pv 3) (pa_cons pe_int pa_nil)))) (pa_cons (pe_has GW hr2 (pa_cons (pv 2) (pa_cons (pv 3) (pa_cons pe_int pa_nil)))) pa_nil))) pa_nil))))
      (pss_cons (ps_set (i := 11) scLaw.nd rfl (.inl rfl) (pe_has GT hr1 (pa_cons (pv 2) (pa_cons pe_int pa_nil))))
      (pss_cons (ps_set (i := 12) scLaw.nd rfl (.inl rfl) (pe_lst (pa_cons pe_non (pa_cons (pe_tup pa_nil) (pa_cons (pe_tup (pa_cons (pe_tup pa_nil) pa_nil)) (pa_cons (pe_tup (pa_cons (pe_tup pa_nil) (pa_cons (pe_tup pa_nil) (pa_cons (pe_tup pa_nil) pa_nil)))) (pa_cons (pe_lst (pa_cons (pe_tup pa_nil) (pa_cons (pe_tup pa_nil) pa_nil)))
        (pa_cons (pe_tup (pa_cons (pe_lst (pa_cons pe_str pa_nil)) (pa_cons (pe_tup pa_nil) pa_nil))) (pa_cons (pe_tup (pa_cons (pe_tup pa_nil) (pa_cons (pe_lst (pa_cons pe_str pa_nil)) pa_nil))) (pa_cons (pe_tup (pa_cons (pe_tup pa_nil) (pa_cons pe_str pa_nil))) (pa_cons (pe_tup (pa_cons (pe_tup (pa_cons pe_str pa_nil)) (pa_cons pe_non pa_nil))) pa_nil)))))))))))
      (pss_cons (ps_expr (pe_bm PySem.F.plainAttrs_list PySem.F.slot_list_append PySem.F.type_list_append mt_append (pv 12) (pa_cons (pe_tup (pa_cons pe_non (pa_cons pe_non pa_nil))) pa_nil)))
      (pss_cons (ps_for PassesOwn.never rfl (pi_list (pv 12)) (pg_name (i := 13) scLaw.nd rfl (.inl rfl))
        (pss_cons (ps_if (pt_cmpR (op_neD hr.units) (pe_ghas GO hgu hr7 (pa_cons pe_int (pa_cons (pv 4) (pa_cons (pe_op op_cat (pe_op op_cat (pe_op op_cat (pe_slice sl_list (pv 10) po_none (po_some (pv 11))) (pe_lst (pa_cons (pv 13) pa_nil))) (pe_slice sl_list (pv 10) (po_some (pv 11)) po_none)) (pe_lst (pa_cons pe_int pa_nil))) pa_nil)))) (pe_lst (pa_cons pe_str (pa_cons (pv 11) pa_nil))) (nomark _)) (pss_one (ps_ret pe_bl)) pss_nil)
        (pss_one (ps_if (PW.pt (pw_and (pt_cmpR (op_neD hr.units) (pe_ghas GO hgu hr7 (pa_cons pe_int (pa_cons (pv 4) (pa_cons (pv 13) pa_nil)))) (pe_lst (pa_cons pe_str (pa_cons (pe_callB (call_repX hgu hr.units) (by rfl) mp (by decide +kernel) (pa_cons (pv 13) pa_nil)) pa_nil))) (nomark _)) (pw_and1 (pt_cmpR (op_neD hr.units) (pv 13) (pe_tup pa_nil) (nomark _))))) (pss_one (ps_ret pe_bl)) pss_nil))))
      (pss_cons (ps_for PassesOwn.never rfl (pi_list (pe_lst (pa_cons pe_non (pa_cons (pe_callTy call_tuple_of (by rfl) B.tup (by decide +kernel) (pa_cons (pv 10) pa_nil)) (pa_cons pe_dnewK (pa_cons pe_str pa_nil)))))) (pg_name (i := 8) scLaw.nd rfl (.inl rfl))
        (pss_one (ps_if (pt_cmpR (op_neD hr.units) (pe_ghas GO hgu hr7 (pa_cons pe_int (pa_cons (pv 4) (pa_cons (pv 8) pa_nil)))) (pe_lst (pa_cons pe_str (pa_cons pe_non pa_nil))) (nomark _)) (pss_one (ps_ret pe_bl)) pss_nil)))
      (pss_one (ps_if (pt_cmpR (op_neD hr.units) (pe_lc (own := [("_law_door", 9)]) (g := gName 9) (tt := tYes) (te := tCall (spTo K C) [] E0 (tCons (tVar 9) (tCons (tSl (rSlL K) (tOp L2.rRep (tVar 4) (tC (.int 20))) tNoPart (tPart (tC (.int 20)))) (tCons (tOp (rIxL K) (tLst (tCons (tVar 10) (tCons (tTup tNil) tNil))) (tOp (rI (fun _ j => 0 < j) fun i j => .int (i % j)) (tVar 9) (tC (.int 2)))) tNil)))) rfl scLaw.nd (pi_range1 (by rfl) mr (pa_cons pe_int pa_nil)) (blkOk_by (own := [("_law_door", 9)]) (N := nLaw) (sc := defScope sLaw) (by decide +kernel))
          (fun _ _ _ _ _ => pg_name (i := 9) scLaw.nd rfl (.inl rfl)) (fun _ _ _ _ _ => pts_nil) (fun _ _ _ _ _ => pe_ghas GO hgu hr7 (pa_cons (pv 9) (pa_cons (pe_slice sl_list (pe_op op_rep (pv 4) pe_int) po_none (po_some pe_int)) (pa_cons (pe_ix ix_list (pe_lst (pa_cons (pv 10) (pa_cons (pe_tup pa_nil) pa_nil))) (pe_op op_mod (pv 9) pe_int) (fun _ _ => rfl)) pa_nil)))))
        (pe_op op_rep (pe_lst (pa_cons (pe_lst (pa_cons pe_str pa_nil)) pa_nil)) pe_int) (nomark _)) (pss_one (ps_ret pe_bl)) pss_nil))))))))))))))))
      (pss_one (ps_ret (pe_cmpR (op_eqD hr.units) (pe_ghas GO hgu hr7 (pa_cons pe_int (pa_cons (pe_lst (pa_cons (pe_never0 NV T.mgE hr6) pa_nil)) (pa_cons pe_non pa_nil)))) (pe_lst (pa_cons pe_str pa_nil)) (nomark _)))), ?_⟩
    refine ⟨_, rfl, a, _, rfl, .inl hS, _, 6, rfl, 1, _, rfl, ?_⟩
    have hN : ∀ n : Nat, (1 : Int) ≤ (if (if (6 : Int) < (n : Int) then 6 else (n : Int)) > 1 then (if (6 : Int) < (n : Int) then 6 else (n : Int)) else 1) ∧ (if (if (6 : Int) < (n : Int) then 6 else (n : Int)) > 1 then (if (6 : Int) < (n : Int) then 6 else (n : Int)) else 1) ≤ 6 := by
      intro n
      split <;> split <;> omega
    have hN1 := hN (ns.map V.int).length
    generalize hM : (if (if (6 : Int) < ((ns.map V.int).length : Int) then 6 else ((ns.map V.int).length : Int)) > 1 then (if (6 : Int) < ((ns.map V.int).length : Int) then 6 else ((ns.map V.int).length : Int)) else 1) = N at hN1
    refine ⟨N, by rw [← hM], by omega, by omega, for_range (lo := 0) (n := N.toNat) (fun i σ H2 => ∃ (y1 y2 y3 y4 y5 y6 y7 y8 y9 y10 y11 y12 y13 y14 : Option V), σ = [some (.ref a), y1, y2, y3, y4, y5, y6, y7, y8, y9, y10, y11, y12, y13, y14] ∧ Same H H2) ⟨_, _, _, _, _, _, _, _, _, _, _, _, _, _, rfl, Same.refl H⟩ ?_ ?_⟩
    rotate_left
    · rintro σ H2 ⟨y1, y2, y3, y4, y5, y6, y7, y8, y9, y10, y11, y12, y13, y14, rfl, s2⟩
      refine ⟨rfl, rfl, fun e H3 s3 he => ⟨(by show 1 ≤ sizeLine; decide), fun L hL => ?_⟩⟩
      have q1 : Same H3 (upd H3 L (.lst [.ref e])) := Same.new hL
      have k1 := upd_same (H := H3) (a := L) (o := .lst [.ref e])
      generalize upd H3 L (.lst [.ref e]) = H4 at q1 k1 ⊢
      refine ⟨2, .ref L, .non, rfl, .inr (.inr (.inr ⟨[e], [none], ⟨L, rfl, .of k1, .cons (EffV.same (o := none) he q1) .nil, fun o m => ?_, (by show 1 ≤ 1; decide), (by show 1 ≤ 20; decide)⟩, .inr (.inr rfl), fun l H5 s5 nl hl => ⟨(by show 1 ≤ sizeLine; decide), fun l2 hl2 => ?_⟩⟩))⟩
      · rw [List.mem_singleton.mp m]
        exact True.intro
      refine ⟨.list [.str "told"], .list [.str "told"], .lst (.of (Same.new hl2 _ _ hl)) (.cons (.str _) .nil), .lst (.of upd_same) (.cons (.str _) .nil), by decide +kernel, by decide +kernel, ?_⟩
      have ee : PyData.eqv (.list [.str "told"]) (.list [.str "told"]) = true := by decide +kernel
      rw [ee]
      exact k _
    rintro i σ H2 hi ⟨y1, y2, y3, y4, y5, y6, y7, y8, y9, y10, y11, y12, y13, y14, rfl, s2⟩
    refine ⟨_, rfl, _, rfl, a, ns, 0 + i, rfl, Same.seq s2 hS, by omega, by omega, fun p H3 s3 hp p3 => ?_⟩
    have hpn : H p = none := s2.free hp
    refine ⟨_, rfl, p, 2, rfl, p3, by decide, by decide, fun l zs H5 b5 p5 hl lp hl5 lz iz => ?_⟩
    have zl : zs.length = 2 := by rw [lz]; rfl
    have zne : zs ≠ [] := fun e => by rw [e] at zl; cases zl
    refine ⟨_, rfl, p, 20, rfl, p5, by decide, by decide, fun r2 H6 b6 p6 q0 q1 => ⟨1, r2, rfl, rfl, 1 + r2, rfl, by omega, by omega, fun D hD => ?_⟩⟩
    have Dp6 : D ≠ p := p6.free hD
    have hl6 := b6 _ _ lp hl5
    have lD : l ≠ D := ne_of_none hl6 hD
    have s6 : Same H H6 := Same.but3 (s2.trans s3) hpn (b5.trans b6)
    have hlG : hid [p] H6 l = some (.lst (zs.map V.str)) := by
      rw [hid_ne (by simpa using lp)]
      exact hl6
    have dm : D ∈ [D, p] := by simp
    have pm : p ∈ [D, p] := by simp
    refine lc_range (lo := 0) (n := (1 + r2).toNat) (fun m H7 => ∃ (es : List Addr) (os : List Eff), H7 D = some (.lst (es.map V.ref)) ∧ Paired (EffV K C (hid [D, p] H7)) es os ∧ es.length = m ∧ Pool H7 p ∧ Same (hid [p] H6) (hid [D, p] H7) ∧ ∀ o ∈ os, EffS o) ?_ ?_ ?_
    · exact ⟨[], [], upd_same, .nil, rfl, p6.upd Dp6, (hid_free hD).trans (hid_upd dm), fun o m => by cases m⟩
    · rintro m H7 hm ⟨es, os, hv, hP, lv, p7, sG, oS⟩
      have hl7 := hid_out _ _ _ _ (sG _ _ hlG)
      refine ⟨rfl, yes_in ⟨_, rfl, _, rfl, p, l, 3, zs, rfl, p7, lp, hl7, zne, by omega, iz, by decide, by decide, fun t us ss H9 b9 p9 t0 ht9 hs9 ls sz => ?_⟩⟩
      have ls : ss.length = 3 := ls
      have hv9 := b9 _ _ Dp6 hv
      have iss : ∀ s ∈ ss, Item s.2 := fun s ms => iz _ (sz s ms)
      refine ⟨t, us, ss, rfl, .of ht9, by have := hs9.length; omega, hs9.v, iss, fun e HA sA he => ?_⟩
      have hvA := sA _ _ hv9
      have pA := p9.same sA
      have sU : Same (hid [D, p] H7) (hid [D, p] (upd HA D (.lst (es.map V.ref ++ [.ref e])))) := ((hid_but b9 pm).trans (hid_of sA)).trans (hid_upd dm)
      refine ⟨es.map V.ref, hvA, by rw [List.length_map, sizeLine_eq]; omega, es ++ [e], os ++ [effM ss], ?_, ?_, by rw [List.length_append, lv]; rfl, pA.upd Dp6, sG.trans sU, fun o mo => ?_⟩
      · rw [upd_same, List.map_append]
        rfl
      · exact paired_snoc ((hid_eff ((LstAll.pool pA).cons hvA) he).same (hid_upd dm)) (effs_same hP sU)
      · rcases List.mem_append.mp mo with q | q
        · exact oS o q
        · rw [List.mem_singleton.mp q]
          refine ⟨effM_EffOk iss (by omega), fun xs ys pk e => ?_⟩
          have := (effM_ok iss e).2.2
          dsimp only at this
          omega
    rintro H7 ⟨es, os, hv, hP, lv, p7, sG, oS⟩
    have oE : ∀ o ∈ os, EffOk o := fun o m => (oS o m).1
    have sG7 : Same (hid [p] H6) (hid [p] H7) := sG.trans hid_less
    have hPG : Paired (EffV K C (hid [p] H7)) es os := effs_same hP hid_less
    have hDG : hid [p] H7 D = some (.lst (es.map V.ref)) := by
      rw [hid_ne (by simpa using Dp6)]
      exact hv
    have hlG7 := sG7 _ _ hlG
    have fin : ∀ {HX : Hp}, Same (hid [p] H7) (hid [p] HX) → Same H HX := fun s b o e => by
      have nb : b ≠ p := ne_of_none e hpn
      refine hid_out _ _ _ _ (s _ _ (sG7 _ _ ?_))
      rw [hid_ne (by simpa using nb)]
      exact s6 _ _ e
    have pm1 : p ∈ [p] := by simp
    have l0 : 1 ≤ es.length := by omega
    have l1 : es.length ≤ 20 := by omega
    have lo := paired_len hPG
    have len7 : ((es.map V.ref).length : Int) = (es.length : Int) := by rw [List.length_map]
    refine ⟨_, rfl, _, rfl, D, _, rfl, .inl (.of hv), p, _, rfl, p7, by omega, by omega, fun r4 H8 b8 p8 u0 u1 => ?_⟩
    obtain ⟨n1, rfl⟩ : ∃ n : Nat, r4 = (n : Int) := ⟨r4.toNat, by omega⟩
    have hn1 : n1 < es.length := by omega
    have s78 : Same (hid [p] H7) (hid [p] H8) := hid_but b8 pm1
    -- the odd one
    refine ⟨(by show 0 ≤ sizeLine; decide), fun e1 he1 => ?_⟩
    have c1 : Same H8 (upd H8 e1 (.lst [])) := Same.new he1
    have k1 := upd_same (H := H8) (a := e1) (o := .lst [])
    have e1p : e1 ≠ p := p8.free he1
    generalize upd H8 e1 (.lst []) = J1 at c1 k1 ⊢
    refine ⟨(by show 2 ≤ sizeLine; decide), fun e2 he2 => ?_⟩
    have c2 : Same J1 (upd J1 e2 (.tup [.str "pop", .str "a"])) := Same.new he2
    have k2 := upd_same (H := J1) (a := e2) (o := .tup [.str "pop", .str "a"])
    generalize upd J1 e2 (.tup [.str "pop", .str "a"]) = J2 at c2 k2 ⊢
    refine ⟨(by show 5 ≤ sizeLine; decide), fun M hMn => ?_⟩
    have c3 : Same J2 (upd J2 M (.lst [.non, .str "never", .ref e1, .ref e2, .int 5])) := Same.new hMn
    have k3 := upd_same (H := J2) (a := M) (o := .lst [.non, .str "never", .ref e1, .ref e2, .int 5])
    have Mp : M ≠ p := (p8.same (c1.trans c2)).free hMn
    generalize upd J2 M (.lst [.non, .str "never", .ref e1, .ref e2, .int 5]) = J3 at c3 k3 ⊢
    have s8J := (c1.trans c2).trans c3
    have pJ := p8.same s8J
    refine ⟨_, rfl, p, 5, rfl, pJ, by decide, by decide, fun r5 H9 b9 p9 w0 w1 => ?_⟩
    have s89 : Same (hid [p] H8) (hid [p] H9) := (hid_of s8J).trans (hid_but b9 pm1)
    have s79 := s78.trans s89
    have g1 : hid [p] H9 e1 = some (.lst []) := by
      rw [hid_ne (by simpa using e1p)]
      exact b9 _ _ e1p (c3 _ _ (c2 _ _ k1))
    have g2 : SqT K (hid [p] H9) e2 [.str "pop", .str "a"] := Same.tup (hid_but b9 pm1) (hid_tup (LstAll.pool pJ) (.of (c3 _ _ k2)))
    obtain ⟨x, d, t, hx, hd, hs, ok, lt⟩ : ∃ (x : V) (d : PyData) (t : Str), [V.non, .str "never", .ref e1, .ref e2, .int 5][r5.toNat]? = some x ∧ DpX K (hid [p] H9) x d ∧ ShE K C (hid [p] H9) x t ∧ okA t = true ∧ t.length ≤ 100 := by
      have : r5.toNat = 0 ∨ r5.toNat = 1 ∨ r5.toNat = 2 ∨ r5.toNat = 3 ∨ r5.toNat = 4 := by omega
      rcases this with q | q | q | q | q
      · exact ⟨.non, .none, (PyData.none).shown, by rw [q]; rfl, .non, .inr (.inl ⟨.none, .non, by decide +kernel, by decide +kernel, by decide +kernel, rfl⟩), by decide +kernel, by decide +kernel⟩
      · exact ⟨.str "never", .str "never", (PyData.str "never").shown, by rw [q]; rfl, .str _, .inr (.inl ⟨.str "never", .str _, by decide +kernel, by decide +kernel, by decide +kernel, rfl⟩), by decide +kernel, by decide +kernel⟩
      · exact ⟨.ref e1, .list [], listText [], by rw [q]; rfl, .lst (.of g1) .nil, .inr (.inr ⟨e1, rfl, g1, rfl⟩), by decide +kernel, by decide +kernel⟩
      · exact ⟨.ref e2, .tuple [.str "pop", .str "a"], (PyData.tuple [.str "pop", .str "a"]).shown, by rw [q]; rfl, .tup g2 (.cons (.str _) (.cons (.str _) .nil)), .inr (.inl ⟨.tuple [.str "pop", .str "a"], .tup g2 (.cons (.str _) (.cons (.str _) .nil)), by decide +kernel, by decide +kernel, by decide +kernel, rfl⟩), by decide +kernel, by decide +kernel⟩
      · exact ⟨.int 5, .int 5, (PyData.int 5).shown, by rw [q]; rfl, .int 5, .inr (.inl ⟨.int 5, .int 5, by decide +kernel, by decide +kernel, by decide +kernel, rfl⟩), by decide +kernel, by decide +kernel⟩
    refine ⟨M, _, r5, x, rfl, rfl, .of (b9 _ _ Mp k3), at_of (j := r5.toNat) (by omega) hx, ?_⟩
    -- the bad ones
    have p9' : Pool H9 p := p9
    have hD9 := hid_out _ _ _ _ (s79 _ _ hDG)
    have hP9 : Paired (EffV K C H9) es os := effs_same (effs_same hPG s79) (hid_out _ _)
    have hd9 := DpX.same (hid_out _ _) _ _ hd
    have hs9 := hs.same (hid_out _ _)
    refine ⟨(by show 0 ≤ sizeLine; decide), fun b1 hb1 => ?_⟩
    have d1 : Same H9 (upd H9 b1 (.lst [])) := Same.new hb1
    have m1 := upd_same (H := H9) (a := b1) (o := .lst [])
    generalize upd H9 b1 (.lst []) = B1 at d1 m1 ⊢
    refine ⟨_, rfl, D, _, rfl, .inl ⟨.of (d1 _ _ hD9), fun b2 hb2 => ?_⟩⟩
    have d2 : Same B1 (upd B1 b2 (.tup (es.map V.ref))) := Same.new hb2
    have m2 := upd_same (H := B1) (a := b2) (o := .tup (es.map V.ref))
    generalize upd B1 b2 (.tup (es.map V.ref)) = B2 at d2 m2 ⊢
    intro b3 hb3
    have d3 : Same B2 (upd B2 b3 (.dK [])) := Same.new hb3
    have m3 := upd_same (H := B2) (a := b3) (o := .dK [])
    generalize upd B2 b3 (.dK []) = B3 at d3 m3 ⊢
    have d13 := (d1.trans d2).trans d3
    have hD3 := d13 _ _ hD9
    refine ⟨_, rfl, _, rfl, _, rfl, D, _, rfl, .of hD3, fun c1 hc1 => ?_⟩
    rw [cutF_to]
    have d4 : Same B3 (upd B3 c1 (.lst ((es.take n1).map V.ref))) := Same.new hc1
    have m4 := upd_same (H := B3) (a := c1) (o := .lst ((es.take n1).map V.ref))
    generalize upd B3 c1 (.lst ((es.take n1).map V.ref)) = B4 at d4 m4 ⊢
    refine ⟨_, rfl, (by show 1 ≤ sizeLine; decide), fun c2 hc2 => ?_⟩
    have d5 : Same B4 (upd B4 c2 (.lst [x])) := Same.new hc2
    have m5 := upd_same (H := B4) (a := c2) (o := .lst [x])
    generalize upd B4 c2 (.lst [x]) = B5 at d5 m5 ⊢
    refine ⟨c1, c2, _, _, rfl, rfl, d5 _ _ m4, m5, ?_, fun c3 hc3 => ?_⟩
    · rw [List.length_map, List.length_take, List.length_singleton, sizeLine_eq]
      omega
    have d6 : Same B5 (upd B5 c3 (.lst ((es.take n1).map V.ref ++ [x]))) := Same.new hc3
    have m6 := upd_same (H := B5) (a := c3) (o := .lst ((es.take n1).map V.ref ++ [x]))
    generalize upd B5 c3 (.lst ((es.take n1).map V.ref ++ [x])) = B6 at d6 m6 ⊢
    have d36 := (d4.trans d5).trans d6
    refine ⟨_, rfl, _, rfl, _, _, rfl, rfl, _, rfl, D, _, rfl, .of (d36 _ _ hD3), fun c4 hc4 => ?_⟩
    rw [show ((n1 : Int) + 1) = ((n1 + 1 : Nat) : Int) by omega, cutF_from]
    have d7 : Same B6 (upd B6 c4 (.lst ((es.drop (n1 + 1)).map V.ref))) := Same.new hc4
    have m7 := upd_same (H := B6) (a := c4) (o := .lst ((es.drop (n1 + 1)).map V.ref))
    generalize upd B6 c4 (.lst ((es.drop (n1 + 1)).map V.ref)) = B7 at d7 m7 ⊢
    refine ⟨c3, c4, _, _, rfl, rfl, d7 _ _ m6, m7, ?_, fun c5 hc5 => ?_⟩
    · rw [List.length_append, List.length_map, List.length_take, List.length_singleton, List.length_map, List.length_drop, sizeLine_eq]
      omega
    have d8 : Same B7 (upd B7 c5 (.lst ((es.take n1).map V.ref ++ [x] ++ (es.drop (n1 + 1)).map V.ref))) := Same.new hc5
    have m8 := upd_same (H := B7) (a := c5) (o := .lst ((es.take n1).map V.ref ++ [x] ++ (es.drop (n1 + 1)).map V.ref))
    generalize upd B7 c5 (.lst ((es.take n1).map V.ref ++ [x] ++ (es.drop (n1 + 1)).map V.ref)) = B8 at d8 m8 ⊢
    have d38 := (d36.trans d7).trans d8
    have hD8 := d38 _ _ hD3
    refine ⟨_, rfl, D, 21, _, rfl, rfl, hD8, by decide, by decide, ?_, fun f1 hf1 => ?_⟩
    · rw [List.length_map, sizeLine_eq]
      show es.length * 21 ≤ _
      omega
    have d9 : Same B8 (upd B8 f1 (.lst (List.replicate (21 : Int).toNat (es.map V.ref)).flatten)) := Same.new hf1
    have m9 : upd B8 f1 (.lst (List.replicate (21 : Int).toNat (es.map V.ref)).flatten) f1 = some (.lst ((List.replicate 21 es).flatten.map V.ref)) := by
      rw [upd_same, List.map_flatten, List.map_replicate]
      rfl
    generalize upd B8 f1 (.lst (List.replicate (21 : Int).toNat (es.map V.ref)).flatten) = B9 at d9 m9 ⊢
    refine ⟨_, rfl, f1, _, rfl, .of m9, fun f2 hf2 => ?_⟩
    rw [show (21 : Int) = ((21 : Nat) : Int) from rfl, cutF_to]
    have d10 : Same B9 (upd B9 f2 (.lst (((List.replicate 21 es).flatten.take 21).map V.ref))) := Same.new hf2
    have m10 := upd_same (H := B9) (a := f2) (o := .lst (((List.replicate 21 es).flatten.take 21).map V.ref))
    generalize upd B9 f2 (.lst (((List.replicate 21 es).flatten.take 21).map V.ref)) = B10 at d10 m10 ⊢
    have d810 := d9.trans d10
    have at0 : atI (es.map V.ref) 0 = some (.ref es[0]) := atI_nat (j := 0) (by rw [List.getElem?_map, List.getElem?_eq_getElem (show 0 < es.length by omega)]; rfl)
    refine ⟨_, rfl, D, _, 0, _, rfl, rfl, .of (d810 _ _ hD8), at0, (by show 7 ≤ sizeLine; decide), fun W hW => ?_⟩
    have d11 : Same B10 (upd B10 W (.lst [.non, .ref b1, .ref b2, .ref b3, .ref c5, .ref f2, .ref es[0]])) := Same.new hW
    have m11 := upd_same (H := B10) (a := W) (o := .lst [.non, .ref b1, .ref b2, .ref b3, .ref c5, .ref f2, .ref es[0]])
    generalize upd B10 W (.lst [.non, .ref b1, .ref b2, .ref b3, .ref c5, .ref f2, .ref es[0]]) = HW at d11 m11 ⊢
    have t10 := d10.trans d11
    have t8 := d9.trans t10
    have t3 := d38.trans t8
    have s9W := d13.trans t3
    have hPW := effs_same hP9 s9W
    have okS : ∀ o ∈ os, okA (shownE o) = true ∧ (shownE o).length ≤ 300000 := fun o m => ⟨okA_shownE (oS o m), shownE_le (oE o m)⟩
    have elS : ∀ {ex : List Addr} {ox : List Eff}, Paired (EffV K C HW) ex ox → (∀ o ∈ ox, EffOk o) → Paired (ShE K C HW) (ex.map V.ref) (ox.map shownE) := fun {ex ox} h hx => by
      induction h with
      | nil => exact .nil
      | @cons e o ex ox a b ih => exact .cons (.inl ⟨e, o, rfl, a, hx _ List.mem_cons_self, rfl⟩) (ih fun o m => hx o (List.mem_cons_of_mem _ m))
    have all : ∀ (j : Nat) (x' : V), [V.non, .ref b1, .ref b2, .ref b3, .ref c5, .ref f2, .ref es[0]][j]? = some x' → ∃ t, BadS K C HW x' ∧ ShC K C HW x' t ∧ okA t = true := by
      intro j x' hj
      have hm := List.mem_of_getElem? hj
      simp only [List.mem_cons, List.not_mem_nil, or_false] at hm
      rcases hm with rfl | rfl | rfl | rfl | rfl | rfl | rfl
      · exact ⟨(PyData.none).shown, .inl ⟨.none, .non, rfl⟩, .inl ⟨.none, .non, ⟨by decide +kernel, by decide +kernel, by decide +kernel⟩, rfl⟩, by decide +kernel⟩
      · have h : HW b1 = some (.lst []) := t3 _ _ (d3 _ _ (d2 _ _ m1))
        exact ⟨(PyData.list []).shown, .inr (.inr (.inr (.inl ⟨b1, [], rfl, .of h, .inl rfl⟩))), .inl ⟨.list [], .lst (.of h) .nil, ⟨by decide +kernel, by decide +kernel, by decide +kernel⟩, rfl⟩, by decide +kernel⟩
      · have h : SqT K HW b2 (es.map V.ref) := .of (t3 _ _ (d3 _ _ m2))
        refine ⟨tupleText (os.map shownE), .inr (.inr (.inl ⟨b2, _, rfl, h⟩)), .inr (.inr (.inr ?_)), okA_tuple fun t m => ?_⟩
        · obtain ⟨e, es', ee⟩ : ∃ e es', es = e :: es' := by
            cases es with
            | nil => cases l0
            | cons e es' => exact ⟨e, es', rfl⟩
          refine ⟨b2, e, es', os, rfl, ?_, ?_, oE, by omega, rfl⟩
          · rw [← ee]
            exact h
          · rw [← ee]
            exact hPW
        · obtain ⟨o, mo, rfl⟩ := List.mem_map.mp m
          exact (okS o mo).1
      · have h := t3 _ _ m3
        exact ⟨(PyData.dict []).shown, .inl ⟨.dict [], .emp h, rfl⟩, .inl ⟨.dict [], .emp h, ⟨by decide +kernel, by decide +kernel, by decide +kernel⟩, rfl⟩, by decide +kernel⟩
      · have h := t8 _ _ m8
        have q1 := elS (paired_take n1 hPW) fun o m => oE o (List.mem_of_mem_take m)
        have q2 := elS (paired_drop (n1 + 1) hPW) fun o m => oE o (List.mem_of_mem_drop m)
        have q3 : Paired (ShE K C HW) ((es.take n1).map V.ref ++ [x] ++ (es.drop (n1 + 1)).map V.ref) ((os.take n1).map shownE ++ [t] ++ (os.drop (n1 + 1)).map shownE) := paired_appR q2 (paired_snoc (hs9.same s9W) q1)
        have mem : ∀ t' ∈ (os.take n1).map shownE ++ [t] ++ (os.drop (n1 + 1)).map shownE, okA t' = true ∧ t'.length ≤ 300000 := fun t' m => by
          rcases List.mem_append.mp m with m | m
          · rcases List.mem_append.mp m with m | m
            · obtain ⟨o, mo, rfl⟩ := List.mem_map.mp m
              exact okS o (List.mem_of_mem_take mo)
            · rw [List.mem_singleton.mp m]
              exact ⟨ok, by omega⟩
          · obtain ⟨o, mo, rfl⟩ := List.mem_map.mp m
            exact okS o (List.mem_of_mem_drop mo)
        have hlen : ((es.take n1).map V.ref ++ [x] ++ (es.drop (n1 + 1)).map V.ref).length = es.length := by
          rw [List.length_append, List.length_append, List.length_map, List.length_map, List.length_take, List.length_drop, List.length_singleton]
          omega
        have hl2 := paired_len q3
        refine ⟨listText ((os.take n1).map shownE ++ [t] ++ (os.drop (n1 + 1)).map shownE), .inr (.inr (.inr (.inr ⟨c5, _, rfl, .of h, by omega, by omega, fun y my => ?_, x, by simp, d, DpX.same s9W _ _ hd9⟩))), .inr (.inr (.inl ⟨c5, _, _, rfl, h, q3, list_sh (fun t m => (mem t m).2) (by omega), rfl⟩)), okA_list fun t m => (mem t m).1⟩
        rcases List.mem_append.mp my with m | m
        · rcases List.mem_append.mp m with m | m
          · obtain ⟨e, me, rfl⟩ := List.mem_map.mp m
            obtain ⟨j2, hj2⟩ := List.getElem?_of_mem (List.mem_of_mem_take me)
            obtain ⟨o, _, hV⟩ := paired_at hPW hj2
            exact .inl ⟨e, o, rfl, hV⟩
          · rw [List.mem_singleton.mp m]
            exact .inr ⟨d, DpX.same s9W _ _ hd9⟩
        · obtain ⟨e, me, rfl⟩ := List.mem_map.mp m
          obtain ⟨j2, hj2⟩ := List.getElem?_of_mem (List.mem_of_mem_drop me)
          obtain ⟨o, _, hV⟩ := paired_at hPW hj2
          exact .inl ⟨e, o, rfl, hV⟩
      · have h := d11 _ _ m10
        have mO : ∀ o ∈ (List.replicate 21 os).flatten.take 21, o ∈ os := fun o m => flat_mem (List.mem_of_mem_take m)
        have q1 := elS (paired_take 21 (paired_flat hPW 21)) fun o m => oE o (mO o m)
        have hlen : (((List.replicate 21 es).flatten.take 21).map V.ref).length = 21 := by
          rw [List.length_map, List.length_take, flat_len]
          omega
        have hl2 := paired_len q1
        refine ⟨listText (((List.replicate 21 os).flatten.take 21).map shownE), .inr (.inr (.inr (.inl ⟨f2, _, rfl, .of h, .inr (by omega)⟩))), .inr (.inr (.inl ⟨f2, _, _, rfl, h, q1, list_sh (fun t m => ?_) (by omega), rfl⟩)), okA_list fun t m => ?_⟩
        · obtain ⟨o, mo, rfl⟩ := List.mem_map.mp m
          exact (okS o (mO o mo)).2
        · obtain ⟨o, mo, rfl⟩ := List.mem_map.mp m
          exact (okS o (mO o mo)).1
      · obtain ⟨o, ho, hV⟩ := paired_at hPW (List.getElem?_eq_getElem (show 0 < es.length by omega))
        have mo := List.mem_of_getElem? ho
        exact ⟨shownE o, .inr (.inl ⟨_, o, rfl, hV⟩), .inr (.inl ⟨_, o, rfl, hV, oE o mo, rfl⟩), (okS o mo).1⟩
    -- each is refused at each door
    refine ⟨_, rfl, W, rfl, ⟨_, .of m11⟩, for_list (K := K) (a := W) (xs := [.non, .ref b1, .ref b2, .ref b3, .ref c5, .ref f2, .ref es[0]]) (fun j σ HX => ∃ (z8 z9 : Option V), σ = [some (.ref a), some (.int (0 + (i : Nat))), some (.ref p), some (.ref l), some (.ref D), some (.int (n1 : Nat)), some x, some (.ref W), z8, z9, y10, y11, y12, y13, y14] ∧ Same HW HX) ⟨_, _, rfl, Same.refl _⟩ (fun j σ HX _ ⟨_, _, _, q⟩ => .of (q _ _ m11)) ?_ ?_⟩
    · rintro j x' σ HX hj ⟨z8, z9, rfl, sX⟩
      obtain ⟨t', hb', hs', ok'⟩ := all j x' hj
      refine ⟨3, rfl, by decide, by decide, for_range (lo := 0) (n := 3) (fun m σ HY => ∃ z9 : Option V, σ = [some (.ref a), some (.int (0 + (i : Nat))), some (.ref p), some (.ref l), some (.ref D), some (.int (n1 : Nat)), some x, some (.ref W), some x', z9, y10, y11, y12, y13, y14] ∧ Same HW HY) ⟨_, rfl, sX⟩ ?_ ?_⟩
      · rintro m σ HY hm ⟨z9, rfl, sY⟩
        refine ⟨_, rfl, _, rfl, 0 + (m : Nat), x', .non, rfl, .inl ⟨t', by omega, (hb'.same sY).bad T TI kL kC, hs'.same sY, fun l1 HZ sZ nl hl1 => ?_⟩⟩
        refine ⟨_, rfl, x', t', rfl, hs'.same (sY.trans sZ), fun HZ2 sZ2 => ⟨(by show 2 ≤ sizeLine; decide), fun l2 hl2 => ?_⟩⟩
        exact ne_two (by decide +kernel) ok' (Same.new hl2 _ _ (sZ2 _ _ hl1)) upd_same ⟨false, rfl, iteF ⟨_, rfl, ((sY.trans sZ).trans sZ2).trans (Same.new hl2)⟩⟩
      · rintro σ HY ⟨z9, rfl, sY⟩
        exact ⟨_, _, rfl, sY⟩
    rintro σ HX ⟨z8, z9, rfl, sX⟩
    have s9X := s9W.trans sX
    have pX := p9.same s9X
    have s7X : Same (hid [p] H7) (hid [p] HX) := s79.trans (hid_of s9X)
    -- what was seen
    refine ⟨_, rfl, _, rfl, p, l, 3, zs, rfl, pX, lp, hid_out _ _ _ _ (s7X _ _ hlG7), zne, by omega, by decide, by decide, fun t1 v1 HA bA pA t10 ht1 lv1 hv1 => ⟨(by show 2 ≤ sizeLine; decide), fun T1 hT1 => ?_⟩⟩
    have sXA : Same (hid [p] HX) (hid [p] HA) := hid_but bA pm1
    have a1 : Same HA (upd HA T1 (.tup [.ref t1, .non])) := Same.new hT1
    have kT1 := upd_same (H := HA) (a := T1) (o := .tup [.ref t1, .non])
    generalize upd HA T1 (.tup [.ref t1, .non]) = HA1 at a1 kT1 ⊢
    have pA1 := pA.same a1
    have sX1 := sXA.trans (hid_of (S := [p]) a1)
    have t1G : SqT K (hid [p] HA1) t1 (v1.map V.str) := hid_tup (LstAll.pool pA1) (.of (a1 _ _ ht1))
    have T1G : SqT K (hid [p] HA1) T1 [.ref t1, .non] := hid_tup (LstAll.pool pA1) (.of kT1)
    refine ⟨_, rfl, _, rfl, p, l, 3, zs, rfl, pA1, lp, hid_out _ _ _ _ (sX1 _ _ (s7X _ _ hlG7)), zne, by omega, by decide, by decide, fun t2 v2 HB bB pB t20 ht2 lv2 hv2 => ?_⟩
    have s1B : Same (hid [p] HA1) (hid [p] HB) := hid_but bB pm1
    have t2G : SqT K (hid [p] HB) t2 (v2.map V.str) := hid_tup (LstAll.pool pB) (.of ht2)
    refine ⟨_, rfl, _, rfl, p, l, 2, zs, rfl, pB, lp, hid_out _ _ _ _ (s1B _ _ (sX1 _ _ (s7X _ _ hlG7))), zne, by omega, by decide, by decide, fun t3 v3 HC bC pC t30 ht3 lv3 hv3 => ⟨(by show 2 ≤ sizeLine; decide), fun T2 hT2 => ?_⟩⟩
    have sBC : Same (hid [p] HB) (hid [p] HC) := hid_but bC pm1
    have a2 : Same HC (upd HC T2 (.tup [.ref t2, .ref t3])) := Same.new hT2
    have kT2 := upd_same (H := HC) (a := T2) (o := .tup [.ref t2, .ref t3])
    generalize upd HC T2 (.tup [.ref t2, .ref t3]) = HC1 at a2 kT2 ⊢
    refine ⟨(by show 2 ≤ sizeLine; decide), fun S hSn => ?_⟩
    have Sp : S ≠ p := (pC.same a2).free hSn
    have a3 : Same HC1 (upd HC1 S (.lst [.ref T1, .ref T2])) := Same.new hSn
    have kS := upd_same (H := HC1) (a := S) (o := .lst [.ref T1, .ref T2])
    generalize upd HC1 S (.lst [.ref T1, .ref T2]) = HC2 at a3 kS ⊢
    have a23 := a2.trans a3
    have pC2 := pC.same a23
    have t3G : SqT K (hid [p] HC2) t3 (v3.map V.str) := hid_tup (LstAll.pool pC2) (.of (a23 _ _ ht3))
    have T2G : SqT K (hid [p] HC2) T2 [.ref t2, .ref t3] := hid_tup (LstAll.pool pC2) (.of (a3 _ _ kT2))
    have sB2 := sBC.trans (hid_of (S := [p]) a23)
    refine ⟨_, rfl, p, 3, rfl, pC2, by decide, by decide, fun r6 HD bD pD x0 x1 => ?_⟩
    obtain ⟨n2, rfl⟩ : ∃ n : Nat, r6 = (n : Int) := ⟨r6.toNat, by omega⟩
    have hn2 : n2 ≤ 2 := by omega
    have s2D : Same (hid [p] HC2) (hid [p] HD) := hid_but bD pm1
    have sBD := sB2.trans s2D
    have s1D := s1B.trans sBD
    have s7D := (s7X.trans sX1).trans s1D
    have t1D : SqT K HD t1 (v1.map V.str) := Same.tup (hid_out _ _) (Same.tup s1D t1G)
    have T1D : SqT K HD T1 [.ref t1, .non] := Same.tup (hid_out _ _) (Same.tup s1D T1G)
    have t2D : SqT K HD t2 (v2.map V.str) := Same.tup (hid_out _ _) (Same.tup sBD t2G)
    have t3D : SqT K HD t3 (v3.map V.str) := Same.tup (hid_out _ _) (Same.tup s2D t3G)
    have T2D : SqT K HD T2 [.ref t2, .ref t3] := Same.tup (hid_out _ _) (Same.tup s2D T2G)
    have hSD : HD S = some (.lst [.ref T1, .ref T2]) := bD _ _ Sp kS
    have hDD := hid_out _ _ _ _ (s7D _ _ hDG)
    have hED : Paired (EffV K C HD) es os := effs_same (effs_same hPG s7D) (hid_out _ _)
    have i1 : ∀ z ∈ v1, Item z := fun z m => iz z (hv1 z m)
    have i2 : ∀ z ∈ v2, Item z := fun z m => iz z (hv2 z m)
    have i3 : ∀ z ∈ v3, Item z := fun z m => iz z (hv3 z m)
    have good : ∀ {HX : Hp}, Same HD HX → GoodC K C HX (.ref D) es os := fun s => ⟨D, rfl, .of (s _ _ hDD), effs_same hED s, oE, l0, l1⟩
    have dT1 : ∀ {HX : Hp}, Same HD HX → DpX K HX (.ref T1) (.tuple [.tuple (v1.map .str), .none]) := fun s => .tup (Same.tup s T1D) (.cons (.tup (Same.tup s t1D) (dpxs_strs _)) (.cons .non .nil))
    have dT2 : ∀ {HX : Hp}, Same HD HX → DpX K HX (.ref T2) (.tuple [.tuple (v2.map .str), .tuple (v3.map .str)]) := fun s => .tup (Same.tup s T2D) (.cons (.tup (Same.tup s t2D) (dpxs_strs _)) (.cons (.tup (Same.tup s t3D) (dpxs_strs _)) .nil))
    have oT1 : obsD (.tuple [.tuple (v1.map .str), .none]) = true := by
      show (wordD (.tuple (v1.map .str)) && (true || wordD .none)) = true
      rw [word_D i1]
      rfl
    have oT2 : obsD (.tuple [.tuple (v2.map .str), .tuple (v3.map .str)]) = true := by
      show (wordD (.tuple (v2.map .str)) && (false || wordD (.tuple (v3.map .str)))) = true
      rw [word_D i2, word_D i3]
      rfl
    have nW : ∀ {v : List Str}, (∀ z ∈ v, Item z) → v.length ≤ 900 → NX 1 9000 (.tuple (v.map .str)) := fun {v} iv lv => ((nice_tuple (nice_strs iv)).mono (by decide) (by rw [List.length_map]; omega)).nx
    have kT1 : OkD (.tuple [.tuple (v1.map .str), .none]) := (nx_tuple (k := 1) (B := 9000) (ds := [.tuple (v1.map .str), .none]) fun e m => by
      rcases List.mem_cons.mp m with q | m
      · rw [q]
        exact nW i1 (by omega)
      · rw [List.mem_singleton.mp m]
        exact ⟨by decide +kernel, by decide +kernel, by decide +kernel, by decide +kernel, by decide +kernel⟩).mono (by decide) (by show 2 * 9001 ≤ _; decide)
    have kT2 : OkD (.tuple [.tuple (v2.map .str), .tuple (v3.map .str)]) := (nx_tuple (k := 1) (B := 9000) (ds := [.tuple (v2.map .str), .tuple (v3.map .str)]) fun e m => by
      rcases List.mem_cons.mp m with q | m
      · rw [q]
        exact nW i2 (by omega)
      · rw [List.mem_singleton.mp m]
        exact nW i3 (by omega)).mono (by decide) (by show 2 * 9001 ≤ _; decide)
    have badO : ∀ {d : PyData}, obsD d = false → OkD d → BadO (.list (([.tuple [.tuple (v1.map .str), .none], .tuple [.tuple (v2.map .str), .tuple (v3.map .str)]] : List PyData).take n2 ++ [d] ++ ([.tuple [.tuple (v1.map .str), .none], .tuple [.tuple (v2.map .str), .tuple (v3.map .str)]] : List PyData).drop n2 ++ [.int 5])) (.int (n2 : Nat)) := fun {d} hd od => by
      have : n2 = 0 ∨ n2 = 1 ∨ n2 = 2 := by omega
      rcases this with rfl | rfl | rfl
      · refine .inr ⟨_, 0, d, rfl, by show 4 ≤ 1000; decide, rfl, hd, fun i y h => (by omega), fun i y h e => ?_, rfl⟩
        obtain rfl : i = 0 := by omega
        cases e
        exact od
      · refine .inr ⟨_, 1, d, rfl, by show 4 ≤ 1000; decide, rfl, hd, fun i y h e => ?_, fun i y h e => ?_, rfl⟩
        · obtain rfl : i = 0 := by omega
          cases e
          exact oT1
        · rcases (show i = 0 ∨ i = 1 by omega) with rfl | rfl
          · cases e
            exact kT1
          · cases e
            exact od
      · refine .inr ⟨_, 2, d, rfl, by show 4 ≤ 1000; decide, rfl, hd, fun i y h e => ?_, fun i y h e => ?_, rfl⟩
        · rcases (show i = 0 ∨ i = 1 by omega) with rfl | rfl
          · cases e
            exact oT1
          · cases e
            exact oT2
        · rcases (show i = 0 ∨ i = 1 ∨ i = 2 by omega) with rfl | rfl | rfl
          · cases e
            exact kT1
          · cases e
            exact kT2
          · cases e
            exact od
    have dpO : ∀ {HX : Hp} {x' : V} {d : PyData}, Same HD HX → DpX K HX x' d → DpXs K HX (([T1, T2].take n2).map V.ref ++ [x'] ++ ([T1, T2].drop n2).map V.ref ++ [.int 5]) (([.tuple [.tuple (v1.map .str), .none], .tuple [.tuple (v2.map .str), .tuple (v3.map .str)]] : List PyData).take n2 ++ [d] ++ ([.tuple [.tuple (v1.map .str), .none], .tuple [.tuple (v2.map .str), .tuple (v3.map .str)]] : List PyData).drop n2 ++ [.int 5]) := fun {HX x' d} s hx => by
      have : n2 = 0 ∨ n2 = 1 ∨ n2 = 2 := by omega
      rcases this with rfl | rfl | rfl
      · exact .cons hx (.cons (dT1 s) (.cons (dT2 s) (.cons (.int 5) .nil)))
      · exact .cons (dT1 s) (.cons hx (.cons (dT2 s) (.cons (.int 5) .nil)))
      · exact .cons (dT1 s) (.cons (dT2 s) (.cons hx (.cons (.int 5) .nil)))
    -- the wrong ones
    dsimp only [gName, tSeq, tAsg]
    refine TDs.listN (K := K) (H0 := HD) (ds := wrongs) ?td (by decide) (Same.refl HD) (fun vs HE Wr sE hVs hWr => ?kk)
    case td => exact .cons .non (.cons (.tup .nil (by decide)) (.cons (.tup (.cons (.tup .nil (by decide)) .nil) (by decide)) (.cons (.tup (.cons (.tup .nil (by decide)) (.cons (.tup .nil (by decide)) (.cons (.tup .nil (by decide)) .nil))) (by decide)) (.cons (.lst (.cons (.tup .nil (by decide)) (.cons (.tup .nil (by decide)) .nil)) (by decide)) (.cons (.tup (.cons (.lst (.cons (.str _) .nil) (by decide)) (.cons (.tup .nil (by decide)) .nil)) (by decide)) (.cons (.tup (.cons (.tup .nil (by decide)) (.cons (.lst (.cons (.str _) .nil) (by decide)) .nil)) (by decide)) (.cons (.tup (.cons (.tup .nil (by decide)) (.cons (.str _) .nil)) (by decide)) (.cons (.tup (.cons (.tup (.cons (.str _) .nil) (by decide)) (.cons .non .nil)) (by decide)) .nil))))))))
    case kk =>
    have lvs := hVs.len
    have lvs : vs.length = 9 := lvs
    have q1 : Same HE (upd HE Wr (.lst vs)) := Same.new hWr
    have k1' := upd_same (H := HE) (a := Wr) (o := .lst vs)
    generalize upd HE Wr (.lst vs) = HE1 at q1 k1' ⊢
    refine ⟨.ref Wr, rfl, .inl ⟨rfl, _, .of k1'⟩, (by show 2 ≤ sizeLine; decide), fun T3 hT3 => ?_⟩
    have q2 : Same HE1 (upd HE1 T3 (.tup [.non, .non])) := Same.new hT3
    have k2' := upd_same (H := HE1) (a := T3) (o := .tup [.non, .non])
    generalize upd HE1 T3 (.tup [.non, .non]) = HE2 at q2 k2' ⊢
    refine ⟨Wr, vs, _, rfl, rfl, q2 _ _ k1', by rw [lvs]; decide, ?_⟩
    have nTW : T3 ≠ Wr := fun e => by
      have := q2 _ _ k1'
      rw [← e, k2'] at this
      cases this
    have q3 : Same HE (upd HE2 Wr (.lst (vs ++ [.ref T3]))) := Same.free2 (q1.trans q2) hWr
    have k3' := upd_same (H := HE2) (a := Wr) (o := .lst (vs ++ [.ref T3]))
    have k4' : upd HE2 Wr (.lst (vs ++ [.ref T3])) T3 = some (.tup [.non, .non]) := by
      rw [upd_ne nTW]
      exact k2'
    generalize upd HE2 Wr (.lst (vs ++ [.ref T3])) = HF at q3 k3' k4' ⊢
    have hXs : DpXs K HF (vs ++ [.ref T3]) wrongs2 := dpxs_app (.cons (.tup (.of k4') (.cons .non (.cons .non .nil))) .nil) (DpXs.same q3 _ _ hVs)
    have sDF := sE.trans q3
    have lxs : (vs ++ [V.ref T3]).length = 10 := by rw [List.length_append, lvs]; rfl
    generalize vs ++ [V.ref T3] = xs3 at k3' hXs lxs
    refine ⟨_, rfl, Wr, rfl, ⟨_, .of k3'⟩, for_list (K := K) (a := Wr) (xs := xs3) (fun j σ HX => ∃ z13 : Option V, σ = [some (.ref a), some (.int (0 + (i : Nat))), some (.ref p), some (.ref l), some (.ref D), some (.int (n1 : Nat)), some x, some (.ref W), z8, z9, some (.ref S), some (.int (n2 : Nat)), some (.ref Wr), z13, y14] ∧ Same HF HX) ⟨_, rfl, Same.refl _⟩ (fun j σ HX _ ⟨_, _, q⟩ => .of (q _ _ k3')) ?_ ?_⟩
    · rintro j x' σ HX hj ⟨z13, rfl, sFX⟩
      obtain ⟨d', hd', hD'⟩ := hXs.at hj
      have hm := List.mem_of_getElem? hd'
      have ok1 := List.all_eq_true.mp wrongs_ok d' hm
      have ok2 := List.all_eq_true.mp wrongs_word d' hm
      have ok3 := List.all_eq_true.mp wrongs_shown d' hm
      simp only [Bool.and_eq_true, Bool.not_eq_true'] at ok1
      have nx := sm_of ok1.1
      have od : OkD d' := nx.mono (by decide) (by decide)
      have sDX := sDF.trans sFX
      have hS' := sDX _ _ hSD
      refine ⟨_, rfl, _, rfl, _, rfl, _, rfl, S, _, rfl, .of hS', fun c1 hc1 => ?_⟩
      rw [show [V.ref T1, .ref T2] = [T1, T2].map V.ref from rfl, cutF_to]
      have f1 : Same HX (upd HX c1 (.lst (([T1, T2].take n2).map V.ref))) := Same.new hc1
      have g1 := upd_same (H := HX) (a := c1) (o := .lst (([T1, T2].take n2).map V.ref))
      generalize upd HX c1 (.lst (([T1, T2].take n2).map V.ref)) = X1 at f1 g1 ⊢
      refine ⟨_, rfl, (by show 1 ≤ sizeLine; decide), fun c2 hc2 => ?_⟩
      have f2 : Same X1 (upd X1 c2 (.lst [x'])) := Same.new hc2
      have g2 := upd_same (H := X1) (a := c2) (o := .lst [x'])
      generalize upd X1 c2 (.lst [x']) = X2 at f2 g2 ⊢
      have tk2 : ([T1, T2].take n2).length ≤ 2 := by
        have := List.length_take_le n2 [T1, T2]
        rw [List.length_take]
        show min n2 2 ≤ 2
        omega
      have dr2 : ([T1, T2].drop n2).length ≤ 2 := by
        rw [List.length_drop]
        show 2 - n2 ≤ 2
        omega
      refine ⟨c1, c2, _, _, rfl, rfl, f2 _ _ g1, g2, ?_, fun c3 hc3 => ?_⟩
      · rw [List.length_map, List.length_singleton, sizeLine_eq]
        omega
      have f3 : Same X2 (upd X2 c3 (.lst (([T1, T2].take n2).map V.ref ++ [x']))) := Same.new hc3
      have g3 := upd_same (H := X2) (a := c3) (o := .lst (([T1, T2].take n2).map V.ref ++ [x']))
      generalize upd X2 c3 (.lst (([T1, T2].take n2).map V.ref ++ [x'])) = X3 at f3 g3 ⊢
      have f13 := (f1.trans f2).trans f3
      refine ⟨_, rfl, _, rfl, _, rfl, S, _, rfl, .of (f13 _ _ hS'), fun c4 hc4 => ?_⟩
      rw [show [V.ref T1, .ref T2] = [T1, T2].map V.ref from rfl, cutF_from]
      have f4 : Same X3 (upd X3 c4 (.lst (([T1, T2].drop n2).map V.ref))) := Same.new hc4
      have g4 := upd_same (H := X3) (a := c4) (o := .lst (([T1, T2].drop n2).map V.ref))
      generalize upd X3 c4 (.lst (([T1, T2].drop n2).map V.ref)) = X4 at f4 g4 ⊢
      refine ⟨c3, c4, _, _, rfl, rfl, f4 _ _ g3, g4, ?_, fun c5 hc5 => ?_⟩
      · rw [List.length_append, List.length_map, List.length_map, List.length_singleton, sizeLine_eq]
        omega
      have f5 : Same X4 (upd X4 c5 (.lst (([T1, T2].take n2).map V.ref ++ [x'] ++ ([T1, T2].drop n2).map V.ref))) := Same.new hc5
      have g5 := upd_same (H := X4) (a := c5) (o := .lst (([T1, T2].take n2).map V.ref ++ [x'] ++ ([T1, T2].drop n2).map V.ref))
      generalize upd X4 c5 (.lst (([T1, T2].take n2).map V.ref ++ [x'] ++ ([T1, T2].drop n2).map V.ref)) = X5 at f5 g5 ⊢
      refine ⟨(by show 1 ≤ sizeLine; decide), fun c6 hc6 => ?_⟩
      have f6 : Same X5 (upd X5 c6 (.lst [.int 5])) := Same.new hc6
      have g6 := upd_same (H := X5) (a := c6) (o := .lst [.int 5])
      generalize upd X5 c6 (.lst [.int 5]) = X6 at f6 g6 ⊢
      refine ⟨c5, c6, _, _, rfl, rfl, f6 _ _ g5, g6, ?_, fun c7 hc7 => ?_⟩
      · rw [List.length_append, List.length_append, List.length_map, List.length_map, List.length_singleton, List.length_singleton, sizeLine_eq]
        omega
      have f7 : Same X6 (upd X6 c7 (.lst (([T1, T2].take n2).map V.ref ++ [x'] ++ ([T1, T2].drop n2).map V.ref ++ [.int 5]))) := Same.new hc7
      have g7 := upd_same (H := X6) (a := c7) (o := .lst (([T1, T2].take n2).map V.ref ++ [x'] ++ ([T1, T2].drop n2).map V.ref ++ [.int 5]))
      generalize upd X6 c7 (.lst (([T1, T2].take n2).map V.ref ++ [x'] ++ ([T1, T2].drop n2).map V.ref ++ [.int 5])) = X7 at f7 g7 ⊢
      have f17 := (((f13.trans f4).trans f5).trans f6).trans f7
      have sD7 := sDX.trans f17
      have hD7 := DpX.same (sFX.trans f17) _ _ hD'
      refine ⟨0, .ref D, .ref c7, rfl, .inr (.inl ⟨es, os, _, .int (n2 : Nat), rfl, good sD7, .lst (.of g7) (dpO sD7 hD7), badO ok1.2 od, fun l1 HY sY nl hl1 => ?_⟩)⟩
      refine ⟨_, rfl, (by show 2 ≤ sizeLine; decide), fun l2 hl2 => ?_⟩
      have f8 : Same HY (upd HY l2 (.lst [.str "observation", .int (n2 : Nat)])) := Same.new hl2
      have f18 := (f17.trans sY).trans f8
      refine ne_pair (d := .int (n2 : Nat)) (by decide +kernel) (.int _) ?_ (f8 _ _ hl1) upd_same ⟨false, rfl, iteF ?_⟩
      · have h1 := oks_lay (x := "observation") (by decide +kernel)
        simp [SeqAt.shaped, PyData.canLay0, PyData.canLayAll0, PyData.depth, PyData.depthAll, h1]
      generalize upd HY l2 (.lst [.str "observation", .int (n2 : Nat)]) = X8 at f18 ⊢
      have hD8 := DpX.same (sFX.trans f18) _ _ hD'
      have sD8 := sDX.trans f18
      have shD : ShD d' := ⟨nx.sh, Nat.le_trans nx.dep (by decide), nx.shown (by decide) (by decide)⟩
      cases he : isEmp d' with
      | true =>
        obtain ⟨t0, rfl, rfl, ht0⟩ : ∃ t0, x' = .ref t0 ∧ d' = .tuple [] ∧ ∀ {HZ : Hp}, Same HX HZ → SqT K HZ t0 [] := by
          cases hD' with
          | @tup t0 xs ds hT ha =>
            cases ha with
            | nil => exact ⟨t0, rfl, rfl, fun s => Same.tup (sFX.trans s) hT⟩
            | cons _ _ => simp [isEmp] at he
          | non => simp [isEmp] at he
          | bl b => simp [isEmp] at he
          | int b => simp [isEmp] at he
          | str b => simp [isEmp] at he
          | lst _ _ => simp [isEmp] at he
          | emp _ => simp [isEmp] at he
        refine ⟨_, rfl, _, rfl, 1, .ref D, .ref t0, rfl, .inr (.inr (.inr ⟨es, os, good sD8, .inr (.inl ⟨rfl, t0, [], rfl, ht0 f18, fun z m => (by cases m), by decide⟩), fun l3 HZ sZ nl3 hl3 => ?_⟩))⟩
        refine ⟨_, rfl, .ref t0, .tuple [], rfl, .tup (ht0 (f18.trans sZ)) .nil, shD.1, shD.2.1, shD.2.2, (by show 2 ≤ sizeLine; decide), fun l4 hl4 => ?_⟩
        refine ⟨.list [.str "told"], .list [.str "word", .str (PyData.tuple []).shown], .lst (.of (Same.new hl4 _ _ hl3)) (.cons (.str _) .nil), .lst (.of upd_same) (.cons (.str _) (.cons (.str _) .nil)), by decide +kernel, by decide +kernel, ?_⟩
        have ee : PyData.eqv (.list [.str "told"]) (.list [.str "word", .str (PyData.tuple []).shown]) = false := by decide +kernel
        rw [ee]
        have f9 := (f18.trans sZ).trans (Same.new (o := .lst [.str "word", .str (PyData.tuple []).shown]) hl4)
        refine ⟨true, rfl, iteT ⟨_, rfl, (by show 0 ≤ sizeLine; decide), fun t5 ht5 => ?_⟩⟩
        have f10 := f9.trans (Same.new (o := .tup []) ht5)
        refine ⟨.tuple [], .tuple [], .tup (ht0 f10) .nil, .tup (.of upd_same) .nil, by decide +kernel, by decide +kernel, ?_⟩
        have e2 : PyData.eqv (.tuple []) (.tuple []) = true := by decide +kernel
        rw [e2]
        exact ⟨false, rfl, iteF ⟨_, rfl, sFX.trans f10⟩⟩
      | false =>
        rw [he, Bool.false_or, Bool.not_eq_true'] at ok2
        refine ⟨_, rfl, _, rfl, 1, .ref D, x', rfl, .inr (.inr (.inl ⟨es, os, d', rfl, good sD8, hD8, od, shD, ok2, fun l3 HZ sZ nl3 hl3 => ?_⟩))⟩
        refine ⟨_, rfl, x', d', rfl, DpX.same sZ _ _ hD8, shD.1, shD.2.1, shD.2.2, (by show 2 ≤ sizeLine; decide), fun l4 hl4 => ?_⟩
        exact ne_two (by decide +kernel) ok3 (Same.new hl4 _ _ hl3) upd_same ⟨false, rfl, iteF (iteF ⟨_, rfl, ((sFX.trans f18).trans sZ).trans (Same.new hl4)⟩)⟩
    rintro σ HX2 ⟨z13, rfl, sFX⟩
    have sD2 := sDF.trans sFX
    -- no list of observations
    refine ⟨_, rfl, S, _, rfl, .inl ⟨.of (sD2 _ _ hSD), fun u2 hu2 => ?_⟩⟩
    have h1 : Same HX2 (upd HX2 u2 (.tup [.ref T1, .ref T2])) := Same.new hu2
    have j1 := upd_same (H := HX2) (a := u2) (o := .tup [.ref T1, .ref T2])
    generalize upd HX2 u2 (.tup [.ref T1, .ref T2]) = Y1 at h1 j1 ⊢
    intro u3 hu3
    have h2 : Same Y1 (upd Y1 u3 (.dK [])) := Same.new hu3
    have j2 := upd_same (H := Y1) (a := u3) (o := .dK [])
    generalize upd Y1 u3 (.dK []) = Y2 at h2 j2 ⊢
    refine ⟨(by show 4 ≤ sizeLine; decide), fun V4 hV4 => ?_⟩
    have h3 : Same Y2 (upd Y2 V4 (.lst [.non, .ref u2, .ref u3, .str "a"])) := Same.new hV4
    have j3 := upd_same (H := Y2) (a := V4) (o := .lst [.non, .ref u2, .ref u3, .str "a"])
    generalize upd Y2 V4 (.lst [.non, .ref u2, .ref u3, .str "a"]) = Y3 at h3 j3 ⊢
    have hX3 := (h1.trans h2).trans h3
    have sD3 := sD2.trans hX3
    have things : ∀ (j : Nat) (x' : V), [V.non, .ref u2, .ref u3, .str "a"][j]? = some x' → ∃ d', DpX K Y3 x' d' ∧ isLst d' = false := by
      intro j x' hj
      have hm := List.mem_of_getElem? hj
      simp only [List.mem_cons, List.not_mem_nil, or_false] at hm
      rcases hm with rfl | rfl | rfl | rfl
      · exact ⟨.none, .non, rfl⟩
      · exact ⟨.tuple _, .tup (.of (h3 _ _ (h2 _ _ j1))) (.cons (dT1 sD3) (.cons (dT2 sD3) .nil)), rfl⟩
      · exact ⟨.dict [], .emp (h3 _ _ j2), rfl⟩
      · exact ⟨.str "a", .str _, rfl⟩
    refine ⟨V4, rfl, ⟨_, .of j3⟩, for_list (K := K) (a := V4) (xs := [.non, .ref u2, .ref u3, .str "a"]) (fun j σ HX => ∃ z8 : Option V, σ = [some (.ref a), some (.int (0 + (i : Nat))), some (.ref p), some (.ref l), some (.ref D), some (.int (n1 : Nat)), some x, some (.ref W), z8, z9, some (.ref S), some (.int (n2 : Nat)), some (.ref Wr), z13, y14] ∧ Same Y3 HX) ⟨_, rfl, Same.refl _⟩ (fun j σ HX _ ⟨_, _, q⟩ => .of (q _ _ j3)) ?_ ?_⟩
    · rintro j x' σ HX hj ⟨z8', rfl, s3X⟩
      obtain ⟨d', hd', hl'⟩ := things j x' hj
      have sDX := sD3.trans s3X
      refine ⟨_, rfl, _, rfl, 0, .ref D, x', rfl, .inr (.inl ⟨es, os, d', .non, rfl, good sDX, DpX.same s3X _ _ hd', .inl ⟨hl', rfl⟩, fun l1 HY sY nl hl1 => ⟨(by show 2 ≤ sizeLine; decide), fun l2 hl2 => ?_⟩⟩)⟩
      exact ne_pair (d := .none) (by decide +kernel) .non (by decide +kernel) (Same.new hl2 _ _ hl1) upd_same ⟨false, rfl, iteF ⟨_, rfl, (s3X.trans sY).trans (Same.new hl2)⟩⟩
    rintro σ HX3 ⟨z8', rfl, s3X⟩
    have sD4 := sD3.trans s3X
    -- what is accepted
    refine ⟨3, rfl, by decide, by decide, fun D2 hD2 => lc_range (lo := 0) (n := 3) (fun m HY => ∃ vs : List V, HY D2 = some (.lst vs) ∧ vs.length = m ∧ (∀ v ∈ vs, ∃ t, v = .ref t ∧ HY t = some (.lst [.str "told"])) ∧ Same HX3 HY) ?_ ?_ ?_⟩
    · exact ⟨[], upd_same, rfl, fun v m => (by cases m), Same.new hD2⟩
    · rintro m HY hm ⟨vs', hv', lv', hall, sY⟩
      have sDY := sD4.trans sY
      have hDY := sDY _ _ hDD
      refine ⟨rfl, yes_in ⟨_, rfl, _, rfl, D, 20, _, rfl, rfl, hDY, by decide, by decide, ?_, fun f1 hf1 => ?_⟩⟩
      · rw [List.length_map, sizeLine_eq]
        show es.length * 20 ≤ _
        omega
      have e1 : Same HY (upd HY f1 (.lst (List.replicate (20 : Int).toNat (es.map V.ref)).flatten)) := Same.new hf1
      have m9 : upd HY f1 (.lst (List.replicate (20 : Int).toNat (es.map V.ref)).flatten) f1 = some (.lst ((List.replicate 20 es).flatten.map V.ref)) := by
        rw [upd_same, List.map_flatten, List.map_replicate]
        rfl
      generalize upd HY f1 (.lst (List.replicate (20 : Int).toNat (es.map V.ref)).flatten) = Z1 at e1 m9 ⊢
      refine ⟨_, rfl, f1, _, rfl, .of m9, fun f2 hf2 => ?_⟩
      rw [show (20 : Int) = ((20 : Nat) : Int) from rfl, cutF_to]
      have e2 : Same Z1 (upd Z1 f2 (.lst (((List.replicate 20 es).flatten.take 20).map V.ref))) := Same.new hf2
      have m10 := upd_same (H := Z1) (a := f2) (o := .lst (((List.replicate 20 es).flatten.take 20).map V.ref))
      generalize upd Z1 f2 (.lst (((List.replicate 20 es).flatten.take 20).map V.ref)) = Z2 at e2 m10 ⊢
      refine ⟨_, rfl, (by show 0 ≤ sizeLine; decide), fun u1 hu1 => ?_⟩
      have e3 : Same Z2 (upd Z2 u1 (.tup [])) := Same.new hu1
      have m11 := upd_same (H := Z2) (a := u1) (o := .tup [])
      generalize upd Z2 u1 (.tup []) = Z3 at e3 m11 ⊢
      refine ⟨(by show 2 ≤ sizeLine; decide), fun M3 hM3 => ?_⟩
      have e4 : Same Z3 (upd Z3 M3 (.lst [.ref S, .ref u1])) := Same.new hM3
      have m12 := upd_same (H := Z3) (a := M3) (o := .lst [.ref S, .ref u1])
      generalize upd Z3 M3 (.lst [.ref S, .ref u1]) = Z4 at e4 m12 ⊢
      have e14 := ((e1.trans e2).trans e3).trans e4
      have sDZ := sDY.trans e14
      have g20 : GoodC K C Z4 (.ref f2) ((List.replicate 20 es).flatten.take 20) ((List.replicate 20 os).flatten.take 20) := by
        have hl : ((List.replicate 20 es).flatten.take 20).length = 20 := by
          rw [List.length_take, flat_len]
          omega
        exact ⟨f2, rfl, .of (e4 _ _ (e3 _ _ m10)), paired_take 20 (paired_flat (effs_same hED sDZ) 20), fun o m => oE o (flat_mem (List.mem_of_mem_take m)), by omega, by omega⟩
      have next : ∀ (l1 : Addr) (HZ : Hp), Same Z4 HZ → Z4 l1 = none → HZ l1 = some (.lst [.str "told"]) → ∃ vs2 : List V, HZ D2 = some (.lst vs2) ∧ vs2.length < sizeLine ∧ ∃ vs3 : List V, upd HZ D2 (.lst (vs2 ++ [.ref l1])) D2 = some (.lst vs3) ∧ vs3.length = m + 1 ∧ (∀ v ∈ vs3, ∃ t, v = .ref t ∧ upd HZ D2 (.lst (vs2 ++ [.ref l1])) t = some (.lst [.str "told"])) ∧ Same HX3 (upd HZ D2 (.lst (vs2 ++ [.ref l1]))) := fun l1 HZ sZ nl hl1 => by
        have sYZ := e14.trans sZ
        have hvZ := sYZ _ _ hv'
        have n1 : l1 ≠ D2 := Ne.symm (ne_of_none (e14 _ _ hv') nl)
        refine ⟨vs', hvZ, by rw [lv', sizeLine_eq]; omega, vs' ++ [.ref l1], upd_same, by rw [List.length_append, lv']; rfl, fun v mv => ?_, Same.free2 (sY.trans sYZ) hD2⟩
        rcases List.mem_append.mp mv with mv' | mv'
        · obtain ⟨t', rfl, ht'⟩ := hall v mv'
          refine ⟨t', rfl, ?_⟩
          have nt : t' ≠ D2 := fun e => by
            rw [e, hv'] at ht'
            cases ht'
            simp at mv'
          rw [upd_ne nt]
          exact sYZ _ _ ht'
        · rw [List.mem_singleton.mp mv']
          exact ⟨l1, rfl, by rw [upd_ne n1]; exact hl1⟩
      have obs : Paired (ObV K Z4) [.ref T1, .ref T2] [(v1, none), (v2, some v3)] := .cons ⟨T1, t1, .non, rfl, Same.tup sDZ T1D, Same.tup sDZ t1D, rfl⟩ (.cons ⟨T2, t2, .ref t3, rfl, Same.tup sDZ T2D, Same.tup sDZ t2D, ⟨t3, rfl, Same.tup sDZ t3D⟩⟩ .nil)
      have obOk : ∀ b ∈ ([(v1, none), (v2, some v3)] : List Ob), ObOk b := fun b mb => by
        simp only [List.mem_cons, List.not_mem_nil, or_false] at mb
        rcases mb with rfl | rfl
        · exact ⟨i1, by show v1.length ≤ 1000; omega, fun zs' e => by cases e⟩
        · exact ⟨i2, by show v2.length ≤ 1000; omega, fun zs' e => by cases e; exact ⟨i3, by omega⟩⟩
      rcases (show m = 0 ∨ m = 1 ∨ m = 2 by omega) with rfl | rfl | rfl
      · refine ⟨_, rfl, _, 2, rfl, rfl, by decide, M3, _, _, .ref S, rfl, rfl, .of m12, at_of (j := 0) (by decide) rfl, 0, .ref f2, .ref S, rfl, .inr (.inr (.inr ⟨_, _, g20, .inl ⟨rfl, S, _, _, rfl, .of (sDZ _ _ hSD), obs, obOk, by show 2 ≤ 1000; decide⟩, next⟩))⟩
      · refine ⟨_, rfl, _, 2, rfl, rfl, by decide, M3, _, _, .ref u1, rfl, rfl, .of m12, at_of (j := 1) (by decide) rfl, 1, .ref f2, .ref u1, rfl, .inr (.inr (.inr ⟨_, _, g20, .inr (.inl ⟨rfl, u1, [], rfl, .of (e4 _ _ m11), fun z m => (by cases m), by decide⟩), next⟩))⟩
      · refine ⟨_, rfl, _, 2, rfl, rfl, by decide, M3, _, _, .ref S, rfl, rfl, .of m12, at_of (j := 0) (by decide) rfl, 2, .ref f2, .ref S, rfl, .inr (.inr (.inr ⟨_, _, g20, .inr (.inr rfl), next⟩))⟩
    rintro HY ⟨vs', hv', lv', hall, sY⟩
    refine ⟨(by show 1 ≤ sizeLine; decide), fun w1' hw1' => ?_⟩
    have e1 : Same HY (upd HY w1' (.lst [.str "told"])) := Same.new hw1'
    have m1' := upd_same (H := HY) (a := w1') (o := .lst [.str "told"])
    generalize upd HY w1' (.lst [.str "told"]) = Z1 at e1 m1' ⊢
    refine ⟨(by show 1 ≤ sizeLine; decide), fun w2' hw2' => ?_⟩
    have e2 : Same Z1 (upd Z1 w2' (.lst [.ref w1'])) := Same.new hw2'
    have m2' := upd_same (H := Z1) (a := w2') (o := .lst [.ref w1'])
    generalize upd Z1 w2' (.lst [.ref w1']) = Z2 at e2 m2' ⊢
    refine ⟨w2', 3, _, rfl, rfl, m2', by decide, by decide, (by show 1 * 3 ≤ sizeLine; decide), fun w3' hw3' => ?_⟩
    have e3 : Same Z2 (upd Z2 w3' (.lst (List.replicate (3 : Int).toNat [V.ref w1']).flatten)) := Same.new hw3'
    have m3' : upd Z2 w3' (.lst (List.replicate (3 : Int).toNat [V.ref w1']).flatten) w3' = some (.lst [.ref w1', .ref w1', .ref w1']) := upd_same
    generalize upd Z2 w3' (.lst (List.replicate (3 : Int).toNat [V.ref w1']).flatten) = Z3 at e3 m3' ⊢
    have e13 := (e1.trans e2).trans e3
    have hw := (e2.trans e3) _ _ m1'
    refine ⟨.list (List.replicate 3 (.list [.str "told"])), .list (List.replicate 3 (.list [.str "told"])), .lst (.of (e13 _ _ hv')) (dpx_dp (fun v m => ?_) lv'), .lst (.of m3') (dpx_dp (fun v m => ?_) rfl), by decide +kernel, by decide +kernel, ?_⟩
    · obtain ⟨t', rfl, ht'⟩ := hall v m
      exact ⟨t', rfl, e13 _ _ ht'⟩
    · simp only [List.mem_cons, List.not_mem_nil, or_false, or_self] at m
      exact ⟨w1', m, hw⟩
    have ee : PyData.eqv (.list (List.replicate 3 (.list [.str "told"]))) (.list (List.replicate 3 (.list [.str "told"]))) = true := by decide +kernel
    rw [ee]
    refine ⟨false, rfl, iteF ⟨_, _, _, _, _, _, _, _, _, _, _, _, _, _, rfl, ?_⟩⟩
    exact ((fin s7D).trans (sD4.trans sY)).trans e13
end
end SE
namespace SE
open PySem PySem.Spec PyProof.Rows L2
section
/-! ### what the top has left -/
theorem scI_InvalidCandidates : FnScope ["self", "value"] ["self", "value"] (defScope (inClass sInvalidcandidates 0)) := ⟨rfl, rfl, rfl, by decide +kernel, rfl, by decide +kernel, by decide +kernel⟩
theorem scI_InvalidObservation : FnScope ["self", "index"] ["self", "index"] (defScope (inClass sInvalidobservation 0)) := ⟨rfl, rfl, rfl, by decide +kernel, rfl, by decide +kernel, by decide +kernel⟩
theorem scI_InvalidWord : FnScope ["self", "value"] ["self", "value"] (defScope (inClass sInvalidword 0)) := ⟨rfl, rfl, rfl, by decide +kernel, rfl, by decide +kernel, by decide +kernel⟩
theorem kit_below {K : PySem.W.Frag} {C S : Addr} (h1 : PySem.W.subIn K (.ref C) (.ref S) = some true) (h2 : PySem.W.typeIn K (.ref S) = some (.type "type")) (h3 : PySem.W.hasDictIn K S = true) : PySem.W.kitOne K (.ref C) (.ref S) = some true := by
  obtain ⟨cd, hc, _⟩ := PySem.W.any_some h3
  unfold PySem.W.kitOne
  split
  · rfl
  · show (if ((PySem.W.clsIn K S).isSome && PySem.W.typeIn K (.ref S) == some (.type "type")) = true then PySem.W.subIn K (.ref C) (.ref S) else none) = some true
    rw [if_pos (by rw [hc, h2]; rfl)]
    exact h1
theorem def_mk {K : PySem.W.Frag} {h : Heap} {mg : Str → Option Value} {x : Str} {st : Stmt} {f : Addr} {oc : Value} {od an : Option Addr} {osl : Array (Option Value)} {kV doc pm cdv ct : Value} (X : K.In h) (G : h.Ns mainGlobals mg)
    (a : PySem.W.nsIn K mainGlobals x = some (some (.ref f))) (l : K.lookup f = some ⟨oc, od, .func (PySem.W.fnOf x x (defArgs st) (defBody st) (defScope st) .none kV doc pm an cdv ct), osl⟩)
    (c : PySem.W.codeIn K cdv x = true) (k : PySem.W.keepIn K (.ref f) = true) : Def K mg x st := ⟨f, _, fun_mk l c k, PySem.W.mg_of X G a⟩
theorem defk_mk {K : PySem.W.Frag} {h : Heap} {mg : Str → Option Value} {x y : Str} {st : Stmt} {f d : Addr} {oc : Value} {od an : Option Addr} {osl : Array (Option Value)} {doc pm cdv ct : Value} (X : K.In h) (G : h.Ns mainGlobals mg)
    (a : PySem.W.nsIn K mainGlobals x = some (some (.ref f))) (l : K.lookup f = some ⟨oc, od, .func (PySem.W.fnOf x x (defArgs st) (defBody st) (defScope st) .none (.ref d) doc pm an cdv ct), osl⟩)
    (c : PySem.W.codeIn K cdv x = true) (k : PySem.W.keepIn K (.ref f) = true) (n : PySem.W.nsIn K d y = some (some .none)) : DefK K mg x st [(y, .non)] := by
  refine ⟨f, _, fun_mk l c k, ⟨⟨oc, od, .none, .ref d, doc, pm, an, cdv, ct, osl, rfl, l, c, .inl ⟨rfl, rfl⟩, .inr ⟨d, rfl, fun q hq => ?_⟩⟩, k⟩, PySem.W.mg_of X G a⟩
  rw [List.mem_singleton.mp hq]
  exact ⟨.none, n, rfl⟩
theorem init_mk {K : PySem.W.Frag} {x q y : Str} {st : Stmt} {f d : Addr} {oc : Value} {od an : Option Addr} {osl : Array (Option Value)} {doc pm cdv ct : Value}
    (l : K.lookup f = some ⟨oc, od, .func (PySem.W.fnOf x q (defArgs st) (defBody st) (defScope st) .none (.ref d) doc pm an cdv ct), osl⟩) (c : PySem.W.codeIn K cdv q = true) (k : PySem.W.keepIn K (.ref f) = true) (n : PySem.W.nsIn K d y = some (some .none)) :
    FunD K x q (defArgs st) (defBody st) (defScope st) [] [(y, .non)] f (PySem.W.fnOf x q (defArgs st) (defBody st) (defScope st) .none (.ref d) doc pm an cdv ct) := by
  refine ⟨⟨oc, od, .none, .ref d, doc, pm, an, cdv, ct, osl, rfl, l, c, .inl ⟨rfl, rfl⟩, .inr ⟨d, rfl, fun z hz => ?_⟩⟩, k⟩
  rw [List.mem_singleton.mp hz]
  exact ⟨.none, n, rfl⟩
theorem all_mk {l : PySem.W.OpenLaw} {w : World} {K : PySem.W.Frag} {h : Heap} {mg : Str → Option Value} {fa gI dI C D fL gP0 qP0 gP1 qP1 gP2 qP2 gP3 qP3 gM0 qM0 gR S CX0 gX0 NX0 CX1 gX1 NX1 CX2 gX2 NX2 : Addr} {tk1 tk2 tk3 tk4 : Tok} (X : K.In h) (G : h.Ns mainGlobals mg) (hfa : mg "law" = some (.ref fa))
    {odI anI : Option Addr} {slI : Array (Option Value)} {ocI dcI pmI cdI ctI : Value}
    {odP0 anP0 : Option Addr} {slP0 : Array (Option Value)} {ocP0 kVP0 dcP0 pmP0 cdP0 ctP0 : Value}
    {rP0 : List Value}
    {odP1 anP1 : Option Addr} {slP1 : Array (Option Value)} {ocP1 kVP1 dcP1 pmP1 cdP1 ctP1 : Value}
    {rP1 : List Value}
    {odP2 anP2 : Option Addr} {slP2 : Array (Option Value)} {ocP2 kVP2 dcP2 pmP2 cdP2 ctP2 : Value}
    {rP2 : List Value}
    {odP3 anP3 : Option Addr} {slP3 : Array (Option Value)} {ocP3 kVP3 dcP3 pmP3 cdP3 ctP3 : Value}
    {rP3 : List Value}
    {odM0 anM0 : Option Addr} {slM0 : Array (Option Value)} {ocM0 kVM0 dcM0 pmM0 cdM0 ctM0 : Value}
    {rM0 : List Value}
    {odR anR : Option Addr} {slR : Array (Option Value)} {ocR kVR dcR pmR cdR ctR : Value}
    {nmX0 qX0 : Str} {bsX0 : List Value} {snX0 : List Str} {subX0 : List Value} {abX0 : Bool} {colX0 : Option Bool} {ddX0 odX0 anX0 : Option Addr} {m0X0 m1X0 m2X0 m3X0 m5X0 : Option Value} {slX0 : Array (Option Value)} {ocX0 kVX0 dcX0 pmX0 cdX0 ctX0 : Value}
    {nmX1 qX1 : Str} {bsX1 : List Value} {snX1 : List Str} {subX1 : List Value} {abX1 : Bool} {colX1 : Option Bool} {ddX1 odX1 anX1 : Option Addr} {m0X1 m1X1 m2X1 m3X1 m5X1 : Option Value} {slX1 : Array (Option Value)} {ocX1 kVX1 dcX1 pmX1 cdX1 ctX1 : Value}
    {nmX2 qX2 : Str} {bsX2 : List Value} {snX2 : List Str} {subX2 : List Value} {abX2 : Bool} {colX2 : Option Bool} {ddX2 odX2 anX2 : Option Addr} {m0X2 m1X2 m2X2 m3X2 m5X2 : Option Value} {slX2 : Array (Option Value)} {ocX2 kVX2 dcX2 pmX2 cdX2 ctX2 : Value}
    {odL anL : Option Addr} {slL : Array (Option Value)} {ocL kVL dcL pmL cdL ctL : Value} {es : Array DictEntry} {n : Nat} {uP uQ : Value}
    (d_is_whole : Def K mg "is_whole" sIsWhole)
    (d_is_item : Def K mg "is_item" sIsItem)
    (d_is_word : Def K mg "is_word" sIsWord)
    (d_is_step : Def K mg "is_step" sIsStep)
    (d_may_hold_steps : Def K mg "may_hold_steps" sMayHold)
    (d_check_steps : Def K mg "check_steps" sChkSteps)
    (d_check_word : Def K mg "check_word" sChkWord)
    (d_by_height : Def K mg "by_height" sByHeight)
    (d_least_peak : Def K mg "least_peak" sLeastPeak)
    (d_replaced : Def K mg "replaced" sReplaced)
    (d_joined : Def K mg "joined" sJoined)
    (d_parts_of_step : Def K mg "parts_of_step" sPartsOfStep)
    (d_effect_of : Def K mg "effect_of" sEffectOf)
    (d_are_candidates : Def K mg "are_candidates" sAreCandidates)
    (d_check_candidates : Def K mg "check_candidates" sCheckCandidates)
    (d_is_observation : Def K mg "is_observation" sIsObservation)
    (d_check_observations : Def K mg "check_observations" sCheckObservations)
    (d_gives_all : Def K mg "gives_all" sGivesAll)
    (d_possible : Def K mg "possible" sPossible)
    (d_indexes_by_result : Def K mg "indexes_by_result" sIndexesByResult)
    (d_outcomes : Def K mg "outcomes" sOutcomes)
    (d_largest_many : Def K mg "largest_many" sLargestMany)
    (d_best_stack : Def K mg "best_stack" sBestStack)
    (d__law_pool : Def K mg "_law_pool" sPool)
    (d__law_take : Def K mg "_law_take" sTake)
    (d__law_name : Def K mg "_law_name" sName)
    (d__law_items : Def K mg "_law_items" sItems)
    (d__law_steps : Def K mg "_law_steps" sSteps)
    (d__law_word : Def K mg "_law_word" sWord)
    (d__law_told : Def K mg "_law_told" sLawTold)
    (z_isinstance : PySem.W.nsIn K mainGlobals "isinstance" = some none)
    (z_str : PySem.W.nsIn K mainGlobals "str" = some none)
    (z_len : PySem.W.nsIn K mainGlobals "len" = some none)
    (z_all : PySem.W.nsIn K mainGlobals "all" = some none)
    (z_tuple : PySem.W.nsIn K mainGlobals "tuple" = some none)
    (z_list : PySem.W.nsIn K mainGlobals "list" = some none)
    (z_enumerate : PySem.W.nsIn K mainGlobals "enumerate" = some none)
    (z_range : PySem.W.nsIn K mainGlobals "range" = some none)
    (z_abs : PySem.W.nsIn K mainGlobals "abs" = some none)
    (z_int : PySem.W.nsIn K mainGlobals "int" = some none)
    (z_bool : PySem.W.nsIn K mainGlobals "bool" = some none)
    (z_max : PySem.W.nsIn K mainGlobals "max" = some none)
    (z_min : PySem.W.nsIn K mainGlobals "min" = some none)
    (z_repr : PySem.W.nsIn K mainGlobals "repr" = some none)
    (z_sorted : PySem.W.nsIn K mainGlobals "sorted" = some none)
    (cL : PySem.W.nsIn K mainGlobals "LETTERS" = some (some (.str abc tk1)))
    (cM : PySem.W.nsIn K mainGlobals "MOST_LETTERS" = some (some (.int 8 tk2)))
    (cS : PySem.W.nsIn K mainGlobals "MOST_STEPS" = some (some (.int 1000 tk3)))
    (cC : PySem.W.nsIn K mainGlobals "MOST_CANDIDATES" = some (some (.int 20 tk4)))
    (cO : PySem.W.nsIn K mainGlobals "OPPOSITES" = some (some (.ref D)))
    (lO : K.lookup D = some ⟨.type "dict", none, .dict es n, #[]⟩)
    (kO : PySem.W.KeysLit w.params es.toList)
    (wO : (D == sysModules) = false)
    (pO : PySem.W.nsIn K D "push" = some (some uP))
    (qO : PySem.W.nsIn K D "pop" = some (some uQ))
    (rP : RelV (.str "pop") uP)
    (rQ : RelV (.str "push") uQ)
    (aC : PySem.W.nsIn K mainGlobals "Effect" = some (some (.ref C)))
    (pg : PySem.W.plainGet K C Str.empty = true)
    (hd : PySem.W.hasDictIn K C = true)
    (po : PySem.W.plainOver K C = true)
    (sa : PySem.W.findIn K (.ref C) "__setattr__" = some (some (.builtin "object.__setattr__")))
    (nN : PySem.W.findIn K (.ref C) "needs" = some none)
    (nL : PySem.W.findIn K (.ref C) "leaves" = some none)
    (nH : PySem.W.findIn K (.ref C) "highest" = some none)
    (mkC : PySem.W.makesIn K C = true)
    (keC : PySem.W.keepIn K (.ref C) = true)
    (aI : PySem.W.findIn K (.ref C) "__init__" = some (some (.ref gI)))
    (iI : PySem.W.isFn K (.ref gI) = true)
    (lI : K.lookup gI = some ⟨ocI, odI, .func (PySem.W.fnOf "__init__" "Effect.__init__" (defArgs sInit) (defBody sInit) (defScope sInit) .none (.ref dI) dcI pmI anI cdI ctI), slI⟩)
    (cI : PySem.W.codeIn K cdI "Effect.__init__" = true)
    (kI : PySem.W.keepIn K (.ref gI) = true)
    (nI : PySem.W.nsIn K dI "peak" = some (some .none))
    (aP0 : PySem.W.findIn K (.ref C) "pops" = some (some (.ref qP0)))
    (bP0 : PySem.W.specialIn K (.ref qP0) "__get__" = some (some (.builtin "property.__get__")))
    (tP0 : PySem.W.takesIn K (.ref qP0) = some true)
    (uP0 : PySem.W.recIn K qP0 "property" = some (.ref gP0 :: rP0))
    (lP0 : K.lookup gP0 = some ⟨ocP0, odP0, .func (PySem.W.fnOf "pops" "Effect.pops" (defArgs sPops) (defBody sPops) (defScope sPops) .none kVP0 dcP0 pmP0 anP0 cdP0 ctP0), slP0⟩)
    (cP0 : PySem.W.codeIn K cdP0 "Effect.pops" = true)
    (kP0 : PySem.W.keepIn K (.ref gP0) = true)
    (aP1 : PySem.W.findIn K (.ref C) "pushes" = some (some (.ref qP1)))
    (bP1 : PySem.W.specialIn K (.ref qP1) "__get__" = some (some (.builtin "property.__get__")))
    (tP1 : PySem.W.takesIn K (.ref qP1) = some true)
    (uP1 : PySem.W.recIn K qP1 "property" = some (.ref gP1 :: rP1))
    (lP1 : K.lookup gP1 = some ⟨ocP1, odP1, .func (PySem.W.fnOf "pushes" "Effect.pushes" (defArgs sPushes) (defBody sPushes) (defScope sPushes) .none kVP1 dcP1 pmP1 anP1 cdP1 ctP1), slP1⟩)
    (cP1 : PySem.W.codeIn K cdP1 "Effect.pushes" = true)
    (kP1 : PySem.W.keepIn K (.ref gP1) = true)
    (aP2 : PySem.W.findIn K (.ref C) "is_never" = some (some (.ref qP2)))
    (bP2 : PySem.W.specialIn K (.ref qP2) "__get__" = some (some (.builtin "property.__get__")))
    (tP2 : PySem.W.takesIn K (.ref qP2) = some true)
    (uP2 : PySem.W.recIn K qP2 "property" = some (.ref gP2 :: rP2))
    (lP2 : K.lookup gP2 = some ⟨ocP2, odP2, .func (PySem.W.fnOf "is_never" "Effect.is_never" (defArgs sIsNever) (defBody sIsNever) (defScope sIsNever) .none kVP2 dcP2 pmP2 anP2 cdP2 ctP2), slP2⟩)
    (cP2 : PySem.W.codeIn K cdP2 "Effect.is_never" = true)
    (kP2 : PySem.W.keepIn K (.ref gP2) = true)
    (aP3 : PySem.W.findIn K (.ref C) "peak" = some (some (.ref qP3)))
    (bP3 : PySem.W.specialIn K (.ref qP3) "__get__" = some (some (.builtin "property.__get__")))
    (tP3 : PySem.W.takesIn K (.ref qP3) = some true)
    (uP3 : PySem.W.recIn K qP3 "property" = some (.ref gP3 :: rP3))
    (lP3 : K.lookup gP3 = some ⟨ocP3, odP3, .func (PySem.W.fnOf "peak" "Effect.peak" (defArgs sPeak) (defBody sPeak) (defScope sPeak) .none kVP3 dcP3 pmP3 anP3 cdP3 ctP3), slP3⟩)
    (cP3 : PySem.W.codeIn K cdP3 "Effect.peak" = true)
    (kP3 : PySem.W.keepIn K (.ref gP3) = true)
    (rdC : PySem.W.readsIn K C (.type "type") = true)
    (gaC : PySem.W.specialIn K (.ref C) "__getattribute__" = some (some (.builtin "type.__getattribute__")))
    (aM0 : PySem.W.findCls K (.ref C) (.type "type") "never" = some (.get (.builtin "classmethod.__get__") (.ref qM0) .none (.ref C)))
    (uM0 : PySem.W.recIn K qM0 "classmethod" = some (.ref gM0 :: rM0))
    (fM0 : PySem.W.fnIn K gM0 = true)
    (lM0 : K.lookup gM0 = some ⟨ocM0, odM0, .func (PySem.W.fnOf "never" "Effect.never" (defArgs sNever) (defBody sNever) (defScope sNever) .none kVM0 dcM0 pmM0 anM0 cdM0 ctM0), slM0⟩)
    (cM0 : PySem.W.codeIn K cdM0 "Effect.never" = true)
    (kM0 : PySem.W.keepIn K (.ref gM0) = true)
    (aR : PySem.W.findIn K (.ref C) "__repr__" = some (some (.ref gR)))
    (iR : PySem.W.isFn K (.ref gR) = true)
    (lR : K.lookup gR = some ⟨ocR, odR, .func (PySem.W.fnOf "__repr__" "Effect.__repr__" (defArgs sRepr) (defBody sRepr) (defScope sRepr) .none kVR dcR pmR anR cdR ctR), slR⟩)
    (cR : PySem.W.codeIn K cdR "Effect.__repr__" = true)
    (kR : PySem.W.keepIn K (.ref gR) = true)
    (e1 : PySem.W.findIn K (.ref C) "__class__" = some (some (.builtin "object.__class__")))
    (e2 : PySem.W.specialIn K (.builtin "object.__class__") "__get__" = some (some (.builtin "getset_descriptor.__get__")))
    (e3 : PySem.W.takesIn K (.builtin "object.__class__") = some true)
    (e4 : PySem.W.mroIn K C (.type "object") = some true)
    (tCE : PySem.W.typeIn K (.ref C) = some (.type "type"))
    (sL : PySem.W.subIn K (.ref C) (.type "list") = some false)
    (aS : PySem.W.nsIn K mainGlobals "StackError" = some (some (.ref S)))
    (tS : PySem.W.typeIn K (.ref S) = some (.type "type"))
    (hS : PySem.W.hasDictIn K S = true)
    (cg : PySem.W.specialIn K (.builtin "object.__class__") "__get__" = some (some (.builtin "getset_descriptor.__get__")))
    (ct : PySem.W.takesIn K (.builtin "object.__class__") = some true)
    (aX0 : PySem.W.nsIn K mainGlobals "InvalidCandidates" = some (some (.ref CX0)))
    (xX0 : K.lookup CX0 = some (excClassObj nmX0 qX0 CX0 NX0 bsX0 [.ref S, .type "ValueError", .type "Exception", .type "BaseException", .type "object"] true snX0 subX0 abX0 colX0 ddX0 m0X0 m1X0 m2X0 m3X0 m5X0 "ValueError.__new__"))
    (saX0 : PySem.W.findIn K (.ref CX0) "__setattr__" = some (some (.builtin "object.__setattr__")))
    (gaX0 : PySem.W.findIn K (.ref CX0) "__getattribute__" = some (some (.builtin "BaseException.__getattribute__")))
    (ggX0 : PySem.W.findIn K (.ref CX0) "__getattr__" = some none)
    (nfX0 : PySem.W.findIn K (.ref CX0) "value" = some none)
    (iiX0 : PySem.W.findIn K (.ref CX0) "__init__" = some (some (.ref gX0)))
    (tiX0 : PySem.W.typeIn K (.ref gX0) = some (.type "function"))
    (lX0 : K.lookup gX0 = some ⟨ocX0, odX0, .func (PySem.W.fnOf "__init__" "InvalidCandidates.__init__" (defArgs (inClass sInvalidcandidates 0)) (defBody (inClass sInvalidcandidates 0)) (defScope (inClass sInvalidcandidates 0)) .none kVX0 dcX0 pmX0 anX0 cdX0 ctX0), slX0⟩)
    (cX0 : PySem.W.codeIn K cdX0 "InvalidCandidates.__init__" = true)
    (kX0 : PySem.W.keepIn K (.ref gX0) = true)
    (kCX0 : PySem.W.keepIn K (.ref CX0) = true)
    (eCX0 : PySem.W.subIn K (.ref CX0) (.type "BaseException") = some true)
    (tCX0 : PySem.W.typeIn K (.ref CX0) = some (.type "type"))
    (hCX0 : PySem.W.hasDictIn K CX0 = true)
    (sCX0 : PySem.W.subIn K (.ref CX0) (.ref CX0) = some true)
    (sSX0 : PySem.W.subIn K (.ref CX0) (.ref S) = some true)
    (ccX0 : PySem.W.findIn K (.ref CX0) "__class__" = some (some (.builtin "object.__class__")))
    (moX0 : PySem.W.mroIn K CX0 (.type "object") = some true)
    (aX1 : PySem.W.nsIn K mainGlobals "InvalidObservation" = some (some (.ref CX1)))
    (xX1 : K.lookup CX1 = some (excClassObj nmX1 qX1 CX1 NX1 bsX1 [.ref S, .type "ValueError", .type "Exception", .type "BaseException", .type "object"] true snX1 subX1 abX1 colX1 ddX1 m0X1 m1X1 m2X1 m3X1 m5X1 "ValueError.__new__"))
    (saX1 : PySem.W.findIn K (.ref CX1) "__setattr__" = some (some (.builtin "object.__setattr__")))
    (gaX1 : PySem.W.findIn K (.ref CX1) "__getattribute__" = some (some (.builtin "BaseException.__getattribute__")))
    (ggX1 : PySem.W.findIn K (.ref CX1) "__getattr__" = some none)
    (nfX1 : PySem.W.findIn K (.ref CX1) "index" = some none)
    (iiX1 : PySem.W.findIn K (.ref CX1) "__init__" = some (some (.ref gX1)))
    (tiX1 : PySem.W.typeIn K (.ref gX1) = some (.type "function"))
    (lX1 : K.lookup gX1 = some ⟨ocX1, odX1, .func (PySem.W.fnOf "__init__" "InvalidObservation.__init__" (defArgs (inClass sInvalidobservation 0)) (defBody (inClass sInvalidobservation 0)) (defScope (inClass sInvalidobservation 0)) .none kVX1 dcX1 pmX1 anX1 cdX1 ctX1), slX1⟩)
    (cX1 : PySem.W.codeIn K cdX1 "InvalidObservation.__init__" = true)
    (kX1 : PySem.W.keepIn K (.ref gX1) = true)
    (kCX1 : PySem.W.keepIn K (.ref CX1) = true)
    (eCX1 : PySem.W.subIn K (.ref CX1) (.type "BaseException") = some true)
    (tCX1 : PySem.W.typeIn K (.ref CX1) = some (.type "type"))
    (hCX1 : PySem.W.hasDictIn K CX1 = true)
    (sCX1 : PySem.W.subIn K (.ref CX1) (.ref CX1) = some true)
    (sSX1 : PySem.W.subIn K (.ref CX1) (.ref S) = some true)
    (ccX1 : PySem.W.findIn K (.ref CX1) "__class__" = some (some (.builtin "object.__class__")))
    (moX1 : PySem.W.mroIn K CX1 (.type "object") = some true)
    (aX2 : PySem.W.nsIn K mainGlobals "InvalidWord" = some (some (.ref CX2)))
    (xX2 : K.lookup CX2 = some (excClassObj nmX2 qX2 CX2 NX2 bsX2 [.ref S, .type "ValueError", .type "Exception", .type "BaseException", .type "object"] true snX2 subX2 abX2 colX2 ddX2 m0X2 m1X2 m2X2 m3X2 m5X2 "ValueError.__new__"))
    (saX2 : PySem.W.findIn K (.ref CX2) "__setattr__" = some (some (.builtin "object.__setattr__")))
    (gaX2 : PySem.W.findIn K (.ref CX2) "__getattribute__" = some (some (.builtin "BaseException.__getattribute__")))
    (ggX2 : PySem.W.findIn K (.ref CX2) "__getattr__" = some none)
    (nfX2 : PySem.W.findIn K (.ref CX2) "value" = some none)
    (iiX2 : PySem.W.findIn K (.ref CX2) "__init__" = some (some (.ref gX2)))
    (tiX2 : PySem.W.typeIn K (.ref gX2) = some (.type "function"))
    (lX2 : K.lookup gX2 = some ⟨ocX2, odX2, .func (PySem.W.fnOf "__init__" "InvalidWord.__init__" (defArgs (inClass sInvalidword 0)) (defBody (inClass sInvalidword 0)) (defScope (inClass sInvalidword 0)) .none kVX2 dcX2 pmX2 anX2 cdX2 ctX2), slX2⟩)
    (cX2 : PySem.W.codeIn K cdX2 "InvalidWord.__init__" = true)
    (kX2 : PySem.W.keepIn K (.ref gX2) = true)
    (kCX2 : PySem.W.keepIn K (.ref CX2) = true)
    (eCX2 : PySem.W.subIn K (.ref CX2) (.type "BaseException") = some true)
    (tCX2 : PySem.W.typeIn K (.ref CX2) = some (.type "type"))
    (hCX2 : PySem.W.hasDictIn K CX2 = true)
    (sCX2 : PySem.W.subIn K (.ref CX2) (.ref CX2) = some true)
    (sSX2 : PySem.W.subIn K (.ref CX2) (.ref S) = some true)
    (ccX2 : PySem.W.findIn K (.ref CX2) "__class__" = some (some (.builtin "object.__class__")))
    (moX2 : PySem.W.mroIn K CX2 (.type "object") = some true)
    (n10 : PySem.W.subIn K (.ref CX1) (.ref CX0) = some false)
    (n20 : PySem.W.subIn K (.ref CX2) (.ref CX0) = some false)
    (n21 : PySem.W.subIn K (.ref CX2) (.ref CX1) = some false)
    (aL : PySem.W.nsIn K mainGlobals "law" = some (some (.ref fL)))
    (lL : K.lookup fL = some ⟨ocL, odL, .func (PySem.W.fnOf "law" "law" (defArgs sLaw) (defBody sLaw) (defScope sLaw) .none kVL dcL pmL anL cdL ctL), slL⟩)
    (ckL : PySem.W.codeIn K cdL "law" = true)
    (kL : PySem.W.keepIn K (.ref fL) = true) :
    ∃ fd : FuncData, (∀ (s : Shared) (v : Value), BindsTo s fd ⟨[v], []⟩ [("_law_script", v)]) ∧ ∀ base : Heap, K.In base → base.Ns mainGlobals mg → GOk l.prog w K mg base 9 fa fd ["_law_script"] (spLaw K) := by
  have e := hfa.symm.trans (PySem.W.mg_of X G aL)
  cases e
  have F := fun_mk (st := sLaw) lL ckL kL
  have m_isinstance : mg "isinstance" = none := PySem.W.mg_none_of X G z_isinstance
  have m_str : mg "str" = none := PySem.W.mg_none_of X G z_str
  have m_len : mg "len" = none := PySem.W.mg_none_of X G z_len
  have m_all : mg "all" = none := PySem.W.mg_none_of X G z_all
  have m_tuple : mg "tuple" = none := PySem.W.mg_none_of X G z_tuple
  have m_list : mg "list" = none := PySem.W.mg_none_of X G z_list
  have m_enumerate : mg "enumerate" = none := PySem.W.mg_none_of X G z_enumerate
  have m_range : mg "range" = none := PySem.W.mg_none_of X G z_range
  have m_abs : mg "abs" = none := PySem.W.mg_none_of X G z_abs
  have m_int : mg "int" = none := PySem.W.mg_none_of X G z_int
  have m_bool : mg "bool" = none := PySem.W.mg_none_of X G z_bool
  have m_max : mg "max" = none := PySem.W.mg_none_of X G z_max
  have m_min : mg "min" = none := PySem.W.mg_none_of X G z_min
  have m_repr : mg "repr" = none := PySem.W.mg_none_of X G z_repr
  have m_sorted : mg "sorted" = none := PySem.W.mg_none_of X G z_sorted
  have B : Blt mg := ⟨m_isinstance, m_str, m_len, m_all, m_tuple, m_list, m_enumerate⟩
  have Co : Cons K w mg := ⟨⟨_, PySem.W.mg_of X G cL⟩, ⟨_, PySem.W.mg_of X G cM⟩, ⟨_, PySem.W.mg_of X G cS⟩, ⟨D, es, n, uP, uQ, PySem.W.mg_of X G cO, ⟨lO, kO, wO⟩, pO, rP, qO, rQ⟩⟩
  have T : EC K mg C := ⟨⟨pg, hd, po, sa⟩, nN, nL, nH, PySem.W.mg_of X G aC⟩
  refine ⟨PySem.W.fnOf "law" "law" (defArgs sLaw) (defBody sLaw) (defScope sLaw) .none kVL dcL pmL anL cdL ctL, fun s v => .of_eq rfl, fun base _ _ => ?_⟩
  have gTake := has_take (P := l.prog) (w := w) (base := base) d__law_take
  have gPool := has_pool (P := l.prog) (w := w) (base := base) d__law_pool m_len m_abs m_int
  have gName := has_name d__law_name gTake m_range
  have gItems := has_items d__law_items gName m_range
  have gSt := has_steps d__law_steps gTake m_range m_len
  have gWord := has_word d__law_word gTake m_range m_len m_tuple
  have gItem := has_isItem (P := l.prog) (w := w) (base := base) d_is_item B Co
  have gIsWord := has_isWord d_is_word gItem B
  have gCw := has_chkWord d_check_word gIsWord
  have gIsStep := has_isStep d_is_step gItem B Co
  have gMay := has_may (P := l.prog) (w := w) (base := base) d_may_hold_steps B Co
  have gChk := has_chkSteps d_check_steps gMay gIsStep B
  have gWh := has_whole (P := l.prog) (w := w) (base := base) d_is_whole B m_int m_bool
  have gLe := has_least (P := l.prog) (w := w) (base := base) d_least_peak B m_max
  have gM := (⟨gI, _, ⟨mkC, aI, iI, keC⟩, ok_init (fun_mk lI cI kI) T gCw gLe gWh, init_mk lI cI kI nI⟩ : Makes l.prog w K mg base C)
  have gPo := (⟨qP0, gP0, _, ⟨aP0, bP0, tP0, rP0, uP0⟩, ok_pops (fun_mk lP0 cP0 kP0) T, (fun_mk lP0 cP0 kP0).binds (ps := ["self"]) fun _ _ _ _ _ _ us hl => match us, hl with | [_], _ => rfl⟩ : PropHas l.prog w K mg base C "pops" 1 _)
  have gPu := (⟨qP1, gP1, _, ⟨aP1, bP1, tP1, rP1, uP1⟩, ok_push (fun_mk lP1 cP1 kP1) T, (fun_mk lP1 cP1 kP1).binds (ps := ["self"]) fun _ _ _ _ _ _ us hl => match us, hl with | [_], _ => rfl⟩ : PropHas l.prog w K mg base C "pushes" 1 _)
  have gNv := (⟨qP2, gP2, _, ⟨aP2, bP2, tP2, rP2, uP2⟩, ok_isNev (fun_mk lP2 cP2 kP2) T, (fun_mk lP2 cP2 kP2).binds (ps := ["self"]) fun _ _ _ _ _ _ us hl => match us, hl with | [_], _ => rfl⟩ : PropHas l.prog w K mg base C "is_never" 1 _)
  have gPk := (⟨qP3, gP3, _, ⟨aP3, bP3, tP3, rP3, uP3⟩, ok_peak (fun_mk lP3 cP3 kP3) T, (fun_mk lP3 cP3 kP3).binds (ps := ["self"]) fun _ _ _ _ _ _ us hl => match us, hl with | [_], _ => rfl⟩ : PropHas l.prog w K mg base C "peak" 1 _)
  have fNe := ok_never (fun_mk lM0 cM0 kM0) T gM
  have bNe := (fun_mk (st := sNever) lM0 cM0 kM0).binds (ps := ["cls"]) fun _ _ _ _ _ _ us hl => match us, hl with | [_], _ => rfl
  have gNe := (⟨.type "type", qM0, gM0, ⟨rdC, gaC⟩, ⟨aM0, ⟨_, uM0⟩, fM0⟩, (fNe.raw bNe .nil).imp fun vs H Q E h => by rw [List.append_nil]; exact h⟩ : NeverHas l.prog w K mg base C)
  have gPart := has_part (P := l.prog) (w := w) (base := base) d_parts_of_step
  have gJn := has_join d_joined T gM gNe B m_max m_min
  have gE := has_effOf d_effect_of gChk gPart gJn
  have TI := (⟨e1, e2, e3, e4, if_pos (beq_self_eq_true _)⟩ : EI K C)
  have gRp := (⟨gR, _, fun g => ok_reprM (fun_mk lR cR kR) T, fun g => ok_reprH (fun_mk lR cR kR) T, aR, iR, (fun_mk lR cR kR).binds (ps := ["self"]) fun _ _ _ _ _ _ us hl => match us, hl with | [_], _ => rfl⟩ : ReprHasM l.prog w K mg base C)
  have gRd := has_repd d_replaced T B gNv gPo gPu
  have gAc := has_areC (P := l.prog) (w := w) (base := base) d_are_candidates T TI B ⟨_, PySem.W.mg_of X G cC⟩
  have gCc := has_chkC d_check_candidates gAc
  have gIo := has_isOb d_is_observation gIsWord B
  have gCo := has_chkO d_check_observations gIo B
  have gGi := has_giv d_gives_all gRd B
  have gPs := has_poss d_possible gCc gCo gGi B
  have gBy := (by_of d_by_height B : ByHas l.prog w K mg base)
  have gByH := (has_by d_by_height B : Has l.prog w K mg base "by_height" 1 ["stack"] [] (spBy K))
  have gIx := has_idx d_indexes_by_result gRd B
  have gOu := has_out d_outcomes gCc gCw gIx gBy m_sorted
  have gLg := has_lg d_largest_many gIx B m_max
  have gBs := has_best d_best_stack T gCc gLg gByH gNv gPo m_min
  have gS := PySem.W.mg_of X G aS
  have oeX0 := (⟨⟨_, _, _, _, _, _, _, _, _, _, _, _, _, _, _, xX0, rfl⟩, saX0, eCX0, tCX0, kCX0⟩ : OexC K CX0)
  have FX0 := fun_mk (st := inClass sInvalidcandidates 0) lX0 cX0 kX0
  have TX0 := (⟨oeX0, PySem.W.mg_of X G aX0, ⟨gX0, _, iiX0, tiX0, init_ok FX0 scI_InvalidCandidates oeX0 nfX0 rfl (.inl rfl) (.inl rfl) (by decide) (by decide), FX0.binds (ps := ["self", "value"]) fun _ _ _ _ _ _ us hl => match us, hl with | [_, _], _ => rfl⟩, ⟨gaX0, ggX0, eCX0, hCX0⟩, nfX0, ccX0, cg, ct, moX0, PySem.W.exm_ref eCX0 hCX0 tCX0 sCX0⟩ : XcC l.prog w K mg base "InvalidCandidates" "value" CX0)
  have kiX0 := kit_below sSX0 tS hS
  have oeX1 := (⟨⟨_, _, _, _, _, _, _, _, _, _, _, _, _, _, _, xX1, rfl⟩, saX1, eCX1, tCX1, kCX1⟩ : OexC K CX1)
  have FX1 := fun_mk (st := inClass sInvalidobservation 0) lX1 cX1 kX1
  have TX1 := (⟨oeX1, PySem.W.mg_of X G aX1, ⟨gX1, _, iiX1, tiX1, init_ok FX1 scI_InvalidObservation oeX1 nfX1 rfl (.inl rfl) (.inl rfl) (by decide) (by decide), FX1.binds (ps := ["self", "index"]) fun _ _ _ _ _ _ us hl => match us, hl with | [_, _], _ => rfl⟩, ⟨gaX1, ggX1, eCX1, hCX1⟩, nfX1, ccX1, cg, ct, moX1, PySem.W.exm_ref eCX1 hCX1 tCX1 sCX1⟩ : XcC l.prog w K mg base "InvalidObservation" "index" CX1)
  have kiX1 := kit_below sSX1 tS hS
  have oeX2 := (⟨⟨_, _, _, _, _, _, _, _, _, _, _, _, _, _, _, xX2, rfl⟩, saX2, eCX2, tCX2, kCX2⟩ : OexC K CX2)
  have FX2 := fun_mk (st := inClass sInvalidword 0) lX2 cX2 kX2
  have TX2 := (⟨oeX2, PySem.W.mg_of X G aX2, ⟨gX2, _, iiX2, tiX2, init_ok FX2 scI_InvalidWord oeX2 nfX2 rfl (.inl rfl) (.inl rfl) (by decide) (by decide), FX2.binds (ps := ["self", "value"]) fun _ _ _ _ _ _ us hl => match us, hl with | [_, _], _ => rfl⟩, ⟨gaX2, ggX2, eCX2, hCX2⟩, nfX2, ccX2, cg, ct, moX2, PySem.W.exm_ref eCX2 hCX2 tCX2 sCX2⟩ : XcC l.prog w K mg base "InvalidWord" "value" CX2)
  have kiX2 := kit_below sSX2 tS hS
  have gItX := has_itemX (P := l.prog) (w := w) (base := base) d_is_item B Co
  have gWoX := has_wordX d_is_word gItX B
  have gCwX := hasX_cw d_check_word gWoX TX2
  have gObX := has_obsX d_is_observation gWoX B
  have gCoX := hasX_chkO d_check_observations gObX TX1 B
  have gArX := has_areX (P := l.prog) (w := w) (base := base) d_are_candidates T TI B ⟨_, PySem.W.mg_of X G cC⟩
  have gCcX := hasX_chkC d_check_candidates gArX TX0
  have gPsX := (hasX_poss d_possible gCcX gCc gCoX).or gPs (by decide)
  have gOuX := (hasX_out d_outcomes gCcX gCc gCwX).or gOu (by decide)
  have gBsX := (hasX_best d_best_stack gCcX).or gBs (by decide)
  have RX := (⟨TX0, TX1, TX2, PySem.W.exm_ref eCX0 hCX0 tCX0 n10, PySem.W.exm_ref eCX0 hCX0 tCX0 n20, PySem.W.exm_ref eCX1 hCX1 tCX1 n21⟩ : ToX l.prog w K mg base CX0 CX1 CX2)
  have gTo := ghas_to d__law_told RX gRp gPsX gOuX gBsX m_repr
  exact ok_law F T TI gNe gRp gPool gTake gItems gSt gWord gE gTo (kit_tyN (by decide +kernel) sL) (kC_of tCE T.cl.hd) B m_range m_max m_min m_repr
end
end SE
open PySem PySem.W PyProof.Rows
set_option maxHeartbeats 0 in
theorem PySem.Challenge.cw_stackeffect_k62_invalid_observations_holds : PySem.Challenge.rw_stackeffect_k62_invalid_observations.Holds := by
  w_on; o_law; k_head; (case hw => w_witness2)
  k_fill
  refine SE.walkG (l := PySem.Challenge.rw_stackeffect_k62_invalid_observations) (n := 63) (k := 9) (x := "_law_script") (sp := SE.spLaw) rfl (by decide) rfl ⟨rfl, by decide, by decide⟩ (fun w h Y => PySem.W.kIn_of Y) ?F (fun _ _ a ns hl hS => ⟨a, ns, rfl, hS, hl, fun _ => rfl⟩)
  case F =>
    intro w mg fa h KX G hmg
    refine' SE.all_mk KX G hmg ?d_is_whole ?d_is_item ?d_is_word ?d_is_step ?d_may_hold_steps ?d_check_steps ?d_check_word ?d_by_height ?d_least_peak ?d_replaced ?d_joined ?d_parts_of_step ?d_effect_of ?d_are_candidates ?d_check_candidates ?d_is_observation ?d_check_observations ?d_gives_all ?d_possible ?d_indexes_by_result ?d_outcomes ?d_largest_many ?d_best_stack ?d__law_pool ?d__law_take ?d__law_name ?d__law_items ?d__law_steps ?d__law_word ?d__law_told ?z_isinstance ?z_str ?z_len ?z_all ?z_tuple ?z_list ?z_enumerate ?z_range ?z_abs ?z_int ?z_bool ?z_max ?z_min ?z_repr ?z_sorted ?cL ?cM ?cS ?cC ?cO ?lO ?kO ?wO ?pO ?qO ?rP ?rQ ?aC ?pg ?hd ?po ?sa ?nN ?nL ?nH ?mkC ?keC ?aI ?iI ?lI ?cI ?kI ?nI ?aP0 ?bP0 ?tP0 ?uP0 ?lP0 ?cP0 ?kP0 ?aP1 ?bP1 ?tP1 ?uP1 ?lP1 ?cP1 ?kP1 ?aP2 ?bP2 ?tP2 ?uP2 ?lP2 ?cP2 ?kP2 ?aP3 ?bP3 ?tP3 ?uP3 ?lP3 ?cP3 ?kP3 ?rdC ?gaC ?aM0 ?uM0 ?fM0 ?lM0 ?cM0 ?kM0 ?aR ?iR ?lR ?cR ?kR ?e1 ?e2 ?e3 ?e4 ?tCE ?sL ?aS ?tS ?hS ?cg ?ct ?aX0 ?xX0 ?saX0 ?gaX0 ?ggX0 ?nfX0 ?iiX0 ?tiX0 ?lX0 ?cX0 ?kX0 ?kCX0 ?eCX0 ?tCX0 ?hCX0 ?sCX0 ?sSX0 ?ccX0 ?moX0 ?aX1 ?xX1 ?saX1 ?gaX1 ?ggX1 ?nfX1 ?iiX1 ?tiX1 ?lX1 ?cX1 ?kX1 ?kCX1 ?eCX1 ?tCX1 ?hCX1 ?sCX1 ?sSX1 ?ccX1 ?moX1 ?aX2 ?xX2 ?saX2 ?gaX2 ?ggX2 ?nfX2 ?iiX2 ?tiX2 ?lX2 ?cX2 ?kX2 ?kCX2 ?eCX2 ?tCX2 ?hCX2 ?sCX2 ?sSX2 ?ccX2 ?moX2 ?n10 ?n20 ?n21 ?aL ?lL ?ckL ?kL
    (case d_is_whole => refine' SE.def_mk KX G ?a ?l ?c ?k; (case a => k_is); (case l => k_is); (case c => k_is); (case k => k_is))
    (case d_is_item => refine' SE.def_mk KX G ?a ?l ?c ?k; (case a => k_is); (case l => k_is); (case c => k_is); (case k => k_is))
    (case d_is_word => refine' SE.def_mk KX G ?a ?l ?c ?k; (case a => k_is); (case l => k_is); (case c => k_is); (case k => k_is))
    (case d_is_step => refine' SE.def_mk KX G ?a ?l ?c ?k; (case a => k_is); (case l => k_is); (case c => k_is); (case k => k_is))
    (case d_may_hold_steps => refine' SE.def_mk KX G ?a ?l ?c ?k; (case a => k_is); (case l => k_is); (case c => k_is); (case k => k_is))
    (case d_check_steps => refine' SE.def_mk KX G ?a ?l ?c ?k; (case a => k_is); (case l => k_is); (case c => k_is); (case k => k_is))
    (case d_check_word => refine' SE.def_mk KX G ?a ?l ?c ?k; (case a => k_is); (case l => k_is); (case c => k_is); (case k => k_is))
    (case d_by_height => refine' SE.def_mk KX G ?a ?l ?c ?k; (case a => k_is); (case l => k_is); (case c => k_is); (case k => k_is))
    (case d_least_peak => refine' SE.def_mk KX G ?a ?l ?c ?k; (case a => k_is); (case l => k_is); (case c => k_is); (case k => k_is))
    (case d_replaced => refine' SE.def_mk KX G ?a ?l ?c ?k; (case a => k_is); (case l => k_is); (case c => k_is); (case k => k_is))
    (case d_joined => refine' SE.def_mk KX G ?a ?l ?c ?k; (case a => k_is); (case l => k_is); (case c => k_is); (case k => k_is))
    (case d_parts_of_step => refine' SE.def_mk KX G ?a ?l ?c ?k; (case a => k_is); (case l => k_is); (case c => k_is); (case k => k_is))
    (case d_effect_of => refine' SE.def_mk KX G ?a ?l ?c ?k; (case a => k_is); (case l => k_is); (case c => k_is); (case k => k_is))
    (case d_are_candidates => refine' SE.def_mk KX G ?a ?l ?c ?k; (case a => k_is); (case l => k_is); (case c => k_is); (case k => k_is))
    (case d_check_candidates => refine' SE.def_mk KX G ?a ?l ?c ?k; (case a => k_is); (case l => k_is); (case c => k_is); (case k => k_is))
    (case d_is_observation => refine' SE.def_mk KX G ?a ?l ?c ?k; (case a => k_is); (case l => k_is); (case c => k_is); (case k => k_is))
    (case d_check_observations => refine' SE.def_mk KX G ?a ?l ?c ?k; (case a => k_is); (case l => k_is); (case c => k_is); (case k => k_is))
    (case d_gives_all => refine' SE.def_mk KX G ?a ?l ?c ?k; (case a => k_is); (case l => k_is); (case c => k_is); (case k => k_is))
    (case d_possible => refine' SE.def_mk KX G ?a ?l ?c ?k; (case a => k_is); (case l => k_is); (case c => k_is); (case k => k_is))
    (case d_indexes_by_result => refine' SE.def_mk KX G ?a ?l ?c ?k; (case a => k_is); (case l => k_is); (case c => k_is); (case k => k_is))
    (case d_outcomes => refine' SE.def_mk KX G ?a ?l ?c ?k; (case a => k_is); (case l => k_is); (case c => k_is); (case k => k_is))
    (case d_largest_many => refine' SE.def_mk KX G ?a ?l ?c ?k; (case a => k_is); (case l => k_is); (case c => k_is); (case k => k_is))
    (case d_best_stack => refine' SE.def_mk KX G ?a ?l ?c ?k; (case a => k_is); (case l => k_is); (case c => k_is); (case k => k_is))
    (case d__law_pool => refine' SE.def_mk KX G ?a ?l ?c ?k; (case a => k_is); (case l => k_is); (case c => k_is); (case k => k_is))
    (case d__law_take => refine' SE.def_mk KX G ?a ?l ?c ?k; (case a => k_is); (case l => k_is); (case c => k_is); (case k => k_is))
    (case d__law_name => refine' SE.def_mk KX G ?a ?l ?c ?k; (case a => k_is); (case l => k_is); (case c => k_is); (case k => k_is))
    (case d__law_items => refine' SE.def_mk KX G ?a ?l ?c ?k; (case a => k_is); (case l => k_is); (case c => k_is); (case k => k_is))
    (case d__law_steps => refine' SE.def_mk KX G ?a ?l ?c ?k; (case a => k_is); (case l => k_is); (case c => k_is); (case k => k_is))
    (case d__law_word => refine' SE.def_mk KX G ?a ?l ?c ?k; (case a => k_is); (case l => k_is); (case c => k_is); (case k => k_is))
    (case d__law_told => refine' SE.def_mk KX G ?a ?l ?c ?k; (case a => k_is); (case l => k_is); (case c => k_is); (case k => k_is))
    (case z_isinstance => k_is)
    (case z_str => k_is)
    (case z_len => k_is)
    (case z_all => k_is)
    (case z_tuple => k_is)
    (case z_list => k_is)
    (case z_enumerate => k_is)
    (case z_range => k_is)
    (case z_abs => k_is)
    (case z_int => k_is)
    (case z_bool => k_is)
    (case z_max => k_is)
    (case z_min => k_is)
    (case z_repr => k_is)
    (case z_sorted => k_is)
    (case cL => k_is)
    (case cM => k_is)
    (case cS => k_is)
    (case cC => k_is)
    (case cO => k_is)
    (case lO => k_is)
    (case kO => exact ⟨⟨_, _, rfl, rfl⟩, ⟨_, _, rfl, rfl⟩, trivial⟩)
    (case wO => rfl)
    (case pO => k_is)
    (case qO => k_is)
    (case rP => exact ⟨_, rfl⟩)
    (case rQ => exact ⟨_, rfl⟩)
    (case aC => k_is)
    (case pg => k_is)
    (case hd => k_is)
    (case po => k_is)
    (case sa => k_is)
    (case nN => k_is)
    (case nL => k_is)
    (case nH => k_is)
    (case mkC => k_is)
    (case keC => k_is)
    (case aI => k_is)
    (case iI => k_is)
    (case lI => k_is)
    (case cI => k_is)
    (case kI => k_is)
    (case nI => k_is)
    (case aP0 => k_is)
    (case bP0 => k_is)
    (case tP0 => k_is)
    (case uP0 => k_is)
    (case lP0 => k_is)
    (case cP0 => k_is)
    (case kP0 => k_is)
    (case aP1 => k_is)
    (case bP1 => k_is)
    (case tP1 => k_is)
    (case uP1 => k_is)
    (case lP1 => k_is)
    (case cP1 => k_is)
    (case kP1 => k_is)
    (case aP2 => k_is)
    (case bP2 => k_is)
    (case tP2 => k_is)
    (case uP2 => k_is)
    (case lP2 => k_is)
    (case cP2 => k_is)
    (case kP2 => k_is)
    (case aP3 => k_is)
    (case bP3 => k_is)
    (case tP3 => k_is)
    (case uP3 => k_is)
    (case lP3 => k_is)
    (case cP3 => k_is)
    (case kP3 => k_is)
    (case rdC => k_is)
    (case gaC => k_is)
    (case aM0 => k_is)
    (case uM0 => k_is)
    (case fM0 => k_is)
    (case lM0 => k_is)
    (case cM0 => k_is)
    (case kM0 => k_is)
    (case aR => k_is)
    (case iR => k_is)
    (case lR => k_is)
    (case cR => k_is)
    (case kR => k_is)
    (case e1 => k_is)
    (case e2 => k_is)
    (case e3 => k_is)
    (case e4 => k_is)
    (case tCE => k_is)
    (case sL => k_is)
    (case aS => k_is)
    (case tS => k_is)
    (case hS => k_is)
    (case cg => k_is)
    (case ct => k_is)
    (case aX0 => k_is)
    (case xX0 => k_is)
    (case saX0 => k_is)
    (case gaX0 => k_is)
    (case ggX0 => k_is)
    (case nfX0 => k_is)
    (case iiX0 => k_is)
    (case tiX0 => k_is)
    (case lX0 => k_is)
    (case cX0 => k_is)
    (case kX0 => k_is)
    (case kCX0 => k_is)
    (case eCX0 => k_is)
    (case tCX0 => k_is)
    (case hCX0 => k_is)
    (case sCX0 => first | rfl | k_is)
    (case sSX0 => first | rfl | k_is)
    (case ccX0 => k_is)
    (case moX0 => k_is)
    (case aX1 => k_is)
    (case xX1 => k_is)
    (case saX1 => k_is)
    (case gaX1 => k_is)
    (case ggX1 => k_is)
    (case nfX1 => k_is)
    (case iiX1 => k_is)
    (case tiX1 => k_is)
    (case lX1 => k_is)
    (case cX1 => k_is)
    (case kX1 => k_is)
    (case kCX1 => k_is)
    (case eCX1 => k_is)
    (case tCX1 => k_is)
    (case hCX1 => k_is)
    (case sCX1 => first | rfl | k_is)
    (case sSX1 => first | rfl | k_is)
    (case ccX1 => k_is)
    (case moX1 => k_is)
    (case aX2 => k_is)
    (case xX2 => k_is)
    (case saX2 => k_is)
    (case gaX2 => k_is)
    (case ggX2 => k_is)
    (case nfX2 => k_is)
    (case iiX2 => k_is)
    (case tiX2 => k_is)
    (case lX2 => k_is)
    (case cX2 => k_is)
    (case kX2 => k_is)
    (case kCX2 => k_is)
    (case eCX2 => k_is)
    (case tCX2 => k_is)
    (case hCX2 => k_is)
    (case sCX2 => first | rfl | k_is)
    (case sSX2 => first | rfl | k_is)
    (case ccX2 => k_is)
    (case moX2 => k_is)
    (case n10 => k_is)
    (case n20 => k_is)
    (case n21 => k_is)
    (case aL => k_is)
    (case lL => k_is)
    (case ckL => k_is)
    (case kL => k_is)
