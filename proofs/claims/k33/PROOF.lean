import PyProof.Rows.All
import Wide.All
import OpenK.AllK
import Wide.FinOn
import PyProof.EqAt
import PyProof.EqKinds
import PyProof.TupleCall
import HandS.Base
import HandS.Call
import HandS.List
import HandS.Ends
import HandS.Words
import HandS.Comp
import HandS.Dict
import HandS.Iter
import HandS.Text
import HandS.WordsList
import HandS.Defaults
import PyProof.EnumMake
import PyProof.Draws
import KE.GoesMore
import KE.KRevSl
import PyProof.ReprLen
import PyProof.ReprText
import HandS.More
import HandS.Evl
import HandS.Walk
import HandS.IsInst
import HandS.TupAny
import HandS.Style
import HandS.TupMul
import HandS.Strs
import HandS.Set
import HandS.GenBody
import HandS.GenYield
import HandS.GenCall
import HandS.GenList
import PyProof.GenComp
import HandS.Property
import HandS.ClsMeth
import HandS.MakeKwOnly
import PyProof.InstEq
import KE.KFmtOwn
import HandS.OwnEq
import HandS.FStr
import KE.KeyNested
import HandS.SetKeys
import HandS.DictTup
import KE.KDictWalk
import HandS.ListItems
import HandS.DictSubView
import PyProof.DictWalks
import KE.KDictList
import HandS.Conv
import KE.DataMinMax
import KE.DataMinKey
import HandS.SortKw
import KE.SortKeyHeap
import HandS.Keys
import HandS.Deep
import PyProof.ReprRoads
import PyProof.ReprDict
import PyProof.CallFns
import HandS.Exc
import HandS.ExcOwn
import HandS.ExcInit
import HandS.ExcField
import HandS.ExcIs
import HandS.WordsExc
import KE.KExcIs
import HandS.Zip
import HandS.TryMany
import HandS.WordsDict
import PyProof.ExcBaseAll.ValueError
import PyProof.ExcBaseAll.LookupError
import PyProof.ExcBaseAll.RuntimeError
import PyProof.ExcBaseAll.OverflowError
import PyProof.ListStr
import PyProof.TupleOfStr
import PyProof.ReprNest
import PyProof.ReprHeadsEmpty
import PyProof.ReprReads
import HandS.HotCalls
import KE.KDictCopyH
import PySem.Challenge.RW_stackeffect_k33_blocks_refused
set_option Elab.async false
set_option linter.all false
set_option maxRecDepth 100000
set_option maxHeartbeats 4000000
/-! Defs called where no repr is under way: their promise (GOk), their call, the law's head, and repr of plain data. -/
namespace SE
open PySem PySem.Spec PyProof.Rows L2

/-- the promise of a def whose caller has no repr under way -/
structure GOk (P : Program) (w : World) (K : PySem.W.Frag) (mg : Str → Option Value) (base : Heap) (k : Nat) (f : Addr) (fd : FuncData) (ps : List Str) (sp : Sp) : Prop where
  len : ∀ xs H Q E, sp xs H Q E → xs.length = ps.length
  run : ∀ (A : Around) (out : List Env) (s : Shared) (H : Hp) (args : Args) (us : List Value) (xs : List V) (Q : VK) (E : XK), A.guards = some [] → Room k A → Env0 P w K mg base A out s H →
    BindsTo s fd args (ps.zip us) → Vals xs us → sp xs H Q E → codeAny (model P w) A (.call (.ref f) args) (CR (fun _ _ _ _ _ _ => False) out P w H s Q E) s

section
variable {P : Program} {w : World} {K : PySem.W.Frag} {mg : Str → Option Value} {base : Heap}
theorem gok_of {k : Nat} {f : Addr} {nm ql : Str} {pars : Arguments} {bd : List Stmt} {sc : Scope} {dV kV doc pm cv ct oc : Value} {an od : Option Addr}
    {osl : Array (Option Value)} {N ps : List Str} {sp : Sp} (look : K.lookup f = some ⟨oc, od, .func (PySem.W.fnOf nm ql pars bd sc dV kV doc pm an cv ct), osl⟩) (hcode : PySem.W.codeIn K cv ql = true) (S : FnScope N ps sc)
    (len : ∀ xs H Q E, sp xs H Q E → xs.length = ps.length)
    (hbd : ∀ (A : Around) (out : List Env) (s : Shared) (H : Hp) (xs : List V) (Q : VK) (E : XK), A.guards = some [] → Room k (A.deeper (envOfC ql sc s.heap.objs.size f cv)) → sp xs H Q E →
      ∃ t, PSs (cxOf (fun _ _ _ _ _ _ => False) P w K mg base N ql sc f cv A out s H E) bd t ∧ t { nx := fun _ H2 => Q .non H2, rt := Q } (start N xs) H) :
    GOk P w K mg base (k + 1) f (PySem.W.fnOf nm ql pars bd sc dV kV doc pm an cv ct) ps sp := by
  constructor
  · exact len
  intro A out s H args us xs Q E hgu hroom env hbind hvals hpre
  have hlen := len _ _ _ _ hpre
  have kin : K.In s.heap := env.mod.kin.keeps fun b o z => (env.bs b o z).1
  have nolim : s.heap.NoLimit := env.mod.nolimit.keeps fun b o z => (env.bs b o z).1
  have kinds : ∀ y ∈ ps.zip us, sc.names.lookup y.1 = some .local ∨ (sc.names.lookup y.1 = some .cell ∧ ((cellsFrom (s.heap.objs.size + 1) sc.names []).lookup y.1).isSome = true) := by
    rintro ⟨n, v⟩ hy
    rcases S.par n (List.of_mem_zip hy).1 with q | q
    · exact .inl q
    · exact .inr ⟨q, PySem.W.cellsFrom_some _ _ _ (.inl q)⟩
  apply codeAny_call_function hroom.depth (kin _ _ look) rfl S.co S.gen rfl (PySem.W.codeRec_of kin hcode)
  apply hbind
  refine wpAny_newFunctionEnv_cells S.kind kinds fun ev hev s2 inc => ?_
  subst hev
  refine ⟨nolim.keeps inc.toInCall.keep, codeAny_func ?_⟩
  obtain ⟨t, der, rd⟩ := hbd A out s H xs Q E hgu (hroom.deeper _) hpre
  have J0 : Inv (cxOf (fun _ _ _ _ _ _ => False) P w K mg base N ql sc f cv A out s H E) [] (start N xs) H s2 := inv_start S hroom.hd env hlen hvals inc
  refine wpAny_mono (der.run [] s2 (start N xs) H _ J0 rd) (fun fl s3 hs => ?_) fun e s3 hs => hs
  cases fl with
  | ret u =>
    obtain ⟨v, σ3, H3, J, rv, q⟩ := hs
    exact ⟨v, H3, J.os, J.bare, J.base, J.hok, rv, q⟩
  | next =>
    obtain ⟨σ3, H3, J, q⟩ := hs
    exact ⟨V.non, H3, J.os, J.bare, J.base, J.hok, rfl, q⟩
  | brk => exact hs.elim fun _ z => z.elim fun _ z => z.2.elim
  | cont => exact hs.elim fun _ z => z.elim fun _ z => z.2.elim
theorem gok_mk {x ql : Str} {st : Stmt} {f : Addr} {fd : FuncData} {N ps : List Str} {k : Nat} {sp : Sp} (F : Fun K x ql st f fd) (S : FnScope N ps (defScope st)) (len : ∀ xs H Q E, sp xs H Q E → xs.length = ps.length)
    (hbd : ∀ (cv : Value) (A : Around) (out : List Env) (s : Shared) (H : Hp) (xs : List V) (Q : VK) (E : XK), A.guards = some [] → Room k (A.deeper (envOfC ql (defScope st) s.heap.objs.size f cv)) → sp xs H Q E →
      ∃ t, PSs (cxOf CX0 P w K mg base N ql (defScope st) f cv A out s H E).nox (defBody st) t ∧ t { nx := fun _ H2 => Q .non H2, rt := Q } (start N xs) H) : GOk P w K mg base (k + 1) f fd ps sp := by
  obtain ⟨oc, od, kV, doc, pm, an, cv, ct, osl, rfl, look, hcode⟩ := F.ex
  refine gok_of look hcode S len fun A out s H xs Q E hgu hr hpre => ?_
  obtain ⟨t, a, b⟩ := hbd cv A out s H xs Q E hgu hr hpre
  exact ⟨t, a.nox, b⟩
end

section
variable {X : Cx} {k : Nat} {f : Addr} {fd : FuncData} {ps : List Str} {sp : Sp} {x : Str} {p pos : Pos} {e : Expr} {es : List Expr} {t : TA}
theorem pe_callG (F : GOk X.prog X.w X.K X.mg X.base k f fd ps sp) (hgu : X.A.guards = some []) (hr : Room k X.A) (hg : Gl X x) (hm : X.mg x = some (.ref f)) (hk : PySem.W.keepIn X.K (.ref f) = true) (hb : Binds X.K fd ps [])
    (ha : PA X (e :: es) t) (hdb : (x == ("__debug__" : Str)) = false := by decide) (he : starEach (e :: es) X.env = (false, eval e X.env) :: starEach es X.env := by rfl) (hpl : (backTo pos (starEach es X.env)).any (·.1) = false := by rfl) :
    PE X (.Call (.Name x p) (e :: es) [] pos) (tCall sp [] (fun _ _ _ => False) t) := by
  constructor
  intro pins s σ H Q I h
  apply wpAny_Call_Name_kw
  apply ld_glob I hg hm _ hdb
  refine PySem.W.callWith_K (h₀ := X.base) I.ok.mod.kin hk (thn (ha.run pos pins s σ H _ I h) fun us s1 hh => ?_) he hpl
  obtain ⟨xs, H1, I1, r, q⟩ := hh
  refine ⟨I1.kIn, ?_⟩
  have q' : sp xs H1 Q (fun _ _ _ => False) := by rw [List.append_nil] at q; exact q
  have hl : us.length = ps.length := by rw [← r.length]; exact F.len _ _ _ _ q'
  have hb' := hb s1 us I1.kIn (by rw [List.append_nil]; exact hl)
  rw [List.append_nil] at hb'
  refine wpAny_call (codeAny_mono (F.run X.A X.stack s1 H1 ⟨us, []⟩ us xs Q _ hgu hr I1.env0 hb' r q') fun r2 s2 hq => ?_)
  cases r2 with
  | error _ => exact hq.elim
  | ok fl =>
    cases fl with
    | ret _ => exact I1.after hq
    | next => exact hq.elim
    | brk => exact hq.elim
    | cont => exact hq.elim
end

section
variable {X : Cx}
/-- repr(x), x plain data -/
def rRep (K : PySem.W.Frag) : List V → Hp → VK → Prop := fun xs H Q => ∃ (x : V) (d : PyData), xs = [x] ∧ Dp K H x d ∧ (∃ a, x = .ref a) ∧ d.showable = true ∧ d.hasDict = false ∧ d.depth ≤ 20 ∧ d.shown.length ≤ sizeLine ∧ Q (.str d.shown) H
theorem call_rep (hgu : X.A.guards = some []) (hu : X.A.units + 64 < cLine) : CallR X (.builtin "repr") (rRep X.K) := by
  intro pins s σ H xs us Q I r h
  obtain ⟨x, d, rfl, hd, ⟨a, rfl⟩, hs, hn, hdep, hz, q⟩ := h
  cases r with
  | cons r1 r2 =>
    cases r2
    cases r1
    obtain ⟨as, rd⟩ := Dp.reads I d (.ref a) (.ref a) hd rfl
    refine repr_of_reads' rd hs (PyData.noDict_hsm hn) hgu (by omega) (fun _ _ z => z) (fun h' u tk hk => ?_) hz
    exact ⟨.str d.shown, H, I.kept (t' := tk) hk, ⟨_, rfl⟩, q⟩
end
/-! ### the law's head -/
theorem lawG {P : Program} {w : World} {K : PySem.W.Frag} {mg mb : Str → Option Value} {k : Nat} {fa a : Addr} {fd : FuncData} {x : Str} {sp : Sp} {s1 : Shared} {vs : List Value} {ns : List Int}
    (kin : K.In s1.heap) (hns : s1.heap.Ns mainGlobals mg) (hbn : s1.heap.Ns builtinsNs mb) (hbb : ∀ x : Str, x ≠ "__name__" → mb x = bootBuiltins x) (nolim : s1.heap.NoLimit) (hg : s1.gens = #[])
    (hobj : s1.heap.get? a = some { cls := .type "list", data := .seq vs.toArray }) (hi : IntsAre vs ns) (hz : ns.length ≤ sizeLine) (hr : Room k callerA)
    (F : ∀ base : Heap, K.In base → base.Ns mainGlobals mg → GOk P w K mg base k fa fd [x] sp) (hbind : ∀ (s : Shared) (u : Value), BindsTo s fd ⟨[u], []⟩ [(x, u)])
    (hsp : ∀ H : Hp, SqL K H a (ns.map V.int) → sp [.ref a] H (fun v _ => v = .bl true) fun _ _ _ => False) :
    codeAny (model P w) callerA (.call (.ref fa) ⟨[.ref a], []⟩) (fun r s2 => r = .ok (.ret (.bool true)) ∧ OldK s1.heap s2.heap ∧ s2.os = s1.os ∧ AllBare s2.gens) s1 := by
  have rel := vals_ints hi
  have same := hi.length
  have go : ∀ H : Hp, (∀ b u, H b = some u → b = a ∧ K.lookup a = none ∧ ∃ o xs, u = .frz o (.lst xs)) → SqL K H a (ns.map V.int) → HOk P w H s1.heap →
      codeAny (model P w) callerA (.call (.ref fa) ⟨[.ref a], []⟩) (fun r s2 => r = .ok (.ret (.bool true)) ∧ OldK s1.heap s2.heap ∧ s2.os = s1.os ∧ AllBare s2.gens) s1 := by
    intro H only hS hok
    have free : ∀ {b : Addr}, b ≠ a → H b = none := fun {b} hb => by
      cases q : H b with
      | none => rfl
      | some u => exact absurd (only b u q).1 hb
    have freeD : ∀ {b : Addr} {o : Obj} {es : Array DictEntry} {ep : Nat}, s1.heap.get? b = some o → o.data = .dict es ep → H b = none := fun {b o es ep} e d => by
      by_cases hb : b = a
      · subst hb
        rw [hobj] at e
        cases e
        cases d
      · exact free hb
    have ns2 : ∀ {b : Addr} {m : Str → Option Value}, s1.heap.Ns b m → (hidT s1.heap H).Ns b m := by
      rintro b m ⟨o, es, ep, e, d, r⟩
      exact ⟨o, es, ep, hidT_get e (freeD e d), d, r⟩
    have kin2 : K.In (hidT s1.heap H) := by
      intro b o e
      refine hidT_get (kin b o e) ?_
      cases q : H b with
      | none => rfl
      | some u =>
        obtain ⟨eb, nk, _⟩ := only b u q
        subst eb
        rw [nk] at e
        cases e
    have mod : Mod K mg (hidT s1.heap H) := by
      refine ⟨kin2, ns2 hns, ⟨mb, ns2 hbn, hbb⟩, ?_⟩
      obtain ⟨mc, h1, h2⟩ := nolim
      exact ⟨mc, ns2 h1, h2⟩
    have env : Env0 P w K mg (hidT s1.heap H) callerA [] s1 H :=
      ⟨rfl, mod, fun b o e => of_hidT e, Nat.le_of_eq (hidT_size _ _), trivial, fun b hb => (by cases (show b ∈ ([] : List Addr) from hb)), hok, .of_eq hg⟩
    have runs := (F _ kin2 (ns2 hns)).run callerA [] s1 H ⟨[.ref a], []⟩ [.ref a] [.ref a] (fun v _ => v = .bl true) (fun _ _ _ => False) rfl hr env (hbind s1 (.ref a)) (.cons rfl .nil) (hsp H hS)
    refine codeAny_mono runs fun r s2 h => ?_
    cases r with
    | error _ => exact h.elim
    | ok fl =>
      cases fl with
      | next => exact h.elim
      | brk => exact h.elim
      | cont => exact h.elim
      | ret u =>
        obtain ⟨v, H2, os, bare, un, hok2, r2, q⟩ := h
        have q2 : v = .bl true := q
        subst q2
        obtain rfl : u = Value.bool true := r2
        refine ⟨rfl, OldK.of_keep fun b o e => ?_, os, bare⟩
        cases z : H b with
        | none => exact un.keep b o e z (fun m => by cases (show b ∈ ([] : List Addr) from m)) (fun m => by cases m)
        | some u2 =>
          obtain ⟨_, _, ob, ys, eu⟩ := only b u2 z
          subst eu
          obtain ⟨e1, _⟩ := hok b _ z
          obtain ⟨e2, _⟩ := hok2 b _ (un.frzs b ob _ z)
          rw [e] at e1
          cases e1
          exact e2
  cases hk : K.lookup a with
  | some o =>
    have e := kin a o hk
    rw [hobj] at e
    cases e
    refine go (fun _ => none) (fun b u z => nomatch z) (.inr ⟨_, vs.toArray, _, hk, rfl, rfl, rfl, by rw [List.size_toArray, same]; exact hz, by simpa using rel⟩) (fun b u z => nomatch z)
  | none =>
    have at1 : ∀ {b : Addr} {u : HO}, (if b = a then some (HO.frz { cls := .type "list", data := .seq vs.toArray } (.lst (ns.map V.int))) else none) = some u → b = a ∧ u = .frz { cls := .type "list", data := .seq vs.toArray } (.lst (ns.map V.int)) := fun {b u} z => by
      by_cases hb : b = a
      · rw [if_pos hb] at z
        cases z
        exact ⟨hb, rfl⟩
      · rw [if_neg hb] at z
        cases z
    refine go (fun b => if b = a then some (.frz { cls := .type "list", data := .seq vs.toArray } (.lst (ns.map V.int))) else none) (fun b u z => ?_) (.inl (.inr ⟨{ cls := .type "list", data := .seq vs.toArray }, if_pos rfl⟩)) (fun b u z => ?_)
    · obtain ⟨e1, e2⟩ := at1 z
      exact ⟨e1, hk, _, _, e2⟩
    · obtain ⟨e1, e2⟩ := at1 z
      subst e1
      subst e2
      exact ⟨hobj, by rw [List.length_map]; exact hz, vs, _, rel, hobj⟩
theorem walkG {l : PySem.W.OpenLaw} {n k : Nat} {q : Program} {loose : List Str} {XP : (Str → Option Value) → Heap → Prop} {YP : World → Heap → Prop} {d : DefRec} {K : Params → PySem.W.Frag} {sp : PySem.W.Frag → Sp} {x : Str}
    (hn : l.most = some n) (hn2 : n ≤ sizeLine) (hdf : d.params.defaults = []) (hr : Room k callerA) (hY : ∀ (w : World) (h : Heap), YP w h → (K w.params).In h)
    (F : ∀ (w : World) (mg : Str → Option Value) (fa : Addr) (h : Heap), (K w.params).In h → h.Ns mainGlobals mg → mg d.name = some (.ref fa) →
      ∃ fd : FuncData, (∀ (s : Shared) (u : Value), BindsTo s fd ⟨[u], []⟩ [(x, u)]) ∧ ∀ base : Heap, (K w.params).In base → base.Ns mainGlobals mg → GOk l.prog w (K w.params) mg base k fa fd [x] (sp (K w.params)))
    (hsp : ∀ (K : PySem.W.Frag) (H : Hp) (a : Addr) (ns : List Int), ns.length ≤ n → SqL K H a (ns.map V.int) → sp K [.ref a] H (fun v _ => v = .bl true) fun _ _ _ => False) :
    PySem.W.WalkO q loose XP YP l.row.toRowW d [] (fun f vs => PySem.call f vs) := by
  apply Att.attach_call hn hdf
  intro w s0 s1 mg mb fa o pm cd doc a vs ns G Y ho hd hcd hmg hobj hints hlen hg
  have kin := hY w _ Y
  obtain ⟨fd, hb, hF⟩ := F w mg fa _ kin G.T.g hmg
  exact lawG kin G.T.g G.T.b G.T.builtins G.T.nolimit hg hobj hints (Nat.le_trans hlen hn2) hr hF hb fun H hS => hsp _ H a ns hlen hS
end SE
/-! Defs by their names. -/
namespace SE
open PySem PySem.Spec PyProof.Rows L2
section
variable {P : Program} {w : World} {K : PySem.W.Frag} {mg : Str → Option Value} {base : Heap}
/-- the def st stands under its name -/
def Def (K : PySem.W.Frag) (mg : Str → Option Value) (x : Str) (st : Stmt) : Prop := ∃ f fd, Fun K x x st f fd ∧ mg x = some (.ref f)
/-- a def that keeps the promise sp stands under the name x; dvs: the values of its defaults -/
def Has (P : Program) (w : World) (K : PySem.W.Frag) (mg : Str → Option Value) (base : Heap) (x : Str) (k : Nat) (ps : List Str) (dvs : List V) (sp : Sp) : Prop :=
  ∃ f fd ds, FnOk P w K mg base CX0 k f fd ps sp ∧ mg x = some (.ref f) ∧ PySem.W.keepIn K (.ref f) = true ∧ Binds K fd ps ds ∧ Vals dvs ds ∧ ∃ st, Fun K x x st f fd
def GHas (P : Program) (w : World) (K : PySem.W.Frag) (mg : Str → Option Value) (base : Heap) (x : Str) (k : Nat) (ps : List Str) (sp : Sp) : Prop :=
  ∃ f fd, GOk P w K mg base k f fd ps sp ∧ mg x = some (.ref f) ∧ PySem.W.keepIn K (.ref f) = true ∧ Binds K fd ps []
abbrev Bx (P : Program) (w : World) (K : PySem.W.Frag) (mg : Str → Option Value) (base : Heap) (N : List Str) (x : Str) (st : Stmt) (f : Addr) (cv : Value) (A : Around) (out : List Env) (s : Shared) (H : Hp) (E : XK) : Cx :=
  (cxOf CX0 P w K mg base N x (defScope st) f cv A out s H E).nox
theorem has_of {x : Str} {st : Stmt} {N ps : List Str} {k : Nat} {sp : Sp} (D : Def K mg x st) (S : FnScope N ps (defScope st))
    (hb : ∀ (kV doc pm : Value) (an : Option Addr) (cv ct : Value) (us : List Value), us.length = ps.length → bindArgs (PySem.W.fnOf x x (defArgs st) (defBody st) (defScope st) .none kV doc pm an cv ct) ⟨us, []⟩ = pure (ps.zip us))
    (len : ∀ xs H Q E, sp xs H Q E → xs.length = ps.length)
    (hbd : ∀ (f : Addr) (cv : Value) (A : Around) (out : List Env) (s : Shared) (H : Hp) (xs : List V) (Q : VK) (E : XK), Room k (A.deeper (envOfC x (defScope st) s.heap.objs.size f cv)) → sp xs H Q E →
      ∃ t, PSs (Bx P w K mg base N x st f cv A out s H E) (defBody st) t ∧ t { nx := fun _ H2 => Q .non H2, rt := Q } (start N xs) H) : Has P w K mg base x (k + 1) ps [] sp := by
  obtain ⟨f, fd, F, hm⟩ := D
  exact ⟨f, fd, [], F.ok S len fun cv A out s H xs Q E hr h => hbd f cv A out s H xs Q E hr h, hm, F.kp, F.binds hb, .nil, st, F⟩
theorem ghas_of {x : Str} {st : Stmt} {N ps : List Str} {k : Nat} {sp : Sp} (D : Def K mg x st) (S : FnScope N ps (defScope st))
    (hb : ∀ (kV doc pm : Value) (an : Option Addr) (cv ct : Value) (us : List Value), us.length = ps.length → bindArgs (PySem.W.fnOf x x (defArgs st) (defBody st) (defScope st) .none kV doc pm an cv ct) ⟨us, []⟩ = pure (ps.zip us))
    (len : ∀ xs H Q E, sp xs H Q E → xs.length = ps.length)
    (hbd : ∀ (f : Addr) (cv : Value) (A : Around) (out : List Env) (s : Shared) (H : Hp) (xs : List V) (Q : VK) (E : XK), A.guards = some [] → Room k (A.deeper (envOfC x (defScope st) s.heap.objs.size f cv)) → sp xs H Q E →
      ∃ t, PSs (Bx P w K mg base N x st f cv A out s H E) (defBody st) t ∧ t { nx := fun _ H2 => Q .non H2, rt := Q } (start N xs) H) : GHas P w K mg base x (k + 1) ps sp := by
  obtain ⟨f, fd, F, hm⟩ := D
  exact ⟨f, fd, gok_mk F S len fun cv A out s H xs Q E hg hr h => hbd f cv A out s H xs Q E hg hr h, hm, F.kp, F.binds hb⟩
theorem Has.mono {x : Str} {j k : Nat} {ps : List Str} {dvs : List V} {sp : Sp} (h : Has P w K mg base x j ps dvs sp) (hk : j ≤ k) : Has P w K mg base x k ps dvs sp := by
  obtain ⟨f, fd, ds, F, r⟩ := h
  exact ⟨f, fd, ds, F.mono hk, r⟩
theorem Has.fun {x : Str} {k : Nat} {ps : List Str} {dvs : List V} {sp : Sp} {st : Stmt} (h : Has P w K mg base x k ps dvs sp) (D : Def K mg x st) : ∃ f fd, FnOk P w K mg base CX0 k f fd ps sp ∧ mg x = some (.ref f) ∧ PySem.W.keepIn K (.ref f) = true ∧ Fun K x x st f fd := by
  obtain ⟨f, fd, ds, G, hm, hk, hb, hd, st2, F2⟩ := h
  obtain ⟨g, fe, F, hg⟩ := D
  have e : f = g := by
    rw [hm] at hg
    cases hg
    rfl
  subst e
  have e2 : fd = fe := by
    obtain ⟨_, _, _, _, _, _, _, _, _, _, l1, _⟩ := F.ex
    obtain ⟨_, _, _, _, _, _, _, _, _, _, l2, _⟩ := F2.ex
    rw [l1] at l2
    cases l2
    rfl
  subst e2
  exact ⟨f, fd, G, hm, hk, F⟩
end
section
variable {X : Cx} {k : Nat} {ps : List Str} {sp : Sp} {x : Str} {p pos : Pos} {e : Expr} {es : List Expr} {t : TA} {dvs : List V}
theorem pe_has (h : Has X.prog X.w X.K X.mg X.base x k ps dvs sp) (hr : Room k X.A) (ha : PA X (e :: es) t) (hg : Gl X x := by rfl) (hdb : (x == ("__debug__" : Str)) = false := by decide)
    (he : starEach (e :: es) X.env = (false, eval e X.env) :: starEach es X.env := by rfl) (hpl : (backTo pos (starEach es X.env)).any (·.1) = false := by rfl) : PE X (.Call (.Name x p) (e :: es) [] pos) (tCall sp dvs E0 t) := by
  obtain ⟨f, fd, ds, F, hm, hk, hb, hd, _⟩ := h
  exact pe_call F hr hg hm hk hb hd pass0 ha hdb he hpl
theorem pe_ghas (h : GHas X.prog X.w X.K X.mg X.base x k ps sp) (hgu : X.A.guards = some []) (hr : Room k X.A) (ha : PA X (e :: es) t) (hg : Gl X x := by rfl) (hdb : (x == ("__debug__" : Str)) = false := by decide)
    (he : starEach (e :: es) X.env = (false, eval e X.env) :: starEach es X.env := by rfl) (hpl : (backTo pos (starEach es X.env)).any (·.1) = false := by rfl) : PE X (.Call (.Name x p) (e :: es) [] pos) (tCall sp [] E0 t) := by
  obtain ⟨f, fd, F, hm, hk, hb⟩ := h
  exact pe_callG F hgu hr hg hm hk hb ha hdb he hpl
end
/-! ### heaps -/
theorem Same.tup {K : PySem.W.Frag} {H H' : Hp} {a : Addr} {xs : List V} (e : Same H H') (h : SqT K H a xs) : SqT K H' a xs := by
  rcases h with (h | ⟨o, h⟩) | h
  · exact .inl (.inl (e _ _ h))
  · exact .inl (.inr ⟨o, e _ _ h⟩)
  · exact .inr h
theorem Same.new {H : Hp} {p : Addr} {o : HO} (h : H p = none) : Same H (upd H p o) := fun b u z => by
  rw [upd_ne (ne_of_none z h)]
  exact z
/-- all but what stands at p -/
def But (p : Addr) (H H' : Hp) : Prop := ∀ b o, b ≠ p → H b = some o → H' b = some o
theorem But.refl (p : Addr) (H : Hp) : But p H H := fun _ _ _ h => h
theorem But.trans {p : Addr} {H H1 H2 : Hp} (a : But p H H1) (b : But p H1 H2) : But p H H2 := fun c o n h => b c o n (a c o n h)
theorem But.of {p : Addr} {H H1 : Hp} (a : Same H H1) : But p H H1 := fun c o _ h => a c o h
theorem But.at {p : Addr} {H : Hp} {o : HO} : But p H (upd H p o) := fun c u n h => by
  rw [upd_ne n]
  exact h
/-- what H does not know may change -/
theorem But.free {p q : Addr} {H H1 : Hp} {o : HO} (a : But p H H1) (h : H q = none) : But p H (upd H1 q o) := fun c u n z => by
  rw [upd_ne (ne_of_none z h)]
  exact a c u n z
theorem Same.free2 {q : Addr} {H H1 : Hp} {o : HO} (a : Same H H1) (h : H q = none) : Same H (upd H1 q o) := fun c u z => by
  rw [upd_ne (ne_of_none z h)]
  exact a c u z
theorem But.none {p q : Addr} {H H1 : Hp} (a : But p H H1) (n : q ≠ p) (h : H1 q = Option.none) : H q = Option.none := by
  cases z : H q with
  | none => rfl
  | some o =>
    rw [a q o n z] at h
    cases h
/-! ### the drawn numbers -/
/-- a pool: two numbers -/
structure Pool (H : Hp) (p : Addr) : Prop where
  ex : ∃ m s : Int, H p = some (.lst [.int m, .int s]) ∧ 0 ≤ m ∧ 0 ≤ s ∧ s < 2147483647
theorem Pool.ne {H : Hp} {p t : Addr} {xs : List V} (h : Pool H p) (ht : H t = some (.tup xs)) : t ≠ p := by
  obtain ⟨m, s, e, _⟩ := h.ex
  intro z
  rw [z, e] at ht
  cases ht
theorem Pool.free {H : Hp} {p q : Addr} (h : Pool H p) (hq : H q = none) : q ≠ p := by
  obtain ⟨m, s, e, _⟩ := h.ex
  intro z
  rw [z, e] at hq
  cases hq
theorem Pool.same {H H' : Hp} {p : Addr} (h : Pool H p) (s : Same H H') : Pool H' p := by
  obtain ⟨m, n, e, r⟩ := h.ex
  exact ⟨m, n, s _ _ e, r⟩
theorem Pool.upd {H : Hp} {p q : Addr} {o : HO} (h : Pool H p) (n : q ≠ p) : Pool (L2.upd H q o) p := by
  obtain ⟨m, k, e, r⟩ := h.ex
  exact ⟨m, k, by rw [upd_ne (Ne.symm n)]; exact e, r⟩
end SE
/-! enumerate(t) and t[::-1] of a tuple. -/
namespace SE
open PySem PySem.Spec PyProof.Rows L2
section
open Sem (wp)
open AutoSeq1 (wpAny_loadPart')
theorem meets_enum_newT (t : Addr) (items : Array Value) (n : Nat) (dct : Option Addr) (sl : Array (Option Value)) :
    Meets (Builtin.«enumerate.__new__» ⟨[.type "enumerate", .ref t], []⟩) (fun _ R s => s.heap.get? t = some { cls := .type "tuple", dict := dct, data := .seq items n, slots := sl } ∧
      R (.ok (.ret (.ref (s.heap.push { cls := .type "tuple_iterator", data := .fields #[.ref t, .int 0 0] }).objs.size)))
        { s with heap := (s.heap.push { cls := .type "tuple_iterator", data := .fields #[.ref t, .int 0 0] }).push { cls := .type "enumerate", data := .fields #[.none, .bool false, .ref s.heap.objs.size, rawInt 0, .none, .none] } }) := by
  refine .of_wp fun prog w A R s h => ?_
  obtain ⟨hp, g, d, tk, os⟩ := s
  obtain ⟨ht, h⟩ := h
  have hsub := sub_enumerate
  have hT : Heap.IsTuple (Shared.heap ⟨hp, g, d, tk, os⟩) t items := ⟨_, ht, rfl, n, rfl⟩
  wp_walk using wpAny_loadPart' ht
  refine wpAny_stack_any fun st => wpAny_pure ?_
  split
  · rename_i c _ _ _ _ _
    cases (c == Value.type "enumerate")
    · wp_walk using wpAny_loadPart' ht, wpAny_pyIter_tuple hT
      exact ⟨_, rfl, h⟩
    · wp_walk using wpAny_loadPart' ht, wpAny_pyIter_tuple hT
      exact ⟨_, rfl, h⟩
  · wp_walk using wpAny_loadPart' ht, wpAny_pyIter_tuple hT
    exact ⟨_, rfl, h⟩
end
section
variable {prog : Program} {w : World} {A : Around} {E : Value → Shared → Prop} {s : Shared}
theorem call_enumT {t : Addr} {items : Array Value} {Q : Value → Shared → Prop} (hT : s.heap.IsTuple t items)
    (h : ∀ h', IsEnum h' (s.heap.objs.size + 1) s.heap.objs.size 0 .none → h'.IsTupleIter s.heap.objs.size t 0 → (∀ b o, s.heap.get? b = some o → h'.get? b = some o) → Q (.ref (s.heap.objs.size + 1)) { s with heap := h' }) :
    wpAny (model prog w) A (call (.type "enumerate") [.ref t]) Q E s := by
  obtain ⟨⟨c, dct, dt, sl⟩, ht, hc, n, hd⟩ := hT
  simp only at hc hd
  subst hc hd
  refine callType_new F.called_enumerate (by decide) (F.typeCall_enumerate_1 _) (F.newCall_enumerate_1 _) (fun obj => F.args_object_init_2 obj _) F.entry_enumerate_new (meets_enum_newT t items n dct sl) ⟨ht, ?_⟩
  have hz : (s.heap.push { cls := .type "tuple_iterator", data := .fields #[.ref t, .int 0 0] }).objs.size = s.heap.objs.size + 1 := Heap.size_push ..
  show _ ∧ _
  rw [hz]
  have he : IsEnum ((s.heap.push { cls := .type "tuple_iterator", data := .fields #[.ref t, .int 0 0] }).push
      { cls := .type "enumerate", data := .fields #[.none, .bool false, .ref s.heap.objs.size, rawInt 0, .none, .none] }) (s.heap.objs.size + 1) s.heap.objs.size 0 .none := by
    have z := Heap.get?_push_size (s.heap.push { cls := .type "tuple_iterator", data := .fields #[.ref t, .int 0 0] })
      (o := { cls := .type "enumerate", data := .fields #[.none, .bool false, .ref s.heap.objs.size, rawInt 0, .none, .none] }) rfl
    rw [hz] at z
    exact z
  exact ⟨⟨_, he, rfl⟩, h _ he ⟨_, Heap.get?_push_of_some _ (Heap.get?_push_size _ rfl), rfl, rfl⟩ fun b o x => Heap.get?_push_of_some _ (Heap.get?_push_of_some _ x)⟩
end
/-- the tuple at a, each item in a new pair -/
def ItE (K : PySem.W.Frag) (a : Addr) : It :=
  ⟨fun i H => ∃ (xs : List V) (x : V), SqT K H a xs ∧ xs[i]? = some x, fun i H v H' => ∃ T x, v = .ref T ∧ H T = none ∧ H' = upd H T (.tup [.int (i : Nat), x]) ∧ ∀ xs, SqT K H a xs → xs[i]? = some x, fun i H => ∃ xs : List V, SqT K H a xs ∧ xs.length ≤ i⟩
theorem turn_enumT {P : Program} {w : World} {K : PySem.W.Frag} {elts : List Expr} {kk : Nat} {tpos : Pos} (a e it : Addr) :
    Turn P w K (.Tuple elts kk tpos) (ItE K a) [e, it] e (fun i h => (∃ old, IsEnum h e it ((i : Nat) : Int) old) ∧ h.IsTupleIter it a i ∧ e ≠ it ∧ a ≠ it ∧ a ≠ e) where
  mem := by simp
  obj := fun i h st b hb => by
    obtain ⟨⟨old, he⟩, ⟨o, ho, hc, hd⟩, _⟩ := st
    have ee : b = e ∨ b = it := by simpa using hb
    rcases ee with z | z
    · rw [z]
      exact ⟨_, he, fun v q => nomatch q⟩
    · rw [z]
      exact ⟨o, ho, fun v q => by rw [hd] at q; cases q⟩
  keep := fun i h h' st k => by
    obtain ⟨⟨old, he⟩, hi, hne⟩ := st
    exact ⟨⟨old, k e (by simp) _ he⟩, (let ⟨o, ho, r⟩ := hi; ⟨o, k it (by simp) o ho, r⟩), hne⟩
  item := by
    intro X hP hw hK hc i pins s σ H E I hf st hg
    subst hP hw hK
    obtain ⟨⟨old, he⟩, hit, hne, hai, hae⟩ := st
    obtain ⟨xs, x, hq, hx⟩ := hg
    obtain ⟨its, rv, p, hz⟩ := I.tuple hq
    obtain ⟨u, hu, ru⟩ := rv.get hx
    have hel : e < s.heap.objs.size := Heap.lt_size he
    have hil : it < s.heap.objs.size := by
      obtain ⟨_, q, _⟩ := hit
      exact Heap.lt_size q
    have hlt : i < its.toArray.size := by
      rw [List.size_toArray, ← rv.length]
      exact (List.getElem?_eq_some_iff.mp hx).1
    have D : Draws X.prog X.w X.A.in1 it [it, a] its.toArray.size (fun j v => its.toArray[j]? = some v) (fun j h => h.IsTupleIter it a j ∧ h.IsTuple a its.toArray) := Draws.tuple (A := X.A.in1) (I.ok.hd hc) it a hai its.toArray
    refine wpAny_pyNext_enum_itemD D he ⟨hit, p⟩ hlt hne (by simp [Ne.symm hae, hne]) fun v h1 tk hv ho hit1 hT hsz hk => ?_
    have ev : v = u := by
      have z : some v = some u := by rw [← hv]; simpa using hu
      exact Option.some.inj z
    subst ev
    refine ⟨_, rfl, wpAny_letOwnedTupleGo_enum (s := { s with heap := h1, toks := tk + 1 }) ho fun h2 he2 sb => ?_⟩
    have hT2 : h2.get? s.heap.objs.size = some { cls := .type "tuple", data := .seq #[.int i tk, v] } := (sb.2 _ (Nat.ne_of_gt hel)).trans hT
    have new : ObjOk X.prog X.w (upd H s.heap.objs.size (.tup [.int (i : Nat), x])) h2 s.heap.objs.size (.tup [.int (i : Nat), x]) :=
      ⟨by show 2 ≤ sizeLine; decide, [.int i tk, v], .cons ⟨_, rfl⟩ (.cons ru .nil), ⟨_, hT2, rfl, _, rfl⟩⟩
    have J : Inv X pins σ (upd H s.heap.objs.size (.tup [.int (i : Nat), x])) { s with heap := h2, toks := tk + 1 } :=
      I.turnedNew (ch := [e, it]) (fun b ob hb q => (sb.2 b (fun z => hb (by simp [z]))).trans (hk b ob (fun z => hb (by simp [z])) (fun z => hb (by simp [z])) q)) hf (Nat.le_refl _) new
    refine ⟨.ref s.heap.objs.size, _, J, rfl, ⟨_, x, rfl, I.hok.fresh (Nat.le_refl _), rfl, fun ys hy => by rw [I.tuple_inj hy hq]; exact hx⟩, ⟨⟨v, ?_⟩, ?_, hne, hai, hae⟩, fun b hb => ?_⟩
    · have e1 : ((i + 1 : Nat) : Int) = (i : Int) + 1 := by omega
      rw [e1]
      exact he2
    · obtain ⟨o, ho2, r⟩ := hit1.1
      exact ⟨o, (sb.2 it (Ne.symm hne)).trans ho2, r⟩
    · have hb2 : b < s.heap.objs.size := by
        have ee : b = e ∨ b = it := by simpa using hb
        rcases ee with z | z
        · rw [z]; exact hel
        · rw [z]; exact hil
      rw [upd_ne (Nat.ne_of_lt hb2)]
      exact (hf b hb).1
  done := by
    intro X hP hw hK hc i pins s σ H E I hf st hg
    subst hP hw hK
    obtain ⟨⟨old, he⟩, hit, hne, hai, hae⟩ := st
    obtain ⟨xs, hq, hx⟩ := hg
    obtain ⟨its, rv, p, hz⟩ := I.tuple hq
    obtain ⟨f0, f1, f2, f3, f4, f5⟩ := hf it (by simp)
    have hl := rv.length
    have D : Draws X.prog X.w X.A.in1 it [it, a] i (fun j v => its.toArray[j]? = some v) (fun j h => j = i ∧ h.IsTupleIter it a i ∧ h.IsTuple a its.toArray ∧ its.toArray.size ≤ i) := by
      have D0 := Draws.tuple (prog := X.prog) (w := X.w) (A := X.A.in1) (I.ok.hd hc) it a hai its.toArray
      refine ⟨fun j h z => D0.live i h ⟨z.2.1, z.2.2.1⟩, fun j h h' z k => ⟨z.1, (D0.frame i h h' ⟨z.2.1, z.2.2.1⟩ k).1, (D0.frame i h h' ⟨z.2.1, z.2.2.1⟩ k).2, z.2.2.2⟩, fun j s Q E hj z k => ?_, fun s Q E z k => ?_⟩
      · exact absurd z.1 (Nat.ne_of_lt hj)
      · exact wpAny_nextOf_tuple_end (I.ok.hd hc) z.2.1 z.2.2.1 (Array.getElem?_eq_none z.2.2.2) k
    exact wpAny_pyNext_enum_endD D he ⟨rfl, hit, p, by rw [List.size_toArray]; omega⟩ fun h' eb => ⟨rfl, I.turned (t' := s.toks) (fun b o hb q => eb b o hb q) f0 f1 f3 f4 f5⟩
  self := fun A i s Q E st h => let ⟨⟨_, he⟩, _⟩ := st; wpAny_pyIter_enum he h
def iEnumT (K : PySem.W.Frag) (ta : TA) : TI := fun σ H R => ta σ H fun vs H1 => ∃ a xs, vs = [.ref a] ∧ SqT K H1 a xs ∧ R (ItE K a) H1
theorem pi_enumT {X : Cx} {e : Expr} {ta : TA} {p pos tpos : Pos} {elts : List Expr} {kk : Nat} (hg : Gl X "enumerate") (hm : X.mg "enumerate" = none) (ha : PA X [e] ta) (hs : starEach [e] X.env = [(false, eval e X.env)] := by rfl) :
    PI X (.Tuple elts kk tpos) (.Call (.Name "enumerate" p) [e] [] pos) (iEnumT X.K ta) := by
  constructor
  intro pins s σ H R I h
  refine Call_ (ld_blt I hg hm boot_enumerate (PyProof.Rows.callWith_type1 (thn (ha.run pos pins s σ H _ I h) fun us s1 hh => ?_) hs rfl))
  obtain ⟨vs, H1, I1, r1, a, xs, ex, hq, q⟩ := hh
  subst ex
  cases r1 with
  | cons r rr =>
    cases rr
    cases r
    obtain ⟨its, rv, p2, hz⟩ := I1.tuple hq
    refine call_enumT p2 fun h2 he hit hk => wpAny_pyIter_enum he ?_
    have I2 : Inv X pins σ H1 { s1 with heap := h2 } := I1.kept (t' := s1.toks) hk
    have hlt : a < s1.heap.objs.size := p2.lt
    refine ⟨s1.heap.objs.size + 1, [s1.heap.objs.size + 1, s1.heap.objs.size], _, _, H1, rfl, I2, turn_enumT a (s1.heap.objs.size + 1) s1.heap.objs.size, ⟨⟨.none, he⟩, hit, Nat.succ_ne_self _, Nat.ne_of_lt hlt, Nat.ne_of_lt (Nat.lt_succ_of_lt hlt)⟩, fun b hb => ?_, q⟩
    have ee : b = s1.heap.objs.size + 1 ∨ b = s1.heap.objs.size := by simpa using hb
    have hle : s1.heap.objs.size ≤ b := by
      rcases ee with z | z
      · rw [z]; exact Nat.le_add_right _ _
      · rw [z]; exact Nat.le_refl _
    exact I1.fpOk hle (I1.hok.fresh hle)
/-! ### t[::-1] -/
section
variable {prog : Program} {w : World} {A : Around} {E : Value → Shared → Prop} {s : Shared}
theorem back_pick (xs : Array Value) (n : Nat) (hn : n = xs.size) : (List.range n).filterMap (fun (m : Nat) => xs[(((n : Int) - 1) + (m : Int) * (-1)).toNat]?) = xs.toList.reverse := by
  subst hn
  have e : (fun (m : Nat) => xs[(((xs.size : Nat) : Int) - 1 + (m : Int) * (-1)).toNat]?) = fun m => xs[xs.size - 1 - m]? := by
    funext m
    have z : (((xs.size : Nat) : Int) - 1 + (m : Int) * (-1)).toNat = xs.size - 1 - m := by omega
    rw [z]
  rw [e]
  have a := PySem.W.krv_pick xs
  have b : PySem.slicePick xs none none (some (-1)) = ((List.range xs.size).filterMap fun m => xs[xs.size - 1 - m]?).toArray := by
    unfold PySem.slicePick
    rw [PySem.W.krv_bounds]
    show ((PySem.sliceRange ((xs.size : Int) - 1) (-1) (-1)).filterMap (xs[·]?)).toArray = _
    rw [PySem.W.krv_sliceRange, List.filterMap_map]
    rfl
  have c := a.symm.trans b
  have d := congrArg Array.toList c
  exact d.symm
theorem applied_back {sl : Addr} {vs : Value} {n : Nat} {Q : Int × Int × Nat → Shared → Prop} (hs : s.heap.IsSliceOf sl .none .none vs) (pv : IsPart vs (some (-1)))
    (h : Q ((n : Int) - 1, -1, n) s) : wpAny (model prog w) A (Builtin.Slice.sliceApplied (.ref sl) (pure (n : Int))) Q E s := by
  obtain ⟨os, hos, hcs, hds⟩ := id hs
  unfold Builtin.Slice.sliceApplied Builtin.Slice.sliceFields
  refine wpAny_bind (wpAny_bind (wpAny_field hos hds (x := .none) rfl (wpAny_bind (wpAny_field hos hds (x := .none) rfl (wpAny_bind (wpAny_field hos hds (x := vs) rfl (wpAny_pure ?_)))))))
  refine wpAny_bind (HT.slicePart_ pv ?_)
  show wpAny _ _ (if ((-1 : Int) == 0) = true then _ else _) _ _ s
  rw [if_neg (by decide)]
  refine wpAny_bind (HT.slicePart_ .none (wpAny_bind (HT.slicePart_ .none (wpAny_bind (wpAny_pure ?_)))))
  show wpAny _ _ (pure ((n : Int) - 1, (-1 : Int), Builtin.Slice.slicePlaces ((n : Int) - 1) (-1) (-1))) _ _ s
  have e : Builtin.Slice.slicePlaces ((n : Int) - 1) (-1) (-1) = n := by
    unfold Builtin.Slice.slicePlaces
    rw [if_neg (by decide)]
    by_cases hn : (n : Int) - 1 > -1
    · rw [if_pos hn, show (- -1 : Int) = 1 by decide, Int.ediv_one]
      omega
    · rw [if_neg hn]
      omega
  rw [e]
  exact wpAny_pure h
theorem item_back {t sl : Addr} {items : Array Value} {vs : Value} {Q : Value → Shared → Prop} (ht : IsTup s.heap t items) (hs : s.heap.IsSliceOf sl .none .none vs) (pv : IsPart vs (some (-1)))
    (h : Q (.ref s.heap.objs.size) { s with heap := s.heap.push { cls := .type "tuple", data := .seq items.toList.reverse.toArray } }) (hsz : items.size ≤ sizeLine) : wpAny (model prog w) A (getItem (.ref t) (.ref sl)) Q E s := by
  have hok : sizeOk (.seq items.toList.reverse.toArray) := by
    show items.toList.reverse.toArray.size ≤ sizeLine
    rw [List.size_toArray, List.length_reverse, Array.length_toList]
    exact hsz
  obtain ⟨os, hos, hcs, hds⟩ := id hs
  have hTs : s.TypeIs (.ref sl) "slice" := ⟨os, hos, hcs⟩
  unfold getItem
  try with_reducible refine wpAny_holding ?_
  first | refine wpAny_bind (wpAny_pure ?_) | skip
  refine wpAny_bind (wpAny_sequenceKey ht.typeIs (by decide) ?_)
  refine wpAny_bind (wpAny_callSpecial?_slot (name := Str.ofString "__getitem__") ht.typeIs PyProof.Rows.slot_tuple_getitem (wpAny_call_entry PyProof.Rows.slot_tuple_getitem ht.typeIs entry_tuple_getitem ?_ (args_tuple_getitem _ _)))
  show wpAny _ _ (Builtin.Tuple.tupleItemsOf (.ref t) >>= _) _ _ s
  refine wpAny_bind (tupleItemsOf_ ht ?_)
  refine wpAny_bind (wpAny_typeOf hTs ?_)
  rw [if_pos (by decide)]
  refine wpAny_bind (applied_back hs pv ?_)
  have hno : ¬ ((((items.size : Int) - 1) == 0 && (-1 : Int) == 1 && items.size == items.size) = true) := by
    intro q
    rw [Bool.and_eq_true, Bool.and_eq_true] at q
    exact absurd q.1.2 (by decide)
  show wpAny _ _ (if (((items.size : Int) - 1) == 0 && (-1 : Int) == 1 && items.size == items.size) = true then _ else _) _ _ s
  rw [if_neg hno, back_pick items items.size rfl]
  first
    | exact wpAny_bind (m := Builtin.Tuple.tupleExact _) (wpAny_newObj_type (wpAny_pure ⟨_, rfl, wpAny_pure h⟩) hok)
    | exact wpAny_bind (m := Builtin.Tuple.tupleExact _) (wpAny_newObj_type (wpAny_bind (wpAny_pure (wpAny_pure ⟨_, rfl, wpAny_pure h⟩))) hok)
    | exact wpAny_bind (wpAny_bind (m := Builtin.Tuple.tupleExact _) (wpAny_newObj_type (wpAny_pure (wpAny_pure ⟨_, rfl, wpAny_pure h⟩)) hok))
    | exact wpAny_bind (wpAny_bind (m := Builtin.Tuple.tupleExact _) (wpAny_newObj_type (wpAny_pure ⟨_, rfl, wpAny_pure h⟩) hok))
end
def tRevT (K : PySem.W.Frag) (te : TE) : TE := fun σ H Q => te σ H fun x H1 => ∃ a xs, x = .ref a ∧ SqT K H1 a xs ∧ ∀ p, H1 p = none → Q (.ref p) (upd H1 p (.tup xs.reverse))
theorem pe_revT {X : Cx} {e : Expr} {te : TE} {k : Nat} {p1 p2 p3 pos : Pos} (he : PE X e te) : PE X (.Subscript e (.Slice none none (some (.UnaryOp .USub (.Constant (.int 1) k p1) p2)) p3) pos) (tRevT X.K te) := by
  constructor
  intro pins s σ H Q I h
  refine Subscript_ (thn (he.run pins s σ H _ I h) fun v s1 hh => ?_)
  obtain ⟨x, H1, I1, r1, a, xs, ex, hx, q⟩ := hh
  subst ex
  cases r1
  have hst : PO X (some (.UnaryOp .USub (.Constant (.int 1) k p1) p2)) (tPart (tUn (rU fun i => .int (-i)) (tC (.int 1)))) := po_some (pe_un un_neg pe_int)
  refine wpAny_Slice (thn (po_none.run pins s1 σ H1 (fun o H2 => o = none ∧ H2 = H1) I1 ⟨rfl, rfl⟩) fun vl s2 hl => ?_)
  obtain ⟨l, H2, I2, pl, el, e2⟩ := hl
  subst el e2
  refine thn (po_none.run pins s2 σ H2 (fun o H3 => o = none ∧ H3 = H2) I2 ⟨rfl, rfl⟩) fun vu s3 hu => ?_
  obtain ⟨u, H3, I3, pu, eu, e3⟩ := hu
  subst eu e3
  refine thn (hst.run pins s3 σ H3 (fun o H4 => o = some (-1) ∧ H4 = H3) I3 ⟨1, rfl, -1, rfl, rfl, rfl⟩) fun vs s4 ho => ?_
  obtain ⟨o, H4, I4, ps, eo, e4⟩ := ho
  subst eo e4
  cases pl
  cases pu
  have I5 : Inv X pins σ H4 { s4 with heap := s4.heap.push { cls := .type "slice", data := .fields #[.none, .none, vs] } } := I4.kept (t' := s4.toks) fun b ob q => Heap.get?_push_of_some _ q
  obtain ⟨its, r, ht, hz⟩ := I5.tuple hx
  have hlen := r.length
  show wpAny (model X.prog X.w) X.A (subscriptTail e (.Slice none none (some (.UnaryOp .USub (.Constant (.int 1) k p1) p2)) p3) (.ref a) (.ref s4.heap.objs.size)) (EP X pins σ Q) X.xe { s4 with heap := s4.heap.push { cls := .type "slice", data := .fields #[.none, .none, vs] } }
  refine tail_any (ops := [.ref a, .ref s4.heap.objs.size]) ht.typeIs (PyProof.Rows.slot_tuple_getitem.lookup) ?_ (by with_unfolding_all rfl)
  refine item_back ht (Heap.IsSliceOf.new _ .none .none vs) ps ?_ (by rw [List.size_toArray]; omega)
  refine ⟨.ref _, _, I5.laid (t' := s4.toks) (o := .tup xs.reverse) (fun b ob q => Heap.get?_push_of_some _ q) (Nat.le_refl _) ?_, rfl, q _ (I5.hok.fresh (Nat.le_refl _))⟩
  exact ⟨by rw [List.length_reverse]; exact hz, _, r.reverse, IsTup.new _ _⟩
end SE
/-! Plain data: texts, steps; when they are equal, how they are shown. -/
namespace SE
open PySem PySem.Spec PyProof.Rows L2
/-- a text that is an item -/
structure Item (z : Str) : Prop where
  pos : 1 ≤ z.length
  most : z.length ≤ 8
  low : ∀ c ∈ z.cps.toList, 97 ≤ c ∧ c ≤ 122
/-- data that may be compared and shown: its depth, its weight -/
structure Nice (k B : Nat) (d : PyData) : Prop where
  lay : d.canLay0 = true
  dep : d.depth ≤ k
  sh : d.showable = true
  nd : d.hasDict = false
  ish : d.intsShort 13 = true
  wt : d.weight ≤ B
theorem Nice.mono {k j B C : Nat} {d : PyData} (h : Nice k B d) (hk : k ≤ j) (hB : B ≤ C) : Nice j C d := ⟨h.lay, Nat.le_trans h.dep hk, h.sh, h.nd, h.ish, Nat.le_trans h.wt hB⟩
theorem nice_str {z : Str} {B : Nat} (hc : ∀ c ∈ z.cps.toList, c < 0x110000) (hB : z.length ≤ B) : Nice 0 B (.str z) := by
  refine ⟨?_, ?_, ?_, ?_, ?_, ?_⟩
  · simp only [PyData.canLay0, PyData.strOk]
    rw [← Array.all_toList, List.all_eq_true]
    intro c h
    exact decide_eq_true (hc c h)
  · simp only [PyData.depth]
    exact Nat.le_refl _
  · simp only [PyData.showable]
  · simp only [PyData.hasDict]
  · simp only [PyData.intsShort]
  · simp only [PyData.weight]
    exact hB
theorem Item.nice {z : Str} (h : Item z) : Nice 0 8 (.str z) := nice_str (fun c hc => by have := (h.low c hc).2; omega) h.most
theorem nice_all {k B : Nat} : ∀ {ds : List PyData}, (∀ d ∈ ds, Nice k B d) → PyData.canLayAll0 ds = true ∧ PyData.depthAll ds ≤ k ∧ PyData.showableAll ds = true ∧ PyData.hasDictAll ds = false ∧ PyData.intsShortAll 13 ds = true ∧ PyData.weightAll ds ≤ ds.length * (B + 1)
  | [], _ => by
    refine ⟨?_, ?_, ?_, ?_, ?_, ?_⟩
    · simp only [PyData.canLayAll0]
    · simp only [PyData.depthAll]
      exact Nat.zero_le _
    · simp only [PyData.showableAll]
    · simp only [PyData.hasDictAll]
    · simp only [PyData.intsShortAll]
    · simp only [PyData.weightAll]
      exact Nat.zero_le _
  | d :: ds, h => by
    obtain ⟨a1, a2, a3, a4, a5, a6⟩ := nice_all (ds := ds) fun x hx => h x (List.mem_cons_of_mem _ hx)
    have q := h d List.mem_cons_self
    refine ⟨?_, ?_, ?_, ?_, ?_, ?_⟩
    · simp only [PyData.canLayAll0, q.lay, a1, Bool.and_self]
    · simp only [PyData.depthAll]
      exact Nat.max_le.mpr ⟨q.dep, a2⟩
    · simp only [PyData.showableAll, q.sh, a3, Bool.and_self]
    · simp only [PyData.hasDictAll, q.nd, a4, Bool.or_self]
    · simp only [PyData.intsShortAll, q.ish, a5, Bool.and_self]
    · simp only [PyData.weightAll, List.length_cons]
      have := q.wt
      rw [Nat.add_mul]
      omega
theorem nice_list {k B : Nat} {ds : List PyData} (h : ∀ d ∈ ds, Nice k B d) : Nice (k + 1) (ds.length * (B + 1)) (.list ds) := by
  obtain ⟨a1, a2, a3, a4, a5, a6⟩ := nice_all h
  exact ⟨by simp only [PyData.canLay0]; exact a1, by simp only [PyData.depth]; omega, by simp only [PyData.showable]; exact a3, by simp only [PyData.hasDict]; exact a4, by simp only [PyData.intsShort]; exact a5, by simp only [PyData.weight]; exact a6⟩
theorem nice_tuple {k B : Nat} {ds : List PyData} (h : ∀ d ∈ ds, Nice k B d) : Nice (k + 1) (ds.length * (B + 1)) (.tuple ds) := by
  obtain ⟨a1, a2, a3, a4, a5, a6⟩ := nice_all h
  exact ⟨by simp only [PyData.canLay0]; exact a1, by simp only [PyData.depth]; omega, by simp only [PyData.showable]; exact a3, by simp only [PyData.hasDict]; exact a4, by simp only [PyData.intsShort]; exact a5, by simp only [PyData.weight]; exact a6⟩
theorem Nice.shaped {k B : Nat} {d : PyData} (h : Nice k B d) (hk : k ≤ 64) : SeqAt.shaped d = true := by
  unfold SeqAt.shaped
  rw [h.lay, Bool.true_and]
  exact decide_eq_true (Nat.le_trans h.dep hk)
theorem Nice.shown {k B : Nat} {d : PyData} (h : Nice k B d) (hk : k ≤ 64) (hB : B ≤ 2 ^ 20) : d.shown.length ≤ sizeLine := by
  refine PyData.shown_fits_of_layable0 (B := 13) (by decide) (by decide) ?_ h.ish
  unfold PyData.layable0
  rw [h.lay, Bool.true_and, Bool.and_eq_true]
  exact ⟨decide_eq_true (Nat.le_trans h.dep hk), decide_eq_true (Nat.le_trans h.wt hB)⟩
theorem Nice.eqv {k B : Nat} {d : PyData} (h : Nice k B d) : PyData.eqv d d = true := SeqAt.eqv_refl d h.lay
/-! ### texts -/
theorem dp_strs {K : PySem.W.Frag} {H : Hp} : ∀ zs : List Str, DpAll K H (zs.map V.str) (zs.map PyData.str)
  | [] => .nil
  | z :: zs => .cons (.str z) (dp_strs zs)
theorem eqvAll_strs : ∀ a b : List Str, PyData.eqvAll (a.map .str) (b.map .str) = decide (a = b)
  | [], [] => by simp [PyData.eqvAll]
  | [], y :: b => by simp [PyData.eqvAll]
  | x :: a, [] => by simp [PyData.eqvAll]
  | x :: a, y :: b => by
    rw [List.map_cons, List.map_cons]
    unfold PyData.eqvAll
    rw [eqvAll_strs a b]
    unfold PyData.eqv
    by_cases e : x = y
    · subst e
      simp
    · simp [e]
theorem eqv_listS (a b : List Str) : PyData.eqv (.list (a.map .str)) (.list (b.map .str)) = decide (a = b) := by
  unfold PyData.eqv
  exact eqvAll_strs a b
theorem eqv_tupS (a b : List Str) : PyData.eqv (.tuple (a.map .str)) (.tuple (b.map .str)) = decide (a = b) := by
  unfold PyData.eqv
  exact eqvAll_strs a b
theorem nice_strs {zs : List Str} (h : ∀ z ∈ zs, Item z) : ∀ d ∈ zs.map PyData.str, Nice 0 8 d := by
  intro d hd
  obtain ⟨z, hz, rfl⟩ := List.mem_map.mp hd
  exact (h z hz).nice
/-! ### steps -/
abbrev Stp := Bool × Str
def act (b : Bool) : Str := if b then "push" else "pop"
theorem act_nice (b : Bool) : Nice 0 8 (.str (act b)) := by
  cases b
  · exact nice_str (by decide +kernel) (by decide +kernel)
  · exact nice_str (by decide +kernel) (by decide +kernel)
def stepD (s : Stp) : PyData := .tuple [.str (act s.1), .str s.2]
theorem stepD_nice {s : Stp} (h : Item s.2) : Nice 1 18 (stepD s) := by
  refine (nice_tuple (k := 0) (B := 8) (ds := [.str (act s.1), .str s.2]) ?_).mono (Nat.le_refl _) (by show 2 * 9 ≤ 18; decide)
  intro d hd
  rcases List.mem_cons.mp hd with q | q
  · rw [q]
    exact act_nice _
  · rw [List.mem_singleton.mp q]
    exact h.nice
/-- a step -/
def StepV (K : PySem.W.Frag) (H : Hp) (v : V) (s : Stp) : Prop := ∃ t, v = .ref t ∧ SqT K H t [.str (act s.1), .str s.2]
abbrev StepsV (K : PySem.W.Frag) (H : Hp) : List V → List Stp → Prop := Paired (StepV K H)
theorem StepV.same {K : PySem.W.Frag} {H H' : Hp} {v : V} {s : Stp} (h : StepV K H v s) (e : Same H H') : StepV K H' v s := by
  obtain ⟨t, rfl, q⟩ := h
  exact ⟨t, rfl, Same.tup e q⟩
theorem StepsV.same {K : PySem.W.Frag} {H H' : Hp} {xs : List V} {ss : List Stp} (h : StepsV K H xs ss) (e : Same H H') : StepsV K H' xs ss := Paired.mapP h fun _ _ q => q.same e
theorem StepsV.at {K : PySem.W.Frag} {H : Hp} : ∀ {xs : List V} {ss : List Stp} {i : Nat} {v : V}, StepsV K H xs ss → xs[i]? = some v → ∃ s, ss[i]? = some s ∧ StepV K H v s
  | _, _, _, _, .nil, h => by simp at h
  | _, _, 0, _, .cons a _, h => by
    have e := Option.some.inj h
    subst e
    exact ⟨_, rfl, a⟩
  | _, _, i + 1, _, .cons _ r, h => StepsV.at (i := i) r h
theorem dp_steps {K : PySem.W.Frag} {H : Hp} : ∀ {xs : List V} {ss : List Stp}, StepsV K H xs ss → DpAll K H xs (ss.map stepD)
  | _, _, .nil => .nil
  | _, _, .cons a r => by
    obtain ⟨t, rfl, q⟩ := a
    exact .cons (.tup q (.cons (.str _) (.cons (.str _) .nil))) (dp_steps r)
theorem nice_steps {ss : List Stp} (h : ∀ s ∈ ss, Item s.2) : ∀ d ∈ ss.map stepD, Nice 1 18 d := by
  intro d hd
  obtain ⟨s, hs, rfl⟩ := List.mem_map.mp hd
  exact stepD_nice (h s hs)
theorem StepsV.rev {K : PySem.W.Frag} {H : Hp} : ∀ {xs : List V} {ss : List Stp}, StepsV K H xs ss → StepsV K H xs.reverse ss.reverse
  | _, _, .nil => .nil
  | _, _, .cons a r => by
    rw [List.reverse_cons, List.reverse_cons]
    exact (StepsV.rev r).snoc a
/-- the exchange of push and pop -/
def flip1 (s : Stp) : Stp := (!s.1, s.2)
def revM (ss : List Stp) : List Stp := ss.reverse.map flip1
/-- what a step makes of a stack -/
def stepM (s : Stp) (zs : List Str) : Option (List Str) := if s.1 then some (s.2 :: zs) else match zs with
  | [] => none
  | z :: r => if z = s.2 then some r else none
def runM : List Stp → List Str → Option (List Str)
  | [], zs => some zs
  | s :: ss, zs => match stepM s zs with
    | none => none
    | some ws => runM ss ws
theorem runM_append : ∀ (a b : List Stp) (zs : List Str), runM (a ++ b) zs = (runM a zs).bind (runM b)
  | [], b, zs => rfl
  | s :: a, b, zs => by
    show (match stepM s zs with | none => none | some ws => runM (a ++ b) ws) = (match stepM s zs with | none => none | some ws => runM a ws).bind (runM b)
    cases stepM s zs with
    | none => rfl
    | some ws => exact runM_append a b ws
theorem stepM_flip {s : Stp} {zs ws : List Str} (h : stepM s zs = some ws) : stepM (flip1 s) ws = some zs := by
  obtain ⟨b, x⟩ := s
  cases b with
  | true =>
    have e : x :: zs = ws := by
      have q : some (x :: zs) = some ws := h
      exact Option.some.inj q
    subst e
    show (if x = x then some zs else none) = some zs
    rw [if_pos rfl]
  | false =>
    cases zs with
    | nil => exact absurd h (by intro q; cases q)
    | cons z r =>
      have q : (if z = x then some r else none) = some ws := h
      by_cases e : z = x
      · rw [if_pos e] at q
        have e2 := Option.some.inj q
        subst e2
        subst e
        rfl
      · rw [if_neg e] at q
        cases q
theorem runM_rev : ∀ (ss : List Stp) (zs ws : List Str), runM ss zs = some ws → runM (revM ss) ws = some zs
  | [], zs, ws, h => by
    have e : zs = ws := Option.some.inj h
    subst e
    rfl
  | s :: ss, zs, ws, h => by
    have h' : (match stepM s zs with | none => none | some ys => runM ss ys) = some ws := h
    cases e : stepM s zs with
    | none =>
      rw [e] at h'
      cases h'
    | some ys =>
      rw [e] at h'
      have ih := runM_rev ss ys ws h'
      show runM ((s :: ss).reverse.map flip1) ws = some zs
      rw [List.reverse_cons, List.map_append, runM_append]
      have ih' : runM (ss.reverse.map flip1) ws = some ys := ih
      rw [ih']
      show (match stepM (flip1 s) ys with | none => none | some ws => runM [] ws) = some zs
      rw [stepM_flip e]
      rfl
theorem revM_revM (ss : List Stp) : revM (revM ss) = ss := by
  unfold revM
  rw [← List.map_reverse, List.reverse_reverse, List.map_map]
  have e : flip1 ∘ flip1 = id := by
    funext s
    obtain ⟨b, x⟩ := s
    cases b <;> rfl
  rw [e, List.map_id]
theorem revM_items {ss : List Stp} (h : ∀ s ∈ ss, Item s.2) : ∀ s ∈ revM ss, Item s.2 := by
  intro s hs
  obtain ⟨t, ht, rfl⟩ := List.mem_map.mp hs
  exact h t (List.mem_reverse.mp ht)
theorem stepM_items {s : Stp} {zs ws : List Str} (h : stepM s zs = some ws) (hs : Item s.2) (hz : ∀ z ∈ zs, Item z) : ∀ z ∈ ws, Item z := by
  obtain ⟨b, x⟩ := s
  cases b with
  | true =>
    have e : x :: zs = ws := Option.some.inj (show some (x :: zs) = some ws from h)
    subst e
    intro z m
    rcases List.mem_cons.mp m with q | q
    · rw [q]
      exact hs
    · exact hz z q
  | false =>
    cases zs with
    | nil => exact absurd h (by intro q; cases q)
    | cons y r =>
      have q : (if y = x then some r else none) = some ws := h
      by_cases e : y = x
      · rw [if_pos e] at q
        have e2 := Option.some.inj q
        subst e2
        exact fun z m => hz z (List.mem_cons_of_mem _ m)
      · rw [if_neg e] at q
        cases q
theorem stepM_len {s : Stp} {zs ws : List Str} (h : stepM s zs = some ws) : ws.length ≤ zs.length + 1 := by
  obtain ⟨b, x⟩ := s
  cases b with
  | true =>
    have e : x :: zs = ws := Option.some.inj (show some (x :: zs) = some ws from h)
    subst e
    exact Nat.le_refl _
  | false =>
    cases zs with
    | nil => exact absurd h (by intro q; cases q)
    | cons y r =>
      have q : (if y = x then some r else none) = some ws := h
      by_cases e : y = x
      · rw [if_pos e] at q
        have e2 := Option.some.inj q
        subst e2
        rw [List.length_cons]
        omega
      · rw [if_neg e] at q
        cases q
end SE
namespace SE
open PySem PySem.Spec PyProof.Rows L2
def topS (i : Nat) : Stmt := PySem.Challenge.pw_stackeffect_k33_blocks_refused.main.body.getD i (.Pass ⟨0, 0, 0, 0⟩)
abbrev sWall : Stmt := topS 0
abbrev sStackerror : Stmt := topS 2
abbrev sInvalidword : Stmt := topS 3
abbrev sInvalidsteps : Stmt := topS 4
abbrev sInvalidnumber : Stmt := topS 5
abbrev sInvalidblocks : Stmt := topS 6
abbrev sLimitexceeded : Stmt := topS 7
abbrev sIsWhole : Stmt := topS 9
abbrev sIsBetween : Stmt := topS 10
abbrev sCheckBetween : Stmt := topS 11
abbrev sIsItem : Stmt := topS 17
abbrev sIsWord : Stmt := topS 18
abbrev sIsStep : Stmt := topS 19
abbrev sMayHold : Stmt := topS 20
abbrev sChkSteps : Stmt := topS 21
abbrev sChkWord : Stmt := topS 22
abbrev sLeastPeak : Stmt := topS 24
abbrev sEffect : Stmt := topS 25
abbrev sJoined : Stmt := topS 26
abbrev sPartsOfStep : Stmt := topS 27
abbrev sEffectOf : Stmt := topS 28
abbrev sIsState : Stmt := topS 32
abbrev sIsStateList : Stmt := topS 33
abbrev sIsEdge : Stmt := topS 34
abbrev sIsTable : Stmt := topS 35
abbrev sSetOf : Stmt := topS 36
abbrev sMembers : Stmt := topS 37
abbrev sReader : Stmt := topS 38
abbrev sHasAtMost : Stmt := topS 44
abbrev sIsBlock : Stmt := topS 45
abbrev sAreBlocks : Stmt := topS 46
abbrev sCheckBlocks : Stmt := topS 47
abbrev sCheckStack : Stmt := topS 48
abbrev sCheckSearch : Stmt := topS 49
abbrev sRulesOf : Stmt := topS 50
abbrev sSearch : Stmt := topS 51
abbrev sGoalSearch : Stmt := topS 52
abbrev sReach : Stmt := topS 53
abbrev sIsClosed : Stmt := topS 54
abbrev sCheck : Stmt := topS 55
abbrev sIsReachable : Stmt := topS 56
abbrev sLeastBlocks : Stmt := topS 57
abbrev sRoute : Stmt := topS 58
abbrev sPool : Stmt := topS 60
abbrev sTake : Stmt := topS 61
abbrev sItems : Stmt := topS 62
abbrev sWord : Stmt := topS 63
abbrev sSteps : Stmt := topS 64
abbrev sLawRun : Stmt := topS 65
abbrev sLawRaised : Stmt := topS 66
abbrev sLawBadBlocks : Stmt := topS 67
abbrev sLaw : Stmt := topS 68
end SE
namespace SE
open PySem PySem.Spec PyProof.Rows L2
section
variable {P : Program} {w : World} {K : PySem.W.Frag} {mg : Str → Option Value} {base : Heap}
/-! ### _law_take -/
def spTake : Sp := fun xs H Q _ => ∃ (p : Addr) (n : Int), xs = [.ref p, .int n] ∧ Pool H p ∧ 1 ≤ n ∧ n ≤ 100000 ∧
  ∀ (r : Int) (H' : Hp), But p H H' → Pool H' p → 0 ≤ r → r < n → Q (.int r) H'
theorem scTake : FnScope ["_law_pool_here", "_law_many", "_law_found"] ["_law_pool_here", "_law_many"] (defScope sTake) := ⟨rfl, rfl, rfl, by decide +kernel, rfl, by decide +kernel, by decide +kernel⟩
theorem has_take (D : Def K mg "_law_take" sTake) : Has P w K mg base "_law_take" 1 ["_law_pool_here", "_law_many"] [] spTake := by
  refine has_of D scTake (fun _ _ _ _ _ _ us hl => match us, hl with | [_, _], _ => rfl) (fun xs H Q E h => ?_) (fun f cv A out s H xs Q E hr h => ?_)
  · obtain ⟨p, n, rfl, _⟩ := h
    rfl
  · obtain ⟨p, n, rfl, hp, h1, h2, k⟩ := h
    obtain ⟨m, z, e, hm, hz0, hz1⟩ := hp.ex
    have a0 : atI [V.int m, V.int z] 0 = some (.int m) := atI_nat (j := 0) rfl
    refine ⟨_, pss_cons (ps_if (pt_cmpR op_gt (pe_ix ix_list (pv 0) pe_int (fun _ _ => rfl)) pe_int (nomark _))
        (pss_cons (ps_set (i := 2) scTake.nd rfl (.inl rfl) (pe_op op_modN (pe_ix ix_list (pv 0) pe_int (fun _ _ => rfl)) (pv 1)))
        (pss_cons (ps_asg (pe_op op_fdivN (pe_ix ix_list (pv 0) pe_int (fun _ _ => rfl)) (pv 1)) (pg_sub (pv 0) pe_int set_list))
        (pss_one (ps_ret (pv 2))))) pss_nil)
      (pss_cons (ps_asg (pe_op op_mod (pe_op op_add (pe_op op_mul (pe_ix ix_list (pv 0) pe_int (fun _ _ => rfl)) pe_int) pe_int) pe_int) (pg_sub (pv 0) pe_int set_list))
      (pss_one (ps_ret (pe_op op_modN (pe_op op_fdiv (pe_op op_mod (pe_op op_mul (pe_ix ix_list (pv 0) pe_int (fun _ _ => rfl)) (pe_ix ix_list (pv 0) pe_int (fun _ _ => rfl))) pe_int) pe_int) (pv 1))))), ?_⟩
    refine ⟨.ref p, rfl, p, _, 0, _, rfl, rfl, .of e, a0, m, 0, rfl, rfl, _, rfl, ite2 (fun c => ?_) (fun c => ?_)⟩
    · refine ⟨.ref p, rfl, p, _, 0, _, rfl, rfl, .of e, a0, .int n, rfl, m, n, rfl, rfl, (by omega), ?_⟩
      refine ⟨.ref p, rfl, p, _, 0, _, rfl, rfl, .of e, a0, .int n, rfl, m, n, rfl, rfl, ⟨by omega, by omega⟩, .ref p, rfl, p, _, 0, 0, rfl, rfl, e, rfl, ?_⟩
      refine ⟨_, rfl, k _ _ .at ⟨m.fdiv n, z, upd_same, ?_, hz0, hz1⟩ ?_ ?_⟩
      · rw [Int.fdiv_eq_ediv_of_nonneg _ (by omega)]
        exact Int.ediv_nonneg hm (by omega)
      · rw [Int.fmod_eq_emod_of_nonneg _ (by omega)]
        exact Int.emod_nonneg _ (by omega)
      · rw [Int.fmod_eq_emod_of_nonneg _ (by omega)]
        exact Int.emod_lt_of_pos _ (by omega)
    · have a1 : atI [V.int m, V.int z] 1 = some (.int z) := atI_nat (j := 1) rfl
      refine ⟨.ref p, rfl, p, _, 1, _, rfl, rfl, .of e, a1, z, 48271, rfl, rfl, .inl ⟨by omega, by omega⟩, _, 11, rfl, rfl, _, 2147483647, rfl, rfl, (by show (0 : Int) < 2147483647; decide), .ref p, rfl, p, _, 1, 1, rfl, rfl, e, rfl, ?_⟩
      have q0 : 0 ≤ (z * 48271 + 11) % 2147483647 := Int.emod_nonneg _ (by omega)
      have q1 : (z * 48271 + 11) % 2147483647 < 2147483647 := Int.emod_lt_of_pos _ (by omega)
      have e' : (upd H p (.lst ([V.int m, V.int z].set 1 (.int ((z * 48271 + 11) % 2147483647))))) p = some (.lst [V.int m, .int ((z * 48271 + 11) % 2147483647)]) := upd_same
      have a1' : atI [V.int m, V.int ((z * 48271 + 11) % 2147483647)] 1 = some (.int ((z * 48271 + 11) % 2147483647)) := atI_nat (j := 1) rfl
      refine ⟨.ref p, rfl, p, _, 1, _, rfl, rfl, .of e', a1', .ref p, rfl, p, _, 1, _, rfl, rfl, .of e', a1', ((z * 48271 + 11) % 2147483647), ((z * 48271 + 11) % 2147483647), rfl, rfl, .inl ⟨by omega, by omega⟩, _, 2147483629, rfl, rfl, (by show (0 : Int) < 2147483629; decide), _, 64, rfl, rfl, ⟨by decide, by decide⟩, .int n, rfl, _, n, rfl, rfl, (by omega), ?_⟩
      refine k _ _ .at ⟨m, ((z * 48271 + 11) % 2147483647), upd_same, hm, q0, q1⟩ ?_ ?_
      · rw [Int.fmod_eq_emod_of_nonneg _ (by omega)]
        exact Int.emod_nonneg _ (by omega)
      · rw [Int.fmod_eq_emod_of_nonneg _ (by omega)]
        exact Int.emod_lt_of_pos _ (by omega)
/-! ### _law_pool -/
def spPool (K : PySem.W.Frag) : Sp := fun xs H Q _ => ∃ (a : Addr) (ns : List Int) (i : Int), xs = [.ref a, .int i] ∧ SqL K H a (ns.map V.int) ∧ 0 ≤ i ∧ i ≤ 63 ∧
  ∀ (p : Addr) (H' : Hp), Same H H' → H p = none → Pool H' p → Q (.ref p) H'
theorem scPool : FnScope ["_law_script", "_law_k", "_law_cell", "_law_size", "_law_seed"] ["_law_script", "_law_k"] (defScope sPool) := ⟨rfl, rfl, rfl, by decide +kernel, rfl, by decide +kernel, by decide +kernel⟩
theorem has_pool (D : Def K mg "_law_pool" sPool) (ml : mg "len" = none) (ma : mg "abs" = none) (mi : mg "int" = none) : Has P w K mg base "_law_pool" 1 ["_law_script", "_law_k"] [] (spPool K) := by
  refine has_of D scPool (fun _ _ _ _ _ _ us hl => match us, hl with | [_, _], _ => rfl) (fun xs H Q E h => ?_) (fun f cv A out s H xs Q E hr h => ?_)
  · obtain ⟨a, ns, i, rfl, _⟩ := h
    rfl
  · obtain ⟨a, ns, i, rfl, hS, h0, h1, k⟩ := h
    refine ⟨_, pss_cons (ps_set (i := 2) scPool.nd rfl (.inl rfl) pe_int)
      (Evl.pss_cut (ps_if (pt_cmpR op_lt (pv 1) (pe_callB call_len_seq (by rfl) ml PySem.boot_len (pa_cons (pv 0) pa_nil)) (nomark _))
        (pss_one (ps_set (i := 2) scPool.nd rfl (.inl rfl) (pe_ix ix_list (pv 0) (pv 1) (fun _ _ => rfl)))) pss_nil)
      (pss_cons (ps_set (i := 3) scPool.nd rfl (.inl rfl) (pe_callB call_abs (by rfl) ma (by decide +kernel) (pa_cons (pv 2) pa_nil)))
      (pss_cons (ps_set (i := 4) scPool.nd rfl (.inl rfl) (pe_op op_mod (pe_op op_pow (pe_op op_add (pe_op op_add (pe_op op_add (pe_op op_mod (pv 2) pe_int) (pe_op op_mul (pe_op op_mul pe_int (pv 1)) (pv 1))) (pe_op op_mul pe_int (pv 1))) pe_int) pe_int) pe_int))
      (pss_one (ps_ret (pe_lst (pa_cons (pe_op op_mul (pv 3) (pe_callTy call_int1 (by rfl) mi (by decide +kernel) (pa_cons (pe_cmpR op_ge (pv 3) (pe_op op_pow pe_int pe_int) (nomark _)) pa_nil))) (pa_cons (pv 4) pa_nil)))))))), ?_⟩
    refine ⟨fun σ H2 => H2 = H ∧ ∃ c : Int, σ = [some (.ref a), some (.int i), some (.int c), none, none], ?_, ?_⟩
    · refine ⟨_, rfl, .ref a, rfl, a, _, rfl, .inl hS, i, _, rfl, rfl, _, rfl, ite2 (fun c => ?_) (fun c => ?_)⟩
      · have hi : i < ((ns.map V.int).length : Int) := of_decide_eq_true c
        rw [List.length_map] at hi
        have hj : i.toNat < ns.length := by omega
        refine ⟨.ref a, rfl, .int i, rfl, a, _, i, .int ns[i.toNat], rfl, rfl, hS, at_of (j := i.toNat) (by omega) ?_, rfl, ns[i.toNat], rfl⟩
        rw [List.getElem?_map, List.getElem?_eq_getElem hj]
        rfl
      · exact ⟨rfl, 0, rfl⟩
    · rintro σ H2 ⟨rfl, c, rfl⟩
      refine ⟨_, rfl, c, rfl, ?_⟩
      refine ⟨_, rfl, c, 2147483629, rfl, rfl, (by show (0 : Int) < 2147483629; decide), _, rfl, 104729, i, rfl, rfl, .inl ⟨by decide, by decide⟩, _, rfl, _, i, rfl, rfl, .inr ⟨by omega, by omega⟩, _, _, rfl, rfl, _, rfl, 7919, i, rfl, rfl, .inl ⟨by decide, by decide⟩, _, _, rfl, rfl, _, 11, rfl, rfl, _, 3, rfl, rfl, ⟨by decide, by decide, ?_⟩, _, 2147483647, rfl, rfl, (by show (0 : Int) < 2147483647; decide), ?_⟩
      · have b0 : 0 ≤ c % 2147483629 := Int.emod_nonneg _ (by omega)
        have b1 : c % 2147483629 < 2147483629 := Int.emod_lt_of_pos _ (by omega)
        have b2 : 0 ≤ 104729 * i * i := Int.mul_nonneg (by omega) h0
        have b3 : 104729 * i * i ≤ 104729 * 63 * 63 := Int.mul_le_mul (by omega) h1 h0 (by omega)
        omega
      · have t0 : ∀ y : Int, 0 ≤ y ^ 3 % 2147483647 ∧ y ^ 3 % 2147483647 < 2147483647 := fun y => ⟨Int.emod_nonneg _ (by omega), Int.emod_lt_of_pos _ (by omega)⟩
        have u0 : 0 ≤ (if c < 0 then -c else c) := by
          split <;> omega
        refine ⟨_, rfl, _, rfl, 10, 18, rfl, rfl, ⟨by decide, by decide, by decide⟩, _, _, rfl, rfl, .inr ⟨_, rfl, ?_⟩⟩
        have b01 : ∀ b : Bool, (0 : Int) ≤ (if b = true then 1 else 0) ∧ (if b = true then (1 : Int) else 0) ≤ 1 := fun b => by cases b <;> decide
        have g := b01 (decide (10 ^ Int.toNat 18 ≤ if c < 0 then -c else c))
        refine ⟨_, _, rfl, rfl, .inr ⟨by omega, by omega⟩, _, rfl, (by show 2 ≤ sizeLine; decide), fun p hp => k p _ (Same.new hp) hp ⟨_, _, upd_same, Int.mul_nonneg u0 g.1, (t0 _).1, (t0 _).2⟩⟩
end
end SE
namespace SE
open PySem PySem.Spec PyProof.Rows L2
theorem len_add (x y : Str) : (x ++ y).length = x.length + y.length := by
  show (x.cps ++ y.cps).size = _
  rw [Array.size_append]
  rfl
theorem cps_add (x y : Str) : (x ++ y).cps.toList = x.cps.toList ++ y.cps.toList := by
  show (x.cps ++ y.cps).toList = _
  exact Array.toList_append
abbrev abc : Str := Str.ofString "abcdefghijklmnopqrstuvwxyz"
theorem abc_len : abc.length = 26 := by decide +kernel
theorem abc_at (i : Nat) (h : i < 26) : ∃ c, abc.cps[i]? = some c ∧ 97 ≤ c ∧ c ≤ 122 := by
  have q : ∀ j : Fin 26, (abc.cps[j.1]?).any (fun c => decide (97 ≤ c) && decide (c ≤ 122)) = true := by decide +kernel
  have z := q ⟨i, h⟩
  simp only [Option.any_eq_true, Bool.and_eq_true, decide_eq_true_eq] at z
  obtain ⟨c, h1, h2, h3⟩ := z
  exact ⟨c, h1, h2, h3⟩
end SE
namespace SE
open PySem PySem.Spec PyProof.Rows L2
theorem nodup_le {α : Type} [DecidableEq α] : ∀ {ys zs : List α}, ys.Nodup → (∀ y ∈ ys, y ∈ zs) → ys.length ≤ zs.length
  | [], _, _, _ => Nat.zero_le _
  | y :: ys, zs, nd, h => by
    obtain ⟨n1, n2⟩ := List.nodup_cons.mp nd
    have hy : y ∈ zs := h y List.mem_cons_self
    have ih := nodup_le (zs := zs.erase y) n2 fun x hx => (List.mem_erase_of_ne (fun e => n1 (by rw [← e]; exact hx))).mpr (h x (List.mem_cons_of_mem _ hx))
    rw [List.length_erase_of_mem hy] at ih
    have : 0 < zs.length := List.length_pos_of_mem hy
    rw [List.length_cons]
    omega
theorem yes_in {σ : L2.St} {H : Hp} {F G : Hp → Prop} (h : F H) : tYes σ H (fun b H3 => if b = true then F H3 else G H3) := by
  show if true = true then F H else G H
  exact iteT h
theorem eqV_str (a b : Str) : eqV (.str a) (.str b) = (a == b) := by
  unfold eqV
  rfl
theorem inV_str (z : Str) : ∀ zs : List Str, inV (.str z) (zs.map V.str) = decide (z ∈ zs)
  | [] => by simp [inV]
  | y :: zs => by
    have ih := inV_str z zs
    unfold inV at ih ⊢
    rw [List.map_cons, List.any_cons, ih, eqV_str]
    by_cases e : y = z
    · subst e
      simp
    · have e2 : ¬ z = y := fun q => e q.symm
      simp [e, e2]
theorem flat_strs : ∀ zs : List Str, (zs.map V.str).all flatV = true
  | [] => rfl
  | y :: zs => by
    rw [List.map_cons, List.all_cons, flat_strs zs]
    rfl
/-- the names that are taken where one is drawn twice -/
def spare : List Str := abc.cps.toList.map fun c => (⟨#[c]⟩ : Str) ++ "zz"
theorem spare_len : spare.length = 26 := by decide +kernel
theorem spare_nd : spare.Nodup := by decide +kernel
theorem spare_item {z : Str} (h : z ∈ spare) : Item z := by
  have q : ∀ y ∈ spare, (decide (1 ≤ y.length) && decide (y.length ≤ 8) && y.cps.toList.all fun c => decide (97 ≤ c) && decide (c ≤ 122)) = true := by decide +kernel
  have e := q z h
  simp only [Bool.and_eq_true, decide_eq_true_eq, List.all_eq_true] at e
  exact ⟨e.1.1, e.1.2, e.2⟩
theorem spare_at {i c : Nat} (h : abc.cps[i]? = some c) : spare[i]? = some ((⟨#[c]⟩ : Str) ++ "zz") := by
  unfold spare
  rw [List.getElem?_map, Array.getElem?_toList, h]
  rfl
theorem abc_size : abc.cps.size = 26 := by decide +kernel
end SE
namespace SE
open PySem PySem.Spec PyProof.Rows L2
/-- a test whose ways meet -/
def tCutT (t : TT) : TT := fun σ H Q => ∃ M : Bool → Hp → Prop, t σ H M ∧ ∀ b H2, M b H2 → Q b H2
theorem pt_cut {X : Cx} {e : Expr} {t : TT} (h : PT X e t) : PT X e (tCutT t) := ⟨fun pins s σ H Q I hw => by
  obtain ⟨M, h1, h2⟩ := hw
  refine thn (h.run pins s σ H M I h1) fun b s2 z => ?_
  obtain ⟨H2, I2, q⟩ := z
  exact ⟨H2, I2, h2 b H2 q⟩⟩
theorem cut_map {α : Type} (f : α → V) (hs : List α) (lo hi : Option Int) : cutV (hs.map f) lo hi = ((hs.drop (HT.sIx hs.length 0 lo)).take (HT.sIx hs.length hs.length hi - HT.sIx hs.length 0 lo)).map f := by
  unfold cutV
  rw [List.length_map, List.map_take, List.map_drop]
theorem cut_mem {α : Type} {x : α} {hs : List α} {a b : Nat} (h : x ∈ (hs.drop a).take b) : x ∈ hs := List.mem_of_mem_drop (List.mem_of_mem_take h)
/-- steps whose tuples stand in the heap -/
abbrev StepsH (H : Hp) : List V → List Stp → Prop := Paired fun v s => ∃ t, v = .ref t ∧ H t = some (.tup [.str (act s.1), .str s.2])
theorem StepsH.v {K : PySem.W.Frag} {H : Hp} {xs : List V} {ss : List Stp} (h : StepsH H xs ss) : StepsV K H xs ss := Paired.mapP h fun _ _ q => by
  obtain ⟨t, e, z⟩ := q
  exact ⟨t, e, .of z⟩
theorem StepsH.but {H H' : Hp} {p : Addr} {xs : List V} {ss : List Stp} (h : StepsH H xs ss) (hp : Pool H p) (b : But p H H') : StepsH H' xs ss := Paired.mapP h fun _ _ q => by
  obtain ⟨t, e, z⟩ := q
  exact ⟨t, e, b t _ (hp.ne z) z⟩
theorem StepsH.upd {H : Hp} {q : Addr} {o : HO} {xs : List V} {ss : List Stp} (h : StepsH H xs ss) (hq : ∀ ys, H q ≠ some (.tup ys)) : StepsH (upd H q o) xs ss := Paired.mapP h fun _ _ r => by
  obtain ⟨t, e, z⟩ := r
  refine ⟨t, e, ?_⟩
  rw [upd_ne (fun w => hq _ (by rw [← w]; exact z))]
  exact z
structure SI (p l f h : Addr) (zs : List Str) (H H3 : Hp) (xs : List V) (ss : List Stp) (hs : List Str) : Prop where
  b : But p H H3
  pl : Pool H3 p
  it : H3 l = some (.lst (zs.map V.str))
  fl : H3 f = some (.lst xs)
  st : StepsH H3 xs ss
  sz : ∀ s ∈ ss, s.2 ∈ zs
  hl : H3 h = some (.lst (hs.map V.str))
  hz : ∀ z ∈ hs, z ∈ zs
  lp : l ≠ p
  fp : f ≠ p
  fn : H f = none
  hp : h ≠ p
  hn : H h = none
  hf : h ≠ f
  hnl : h ≠ l
  lf : l ≠ f
section
variable {p l f h : Addr} {zs : List Str} {H H3 : Hp} {xs : List V} {ss : List Stp} {hs : List Str}
theorem SI.new (a : SI p l f h zs H H3 xs ss hs) {q : Addr} {o : HO} (hq : H3 q = none) : SI p l f h zs H (upd H3 q o) xs ss hs := by
  have qp : q ≠ p := a.pl.free hq
  exact ⟨a.b.free (a.b.none qp hq), a.pl.upd qp, by rw [upd_ne (ne_of_none a.it hq)]; exact a.it, by rw [upd_ne (ne_of_none a.fl hq)]; exact a.fl, a.st.upd (fun ys z => by rw [hq] at z; cases z), a.sz,
    by rw [upd_ne (ne_of_none a.hl hq)]; exact a.hl, a.hz, a.lp, a.fp, a.fn, a.hp, a.hn, a.hf, a.hnl, a.lf⟩
theorem SI.draw (a : SI p l f h zs H H3 xs ss hs) {H4 : Hp} (b : But p H3 H4) (q : Pool H4 p) : SI p l f h zs H H4 xs ss hs :=
  ⟨a.b.trans b, q, b _ _ a.lp a.it, b _ _ a.fp a.fl, a.st.but a.pl b, a.sz, b _ _ a.hp a.hl, a.hz, a.lp, a.fp, a.fn, a.hp, a.hn, a.hf, a.hnl, a.lf⟩
theorem SI.app (a : SI p l f h zs H H3 xs ss hs) {t : Addr} {c : Bool} {z : Str} (ht : H3 t = some (.tup [.str (act c), .str z])) (hz : z ∈ zs) : SI p l f h zs H (upd H3 f (.lst (xs ++ [.ref t]))) (xs ++ [.ref t]) (ss ++ [(c, z)]) hs := by
  have tf : t ≠ f := ne_of ht a.fl (by intro w; cases w)
  refine ⟨a.b.free a.fn, a.pl.upd a.fp, by rw [upd_ne a.lf]; exact a.it, upd_same, (a.st.upd (fun ys w => by rw [a.fl] at w; cases w)).snoc ⟨t, rfl, by rw [upd_ne tf]; exact ht⟩, fun s hs' => ?_, by rw [upd_ne a.hf]; exact a.hl, a.hz, a.lp, a.fp, a.fn, a.hp, a.hn, a.hf, a.hnl, a.lf⟩
  rcases List.mem_append.mp hs' with q | q
  · exact a.sz s q
  · rw [List.mem_singleton.mp q]
    exact hz
theorem SI.hset (a : SI p l f h zs H H3 xs ss hs) {ys : List Str} (hy : ∀ z ∈ ys, z ∈ zs) : SI p l f h zs H (upd H3 h (.lst (ys.map V.str))) xs ss ys :=
  ⟨a.b.free a.hn, a.pl.upd a.hp, by rw [upd_ne (Ne.symm a.hnl)]; exact a.it, by rw [upd_ne (Ne.symm a.hf)]; exact a.fl, a.st.upd (fun us w => by rw [a.hl] at w; cases w), a.sz, upd_same, hy, a.lp, a.fp, a.fn, a.hp, a.hn, a.hf, a.hnl, a.lf⟩
theorem SI.hnew (a : SI p l f h zs H H3 xs ss hs) {q : Addr} {ys : List Str} (hq : H3 q = none) (hy : ∀ z ∈ ys, z ∈ zs) : SI p l f q zs H (upd H3 q (.lst (ys.map V.str))) xs ss ys := by
  have b := a.new (o := .lst (ys.map V.str)) hq
  have qp : q ≠ p := a.pl.free hq
  exact ⟨b.b, b.pl, b.it, b.fl, b.st, b.sz, upd_same, hy, a.lp, a.fp, a.fn, qp, a.b.none qp hq, Ne.symm (ne_of_none a.fl hq), Ne.symm (ne_of_none a.it hq), a.lf⟩
end
section
variable {P : Program} {w : World} {K : PySem.W.Frag} {mg : Str → Option Value} {base : Heap}
end
end SE
namespace SE
open PySem PySem.Spec PyProof.Rows L2
/-! ### what is never reached; types -/
theorem pe_never {X : Cx} {e : Expr} : PE X e (fun _ _ _ => False) := ⟨fun _ _ _ _ _ _ h => h.elim⟩
theorem ty_tup {K : PySem.W.Frag} {H : Hp} {a : Addr} {xs : List V} (h : SqT K H a xs) : TyX K H (.ref a) (.type "tuple") := by
  rcases h with (h | ⟨o, h⟩) | ⟨o, its, n, h1, h2, _⟩
  · exact .base (.tup h)
  · exact .fTuple h
  · exact .kTuple h1 h2
theorem ty_lst {K : PySem.W.Frag} {H : Hp} {a : Addr} {xs : List V} (h : SqL K H a xs) : TyX K H (.ref a) (.type "list") := by
  rcases h with (h | ⟨o, h⟩) | ⟨o, its, n, h1, h2, _⟩
  · exact .base (.lst h)
  · exact .base (.frz h)
  · exact .kList h1 h2
theorem bl_snoc (n : Nat) : (List.replicate n true).map V.bl ++ [V.bl true] = (List.replicate (n + 1) true).map V.bl := by
  rw [List.replicate_succ', List.map_append]
  rfl
theorem all_true (n : Nat) : (List.replicate n true).all id = true := by
  rw [List.all_eq_true]
  intro b hb
  rw [(List.mem_replicate.mp hb).2]
  rfl
theorem abc_has {c : Nat} (h : 97 ≤ c ∧ c ≤ 122) : c ∈ abc.cps.toList := by
  have q : ∀ j : Fin 26, (97 + j.1) ∈ abc.cps.toList := by decide +kernel
  have z := q ⟨c - 97, by omega⟩
  have e : 97 + (c - 97) = c := by omega
  rw [← e]
  exact z
/-- the module's constants -/
structure Cons (K : PySem.W.Frag) (w : World) (mg : Str → Option Value) : Prop where
  let_ : ∃ t, mg "LETTERS" = some (.str abc t)
  ml : ∃ t, mg "MOST_LETTERS" = some (.int 8 t)
  ms : ∃ t, mg "MOST_STEPS" = some (.int 1000 t)
  opp : ∃ (d : Addr) (es : Array DictEntry) (n : Nat) (u v : Value), mg "OPPOSITES" = some (.ref d) ∧ KDict K w d es n ∧ PySem.W.nsIn K d "push" = some (some u) ∧ RelV (.str "pop") u ∧ PySem.W.nsIn K d "pop" = some (some v) ∧ RelV (.str "push") v
/-- built-in names that the module leaves as they are -/
structure Blt (mg : Str → Option Value) : Prop where
  isi : mg "isinstance" = none
  str : mg "str" = none
  len : mg "len" = none
  all : mg "all" = none
  tup : mg "tuple" = none
  lst : mg "list" = none
  enu : mg "enumerate" = none
section
variable {P : Program} {w : World} {K : PySem.W.Frag} {mg : Str → Option Value} {base : Heap}
/-! ### is_item -/
def spIsItem : Sp := fun xs H Q _ => ∃ (z : Str), xs = [.str z] ∧ Item z ∧ ∀ H', Same H H' → Q (.bl true) H'
theorem scIsItem : FnScope ["value", "letter"] ["value"] (defScope sIsItem) := ⟨rfl, rfl, rfl, by decide +kernel, rfl, by decide +kernel, by decide +kernel⟩
theorem has_isItem (D : Def K mg "is_item" sIsItem) (B : Blt mg) (C : Cons K w mg) : Has P w K mg base "is_item" 1 ["value"] [] spIsItem := by
  obtain ⟨tl, hL⟩ := C.let_
  obtain ⟨tm, hM⟩ := C.ml
  refine has_of D scIsItem (fun _ _ _ _ _ _ us hl => match us, hl with | [_], _ => rfl) (fun xs H Q E h => ?_) (fun f cv A out s H xs Q E hr h => ?_)
  · obtain ⟨z, rfl, _⟩ := h
    rfl
  · obtain ⟨z, rfl, iz, k⟩ := h
    refine ⟨_, pss_cons (ps_if (PW.pt (pw_or (pt_not (pt_val (pe_callB call_isi (by rfl) B.isi (by decide +kernel) (pa_cons (pv 0) (pa_cons (pe_bltn (v := .ty "str") (by rfl) B.str (by decide +kernel) rfl) pa_nil)))))
        (pw_or1 (pt_not (pt_chain op_le op_le pe_int (pe_callB call_len_str (by rfl) B.len PySem.boot_len (pa_cons (pv 0) pa_nil)) (pe_glob (v := .int 8) rfl hM ⟨_, rfl⟩)))))) (pss_one (ps_ret pe_bl)) pss_nil)
      (pss_one (ps_ret (pe_callB (cr_all rfl) (by rfl) B.all (by decide +kernel) (pa_cons
        (pe_lc (own := [("letter", 1)]) (g := gName 1) (tt := tYes) rfl scIsItem.nd (pi_str (pv 0)) (blkOk_by (own := [("letter", 1)]) (N := ["value", "letter"]) (sc := defScope sIsItem) (by decide +kernel))
          (fun _ _ _ _ _ => pg_name (i := 1) scIsItem.nd rfl (.inl rfl)) (fun _ _ _ _ _ => pts_nil) (fun _ _ _ _ _ => pe_cmpR op_in_sign (pv 1) (pe_glob (v := .str abc) rfl hL ⟨_, rfl⟩) (by rfl))) pa_nil)))), ?_⟩
    refine ⟨_, rfl, _, .ty "str", .type "str", .type "str", true, rfl, .ty _, .base (.str z), kit_ty (by decide +kernel), true, rfl, iteF ?_⟩
    have p1 : (1 : Int) ≤ (z.length : Int) := by have := iz.pos; omega
    have p2 : (z.length : Int) ≤ 8 := by have := iz.most; omega
    refine ⟨_, rfl, z, rfl, Nat.le_of_lt (small1000 (by have := iz.most; omega)), 1, _, rfl, rfl, true, congrArg V.bl (decide_eq_true p1), iteT ⟨_, 8, rfl, rfl, true, congrArg V.bl (decide_eq_true p2), iteF ?_⟩⟩
    refine ⟨_, rfl, z, rfl, fun D hD => lc_it walk_str (fun j H2 => H2 D = some (.lst ((List.replicate j true).map V.bl)) ∧ Same H H2) ⟨upd_same, Same.new hD⟩ (fun _ _ _ _ => trivial) ?_ ?_⟩
    · rintro j x H2 H3 hj ⟨h2, s2⟩ ⟨rfl, c, hc, rfl⟩
      refine ⟨rfl, yes_in ⟨_, rfl, c, abc, rfl, rfl, _, h2, ?_, ?_, ?_⟩⟩
      · rw [List.length_map, List.length_replicate]
        have : j < z.length := hj
        have := iz.most
        exact small1000 (by omega)
      · have cm : c ∈ z.cps.toList := by
          have q : z.cps.toList[j]? = some c := by rw [Array.getElem?_toList]; exact hc
          exact List.mem_of_getElem? q
        rw [upd_same, decide_eq_true (abc_has (iz.low c cm)), bl_snoc]
      · exact Same.free2 s2 hD
    · rintro H2 ⟨h2, s2⟩
      refine ⟨D, _, rfl, .of h2, ?_⟩
      rw [all_true]
      exact k H2 s2
/-! ### is_word -/
def spIsWord (K : PySem.W.Frag) : Sp := fun xs H Q _ => ∃ (a : Addr) (zs : List Str), xs = [.ref a] ∧ SqT K H a (zs.map V.str) ∧ zs.length ≤ 5000 ∧ (∀ z ∈ zs, Item z) ∧ ∀ H', Same H H' → Q (.bl true) H'
theorem scIsWord : FnScope ["value", "item"] ["value"] (defScope sIsWord) := ⟨rfl, rfl, rfl, by decide +kernel, rfl, by decide +kernel, by decide +kernel⟩
theorem has_isWord (D : Def K mg "is_word" sIsWord) (G : Has P w K mg base "is_item" 1 ["value"] [] spIsItem) (B : Blt mg) : Has P w K mg base "is_word" 2 ["value"] [] (spIsWord K) := by
  refine has_of D scIsWord (fun _ _ _ _ _ _ us hl => match us, hl with | [_], _ => rfl) (fun xs H Q E h => ?_) (fun f cv A out s H xs Q E hr h => ?_)
  · obtain ⟨a, zs, rfl, _⟩ := h
    rfl
  · obtain ⟨a, zs, rfl, hT, hz, hI, k⟩ := h
    refine ⟨_, pss_one (ps_ret (pe_and (pe_callB call_isi (by rfl) B.isi (by decide +kernel) (pa_cons (pv 0) (pa_cons (pe_bltn (v := .ty "tuple") (by rfl) B.tup (by decide +kernel) rfl) pa_nil)))
      (pe_one (pe_callB (cr_all rfl) (by rfl) B.all (by decide +kernel) (pa_cons
        (pe_lc (own := [("item", 1)]) (g := gName 1) (tt := tYes) (te := tCall spIsItem [] E0 (tCons (tVar 1) tNil)) rfl scIsWord.nd (pi_tup (pv 0)) (blkOk_by (own := [("item", 1)]) (N := ["value", "item"]) (sc := defScope sIsWord) (by decide +kernel))
          (fun _ _ _ _ _ => pg_name (i := 1) scIsWord.nd rfl (.inl rfl)) (fun _ _ _ _ _ => pts_nil) (fun _ _ _ _ _ => pe_has G hr (pa_cons (pv 1) pa_nil))) pa_nil))))), ?_⟩
    refine ⟨_, rfl, _, .ty "tuple", .type "tuple", .type "tuple", true, rfl, .ty _, ty_tup hT, kit_ty (by decide +kernel), true, rfl, iteT ?_⟩
    refine ⟨_, rfl, a, rfl, ⟨_, hT⟩, fun D hD => lc_tup (K := K) (a := a) (xs := zs.map V.str) (fun j H2 => H2 D = some (.lst ((List.replicate j true).map V.bl)) ∧ Same H H2) ⟨upd_same, Same.new hD⟩ (fun _ _ _ q => Same.tup q.2 hT) ?_ ?_⟩
    · rintro j x H2 hj ⟨h2, s2⟩
      have jl : j < zs.length := by
        have := (List.getElem?_eq_some_iff.mp hj).1
        rwa [List.length_map] at this
      rw [List.getElem?_map, List.getElem?_eq_getElem jl] at hj
      have e := Option.some.inj hj
      subst e
      refine ⟨rfl, yes_in ⟨_, rfl, zs[j], rfl, hI _ (List.getElem_mem jl), fun H3 s3 => ⟨_, s3 _ _ h2, ?_, ?_, ?_⟩⟩⟩
      · rw [List.length_map, List.length_replicate]
        exact Nat.lt_of_lt_of_le jl (Nat.le_trans hz (by decide))
      · rw [upd_same, bl_snoc]
      · exact Same.free2 (s2.trans s3) hD
    · rintro H2 ⟨h2, s2⟩
      refine ⟨D, _, rfl, .of h2, ?_⟩
      rw [all_true]
      exact k H2 s2
/-! ### is_step -/
def spIsStep (K : PySem.W.Frag) : Sp := fun xs H Q _ => ∃ (v : V) (s : Stp), xs = [v] ∧ StepV K H v s ∧ Item s.2 ∧ ∀ H', Same H H' → Q (.bl true) H'
theorem scIsStep : FnScope ["value", "action", "item"] ["value"] (defScope sIsStep) := ⟨rfl, rfl, rfl, by decide +kernel, rfl, by decide +kernel, by decide +kernel⟩
theorem has_isStep (D : Def K mg "is_step" sIsStep) (G : Has P w K mg base "is_item" 1 ["value"] [] spIsItem) (B : Blt mg) (C : Cons K w mg) : Has P w K mg base "is_step" 2 ["value"] [] (spIsStep K) := by
  obtain ⟨d, es, n, u1, u2, hO, KD, n1, r1, n2, r2⟩ := C.opp
  refine has_of D scIsStep (fun _ _ _ _ _ _ us hl => match us, hl with | [_], _ => rfl) (fun xs H Q E h => ?_) (fun f cv A out s H xs Q E hr h => ?_)
  · obtain ⟨v, st, rfl, _⟩ := h
    rfl
  · obtain ⟨v, st, rfl, ⟨t, rfl, hT⟩, iz, k⟩ := h
    refine ⟨_, pss_cons (ps_if (PW.pt (pw_or (pt_not (pt_val (pe_callB call_isi (by rfl) B.isi (by decide +kernel) (pa_cons (pv 0) (pa_cons (pe_bltn (v := .ty "tuple") (by rfl) B.tup (by decide +kernel) rfl) pa_nil)))))
        (pw_or1 (pt_cmpR op_ne (pe_callB call_len_seq (by rfl) B.len PySem.boot_len (pa_cons (pv 0) pa_nil)) pe_int (nomark _))))) (pss_one (ps_ret pe_bl)) pss_nil)
      (pss_cons (ps_asg (pv 0) (pg_tup (by rfl) (pgs_cons (pg_name (i := 1) scIsStep.nd rfl (.inl rfl)) (pgs_cons (pg_name (i := 2) scIsStep.nd rfl (.inl rfl)) pgs_nil))))
      (pss_one (ps_ret (pe_and (pe_callB call_isi (by rfl) B.isi (by decide +kernel) (pa_cons (pv 1) (pa_cons (pe_bltn (v := .ty "str") (by rfl) B.str (by decide +kernel) rfl) pa_nil)))
        (pe_and (pe_cmpR (op_in_kd KD) (pv 1) (pe_glob (v := .ref d) rfl hO rfl) (by rfl)) (pe_one (pe_has G hr (pa_cons (pv 2) pa_nil)))))))), ?_⟩
    refine ⟨_, rfl, _, .ty "tuple", .type "tuple", .type "tuple", true, rfl, .ty _, ty_tup hT, kit_ty (by decide +kernel), true, rfl, iteF ?_⟩
    refine ⟨_, rfl, t, _, rfl, .inr hT, rfl, _, rfl, iteF ?_⟩
    refine ⟨_, rfl, t, _, rfl, hT, rfl, _, _, rfl, _, _, rfl, rfl, ?_⟩
    refine ⟨_, rfl, _, .ty "str", .type "str", .type "str", true, rfl, .ty _, .base (.str _), kit_ty (by decide +kernel), true, rfl, iteT ?_⟩
    have inO : ∃ r, PySem.W.nsIn K d (act st.1) = some r ∧ r.isSome = true := by
      cases e : st.1 with
      | true => exact ⟨some u1, n1, rfl⟩
      | false => exact ⟨some u2, n2, rfl⟩
    obtain ⟨r, hr1, hr2⟩ := inO
    refine ⟨_, rfl, act st.1, r, rfl, rfl, hr1, r.isSome, rfl, ?_⟩
    rw [hr2]
    exact iteT ⟨_, rfl, st.2, rfl, iz, k⟩
end
end SE
namespace SE
open PySem PySem.Spec PyProof.Rows L2
section
variable {P : Program} {w : World} {K : PySem.W.Frag} {mg : Str → Option Value} {base : Heap}
/-! ### may_hold_steps -/
def spMay (K : PySem.W.Frag) : Sp := fun xs H Q _ => ∃ (a : Addr) (ys : List V), xs = [.ref a] ∧ (SqL K H a ys ∨ SqT K H a ys) ∧ ys.length ≤ 1000 ∧ ∀ H', Same H H' → Q (.bl true) H'
theorem scMay : FnScope ["value"] ["value"] (defScope sMayHold) := ⟨rfl, rfl, rfl, by decide +kernel, rfl, by decide +kernel, by decide +kernel⟩
theorem has_may (D : Def K mg "may_hold_steps" sMayHold) (B : Blt mg) (C : Cons K w mg) : Has P w K mg base "may_hold_steps" 1 ["value"] [] (spMay K) := by
  obtain ⟨tm, hM⟩ := C.ms
  refine has_of D scMay (fun _ _ _ _ _ _ us hl => match us, hl with | [_], _ => rfl) (fun xs H Q E h => ?_) (fun f cv A out s H xs Q E hr h => ?_)
  · obtain ⟨a, ys, rfl, _⟩ := h
    rfl
  · obtain ⟨a, ys, rfl, hS, hl, k⟩ := h
    refine ⟨_, pss_one (ps_ret (pe_and (pe_callB call_isiT (by rfl) B.isi (by decide +kernel) (pa_cons (pv 0) (pa_cons (pe_tup (pa_cons (pe_bltn (v := .ty "list") (by rfl) B.lst (by decide +kernel) rfl) (pa_cons (pe_bltn (v := .ty "tuple") (by rfl) B.tup (by decide +kernel) rfl) pa_nil))) pa_nil)))
      (pe_one (pe_cmpR op_le (pe_callB call_len_seq (by rfl) B.len PySem.boot_len (pa_cons (pv 0) pa_nil)) (pe_glob (v := .int 1000) rfl hM ⟨_, rfl⟩) (nomark _))))), ?_⟩
    refine ⟨_, rfl, (by show 2 ≤ sizeLine; decide), fun t ht => ?_⟩
    have s1 : Same H (upd H t (.tup [.ty "list", .ty "tuple"])) := Same.new ht
    have p1 : (ys.length : Int) ≤ 1000 := by omega
    have ty : ∃ T, TyX K (upd H t (.tup [.ty "list", .ty "tuple"])) (.ref a) T ∧ PySem.W.kitAny K T [.type "list", .type "tuple"] = some true := by
      rcases hS with q | q
      · exact ⟨_, ty_lst (Same.seq s1 q), kitAny_cons (b := true) (kit_ty (by decide +kernel)) (fun z => (by cases z)) (fun _ => rfl)⟩
      · exact ⟨_, ty_tup (Same.tup s1 q), kitAny_cons (b := false) (kit_ty (by decide +kernel)) (fun _ => kitAny_cons (b := true) (kit_ty (by decide +kernel)) (fun z => (by cases z)) (fun _ => rfl)) (fun z => (by cases z))⟩
    obtain ⟨T, ty1, ty2⟩ := ty
    refine ⟨_, t, _, T, _, true, rfl, upd_same, .cons (.ty _) (.cons (.ty _) .nil), ty1, ty2, true, rfl, iteT ?_⟩
    refine ⟨_, rfl, a, ys, rfl, hS.imp (Same.seq s1) (Same.tup s1), _, 1000, rfl, rfl, ?_⟩
    show Q (V.bl (decide ((ys.length : Int) ≤ 1000))) _
    rw [decide_eq_true p1]
    exact k _ s1
/-! ### check_steps -/
def spChkSteps (K : PySem.W.Frag) : Sp := fun xs H Q _ => ∃ (a : Addr) (ys : List V) (ss : List Stp), xs = [.ref a] ∧ (SqL K H a ys ∨ SqT K H a ys) ∧ ys.length ≤ 1000 ∧ StepsV K H ys ss ∧ (∀ s ∈ ss, Item s.2) ∧ ∀ H', Same H H' → Q .non H'
theorem scChk : FnScope ["steps", "index", "step"] ["steps"] (defScope sChkSteps) := ⟨rfl, rfl, rfl, by decide +kernel, rfl, by decide +kernel, by decide +kernel⟩
theorem walk_enumT {K : PySem.W.Frag} {a : Addr} {xs : List V} : Walk (ItE K a) xs.length (fun H => SqT K H a xs) (YPair (fun i => some (.int (i : Nat))) (fun i => xs[i]?)) := by
  refine ⟨fun i _ hi q => ⟨xs, xs[i], q, by simp [hi]⟩, fun _ q => ⟨xs, q, Nat.le_refl _⟩, fun i H v H2 _ q y => ?_⟩
  obtain ⟨T, x, h1, h2, h3, h4⟩ := y
  exact ⟨T, .int (i : Nat), x, h1, h2, h3, rfl, h4 xs q⟩
theorem has_chkSteps (D : Def K mg "check_steps" sChkSteps) (GM : Has P w K mg base "may_hold_steps" 1 ["value"] [] (spMay K)) (GS : Has P w K mg base "is_step" 2 ["value"] [] (spIsStep K)) (B : Blt mg) : Has P w K mg base "check_steps" 3 ["steps"] [] (spChkSteps K) := by
  refine has_of D scChk (fun _ _ _ _ _ _ us hl => match us, hl with | [_], _ => rfl) (fun xs H Q E h => ?_) (fun f cv A out s H xs Q E hr h => ?_)
  · obtain ⟨a, ys, ss, rfl, _⟩ := h
    rfl
  · obtain ⟨a, ys, ss, rfl, hS, hl, hV, hI, k⟩ := h
    have hr1 : Room 1 _ := hr.mono (by decide)
    have one : ∀ {i : Nat} {y : V} {H2 : Hp}, ys[i]? = some y → Same H H2 → ∃ s, StepV K H2 y s ∧ Item s.2 := by
      intro i y H2 hy s2
      obtain ⟨st, h1, h2⟩ := StepsV.at hV hy
      exact ⟨st, h2.same s2, hI st (List.mem_of_getElem? h1)⟩
    rcases hS with hS | hS
    · refine ⟨_, pss_cons (ps_if (pt_not (pt_val (pe_has GM hr1 (pa_cons (pv 0) pa_nil)))) pss_never pss_nil)
        (pss_one (ps_for PassesOwn.never rfl (pi_enum (by rfl) B.enu (pa_cons (pv 0) pa_nil)) (pg_tup (by rfl) (pgs_cons (pg_name (i := 1) scChk.nd rfl (.inl rfl)) (pgs_cons (pg_name (i := 2) scChk.nd rfl (.inl rfl)) pgs_nil)))
          (pss_one (ps_if (pt_not (pt_val (pe_has GS hr (pa_cons (pv 2) pa_nil)))) pss_never pss_nil)))), ?_⟩
      refine ⟨_, rfl, a, ys, rfl, .inl hS, hl, fun H1 s1 => ⟨true, rfl, iteF ?_⟩⟩
      refine ⟨_, rfl, a, ys, rfl, Same.seq s1 hS, for_it (walk_enum (K := K) (a := a) (xs := ys)) (fun i σ H2 => ∃ y1 y2, σ = [some (.ref a), y1, y2] ∧ Same H H2) ⟨none, none, rfl, s1⟩ (fun i σ H2 _ q => ?_) ?_ ?_⟩
      · obtain ⟨_, _, _, s2⟩ := q
        exact Same.seq s2 hS
      · rintro i x σ H2 H3 hi ⟨y1, y2, rfl, s2⟩ ⟨T, p, y, rfl, nT, rfl, hp, hy⟩
        refine ⟨T, _, rfl, .of upd_same, rfl, _, _, rfl, _, _, rfl, rfl, ?_⟩
        have s3 : Same H (upd H2 T (.tup [p, y])) := Same.free2 s2 (s2.free nT)
        obtain ⟨st, h1, h2⟩ := one hy s3
        exact ⟨_, rfl, y, st, rfl, h1, h2, fun H4 s4 => ⟨true, rfl, iteF ⟨_, _, rfl, s3.trans s4⟩⟩⟩
      · rintro σ H2 ⟨y1, y2, rfl, s2⟩
        exact k H2 s2
    · refine ⟨_, pss_cons (ps_if (pt_not (pt_val (pe_has GM hr1 (pa_cons (pv 0) pa_nil)))) pss_never pss_nil)
        (pss_one (ps_for PassesOwn.never rfl (pi_enumT (by rfl) B.enu (pa_cons (pv 0) pa_nil)) (pg_tup (by rfl) (pgs_cons (pg_name (i := 1) scChk.nd rfl (.inl rfl)) (pgs_cons (pg_name (i := 2) scChk.nd rfl (.inl rfl)) pgs_nil)))
          (pss_one (ps_if (pt_not (pt_val (pe_has GS hr (pa_cons (pv 2) pa_nil)))) pss_never pss_nil)))), ?_⟩
      refine ⟨_, rfl, a, ys, rfl, .inr hS, hl, fun H1 s1 => ⟨true, rfl, iteF ?_⟩⟩
      refine ⟨_, rfl, a, ys, rfl, Same.tup s1 hS, for_it (walk_enumT (K := K) (a := a) (xs := ys)) (fun i σ H2 => ∃ y1 y2, σ = [some (.ref a), y1, y2] ∧ Same H H2) ⟨none, none, rfl, s1⟩ (fun i σ H2 _ q => ?_) ?_ ?_⟩
      · obtain ⟨_, _, _, s2⟩ := q
        exact Same.tup s2 hS
      · rintro i x σ H2 H3 hi ⟨y1, y2, rfl, s2⟩ ⟨T, p, y, rfl, nT, rfl, hp, hy⟩
        refine ⟨T, _, rfl, .of upd_same, rfl, _, _, rfl, _, _, rfl, rfl, ?_⟩
        have s3 : Same H (upd H2 T (.tup [p, y])) := Same.free2 s2 (s2.free nT)
        obtain ⟨st, h1, h2⟩ := one hy s3
        exact ⟨_, rfl, y, st, rfl, h1, h2, fun H4 s4 => ⟨true, rfl, iteF ⟨_, _, rfl, s3.trans s4⟩⟩⟩
      · rintro σ H2 ⟨y1, y2, rfl, s2⟩
        exact k H2 s2
/-! ### check_word, is_limit, check_limit, check_run, is_too_high -/
def spChkWord (K : PySem.W.Frag) : Sp := fun xs H Q _ => ∃ (a : Addr) (zs : List Str), xs = [.ref a] ∧ SqT K H a (zs.map V.str) ∧ zs.length ≤ 5000 ∧ (∀ z ∈ zs, Item z) ∧ ∀ H', Same H H' → Q .non H'
theorem scCw : FnScope ["word"] ["word"] (defScope sChkWord) := ⟨rfl, rfl, rfl, by decide +kernel, rfl, by decide +kernel, by decide +kernel⟩
theorem has_chkWord (D : Def K mg "check_word" sChkWord) (G : Has P w K mg base "is_word" 2 ["value"] [] (spIsWord K)) : Has P w K mg base "check_word" 3 ["word"] [] (spChkWord K) := by
  refine has_of D scCw (fun _ _ _ _ _ _ us hl => match us, hl with | [_], _ => rfl) (fun xs H Q E h => ?_) (fun f cv A out s H xs Q E hr h => ?_)
  · obtain ⟨a, zs, rfl, _⟩ := h
    rfl
  · obtain ⟨a, zs, rfl, hT, hz, hI, k⟩ := h
    refine ⟨_, pss_one (ps_if (pt_not (pt_val (pe_has G hr (pa_cons (pv 0) pa_nil)))) pss_never pss_nil), ?_⟩
    exact ⟨_, rfl, a, zs, rfl, hT, hz, hI, fun H1 s1 => ⟨true, rfl, iteF (k H1 s1)⟩⟩
end
end SE
namespace SE
open PySem PySem.Spec PyProof.Rows L2
/-- a def with keyword-only defaults alone -/
def DefK (K : PySem.W.Frag) (mg : Str → Option Value) (x : Str) (st : Stmt) (kws : List (Str × V)) : Prop := ∃ f fd, Fun K x x st f fd ∧ FunD K x x (defArgs st) (defBody st) (defScope st) [] kws f fd ∧ mg x = some (.ref f)
end SE
namespace SE
open PySem PySem.Spec PyProof.Rows L2
section
variable {P : Program} {w : World} {K : PySem.W.Frag} {mg : Str → Option Value} {base : Heap}
/-! ### is_whole, is_between, check_between -/
def spWhole : Sp := fun xs H Q _ => ∃ n : Int, xs = [.int n] ∧ Q (.bl true) H
theorem scWh : FnScope ["value"] ["value"] (defScope sIsWhole) := ⟨rfl, rfl, rfl, by decide +kernel, rfl, by decide +kernel, by decide +kernel⟩
theorem has_whole (D : Def K mg "is_whole" sIsWhole) (B : Blt mg) (mi : mg "int" = none) (mb : mg "bool" = none) : Has P w K mg base "is_whole" 1 ["value"] [] spWhole := by
  refine has_of D scWh (fun _ _ _ _ _ _ us hl => match us, hl with | [_], _ => rfl) (fun xs H Q E h => ?_) (fun f cv A out s H xs Q E hr h => ?_)
  · obtain ⟨n, rfl, _⟩ := h
    rfl
  · obtain ⟨n, rfl, k⟩ := h
    refine ⟨_, pss_one (ps_ret (pe_and (pe_callB call_isi (by rfl) B.isi (by decide +kernel) (pa_cons (pv 0) (pa_cons (pe_bltn (v := .ty "int") (by rfl) mi (by decide +kernel) rfl) pa_nil)))
      (pe_one (pe_not (pe_callB call_isi (by rfl) B.isi (by decide +kernel) (pa_cons (pv 0) (pa_cons (pe_bltn (v := .ty "bool") (by rfl) mb (by decide +kernel) rfl) pa_nil))))))), ?_⟩
    refine ⟨_, rfl, _, .ty "int", .type "int", .type "int", true, rfl, .ty _, .base (.int n), kit_ty (by decide +kernel), true, rfl, iteT ?_⟩
    exact ⟨_, rfl, _, .ty "bool", .type "int", .type "bool", false, rfl, .ty _, .base (.int n), kit_ty (by decide +kernel), false, rfl, k⟩
end
end SE
/-! (x,) * n for n up to 5000. -/
namespace SE
open PySem PySem.Spec PyProof.Rows L2
def rRepB (K : PySem.W.Frag) : R2 := fun x y H Q => ∃ (l : Addr) (k : Int) (v : V), x = .ref l ∧ y = .int k ∧ SqT K H l [v] ∧ 2 ≤ k ∧ k ≤ 5000 ∧ ∀ p, H p = none → Q (.ref p) (upd H p (.tup (List.replicate k.toNat v)))
theorem op_repB {X : Cx} : OpR X (binaryOp .Mult) (rRepB X.K) := by
  intro pins s σ H x y a u Q I rx ry h
  obtain ⟨l, k, v, rfl, rfl, hT, h1, h2, q⟩ := h
  cases rx
  obtain ⟨t, rfl⟩ := ry
  obtain ⟨its, r, ⟨⟨cls, dd, data, sl⟩, ho, hc, n, hd⟩, hs⟩ := I.tuple hT
  simp only at hc hd
  subst hc hd
  obtain ⟨w, rfl⟩ : ∃ w, its = [w] := by
    cases r with
    | cons r1 r2 =>
      cases r2
      exact ⟨_, rfl⟩
  have sz : (([w] : List Value).toArray.size : Int) * k = k := by
    show ((1 : Nat) : Int) * k = k
    omega
  have rep : ∀ {α : Type} (z : α), (List.replicate k.toNat [z]).flatten = List.replicate k.toNat z := fun z => List.flatten_replicate_singleton
  have big : k.toNat ≤ sizeLine := by
    rw [sizeLine_eq]
    omega
  refine wpAny_binaryOp_repeat_ref (T := "tuple") (U := "int") (by decide) ⟨_, ho, rfl⟩ (fun s2 => typeIs_int s2 k t) noFill_tuple_mul F.fills_int_mul F.slot_int_rmul repeat_tuple F.slot_int_index.lookup ?_
  refine call_meets F.slot_int_rmul (typeIs_int s k t) F.entry_int_rmul (F.args_int_rmul_2 _ _) (int_rmul_tuple k t l _ n dd sl) ⟨ho, rfl, ⟨_, ho, rfl⟩, ?_⟩
  refine call_meets F.slot_tuple_mul ⟨_, ho, rfl⟩ F.entry_tuple_mul (F.args_tuple_mul_2 _ _) (tuple_mulW l _ n dd sl k t ?_ ?_ ?_ ?_ ?_ ?_) ⟨ho, ?_⟩
  · rw [decide_eq_false (by omega), decide_eq_false (by omega)]
    rfl
  · show (false || k == 1) = false
    rw [Bool.false_or]
    exact beq_eq_false_iff_ne.mpr (by omega)
  · show (decide (k ≤ 0) || false) = false
    rw [Bool.or_false]
    exact decide_eq_false (by omega)
  · rw [sz]
    omega
  · rw [sz]
    unfold Builtin.Tuple.tupleTooMany
    rw [sizeLine_eq]
    exact decide_eq_false (by omega)
  · rw [size_rep, List.size_toArray, rep, List.length_replicate]
    exact big
  · rw [size_rep, rep]
    refine ⟨.ref s.heap.objs.size, _, I.laid (t' := s.toks) (o := .tup (List.replicate k.toNat v)) (fun b ob e => Heap.get?_push_of_some _ e) (Nat.le_refl _) ?_, rfl, q _ (I.hok.fresh (Nat.le_refl _))⟩
    refine ⟨by rw [List.length_replicate]; exact big, _, ?_, IsTup.new _ _⟩
    have z := r.rep k.toNat
    rw [rep, rep] at z
    exact z
end SE
/-! Tuples: t * n, t + u, t[a:b] whichever object comes out; len(set(t)) of texts. -/
namespace SE
open PySem PySem.Spec PyProof.Rows L2
section
variable {X : Cx}
theorem tmul_one (l : Addr) (w : Value) (n : Nat) (dd : Option Addr) (sl : Array (Option Value)) (u : Tok) :
    Meets (Builtin.«tuple.__mul__» ⟨[.ref l, .int 1 u], []⟩) (fun _ R s => s.heap.get? l = some { cls := .type "tuple", dict := dd, data := .seq #[w] n, slots := sl } ∧ R (.ok (.ret (Value.ref l))) s) :=
  .of_wp fun prog wd A R s h => by
    obtain ⟨hp, g, d, tk, os⟩ := s
    obtain ⟨hl, h⟩ := h
    have f1 := AutoSeq1.idx_int
    wp_walk using AutoSeq1.wpAny_loadPart' hl
    exact ⟨_, rfl, h⟩
theorem tmul_none (l : Addr) (w : Value) (n : Nat) (dd : Option Addr) (sl : Array (Option Value)) (k : Int) (u : Tok) (h0 : -1000000 ≤ k) (h1 : k ≤ 0) :
    Meets (Builtin.«tuple.__mul__» ⟨[.ref l, .int k u], []⟩) (fun _ R s => s.heap.get? l = some { cls := .type "tuple", dict := dd, data := .seq #[w] n, slots := sl } ∧
      R (.ok (.ret (Value.ref s.heap.objs.size))) { s with heap := s.heap.push { cls := .type "tuple", data := .seq #[] } }) :=
  .of_wp fun prog wd A R s h => by
    obtain ⟨hp, g, d, tk, os⟩ := s
    obtain ⟨hl, h⟩ := h
    have f1 := AutoSeq1.idx_int
    have c0 : (decide (k < -(2 ^ 63)) || decide (k ≥ 2 ^ 63)) = false := by
      rw [decide_eq_false (by omega), decide_eq_false (by omega)]
      rfl
    have c1 : ((#[w] : Array Value).isEmpty || k == 1) = false := by
      show (false || k == 1) = false
      rw [Bool.false_or]
      exact beq_eq_false_iff_ne.mpr (by omega)
    have c2 : (decide (k ≤ 0) || (#[w] : Array Value).isEmpty) = true := by
      rw [decide_eq_true h1]
      rfl
    wp_walk using AutoSeq1.wpAny_loadPart' hl
    repeat (first
      | (refine wpAny_ite_false (decide_eq_false (by rw [c0]; exact Bool.false_ne_true)) ?_; wp_walk using AutoSeq1.wpAny_loadPart' hl)
      | (refine wpAny_ite_false (decide_eq_false (by rw [c1]; exact Bool.false_ne_true)) ?_; wp_walk using AutoSeq1.wpAny_loadPart' hl)
      | (refine wpAny_ite_true (decide_eq_true (by rw [c2])) ?_; wp_walk using AutoSeq1.wpAny_loadPart' hl))
    exact ⟨_, rfl, h⟩
/-- (x,) * k, any k -/
def rRepS (K : PySem.W.Frag) : R2 := fun x y H Q => ∃ (l : Addr) (k : Int) (v : V), x = .ref l ∧ y = .int k ∧ SqT K H l [v] ∧ -1000000 ≤ k ∧ k ≤ 5000 ∧ ∀ (p : Addr) (H' : Hp), Same H H' → SqT K H' p (List.replicate k.toNat v) → Q (.ref p) H'
theorem op_repS : OpR X (binaryOp .Mult) (rRepS X.K) := by
  intro pins s σ H x y a u Q I rx ry h
  obtain ⟨l, k, v, rfl, rfl, hT, h1, h2, q⟩ := h
  by_cases c : 2 ≤ k
  · exact op_repB pins s σ H _ _ a u Q I rx ry ⟨l, k, v, rfl, rfl, hT, c, h2, fun p hp => q p _ (Same.new hp) (.of upd_same)⟩
  cases rx
  obtain ⟨t, rfl⟩ := ry
  obtain ⟨its, r, ⟨⟨cls, dd, data, sl⟩, ho, hc, n, hd⟩, hs⟩ := I.tuple hT
  simp only at hc hd
  subst hc hd
  obtain ⟨w, rfl⟩ : ∃ w, its = [w] := by
    cases r with
    | cons r1 r2 =>
      cases r2
      exact ⟨_, rfl⟩
  refine wpAny_binaryOp_repeat_ref (T := "tuple") (U := "int") (by decide) ⟨_, ho, rfl⟩ (fun s2 => typeIs_int s2 k t) noFill_tuple_mul F.fills_int_mul F.slot_int_rmul repeat_tuple F.slot_int_index.lookup ?_
  refine call_meets F.slot_int_rmul (typeIs_int s k t) F.entry_int_rmul (F.args_int_rmul_2 _ _) (int_rmul_tuple k t l _ n dd sl) ⟨ho, rfl, ⟨_, ho, rfl⟩, ?_⟩
  by_cases c1 : k = 1
  · subst c1
    refine call_meets F.slot_tuple_mul ⟨_, ho, rfl⟩ F.entry_tuple_mul (F.args_tuple_mul_2 _ _) (tmul_one l w n dd sl t) ⟨ho, ?_⟩
    exact ⟨.ref l, H, I, rfl, q l H (Same.refl H) hT⟩
  · have k0 : k ≤ 0 := by omega
    refine call_meets F.slot_tuple_mul ⟨_, ho, rfl⟩ F.entry_tuple_mul (F.args_tuple_mul_2 _ _) (tmul_none l w n dd sl k t h1 k0) ⟨ho, ?_⟩
    refine ⟨.ref s.heap.objs.size, _, I.laid (t' := s.toks) (o := .tup []) (fun b ob e => Heap.get?_push_of_some _ e) (Nat.le_refl _) ?_, rfl, q _ _ (Same.new (I.hok.fresh (Nat.le_refl _))) ?_⟩
    · exact ⟨Nat.zero_le _, [], .nil, IsTup.new _ _⟩
    · rw [show k.toNat = 0 by omega]
      exact .of upd_same
/-- t + u -/
def rCatS (K : PySem.W.Frag) : R2 := fun x y H Q => ∃ (a b : Addr) (xs ys : List V), x = .ref a ∧ y = .ref b ∧ SqT K H a xs ∧ SqT K H b ys ∧ xs.length + ys.length ≤ sizeLine ∧ ∀ (p : Addr) (H' : Hp), Same H H' → SqT K H' p (xs ++ ys) → Q (.ref p) H'
theorem op_catS : OpR X (binaryOp .Add) (rCatS X.K) := by
  intro pins s σ H x y v u Q I rx ry h
  obtain ⟨a, b, xs, ys, rfl, rfl, ha, hb, hz, q⟩ := h
  refine op_catA pins s σ H _ _ v u Q I rx ry ⟨a, b, xs, ys, rfl, rfl, ha, hb, hz, fun e => ?_, fun _ e => ?_, fun _ _ p hp => q p _ (Same.new hp) (.of upd_same)⟩
  · subst e
    exact q b H (Same.refl H) hb
  · subst e
    exact q a H (Same.refl H) (by rw [List.append_nil]; exact ha)
/-- t[lo:hi] -/
def rSlS (K : PySem.W.Frag) : V → Option Int → Option Int → Hp → VK → Prop := fun x lo hi H Q => ∃ (a : Addr) (xs : List V), x = .ref a ∧ SqT K H a xs ∧ ∀ (p : Addr) (H' : Hp), Same H H' → SqT K H' p (cutV xs lo hi) → Q (.ref p) H'
theorem sl_tupS : SlR X (rSlS X.K) := by
  intro pins s σ H x v vl vu lo hi sl Q I rx hs pl pu h
  obtain ⟨a, xs, rfl, hx, q⟩ := h
  refine sl_tupA pins s σ H _ v vl vu lo hi sl Q I rx hs pl pu ⟨a, xs, rfl, hx, fun e => q a H (Same.refl H) ?_, fun _ p hp => q p _ (Same.new hp) (.of upd_same)⟩
  have e2 : cutV xs lo hi = xs := by
    unfold cutV
    rw [e.1, e.2, List.drop_zero, Nat.sub_zero, List.take_length]
  rw [e2]
  exact hx
end
end SE
/-! A for in a generator's body; a generator def called with keywords. -/
namespace SE
open PySem PySem.Spec PyProof.Rows L2 GenW
section
variable {X : Cx}
def tGFor (wi : TI) (g : TG) (tb : TGn) : TGn := fun D ys σ H => wi σ H fun J H1 => ∃ W : Nat → Nat → List V → L2.St → Hp → Prop, (∃ m, W 0 m ys σ H1) ∧ ∀ i m ys σ H, W i m ys σ H →
  (J.stop i H ∧ D.nx ys σ H) ∨ (J.go i H ∧ ∃ N : List V → L2.St → Hp → Prop, (∀ zs σ2 H2, N zs σ2 H2 → ∃ j, j < m ∧ W (i + 1) j zs σ2 H2) ∧ ∀ x H2, J.yld i H x H2 → g x σ H2 fun σ3 H3 => tb { D with nx := N, ct := N, bk := D.nx } ys σ3 H3)
theorem gs_for {tg iter : Expr} {body : List Stmt} {pos : Pos} {wi : TI} {g : TG} {tb : TGn} (hp : PassesOwn (model X.prog X.w) X.A X.env X.xe) (hc : X.calm = true) (hi : PI X tg iter wi) (hg : PG X tg g) (hb : GSs X body tb)
    (hs : ∀ x, foldedSetIterable iter X.env x = pure x := by intro _; rfl) : GS X (.For tg iter body [] pos) (tGFor wi g tb) := by
  constructor
  intro A S ip R n ys s₀ c fs K J gd lv s σ H D gc hn k hI ht
  obtain ⟨acc, cc, r, I⟩ := hI
  rw [exec_For]
  refine seg_bind_wrap (wpAny_standAt ?_)
  refine seg_bind_wrap ?_
  rw [gc.over]
  refine wpAny_mono (hi.run _ s σ H _ I ht) (fun v s1 h1 => ?_) fun x s2 hx => k.exc n s₀ x s2 hx
  refine seg_bind_wrap (wpAny_of_eq (hs v) ?_)
  refine seg_bind_wrap (wpAny_standAt ?_)
  refine seg_bind_wrap (wpAny_holding ?_)
  rw [gc.over]
  refine wpAny_mono h1 (fun itv s2 h2 => ?_) fun x s3 hx => k.exc n s₀ x s3 hx
  obtain ⟨it, fp, tn, Jt, H2, e2, I2, T, st2, f2, W, ⟨m0, w0⟩, turn⟩ := h2
  subst e2
  refine seg_call fun p => ?_
  have gl := fun (kk : Result → Sem PySem.Fin) => gc_loop (X := X) (k := kk) (c' := .forLoop tg (.ref it) body [] X.env) (l := lv []) (kp := []) (p := p) gc rfl rfl
  have apart : ∀ b ∈ fp, b ≠ S := fun b hb z => by
    obtain ⟨_, _, _, _, _, q⟩ := f2 b hb
    exact q (S, lstObj acc cc) (List.mem_append_right _ List.mem_cons_self) z.symm
  have fpok : ∀ {acc2 : Array Value} {c2 : Nat} {H3 : Hp}, (∀ b ∈ fp, H3 b = none) → ∀ b ∈ fp, FpOk X ((S, lstObj acc2 c2) :: ip) H3 b := by
    intro acc2 c2 H3 hn3 b hb
    obtain ⟨_, a2, a3, a4, a5, a6⟩ := f2 b hb
    refine ⟨hn3 b hb, a2, a3, a4, a5, fun q hq => ?_⟩
    rcases List.mem_append.mp hq with z | z
    · exact a6 q (List.mem_append_left _ z)
    · rcases List.mem_cons.mp z with y | y
      · rw [y]
        exact Ne.symm (apart b hb)
      · exact a6 q (List.mem_append_right _ (List.mem_cons_of_mem _ y))
  have loop : ∀ (m n i : Nat) (ys : List V) (s₀ s : Shared) (σ : L2.St) (H : Hp), n + ys.length = sizeLine → W i m ys σ H → GI X S ip ys σ H s → tn i s.heap → (∀ b ∈ fp, H b = none) →
      Seg (model X.prog X.w) A R (GY X S) n s₀ (.forLoop tg (.ref it) body [] X.env) ((model X.prog X.w).den (.forLoop tg (.ref it) body [] X.env))
        (.ret (fun r => ((match r with | .ok f => (.pure f : Sem Flow) | .error e => .raise e).onRaise (cameBack X.env)).wrap K J gd lv) none (gd false) (lv []) c p [] :: fs) s := by
    intro m
    induction m using Nat.strongRecOn with
    | ind m ih =>
      intro n i ys s₀ s σ H hn w hI st fr
      have ee : ∀ (n : Nat) (s₀ : Shared) (x : Value) (s4 : Shared), X.xe x s4 → Seg (model X.prog X.w) A R (GY X S) n s₀ (.forLoop tg (.ref it) body [] X.env)
          ((do noteFrame x X.env; theTreesLotGoes x : Sem Unit).bind fun _ => .raise x)
          (.ret (fun r => ((match r with | .ok f => (.pure f : Sem Flow) | .error e => .raise e).onRaise (cameBack X.env)).wrap K J gd lv) none (gd false) (lv []) c p [] :: fs) s4 := fun n s₀ x s4 hx => by
        rw [Sem.bind_eq_wrap]
        refine seg_wrap ?_
        rw [(gl _).over]
        refine wpAny_bind (wpAny_mono (hp x s4 hx) (fun _ s5 hcb => wpAny_theTreesLotGoes ?_) fun y s5 hcb => ?_)
        · exact seg_leaf (.error x) (seg_cameBack gc k hcb)
        · exact seg_leaf (.error y) (seg_cameBack gc k hcb)
      show Seg _ A R _ n s₀ _ ((forTurn tg (.ref it) body [] X.env).onRaise (fun x => do noteFrame x X.env; theTreesLotGoes x)) _ s
      unfold forTurn
      rw [Sem.onRaise_eq_wrap]
      refine seg_bind_wrap (wpAny_standAt ?_)
      refine seg_bind_wrap ?_
      rw [(gl _).over]
      obtain ⟨acc3, c3, r3, I3⟩ := hI
      rcases turn i m ys σ H w with ⟨stop, qn⟩ | ⟨go, N, hN, step⟩
      · refine wpAny_onRaise (wpAny_mono (T.done X rfl rfl rfl hc i _ s σ H X.xe I3 (fpok fr) st stop) (fun rr s4 hh => ?_) fun x s4 hx => wpAny_standAt (ee n s₀ x s4 hx))
        obtain ⟨hr, I4⟩ := hh
        subst hr
        refine seg_again rfl ?_
        show Seg _ A R _ n s₀ _ (do return Fin.done (← (execs [] X.env).onRaise (fun x => do noteFrame x X.env; theTreesLotGoes x))) _ s4
        exact seg_leaf (.ok .next) (k.ok n ys s₀ s4 .next hn ⟨σ, H, ⟨acc3, c3, r3, I4⟩, qn⟩)
      · refine wpAny_onRaise (wpAny_mono (T.item X rfl rfl rfl hc i _ s σ H X.xe I3 (fpok fr) st go) (fun rr s4 hh => ?_) fun x s4 hx => wpAny_standAt (ee n s₀ x s4 hx))
        obtain ⟨u, hr, h4⟩ := hh
        subst hr
        refine seg_bind_wrap ?_
        rw [(gl _).over]
        refine wpAny_mono h4 (fun _ s5 hh => ?_) fun x s5 hx => ee n s₀ x s5 hx
        obtain ⟨x, H5, I5, r5, y5, st5, fr5⟩ := hh
        have I6 := I5.pinned (fpok fr5) (T.obj _ _ st5)
        refine seg_bind_wrap ?_
        rw [(gl _).over]
        refine wpAny_mono (hg.run _ s5 σ H5 x u _ I6 r5 (step x H5 y5)) (fun _ s6 hh => ?_) fun x s6 hx => ee n s₀ x s6 hx
        obtain ⟨σ6, H6, I7, q6⟩ := hh
        have gb : GC X S (ip ++ pinsAt fp s5.heap) A (.forLoop tg (.ref it) body [] X.env) (.ret (fun r => ((match r with | .ok f => (.pure f : Sem Flow) | .error e => .raise e).onRaise (cameBack X.env)).wrap K J gd lv) none (gd false) (lv []) c p [] :: fs) id := by
          have q := gl (fun r => ((match r with | .ok f => (.pure f : Sem Flow) | .error e => .raise e).onRaise (cameBack X.env)).wrap K J gd lv)
          refine ⟨q.pn, fun z hz => ?_, q.apart, q.over, q.split, q.guard, q.gd⟩
          rcases List.mem_append.mp hz with y | y
          · exact q.ip z y
          · exact apart z.1 (of_pinsAt y).1
        rw [Sem.bind_eq_wrap', Sem.wrap_wrap]
        refine hb.run A S (ip ++ pinsAt fp s5.heap) R n ys s₀ _ _ _ _ id id s6 σ6 H6 { D with nx := N, ct := N, bk := D.nx } gb hn ⟨fun n2 zs s7 s8 f hn2 hs8 => ?_, fun n2 s7 x s8 hx => ee n2 s7 x s8 hx⟩ ⟨acc3, c3, r3, I7⟩ q6
        have again : ∀ {σ8 : L2.St} {H8 : Hp}, GI X S (ip ++ pinsAt fp s5.heap) zs σ8 H8 s8 → N zs σ8 H8 → Seg (model X.prog X.w) A R (GY X S) n2 s7 (.forLoop tg (.ref it) body [] X.env) ((model X.prog X.w).den (.forLoop tg (.ref it) body [] X.env))
            (.ret (fun r => ((match r with | .ok f => (.pure f : Sem Flow) | .error e => .raise e).onRaise (cameBack X.env)).wrap K J gd lv) none (gd false) (lv []) c p [] :: fs) s8 := by
          intro σ8 H8 G8 n8
          obtain ⟨j, hj, w8⟩ := hN zs σ8 H8 n8
          obtain ⟨acc8, c8, r8, I8⟩ := G8
          have pin8 : ∀ b ∈ fp, ∀ o, s5.heap.get? b = some o → s8.heap.get? b = some o ∧ H8 b = none := fun b hb o e => by
            have q := I8.pin (b, o) (List.mem_append_right _ (List.mem_cons_of_mem _ (List.mem_append_right _ (mem_pinsAt hb e))))
            exact ⟨q.1, q.2.1⟩
          refine ih j hj n2 (i + 1) zs s7 s8 σ8 H8 hn2 w8 ⟨acc8, c8, r8, I8.pins_of fun q hq => I8.pin q (List.mem_append_right _ ?_)⟩ (T.keep _ _ _ st5 fun b hb o e => (pin8 b hb o e).1) fun b hb => ?_
          · rcases List.mem_cons.mp hq with y | y
            · rw [y]
              exact List.mem_cons_self
            · exact List.mem_cons_of_mem _ (List.mem_append_left _ y)
          · obtain ⟨o, e, _⟩ := T.obj _ _ st5 b hb
            exact (pin8 b hb o e).2
        have thin : ∀ {σ8 : L2.St} {H8 : Hp}, GI X S (ip ++ pinsAt fp s5.heap) zs σ8 H8 s8 → GI X S ip zs σ8 H8 s8 := by
          intro σ8 H8 G8
          obtain ⟨acc8, c8, r8, I8⟩ := G8
          refine ⟨acc8, c8, r8, I8.pins_of fun q hq => I8.pin q (List.mem_append_right _ ?_)⟩
          rcases List.mem_cons.mp hq with y | y
          · rw [y]
            exact List.mem_cons_self
          · exact List.mem_cons_of_mem _ (List.mem_append_left _ y)
        cases f with
        | next =>
          obtain ⟨σ8, H8, G8, n8⟩ := hs8
          exact seg_again rfl (again G8 n8)
        | cont =>
          obtain ⟨σ8, H8, G8, n8⟩ := hs8
          exact seg_again rfl (again G8 n8)
        | brk =>
          obtain ⟨σ8, H8, G8, n8⟩ := hs8
          exact seg_leaf (.ok .next) (k.ok n2 zs s7 s8 .next hn2 ⟨σ8, H8, thin G8, n8⟩)
        | ret v =>
          obtain ⟨x8, σ8, H8, G8, r8, n8⟩ := hs8
          exact seg_leaf (.ok (.ret v)) (k.ok n2 zs s7 s8 (.ret v) hn2 ⟨x8, σ8, H8, thin G8, r8, n8⟩)
  exact loop m0 n 0 ys s₀ s2 σ H2 hn w0 ⟨acc, cc, r, I2⟩ st2 fun b hb => (f2 b hb).1
end
end SE
/-! Calls by keywords. -/
namespace SE
open PySem PySem.Spec PyProof.Rows L2 GenW
section
variable {K : PySem.W.Frag} {x qual : Str} {params : Arguments} {body : List Stmt} {scope : Scope} {kws : List (Str × V)} {f : Addr} {fd : FuncData} {ps : List Str}
/-- keyword-only defaults alone; ms: those that lack -/
theorem kb_some (F : FunD K x qual params body scope [] kws f fd) (n : Nat) (ks : List Str) (ms : List (Str × V)) (g : {α : Type} → List α → List α → List α → List α) (hk : kws ≠ []) (hms : ∀ q ∈ ms, q ∈ kws)
    (hrel : ∀ {vs mz zs : List V} {us mv ws : List Value}, Vals vs us → Vals mz mv → Vals zs ws → Vals (g vs mz zs) (g us mv ws))
    (h : ∀ (D : Addr) (doc pm : Value) (an : Option Addr) (cv ct : Value) (us mv ws : List Value), us.length = n → mv.length = ms.length → ws.length = ks.length →
      KwChain D ((ms.map (·.1)).zip mv) (bindArgs (PySem.W.fnOf x qual params body scope .none (.ref D) doc pm an cv ct) ⟨us, ks.zip ws⟩) (ps.zip (g us mv ws))) :
    ∃ mv : List Value, KBn K fd ps n ks (fun us ws => g us mv ws) (fun vs zs => g vs (ms.map (·.2)) zs) := by
  obtain ⟨oc, od, dV, kV, doc, pm, an, cv, ct, osl, rfl, look, hc, hD, hK⟩ := F.ex
  rcases hD with ⟨_, rfl⟩ | ⟨e, _⟩
  · rcases hK with e | ⟨D, rfl, hq⟩
    · exact absurd e hk
    · obtain ⟨mv, hl, rk, hks⟩ := kwd_vals (ms := ms) fun q hm => hq q (hms q hm)
      exact ⟨mv, fun s us ws X l1 l2 => BindsTo.of_looks fun M => KwChain.looks X hks (h D doc pm an cv ct us mv ws l1 hl l2), fun r1 r2 => hrel r1 rk r2⟩
  · exact absurd rfl e
theorem kb_all {st : Stmt} (F : Fun K x qual st f fd) (n : Nat) (ks : List Str) (g : {α : Type} → List α → List α → List α)
    (hrel : ∀ {vs zs : List V} {us ws : List Value}, Vals vs us → Vals zs ws → Vals (g vs zs) (g us ws))
    (h : ∀ (kV doc pm : Value) (an : Option Addr) (cv ct : Value) (us ws : List Value), us.length = n → ws.length = ks.length → bindArgs (PySem.W.fnOf x qual (defArgs st) (defBody st) (defScope st) .none kV doc pm an cv ct) ⟨us, ks.zip ws⟩ = pure (ps.zip (g us ws))) :
    KBn K fd ps n ks (fun us ws => g us ws) (fun vs zs => g vs zs) := by
  obtain ⟨oc, od, kV, doc, pm, an, cv, ct, osl, rfl, look, hc⟩ := F.ex
  exact ⟨fun s us ws X l1 l2 => .of_eq (h kV doc pm an cv ct us ws l1 l2), fun r1 r2 => hrel r1 r2⟩
end
section
variable {X : Cx} {k n : Nat} {f : Addr} {fd : FuncData} {ps ks : List Str} {sp : Sp} {E : XK} {x : Str} {p pos : Pos} {e : Expr} {es : List Expr} {kws : List Keyword} {t tk : TA} {g : List Value → List Value → List Value} {gV : List V → List V → List V}
/-- f(k = v, ..) -/
theorem pe_kw0 (F : FnOk X.prog X.w X.K X.mg X.base CX0 k f fd ps sp) (hr : Room k X.A) (hg : Gl X x) (hm : X.mg x = some (.ref f)) (hk : PySem.W.keepIn X.K (.ref f) = true) (hb : KBn X.K fd ps 0 ks g gV)
    (hkw : PK X kws tk) (hall : (backToKw pos (keywordEach kws X.env)).all (·.1.isSome) = true := by rfl) (hks : (backToKw pos (keywordEach kws X.env)).filterMap (·.1) = ks := by rfl)
    (hdb : (x == ("__debug__" : Str)) = false := by decide) (hpl : ((backTo pos (starEach [] X.env)).any (·.1) || (backToKw pos (keywordEach kws X.env)).any (·.1.isNone)) = false := by rfl) :
    PE X (.Call (.Name x p) [] kws pos) (tCallN 0 ks.length sp gV E0 tNil tk) := by
  constructor
  intro pins s σ H Q I h
  apply wpAny_Call_Name_kw
  apply ld_glob I hg hm _ hdb
  refine PySem.W.callWith_KW0 (h₀ := X.base) I.ok.mod.kin hk hall (thn (hkw.run pos pins s σ H _ I h) fun ws s2 hh => ?_) hpl
  obtain ⟨zs, H2, I2, rz, l1, l2, q2⟩ := hh
  refine ⟨I2.kIn, ?_⟩
  rw [hks]
  exact run_fnN F hr hb pass0 I2 .nil rz l1 l2 q2
/-! ### generators -/
variable {sg : SpG}
theorem run_gkw {pins : List (Addr × Obj)} {σ : L2.St} {H : Hp} {s : Shared} {us ws : List Value} {vs zs : List V} {cont : List V → Hp → Prop} {E1 : Value → Shared → Prop} (F : GFn X.prog X.w X.K X.mg X.base k f fd ps sg) (hr : Room k X.A) (hb : KBn X.K fd ps n ks g gV)
    (I : Inv X pins σ H s) (r : Vals vs us) (rz : Vals zs ws) (l1 : vs.length = n) (l2 : zs.length = ks.length) (h : sg (gV vs zs) H cont E) :
    wpAny (model X.prog X.w) X.A (call (.ref f) us (ks.zip ws)) (fun u s2 => ∃ H1 sc ex, Inv X pins σ H1 sc ∧ ExOk X pins ex ∧ GMade X.prog X.w k X.stack H1 sc ex cont E u s2) E1 s := by
  have r2 := hb.rel r rz
  refine wpAny_call (codeAny_mono (F.run X.A X.stack s H ⟨us, ks.zip ws⟩ (g us ws) (gV vs zs) cont E hr I.env0 (hb.to s us ws I.kIn (r.length.symm.trans l1) (rz.length.symm.trans l2)) r2 h) fun rr s2 hq => ?_)
  cases rr with
  | error _ => exact hq.elim
  | ok fl =>
    cases fl with
    | ret u => exact ⟨H, s, [], I, .nil, hq⟩
    | next => exact hq.elim
    | brk => exact hq.elim
    | cont => exact hq.elim
def tGenN (n m : Nat) (sg : SpG) (gV : List V → List V → List V) (E : XK) (t tk : TA) : TGen := fun σ H cont => t σ H fun vs H1 => tk σ H1 fun zs H2 => vs.length = n ∧ zs.length = m ∧ sg (gV vs zs) H2 cont E
theorem pgen_kw (F : GFn X.prog X.w X.K X.mg X.base k f fd ps sg) (hr : Room k X.A) (hg : Gl X x) (hm : X.mg x = some (.ref f)) (hk : PySem.W.keepIn X.K (.ref f) = true) (hb : KBn X.K fd ps n ks g gV)
    (ha : PA X (e :: es) t) (hkw : PK X kws tk) (hall : (backToKw pos (keywordEach kws X.env)).all (·.1.isSome) = true := by rfl) (hks : (backToKw pos (keywordEach kws X.env)).filterMap (·.1) = ks := by rfl)
    (hdb : (x == ("__debug__" : Str)) = false := by decide) (he : starEach (e :: es) X.env = (false, eval e X.env) :: starEach es X.env := by rfl)
    (hpl : ((backTo pos (starEach (e :: es) X.env)).any (·.1) || (backToKw pos (keywordEach kws X.env)).any (·.1.isNone)) = false := by rfl) :
    PGen X k (.Call (.Name x p) (e :: es) kws pos) (tGenN n ks.length sg gV E t tk) E := by
  constructor
  intro pins s σ H cont I h
  apply wpAny_Call_Name_kw
  apply ld_glob I hg hm _ hdb
  refine PySem.W.callWith_KW (h₀ := X.base) I.ok.mod.kin hk hall (thn (ha.run pos pins s σ H _ I h) fun us s1 hh => ?_) hpl he
  obtain ⟨vs, H1, I1, r, q⟩ := hh
  refine thn (hkw.run pos pins s1 σ H1 _ I1 q) fun ws s2 hh => ?_
  obtain ⟨zs, H2, I2, rz, l1, l2, q2⟩ := hh
  refine ⟨I2.kIn, ?_⟩
  rw [hks]
  exact run_gkw F hr hb I2 r rz l1 l2 q2
theorem pgen_kw0 (F : GFn X.prog X.w X.K X.mg X.base k f fd ps sg) (hr : Room k X.A) (hg : Gl X x) (hm : X.mg x = some (.ref f)) (hk : PySem.W.keepIn X.K (.ref f) = true) (hb : KBn X.K fd ps 0 ks g gV)
    (hkw : PK X kws tk) (hall : (backToKw pos (keywordEach kws X.env)).all (·.1.isSome) = true := by rfl) (hks : (backToKw pos (keywordEach kws X.env)).filterMap (·.1) = ks := by rfl)
    (hdb : (x == ("__debug__" : Str)) = false := by decide) (hpl : ((backTo pos (starEach [] X.env)).any (·.1) || (backToKw pos (keywordEach kws X.env)).any (·.1.isNone)) = false := by rfl) :
    PGen X k (.Call (.Name x p) [] kws pos) (tGenN 0 ks.length sg gV E tNil tk) E := by
  constructor
  intro pins s σ H cont I h
  apply wpAny_Call_Name_kw
  apply ld_glob I hg hm _ hdb
  refine PySem.W.callWith_KW0 (h₀ := X.base) I.ok.mod.kin hk hall (thn (hkw.run pos pins s σ H _ I h) fun ws s2 hh => ?_) hpl
  obtain ⟨zs, H2, I2, rz, l1, l2, q2⟩ := hh
  refine ⟨I2.kIn, ?_⟩
  rw [hks]
  exact run_gkw F hr hb I2 .nil rz l1 l2 q2
/-- nothing is raised by a generator that raises nothing -/
theorem pass_gen : Passes (CX X.prog X.w) X E0 := by
  intro pins σ H s e s2 I h
  obtain ⟨a, B, H2, cls, d, _, _, _, _, _, _, _, q⟩ := h
  exact q.elim
theorem nostop0 {K : PySem.W.Frag} : NoStop K E0 := fun _ _ _ h => h.elim
end
end SE
namespace SE
open PySem PySem.Spec PyProof.Rows L2
/-! ### rules: a class held by a local name, called; a classmethod called with nothing -/
section
variable {X : Cx} {CX : CXT} {k i : Nat} {f C p g : Addr} {mc : Value} {fd : FuncData} {ps : List Str} {sp : Sp} {dvs : List V} {ds : List Value} {E : XK} {x m : Str} {pn pos apos : Pos} {o e : Expr} {es : List Expr} {ta : TE} {t : TA} {pl : Sem Bool}
def tMakeL (i : Nat) (C : Addr) (sp : Sp) (dvs : List V) (E : XK) (t : TA) : TE := fun σ H Q => σ[i]? = some (some (.ref C)) ∧ tMake C sp dvs E t σ H Q
theorem pe_makeL (M : Mk X.K C f) (F : FnOk X.prog X.w X.K X.mg X.base CX k f fd ps sp) (hr : Room (k + 1) X.A) (hN : X.N[i]? = some x) (hv : Vis X.env.scope x) (hb : Binds X.K fd ps ds) (hd : Vals dvs ds) (hx : Passes CX X E)
    (ha : PA X (e :: es) t) (hdb : (x == ("__debug__" : Str)) = false := by decide) (hcd : (x == ("__classdict__" : Str)) = false := by decide)
    (he : starEach (e :: es) X.env = (false, eval e X.env) :: starEach es X.env := by rfl) (hpl : (backTo pos (starEach es X.env)).any (·.1) = false := by rfl) :
    PE X (.Call (.Name x pn) (e :: es) [] pos) (tMakeL i C sp dvs E t) := by
  constructor
  intro pins s σ H Q I h
  obtain ⟨hs, ht⟩ := h
  refine wpAny_Call_Name_kw (thn ((pe_var (pos := pn) hN hv hdb hcd).run pins s σ H (fun v H1 => v = .ref C ∧ H1 = H) I ⟨.ref C, hs, rfl, rfl⟩) fun u s1 hh => ?_)
  obtain ⟨v, H1, I1, r1, rfl, rfl⟩ := hh
  cases r1
  refine PySem.W.callWith_K (h₀ := X.base) I.ok.mod.kin M.kp (thn (ha.run pos pins s1 σ _ _ I1 ht) fun us s2 hh => ?_) he hpl
  obtain ⟨vs, H2, I2, r, q⟩ := hh
  exact ⟨I2.kIn, run_make M F hr hb hd hx I2 r q⟩
/-- C.m() -/
def tCMeth0 (C : Addr) (sp : Sp) (E : XK) (ta : TE) : TE := fun σ H Q => ta σ H fun x H1 => x = .ref C ∧ sp [.ref C] H1 Q E
theorem pe_cmeth0 (he : PE X o ta) (r : ClX.CRead X.K C mc) (c : ClX.CMet X.K C mc m p g) (F : FnR X.prog X.w X.K X.mg X.base CX k g sp) (hr : Room k X.A) (hx : Passes CX X E)
    (ht : eval (.Call (.Attribute o m apos) [] [] pos) X.env = (do
      let v ← eval o X.env
      standAt apos.atName
      let (f, first) ← holding [v] (getMethod v m pl)
      callWith pos f first (backTo pos (starEach [] X.env)) (backToKw pos (keywordEach [] X.env))) := by rfl) :
    PE X (.Call (.Attribute o m apos) [] [] pos) (tCMeth0 C sp E ta) := by
  constructor
  intro pins s σ H Q I h
  refine PySem.W.methodCall_KW (pl := pl) (thn (he.run pins s σ H _ I h) fun u s1 hh => ?_) ht
  obtain ⟨v, H1, I1, rx, ex, q⟩ := hh
  subst ex
  obtain rfl : u = Value.ref C := rx
  refine ClX.getmethcm_ok I1 r c fun s2 I2 => ?_
  exact PySem.W.callWith_M0 ⟨ClX.pin_at I2, I2.kIn⟩ c.fi (ClX.run_cm (us := []) (vs := []) F hr hx I2 .nil q)
end
end SE
namespace SE
open PySem PySem.Spec PyProof.Rows L2
/-! ### the class Effect -/
abbrev sInit : Stmt := inClass sEffect 0
abbrev sNever : Stmt := inClass sEffect 2
abbrev sPops : Stmt := inClass sEffect 4
abbrev sPushes : Stmt := inClass sEffect 5
abbrev sPeak : Stmt := inClass sEffect 6
abbrev sChange : Stmt := inClass sEffect 7
abbrev sIsNever : Stmt := inClass sEffect 8
def eF (a b c : V) : List (Str × V) := [("needs", a), ("leaves", b), ("highest", c)]
theorem eF_new (a b c : V) : putF "highest" c (putF "leaves" b (putF "needs" a [])) = eF a b c := by
  have h1 : ¬ (("needs" : Str) = "leaves") := by decide +kernel
  have h2 : ¬ (("needs" : Str) = "highest") := by decide +kernel
  have h3 : ¬ (("leaves" : Str) = "highest") := by decide +kernel
  simp only [putF, h1, h2, h3, if_false]
  rfl
theorem eF_two (a b : V) : (putF "leaves" b (putF "needs" a [])).length < 1000 := by
  have h1 : ¬ (("needs" : Str) = "leaves") := by decide +kernel
  simp only [putF, h1, if_false]
  show 2 < 1000
  decide
theorem eF_n (x a b c : V) : putF "needs" x (eF a b c) = eF x b c := by
  unfold eF
  simp only [putF, if_true]
theorem eF_l (x a b c : V) : putF "leaves" x (eF a b c) = eF a x c := by
  have h1 : ¬ (("needs" : Str) = "leaves") := by decide +kernel
  unfold eF
  simp only [putF, h1, if_false, if_true]
theorem eF_h (x a b c : V) : putF "highest" x (eF a b c) = eF a b x := by
  have h2 : ¬ (("needs" : Str) = "highest") := by decide +kernel
  have h3 : ¬ (("leaves" : Str) = "highest") := by decide +kernel
  unfold eF
  simp only [putF, h2, h3, if_false, if_true]
theorem eF_needs (a b c : V) : (eF a b c).lookup ("needs" : Str) = some a := by
  rw [← eF_new, lookup_putF, if_neg (by decide +kernel), lookup_putF, if_neg (by decide +kernel), lookup_putF, if_pos rfl]
theorem eF_leaves (a b c : V) : (eF a b c).lookup ("leaves" : Str) = some b := by
  rw [← eF_new, lookup_putF, if_neg (by decide +kernel), lookup_putF, if_pos rfl]
theorem eF_high (a b c : V) : (eF a b c).lookup ("highest" : Str) = some c := by
  rw [← eF_new, lookup_putF, if_pos rfl]
/-- an effect that is not never -/
structure EffAt (K : PySem.W.Frag) (C : Addr) (H : Hp) (e : Addr) (xs ys : List Str) (p : Int) : Prop where
  ex : ∃ dx u v, H e = some (.ins C dx (eF (.ref u) (.ref v) (.int p))) ∧ SqT K H u (xs.map V.str) ∧ SqT K H v (ys.map V.str)
theorem EffAt.same {K : PySem.W.Frag} {C : Addr} {H H' : Hp} {e : Addr} {xs ys : List Str} {p : Int} (h : EffAt K C H e xs ys p) (s : Same H H') : EffAt K C H' e xs ys p := by
  obtain ⟨dx, u, v, h1, h2, h3⟩ := h.ex
  exact ⟨dx, u, v, s _ _ h1, Same.tup s h2, Same.tup s h3⟩
structure NevAt (C : Addr) (H : Hp) (e : Addr) : Prop where
  ex : ∃ dx, H e = some (.ins C dx (eF .non .non .non))
theorem NevAt.same {C : Addr} {H H' : Hp} {e : Addr} (h : NevAt C H e) (s : Same H H') : NevAt C H' e := by
  obtain ⟨dx, h1⟩ := h.ex
  exact ⟨dx, s _ _ h1⟩
/-- the least peak -/
def lp (xs ys : List Str) : Int := if (ys.length : Int) - (xs.length : Int) > 0 then (ys.length : Int) - (xs.length : Int) else 0
def pkV : Option Int → V
  | none => .non
  | some p => .int p
structure EC (K : PySem.W.Frag) (mg : Str → Option Value) (C : Addr) : Prop where
  cl : Cls K C
  nN : NoAttr K C "needs"
  nL : NoAttr K C "leaves"
  nH : NoAttr K C "highest"
  mgE : mg "Effect" = some (.ref C)
section
variable {P : Program} {w : World} {K : PySem.W.Frag} {mg : Str → Option Value} {base : Heap} {C : Addr}
def spLeast (K : PySem.W.Frag) : Sp := fun vs H Q _ => ∃ (a b : Addr) (xs ys : List Str), vs = [.ref a, .ref b] ∧ SqT K H a (xs.map V.str) ∧ SqT K H b (ys.map V.str) ∧ Q (.int (lp xs ys)) H
theorem scLe : FnScope ["pops", "pushes"] ["pops", "pushes"] (defScope sLeastPeak) := ⟨rfl, rfl, rfl, by decide +kernel, rfl, by decide +kernel, by decide +kernel⟩
theorem has_least (D : Def K mg "least_peak" sLeastPeak) (B : Blt mg) (mx : mg "max" = none) : Has P w K mg base "least_peak" 1 ["pops", "pushes"] [] (spLeast K) := by
  refine has_of D scLe (fun _ _ _ _ _ _ us hl => match us, hl with | [_, _], _ => rfl) (fun xs H Q E h => ?_) (fun f cv A out s H xs Q E hr h => ?_)
  · obtain ⟨a, b, xs, ys, rfl, _⟩ := h
    rfl
  · obtain ⟨a, b, xs, ys, rfl, ha, hb, k⟩ := h
    refine ⟨_, pss_one (ps_ret (pe_callB (call_max2 rfl) (by rfl) mx (by decide +kernel) (pa_cons pe_int (pa_cons (pe_op op_sub (pe_callB call_len_seq (by rfl) B.len PySem.boot_len (pa_cons (pv 1) pa_nil)) (pe_callB call_len_seq (by rfl) B.len PySem.boot_len (pa_cons (pv 0) pa_nil))) pa_nil)))), ?_⟩
    refine ⟨_, rfl, b, _, rfl, .inr hb, _, rfl, a, _, rfl, .inr ha, _, _, rfl, rfl, 0, _, rfl, ?_⟩
    rw [List.length_map, List.length_map]
    exact k
def spInit (K : PySem.W.Frag) (C : Addr) : Sp := fun vs H Q _ => ∃ (x dx a b : Addr) (xs ys : List Str) (pk : Option Int), vs = [.ref x, .ref a, .ref b, pkV pk] ∧ H x = some (.ins C dx []) ∧ SqT K H a (xs.map V.str) ∧ SqT K H b (ys.map V.str) ∧
  xs.length ≤ 5000 ∧ ys.length ≤ 5000 ∧ (∀ z ∈ xs, Item z) ∧ (∀ z ∈ ys, Item z) ∧ (∀ p, pk = some p → lp xs ys ≤ p) ∧
  ∀ H', (∀ b o, H b = some o → b ≠ x → H' b = some o) → H' x = some (.ins C dx (eF (.ref a) (.ref b) (.int (pk.getD (lp xs ys))))) → Q .non H'
abbrev pInit : List Str := ["self", "pops", "pushes", "peak"]
theorem scIn : FnScope ["self", "pops", "pushes", "peak", "least"] pInit (defScope sInit) := ⟨rfl, rfl, rfl, by decide +kernel, rfl, by decide +kernel, by decide +kernel⟩
theorem ok_init {f : Addr} {fd : FuncData} (F : Fun K "__init__" "Effect.__init__" sInit f fd) (T : EC K mg C) (GW : Has P w K mg base "check_word" 3 ["word"] [] (spChkWord K)) (GL : Has P w K mg base "least_peak" 1 ["pops", "pushes"] [] (spLeast K)) (GH : Has P w K mg base "is_whole" 1 ["value"] [] spWhole) :
    FnOk P w K mg base CX0 4 f fd pInit (spInit K C) := by
  refine F.ok scIn (fun vs H Q E h => ?_) (fun cdv A outer s H vs Q E hr h => ?_)
  · obtain ⟨x, dx, a, b, xs, ys, pk, rfl, _⟩ := h
    rfl
  · obtain ⟨x, dx, a, b, xs, ys, pk, rfl, hx, ha, hb, l1, l2, i1, i2, hp, k⟩ := h
    have hr1 : Room 1 _ := hr.mono (by decide)
    refine ⟨_, pss_cons (ps_expr (pe_has GW hr (pa_cons (pv 1) pa_nil))) (pss_cons (ps_expr (pe_has GW hr (pa_cons (pv 2) pa_nil)))
      (pss_cons (ps_set (i := 4) scIn.nd rfl (.inl rfl) (pe_has GL hr1 (pa_cons (pv 1) (pa_cons (pv 2) pa_nil))))
      (pss_cons (ps_if (pt_cut (PW.pt (pw_and (pt_cmpR op_notN (pv 3) pe_non (nomark _)) (pw_and1 (PW.pt (pw_or (pt_not (pt_val (pe_has GH hr1 (pa_cons (pv 3) pa_nil)))) (pw_or1 (pt_cmpR op_lt (pv 3) (pv 4) (nomark _))))))))) pss_never pss_nil)
      (pss_cons (ps_fld (pv 0) (pv 1) rfl) (pss_cons (ps_fld (pv 0) (pv 2) rfl)
      (pss_one (ps_fld (pv 0) (pe_ifExp (pt_cmpR op_isN (pv 3) pe_non (nomark _)) (pv 4) (pv 3)) rfl))))))), ?_⟩
    refine ⟨_, rfl, a, xs, rfl, ha, l1, i1, fun H1 s1 => ⟨_, rfl, b, ys, rfl, Same.tup s1 hb, l2, i2, fun H2 s2 => ?_⟩⟩
    have s12 := s1.trans s2
    refine ⟨_, rfl, _, rfl, a, b, xs, ys, rfl, Same.tup s12 ha, Same.tup s12 hb, ?_⟩
    refine ⟨fun c H3 => c = false ∧ H3 = H2, ?_, ?_⟩
    · cases pk with
      | none => exact ⟨_, rfl, rfl, false, rfl, iteF ⟨rfl, rfl⟩⟩
      | some p =>
        have hq := hp p rfl
        refine ⟨_, rfl, rfl, true, rfl, iteT ⟨_, rfl, p, rfl, true, rfl, iteF ⟨_, rfl, _, rfl, p, lp xs ys, rfl, rfl, _, rfl, ?_, rfl⟩⟩⟩
        exact decide_eq_false (by omega)
    rintro c H3 ⟨rfl, rfl⟩
    refine iteF ?_
    have hx3 := s12 _ _ hx
    have fin : ∀ z : V, z = .int (pk.getD (lp xs ys)) → Q .non (upd (upd (upd H3 x (.ins C dx (putF "needs" (.ref a) []))) x (.ins C dx (putF "leaves" (.ref b) (putF "needs" (.ref a) [])))) x (.ins C dx (putF "highest" z (putF "leaves" (.ref b) (putF "needs" (.ref a) []))))) := by
      intro z ez
      refine k _ (fun c o e ne => ?_) ?_
      · rw [upd_ne ne, upd_ne ne, upd_ne ne]
        exact s12 _ _ e
      · rw [upd_same, eF_new, ez]
    refine ⟨_, rfl, _, rfl, x, C, dx, [], rfl, hx3, T.cl, T.nN, (by show 0 < 1000; decide), _, rfl, _, rfl, x, C, dx, _, rfl, upd_same, T.cl, T.nL, (by show 1 < 1000; decide), ?_⟩
    cases pk with
    | none => exact ⟨_, rfl, rfl, true, rfl, iteT ⟨_, rfl, _, rfl, x, C, dx, _, rfl, upd_same, T.cl, T.nH, eF_two _ _, fin _ rfl⟩⟩
    | some p => exact ⟨_, rfl, rfl, false, rfl, iteF ⟨_, rfl, _, rfl, x, C, dx, _, rfl, upd_same, T.cl, T.nH, eF_two _ _, fin _ rfl⟩⟩
end
end SE
namespace SE
open PySem PySem.Spec PyProof.Rows L2
/-- a property of the class C with its promise -/
def PropHas (P : Program) (w : World) (K : PySem.W.Frag) (mg : Str → Option Value) (base : Heap) (C : Addr) (f : Str) (k : Nat) (sp : Sp) : Prop := ∃ p g fd, PropOf K C f p g ∧ FnOk P w K mg base CX0 k g fd ["self"] sp ∧ Binds K fd ["self"] []
theorem pe_propH {X : Cx} {C : Addr} {f : Str} {k : Nat} {sp : Sp} {e : Expr} {ta : TE} {pos : Pos} (h : PropHas X.prog X.w X.K X.mg X.base C f k sp) (he : PE X e ta) (c : Cls X.K C) (hr : Room (k + 1) X.A)
    (hab : attributeBase e f X.env (eval e X.env) = eval e X.env := by rfl) : PE X (.Attribute e f pos) (tProp C sp [] E0 ta) := by
  obtain ⟨p, g, fd, hp, F, hb⟩ := h
  exact pe_prop he c hp F hr hb .nil pass0 hab
section
variable {P : Program} {w : World} {K : PySem.W.Frag} {mg : Str → Option Value} {base : Heap} {C : Addr}
/-! ### properties -/
/-- of an effect that is not never: its parts -/
def spPops (K : PySem.W.Frag) (C : Addr) : Sp := fun vs H Q _ => ∃ (e : Addr) (xs ys : List Str) (p : Int), vs = [.ref e] ∧ EffAt K C H e xs ys p ∧ ∀ u, SqT K H u (xs.map V.str) → Q (.ref u) H
def spPush (K : PySem.W.Frag) (C : Addr) : Sp := fun vs H Q _ => ∃ (e : Addr) (xs ys : List Str) (p : Int), vs = [.ref e] ∧ EffAt K C H e xs ys p ∧ ∀ u, SqT K H u (ys.map V.str) → Q (.ref u) H
def spIsNev (K : PySem.W.Frag) (C : Addr) : Sp := fun vs H Q _ => ∃ (e : Addr), vs = [.ref e] ∧ ((∃ xs ys p, EffAt K C H e xs ys p ∧ Q (.bl false) H) ∨ (NevAt C H e ∧ Q (.bl true) H))
theorem scPo : FnScope ["self"] ["self"] (defScope sPops) := ⟨rfl, rfl, rfl, by decide +kernel, rfl, by decide +kernel, by decide +kernel⟩
theorem scPu : FnScope ["self"] ["self"] (defScope sPushes) := ⟨rfl, rfl, rfl, by decide +kernel, rfl, by decide +kernel, by decide +kernel⟩
theorem scNv : FnScope ["self"] ["self"] (defScope sIsNever) := ⟨rfl, rfl, rfl, by decide +kernel, rfl, by decide +kernel, by decide +kernel⟩
theorem ok_pops {f : Addr} {fd : FuncData} (F : Fun K "pops" "Effect.pops" sPops f fd) (T : EC K mg C) : FnOk P w K mg base CX0 1 f fd ["self"] (spPops K C) := by
  refine F.ok scPo (fun vs H Q E h => ?_) (fun cdv A outer s H vs Q E hr h => ?_)
  · obtain ⟨e, xs, ys, p, rfl, _⟩ := h
    rfl
  · obtain ⟨e, xs, ys, p, rfl, h, k⟩ := h
    obtain ⟨dx, u, v, h1, h2, h3⟩ := h.ex
    exact ⟨_, pss_one (ps_ret (pe_fld (pv 0) rfl)), _, rfl, e, C, dx, _, _, rfl, h1, T.cl, T.nN, eF_needs _ _ _, k u h2⟩
theorem ok_push {f : Addr} {fd : FuncData} (F : Fun K "pushes" "Effect.pushes" sPushes f fd) (T : EC K mg C) : FnOk P w K mg base CX0 1 f fd ["self"] (spPush K C) := by
  refine F.ok scPu (fun vs H Q E h => ?_) (fun cdv A outer s H vs Q E hr h => ?_)
  · obtain ⟨e, xs, ys, p, rfl, _⟩ := h
    rfl
  · obtain ⟨e, xs, ys, p, rfl, h, k⟩ := h
    obtain ⟨dx, u, v, h1, h2, h3⟩ := h.ex
    exact ⟨_, pss_one (ps_ret (pe_fld (pv 0) rfl)), _, rfl, e, C, dx, _, _, rfl, h1, T.cl, T.nL, eF_leaves _ _ _, k v h3⟩
theorem ok_isNev {f : Addr} {fd : FuncData} (F : Fun K "is_never" "Effect.is_never" sIsNever f fd) (T : EC K mg C) : FnOk P w K mg base CX0 1 f fd ["self"] (spIsNev K C) := by
  refine F.ok scNv (fun vs H Q E h => ?_) (fun cdv A outer s H vs Q E hr h => ?_)
  · obtain ⟨e, rfl, _⟩ := h
    rfl
  · obtain ⟨e, rfl, h⟩ := h
    refine ⟨_, pss_one (ps_ret (pe_cmpR op_isN (pe_fld (pv 0) rfl) pe_non (nomark _))), ?_⟩
    rcases h with ⟨xs, ys, p, h, k⟩ | ⟨h, k⟩
    · obtain ⟨dx, u, v, h1, h2, h3⟩ := h.ex
      exact ⟨_, rfl, e, C, dx, _, _, rfl, h1, T.cl, T.nN, eF_needs _ _ _, rfl, k⟩
    · obtain ⟨dx, h1⟩ := h.ex
      exact ⟨_, rfl, e, C, dx, _, _, rfl, h1, T.cl, T.nN, eF_needs _ _ _, rfl, k⟩
/-! ### Effect(a, b), Effect.never() -/
/-- the class can be called -/
def Makes (P : Program) (w : World) (K : PySem.W.Frag) (mg : Str → Option Value) (base : Heap) (C : Addr) : Prop := ∃ f fd, Mk K C f ∧ FnOk P w K mg base CX0 4 f fd pInit (spInit K C) ∧ FunD K "__init__" "Effect.__init__" (defArgs sInit) (defBody sInit) (defScope sInit) [] [("peak", .non)] f fd
theorem Makes.two (h : Makes P w K mg base C) : ∃ f fd ds, Mk K C f ∧ FnOk P w K mg base CX0 4 f fd pInit (spInit K C) ∧ Vals [V.non] ds ∧ Binds K fd pInit ds := by
  obtain ⟨f, fd, M, F, FD⟩ := h
  obtain ⟨ds, hd, hb⟩ := FD.binds0 (ps := pInit) 3 (by simp) rfl (fun D doc pm an cv ct us ks h1 h2 => match us, ks, h1, h2 with | [_, _, _], [_], _, _ => ⟨_, _, _, _, _, _, rfl, rfl, rfl⟩)
  exact ⟨f, fd, ds, M, F, hd, hb⟩
/-- what Effect(a, b) asks -/
def tEff2 (K : PySem.W.Frag) (C : Addr) (t : TA) : TE := fun σ H Q => t σ H fun vs H1 => ∃ (a b : Addr) (xs ys : List Str), vs = [.ref a, .ref b] ∧ SqT K H1 a (xs.map V.str) ∧ SqT K H1 b (ys.map V.str) ∧ xs.length ≤ 5000 ∧ ys.length ≤ 5000 ∧ (∀ z ∈ xs, Item z) ∧ (∀ z ∈ ys, Item z) ∧
  ∀ (e : Addr) (H' : Hp), Same H1 H' → H1 e = none → EffAt K C H' e xs ys (lp xs ys) → Q (.ref e) H'
theorem make_imp {vs : List V} {H1 : Hp} {Q : VK} (h : ∃ (a b : Addr) (xs ys : List Str), vs = [.ref a, .ref b] ∧ SqT K H1 a (xs.map V.str) ∧ SqT K H1 b (ys.map V.str) ∧ xs.length ≤ 5000 ∧ ys.length ≤ 5000 ∧ (∀ z ∈ xs, Item z) ∧ (∀ z ∈ ys, Item z) ∧
    ∀ (e : Addr) (H' : Hp), Same H1 H' → H1 e = none → EffAt K C H' e xs ys (lp xs ys) → Q (.ref e) H') : ∀ x dx, H1 x = none → H1 dx = none → dx ≠ x →
    spInit K C (.ref x :: (vs ++ [V.non])) (upd (upd H1 dx (.own x)) x (.ins C dx [])) (fun v H2 => v = .non ∧ Q (.ref x) H2) E0 := by
  intro x dx nx nd ne
  obtain ⟨a, b, xs, ys, rfl, ha, hb, l1, l2, i1, i2, k⟩ := h
  have s0 : Same H1 (upd (upd H1 dx (.own x)) x (.ins C dx [])) := Same.made nx nd fun b o e _ => e
  refine ⟨x, dx, a, b, xs, ys, none, rfl, upd_same, Same.tup s0 ha, Same.tup s0 hb, l1, l2, i1, i2, fun p z => (by cases z), fun H' kp hx => ⟨rfl, ?_⟩⟩
  have s1 : Same H1 H' := fun c o e => kp c o (s0 c o e) (ne_of_none e nx)
  exact k x H' s1 nx ⟨dx, a, b, hx, Same.tup s1 ha, Same.tup s1 hb⟩
theorem pe_eff2 {X : Cx} {p pos : Pos} {e1 e2 : Expr} {t : TA} (M : Makes X.prog X.w X.K X.mg X.base C) (mgE : X.mg "Effect" = some (.ref C)) (hr : Room 5 X.A) (ha : PA X [e1, e2] t) (hg : Gl X "Effect" := by rfl)
    (he : starEach [e1, e2] X.env = (false, eval e1 X.env) :: starEach [e2] X.env := by rfl) (hpl : (backTo pos (starEach [e2] X.env)).any (·.1) = false := by rfl) :
    PE X (.Call (.Name "Effect" p) [e1, e2] [] pos) (tEff2 X.K C t) := by
  obtain ⟨f, fd, ds, Mk1, F, hd, hb⟩ := M.two
  constructor
  intro pins s σ H Q I h
  refine wpAny_Call_Name_kw (ld_glob I hg mgE ?_ (by decide))
  refine PySem.W.callWith_K (h₀ := X.base) I.ok.mod.kin Mk1.kp (thn (ha.run pos pins s σ H _ I h) fun us s1 hh => ?_) he hpl
  obtain ⟨vs, H1, I1, r, q⟩ := hh
  exact ⟨I1.kIn, run_make Mk1 F hr hb hd pass0 I1 r (make_imp q)⟩
/-! ### Effect.never() -/
def spNever (C : Addr) : Sp := fun vs H Q _ => vs = [.ref C] ∧ ∀ (e : Addr) (H' : Hp), Same H H' → NevAt C H' e → Q (.ref e) H'
theorem scNe : FnScope ["cls", "effect"] ["cls"] (defScope sNever) := ⟨rfl, rfl, rfl, by decide +kernel, rfl, by decide +kernel, by decide +kernel⟩
theorem ok_never {g : Addr} {gd : FuncData} (F : Fun K "never" "Effect.never" sNever g gd) (T : EC K mg C) (M : Makes P w K mg base C) : FnOk P w K mg base CX0 6 g gd ["cls"] (spNever C) := by
  obtain ⟨f, fd, ds, Mk1, FI, hd, hb⟩ := M.two
  refine F.ok scNe (fun vs H Q E h => ?_) (fun cdv A outer s H vs Q E hr h => ?_)
  · obtain ⟨rfl, _⟩ := h
    rfl
  · obtain ⟨rfl, k⟩ := h
    refine ⟨_, pss_cons (ps_set (i := 1) scNe.nd rfl (.inl rfl) (pe_makeL (i := 0) Mk1 FI hr rfl (.inl rfl) hb hd pass0 (pa_cons (pe_tup pa_nil) (pa_cons (pe_tup pa_nil) pa_nil))))
      (pss_cons (ps_fld (pv 1) pe_non rfl) (pss_cons (ps_fld (pv 1) pe_non rfl) (pss_cons (ps_fld (pv 1) pe_non rfl) (pss_one (ps_ret (pv 1)))))), ?_⟩
    refine ⟨rfl, Nat.zero_le _, fun t1 h1 => ⟨Nat.zero_le _, fun t2 h2 => ?_⟩⟩
    have n2 : t1 ≠ t2 := ne_of_none upd_same h2
    have s2 : Same H (upd (upd H t1 (.tup [])) t2 (.tup [])) := Same.free2 (Same.new h1) ((Same.new h1).free h2)
    intro y dy ny nd nyd
    have s3 : Same (upd (upd H t1 (.tup [])) t2 (.tup [])) (upd (upd (upd (upd H t1 (.tup [])) t2 (.tup [])) dy (.own y)) y (.ins C dy [])) := Same.made ny nd fun b o z _ => z
    refine ⟨y, dy, t1, t2, [], [], none, rfl, upd_same, Same.tup s3 (.of (by rw [upd_ne n2]; exact upd_same)), Same.tup s3 (.of upd_same), Nat.zero_le _, Nat.zero_le _, fun z m => (by cases m), fun z m => (by cases m), fun p z => (by cases z), fun H' kp e1 => ⟨rfl, ?_⟩⟩
    have s4 : Same H H' := fun c o z => kp c o (s3 _ _ (s2 c o z)) (ne_of_none z (s2.free ny))
    have hne : H y = none := s2.free ny
    refine ⟨_, rfl, y, C, dy, _, rfl, e1, T.cl, T.nN, (by show 3 < 1000; decide), _, rfl, y, C, dy, _, rfl, upd_same, T.cl, T.nL, (by rw [eF_n]; show 3 < 1000; decide), _, rfl, y, C, dy, _, rfl, upd_same, T.cl, T.nH, (by rw [eF_n, eF_l]; show 3 < 1000; decide), _, rfl, ?_⟩
    refine k y _ ?_ ⟨dy, ?_⟩
    · exact Same.free2 (Same.free2 (Same.free2 s4 hne) hne) hne
    · rw [upd_same, eF_n, eF_l, eF_h]
/-- the classmethod -/
def NeverHas (P : Program) (w : World) (K : PySem.W.Frag) (mg : Str → Option Value) (base : Heap) (C : Addr) : Prop := ∃ mc p g, ClX.CRead K C mc ∧ ClX.CMet K C mc "never" p g ∧ FnR P w K mg base CX0 6 g (spNever C)
theorem pe_never0 {X : Cx} {p apos pos : Pos} {pl : Sem Bool} (h : NeverHas X.prog X.w X.K X.mg X.base C) (mgE : X.mg "Effect" = some (.ref C)) (hr : Room 6 X.A) (hg : Gl X "Effect" := by rfl)
    (ht : eval (.Call (.Attribute (.Name "Effect" p) "never" apos) [] [] pos) X.env = (do
      let v ← eval (.Name "Effect" p) X.env
      standAt apos.atName
      let (f, first) ← holding [v] (getMethod v "never" pl)
      callWith pos f first (backTo pos (starEach [] X.env)) (backToKw pos (keywordEach [] X.env))) := by rfl) :
    PE X (.Call (.Attribute (.Name "Effect" p) "never" apos) [] [] pos) (tCMeth0 C (spNever C) E0 (tC (.ref C))) := by
  obtain ⟨mc, q, g, r, c, F⟩ := h
  exact pe_cmeth0 (pl := pl) (pe_glob hg mgE rfl) r c F hr pass0 ht
end
end SE
namespace SE
open PySem PySem.Spec PyProof.Rows L2
section
variable {P : Program} {w : World} {K : PySem.W.Frag} {mg : Str → Option Value} {base : Heap} {C : Addr}
/-! ### Effect(a, b, peak = c) -/
def tEffK (K : PySem.W.Frag) (C : Addr) (t : TA) (tk : TE) : TE := fun σ H Q => t σ H fun vs H1 => tCons tk tNil σ H1 fun zs H2 => ∃ (a b : Addr) (xs ys : List Str) (pk : Option Int), vs = [.ref a, .ref b] ∧ zs = [pkV pk] ∧ SqT K H2 a (xs.map V.str) ∧ SqT K H2 b (ys.map V.str) ∧ xs.length ≤ 5000 ∧ ys.length ≤ 5000 ∧
  (∀ z ∈ xs, Item z) ∧ (∀ z ∈ ys, Item z) ∧ (∀ p, pk = some p → lp xs ys ≤ p) ∧ ∀ (e : Addr) (H' : Hp), Same H2 H' → H2 e = none → EffAt K C H' e xs ys (pk.getD (lp xs ys)) → Q (.ref e) H'
theorem pe_effK {X : Cx} {p pos q1 : Pos} {e1 e2 c : Expr} {t : TA} {tk : TE} (M : Makes X.prog X.w X.K X.mg X.base C) (mgE : X.mg "Effect" = some (.ref C)) (hr : Room 5 X.A) (ha : PA X [e1, e2] t) (hc : PE X c tk) (hg : Gl X "Effect" := by rfl)
    (he : starEach [e1, e2] X.env = (false, eval e1 X.env) :: starEach [e2] X.env := by rfl) (hpl : ((backTo pos (starEach [e1, e2] X.env)).any (·.1) || (backToKw pos (keywordEach [⟨some "peak", c, q1⟩] X.env)).any (·.1.isNone)) = false := by rfl) :
    PE X (.Call (.Name "Effect" p) [e1, e2] [⟨some "peak", c, q1⟩] pos) (tEffK X.K C t tk) := by
  obtain ⟨f, fd, Mk1, F, FD⟩ := M
  obtain ⟨mv, kb⟩ := kb_some (ps := pInit) FD 3 ["peak"] [] (fun us _ ws => us ++ ws) (by simp) (fun q h => (by cases h)) (fun r1 _ r3 => r1.append r3) (fun D doc pm an cv ct us mv ws h1 h2 h3 => match us, mv, ws, h1, h2, h3 with | [_, _, _], [], [_], _, _, _ => rfl)
  constructor
  intro pins s σ H Q I h
  refine wpAny_Call_Name_kw (ld_glob I hg mgE ?_ (by decide))
  refine PySem.W.callWith_KW (h₀ := X.base) I.ok.mod.kin Mk1.kp rfl (thn (ha.run pos pins s σ H _ I h) fun us s1 hh => ?_) hpl he
  obtain ⟨vs, H1, I1, r, q⟩ := hh
  refine thn ((pk_cons (nm := some "peak") (kpos := q1) hc pk_nil).run pos pins s1 σ H1 _ I1 q) fun ws s2 hh => ?_
  obtain ⟨zs, H2, I2, rz, a, b, xs, ys, pk, rfl, rfl, ha2, hb2, l1, l2, i1, i2, hp, k⟩ := hh
  refine ⟨I2.kIn, ?_⟩
  refine run_makeK (ks := ["peak"]) (n := 2) Mk1 F hr kb pass0 I2 r rz rfl rfl ?_
  intro x dx nx nd ne
  have s0 : Same H2 (upd (upd H2 dx (.own x)) x (.ins C dx [])) := Same.made nx nd fun b o e _ => e
  refine ⟨x, dx, a, b, xs, ys, pk, rfl, upd_same, Same.tup s0 ha2, Same.tup s0 hb2, l1, l2, i1, i2, hp, fun H' kp hx => ⟨rfl, ?_⟩⟩
  have s3 : Same H2 H' := fun c o e => kp c o (s0 c o e) (ne_of_none e nx)
  exact k x H' s3 nx ⟨dx, a, b, hx, Same.tup s3 ha2, Same.tup s3 hb2⟩
/-! ### effects as values -/
abbrev Eff := Option (List Str × List Str × Int)
def EffV (K : PySem.W.Frag) (C : Addr) (H : Hp) (e : Addr) : Eff → Prop
  | none => NevAt C H e
  | some (xs, ys, p) => EffAt K C H e xs ys p
theorem EffV.same {H H' : Hp} {e : Addr} : ∀ {o : Eff}, EffV K C H e o → Same H H' → EffV K C H' e o
  | none, h, s => NevAt.same h s
  | some (_, _, _), h, s => EffAt.same h s
theorem EffV.ins {H : Hp} {e : Addr} : ∀ {o : Eff}, EffV K C H e o → ∃ dx fs, H e = some (.ins C dx fs)
  | none, h => by
    obtain ⟨dx, h1⟩ := NevAt.ex h
    exact ⟨dx, _, h1⟩
  | some (_, _, _), h => by
    obtain ⟨dx, u, v, h1, _⟩ := EffAt.ex h
    exact ⟨dx, _, h1⟩
/-! ### peak, nothing -/
def spPeak (K : PySem.W.Frag) (C : Addr) : Sp := fun vs H Q _ => ∃ (e : Addr) (xs ys : List Str) (p : Int), vs = [.ref e] ∧ EffAt K C H e xs ys p ∧ Q (.int p) H
theorem scPk : FnScope ["self"] ["self"] (defScope sPeak) := ⟨rfl, rfl, rfl, by decide +kernel, rfl, by decide +kernel, by decide +kernel⟩
theorem ok_peak {f : Addr} {fd : FuncData} (F : Fun K "peak" "Effect.peak" sPeak f fd) (T : EC K mg C) : FnOk P w K mg base CX0 1 f fd ["self"] (spPeak K C) := by
  refine F.ok scPk (fun vs H Q E h => ?_) (fun cdv A outer s H vs Q E hr h => ?_)
  · obtain ⟨e, xs, ys, p, rfl, _⟩ := h
    rfl
  · obtain ⟨e, xs, ys, p, rfl, h, k⟩ := h
    obtain ⟨dx, u, v, h1, h2, h3⟩ := h.ex
    exact ⟨_, pss_one (ps_ret (pe_fld (pv 0) rfl)), _, rfl, e, C, dx, _, _, rfl, h1, T.cl, T.nH, eF_high _ _ _, k⟩
end
end SE
namespace SE
open PySem PySem.Spec PyProof.Rows L2
/-! ### effects one after the other: the mathematics' side -/
abbrev Prt := List Str × List Str × Int
def comp (A B : Prt) : Option Prt :=
  if A.2.1.take (min A.2.1.length B.1.length) = B.1.take (min A.2.1.length B.1.length) then
    some (A.1 ++ B.1.drop (min A.2.1.length B.1.length), B.2.1 ++ A.2.1.drop (min A.2.1.length B.1.length), if (A.2.1.length : Int) - (A.1.length : Int) + B.2.2 > A.2.2 then (A.2.1.length : Int) - (A.1.length : Int) + B.2.2 else A.2.2)
  else none
def joinF : Prt → List Prt → Eff
  | A, [] => some A
  | A, B :: r => match comp A B with
    | none => none
    | some D => joinF D r
def joinM (ps : List Prt) : Eff := joinF ([], [], 0) ps
def szP (ps : List Prt) : Nat := (ps.map fun B => B.1.length + B.2.1.length).sum
/-- a part that may be joined -/
structure PrtOk (B : Prt) : Prop where
  i1 : ∀ z ∈ B.1, Item z
  i2 : ∀ z ∈ B.2.1, Item z
  h0 : 0 ≤ B.2.2
  h1 : (B.2.1.length : Int) - (B.1.length : Int) ≤ B.2.2
theorem comp_ok {A B D : Prt} (hA : PrtOk A) (hB : PrtOk B) (h : comp A B = some D) : PrtOk D ∧ D.1.length + D.2.1.length ≤ A.1.length + A.2.1.length + (B.1.length + B.2.1.length) := by
  unfold comp at h
  split at h
  · cases h
    have q1 := hA.h0
    have q2 := hA.h1
    have q3 := hB.h1
    refine ⟨⟨fun z m => ?_, fun z m => ?_, ?_, ?_⟩, ?_⟩
    · rcases List.mem_append.mp m with q | q
      · exact hA.i1 z q
      · exact hB.i1 z (List.mem_of_mem_drop q)
    · rcases List.mem_append.mp m with q | q
      · exact hB.i2 z q
      · exact hA.i2 z (List.mem_of_mem_drop q)
    · dsimp only
      split <;> omega
    · dsimp only
      rw [List.length_append, List.length_append, List.length_drop, List.length_drop]
      have m1 := Nat.min_le_left A.2.1.length B.1.length
      have m2 := Nat.min_le_right A.2.1.length B.1.length
      generalize min A.2.1.length B.1.length = m at m1 m2 ⊢
      split <;> omega
    · show (A.1 ++ B.1.drop (min A.2.1.length B.1.length)).length + (B.2.1 ++ A.2.1.drop (min A.2.1.length B.1.length)).length ≤ _
      rw [List.length_append, List.length_append, List.length_drop, List.length_drop]
      omega
  · cases h
theorem PrtOk.lp {D : Prt} (h : PrtOk D) : lp D.1 D.2.1 ≤ D.2.2 := by
  have q1 := h.h0
  have q2 := h.h1
  unfold SE.lp
  split <;> omega
theorem cutF_to {α : Type} (f : α → V) (xs : List α) (j : Nat) : cutV (xs.map f) none (some (j : Int)) = (xs.take j).map f := by
  unfold cutV
  rw [List.length_map]
  have e1 : HT.sIx xs.length 0 none = 0 := rfl
  rw [e1, HT.sIx_nat, List.drop_zero, Nat.sub_zero, ← List.map_take]
  congr 1
  by_cases c : j ≤ xs.length
  · rw [Nat.min_eq_left c]
  · rw [Nat.min_eq_right (by omega), List.take_length, List.take_of_length_le (by omega)]
theorem cutF_from {α : Type} (f : α → V) (xs : List α) (j : Nat) : cutV (xs.map f) (some (j : Int)) none = (xs.drop j).map f := by
  unfold cutV
  rw [List.length_map]
  have e1 : HT.sIx xs.length xs.length none = xs.length := rfl
  rw [e1, HT.sIx_nat, ← List.map_drop, ← List.map_take]
  congr 1
  by_cases c : j ≤ xs.length
  · rw [Nat.min_eq_left c, List.take_of_length_le (by rw [List.length_drop]; exact Nat.le_refl _)]
  · rw [Nat.min_eq_right (by omega), List.drop_of_length_le (Nat.le_refl _), List.drop_of_length_le (by omega), List.take_nil]
theorem min_int (a b : Nat) : (if (b : Int) < (a : Int) then (b : Int) else (a : Int)) = ((min a b : Nat) : Int) := by
  split <;> omega
/-- a part as a tuple -/
def PrtV (K : PySem.W.Frag) (H : Hp) (v : V) (B : Prt) : Prop := ∃ t a b, v = .ref t ∧ SqT K H t [.ref a, .ref b, .int B.2.2] ∧ SqT K H a (B.1.map V.str) ∧ SqT K H b (B.2.1.map V.str)
theorem PrtV.same {K : PySem.W.Frag} {H H' : Hp} {v : V} {B : Prt} (h : PrtV K H v B) (s : Same H H') : PrtV K H' v B := by
  obtain ⟨t, a, b, e, h1, h2, h3⟩ := h
  exact ⟨t, a, b, e, Same.tup s h1, Same.tup s h2, Same.tup s h3⟩
section
variable {P : Program} {w : World} {K : PySem.W.Frag} {mg : Str → Option Value} {base : Heap} {C : Addr}
/-! ### joined -/
def spJoin (K : PySem.W.Frag) (C : Addr) : Sp := fun vs H Q _ => ∃ (a : Addr) (us : List V) (ps : List Prt), vs = [.ref a] ∧ SqL K H a us ∧ Paired (PrtV K H) us ps ∧ (∀ B ∈ ps, PrtOk B) ∧ szP ps ≤ 5000 ∧ ∀ (e : Addr) (H' : Hp), Same H H' → EffV K C H' e (joinM ps) → Q (.ref e) H'
theorem scJo : FnScope ["parts", "pops", "pushes", "peak", "needed", "left", "highest", "shared"] ["parts"] (defScope sJoined) := ⟨rfl, rfl, rfl, by decide +kernel, rfl, by decide +kernel, by decide +kernel⟩
theorem paired_at {α β : Type} {F : α → β → Prop} : ∀ {l₁ : List α} {l₂ : List β} {i : Nat} {x : α}, Paired F l₁ l₂ → l₁[i]? = some x → ∃ y, l₂[i]? = some y ∧ F x y
  | _, _, _, _, .nil, h => by simp at h
  | _, _, 0, _, .cons r _, h => ⟨_, rfl, by cases h; exact r⟩
  | _, _, i + 1, _, .cons _ t, h => by
    obtain ⟨y, h1, h2⟩ := paired_at t (i := i) h
    exact ⟨y, h1, h2⟩
theorem paired_len {α β : Type} {F : α → β → Prop} : ∀ {l₁ : List α} {l₂ : List β}, Paired F l₁ l₂ → l₁.length = l₂.length
  | _, _, .nil => rfl
  | _, _, .cons _ t => congrArg Nat.succ (paired_len t)
theorem has_join (D : Def K mg "joined" sJoined) (T : EC K mg C) (M : Makes P w K mg base C) (GN : NeverHas P w K mg base C) (B : Blt mg) (mx : mg "max" = none) (mn : mg "min" = none) : Has P w K mg base "joined" 7 ["parts"] [] (spJoin K C) := by
  refine has_of D scJo (fun _ _ _ _ _ _ us hl => match us, hl with | [_], _ => rfl) (fun xs H Q E h => ?_) (fun f cv A out s H xs Q E hr h => ?_)
  · obtain ⟨a, us, ps, rfl, _⟩ := h
    rfl
  · obtain ⟨a, us, ps, rfl, hS, hV, hO, hz, k⟩ := h
    have hr5 : Room 5 _ := hr.mono (by decide)
    refine ⟨_, pss_cons (ps_asg (pe_tup (pa_cons (pe_tup pa_nil) (pa_cons (pe_tup pa_nil) (pa_cons pe_int pa_nil)))) (pg_tup (by rfl) (pgs_cons (pg_name (i := 1) scJo.nd rfl (.inl rfl)) (pgs_cons (pg_name (i := 2) scJo.nd rfl (.inl rfl)) (pgs_cons (pg_name (i := 3) scJo.nd rfl (.inl rfl)) pgs_nil)))))
      (pss_cons (ps_for PassesOwn.never rfl (pi_list (pv 0)) (pg_tup (by rfl) (pgs_cons (pg_name (i := 4) scJo.nd rfl (.inl rfl)) (pgs_cons (pg_name (i := 5) scJo.nd rfl (.inl rfl)) (pgs_cons (pg_name (i := 6) scJo.nd rfl (.inl rfl)) pgs_nil))))
        (pss_cons (ps_set (i := 7) scJo.nd rfl (.inl rfl) (pe_callB (call_min2 rfl) (by rfl) mn (by decide +kernel) (pa_cons (pe_callB call_len_seq (by rfl) B.len PySem.boot_len (pa_cons (pv 2) pa_nil)) (pa_cons (pe_callB call_len_seq (by rfl) B.len PySem.boot_len (pa_cons (pv 4) pa_nil)) pa_nil))))
        (pss_cons (ps_if (pt_cut (pt_cmpR (op_neD hr.units) (pe_slice sl_tupS (pv 2) po_none (po_some (pv 7))) (pe_slice sl_tupS (pv 4) po_none (po_some (pv 7))) (nomark _))) (pss_one (ps_ret (pe_never0 GN T.mgE hr))) pss_nil)
        (pss_cons (ps_set (i := 3) scJo.nd rfl (.inl rfl) (pe_callB (call_max2 rfl) (by rfl) mx (by decide +kernel) (pa_cons (pv 3) (pa_cons (pe_op op_add (pe_op op_sub (pe_callB call_len_seq (by rfl) B.len PySem.boot_len (pa_cons (pv 2) pa_nil)) (pe_callB call_len_seq (by rfl) B.len PySem.boot_len (pa_cons (pv 1) pa_nil))) (pv 6)) pa_nil))))
        (pss_cons (ps_set (i := 1) scJo.nd rfl (.inl rfl) (pe_op op_catS (pv 1) (pe_slice sl_tupS (pv 4) (po_some (pv 7)) po_none)))
        (pss_one (ps_set (i := 2) scJo.nd rfl (.inl rfl) (pe_op op_catS (pv 5) (pe_slice sl_tupS (pv 2) (po_some (pv 7)) po_none)))))))))
      (pss_one (ps_ret (pe_effK M T.mgE hr5 (pa_cons (pv 1) (pa_cons (pv 2) pa_nil)) (pv 3))))), ?_⟩
    refine ⟨Nat.zero_le _, fun t1 ht1 => ⟨Nat.zero_le _, fun t2 ht2 => ?_⟩⟩
    have n12 : t1 ≠ t2 := ne_of_none upd_same ht2
    have s0 : Same H (upd (upd H t1 (.tup [])) t2 (.tup [])) := Same.free2 (Same.new ht1) ((Same.new ht1).free ht2)
    have shp : ∀ {zs : List Str}, (∀ z ∈ zs, Item z) → SeqAt.shaped (.tuple (zs.map PyData.str)) = true := fun {zs} q => (nice_tuple (nice_strs q)).shaped (by decide)
    refine ⟨(by show 3 ≤ sizeLine; decide), fun t3 ht3 => ⟨t3, _, rfl, .of upd_same, rfl, _, _, rfl, _, _, rfl, _, _, rfl, rfl, ?_⟩⟩
    have s00 := Same.new (o := .tup [.ref t1, .ref t2, .int 0]) ht3
    generalize upd (upd (upd H t1 (.tup [])) t2 (.tup [])) t3 (.tup [.ref t1, .ref t2, .int 0]) = H1 at s00 ⊢
    have w1 : SqT K H1 t1 (([] : List Str).map V.str) := Same.tup s00 (.of (by rw [upd_ne n12]; exact upd_same))
    have w2 : SqT K H1 t2 (([] : List Str).map V.str) := Same.tup s00 (.of upd_same)
    replace s0 := s0.trans s00
    refine ⟨_, rfl, a, rfl, ⟨_, Same.seq s0 hS⟩, for_list (K := K) (a := a) (xs := us) (fun i σ H2 => ∃ (u v : Addr) (A : Prt) (y4 y5 y6 y7 : Option V), σ = [some (.ref a), some (.ref u), some (.ref v), some (.int A.2.2), y4, y5, y6, y7] ∧ Same H H2 ∧ SqT K H2 u (A.1.map V.str) ∧ SqT K H2 v (A.2.1.map V.str) ∧ PrtOk A ∧ joinM ps = joinF A (ps.drop i) ∧ A.1.length + A.2.1.length + szP (ps.drop i) ≤ 5000)
      ⟨t1, t2, ([], [], 0), none, none, none, none, rfl, s0, w1, w2, ⟨fun z m => (by cases m), fun z m => (by cases m), Int.le_refl _, Int.le_refl _⟩, rfl, by rw [List.drop_zero]; show 0 + 0 + szP ps ≤ 5000; omega⟩ (fun i σ H2 _ q => ?_) ?_ ?_⟩
    · obtain ⟨_, _, _, _, _, _, _, _, s2, _⟩ := q
      exact Same.seq s2 hS
    · rintro i x σ H2 hx ⟨u, v, A, y4, y5, y6, y7, rfl, s2, hu, hv, oA, hj, hsz⟩
      obtain ⟨Bp, hB, hP⟩ := paired_at hV hx
      obtain ⟨t, p1, p2, rfl, q1, q2, q3⟩ := hP.same s2
      have oB := hO Bp (List.mem_of_getElem? hB)
      have hd : ps.drop i = Bp :: ps.drop (i + 1) := by
        obtain ⟨hl, he⟩ := List.getElem?_eq_some_iff.mp hB
        rw [List.drop_eq_getElem_cons hl, he]
      have hsz2 : A.1.length + A.2.1.length + (Bp.1.length + Bp.2.1.length) + szP (ps.drop (i + 1)) ≤ 5000 := by
        rw [hd] at hsz
        have e : szP (Bp :: ps.drop (i + 1)) = Bp.1.length + Bp.2.1.length + szP (ps.drop (i + 1)) := by
          unfold szP
          rw [List.map_cons, List.sum_cons]
        omega
      refine ⟨t, _, rfl, q1, rfl, _, _, rfl, _, _, rfl, _, _, rfl, rfl, ?_⟩
      refine ⟨_, rfl, v, _, rfl, .inr hv, _, rfl, p1, _, rfl, .inr q2, _, _, rfl, ?_⟩
      rw [List.length_map, List.length_map, min_int]
      -- do they fit
      refine ⟨fun b H3 => b = !decide (A.2.1.take (min A.2.1.length Bp.1.length) = Bp.1.take (min A.2.1.length Bp.1.length)) ∧ Same H2 H3, ?_, ?_⟩
      · refine ⟨_, rfl, _, rfl, _, rfl, v, _, rfl, hv, fun c1 H3 s3 hc1 => ⟨_, rfl, _, rfl, _, rfl, p1, _, rfl, Same.tup s3 q2, fun c2 H4 s4 hc2 => ?_⟩⟩
        rw [cutF_to] at hc1 hc2
        refine ⟨.tuple ((A.2.1.take (min A.2.1.length Bp.1.length)).map .str), .tuple ((Bp.1.take (min A.2.1.length Bp.1.length)).map .str), .tup (Same.tup s4 hc1) (dp_strs _), .tup hc2 (dp_strs _), shp (fun z m => oA.i2 z (List.mem_of_mem_take m)), shp (fun z m => oB.i1 z (List.mem_of_mem_take m)), _, rfl, ?_, s3.trans s4⟩
        rw [eqv_tupS]
      rintro b H3 ⟨rfl, s3⟩
      have s23 := s2.trans s3
      by_cases c : A.2.1.take (min A.2.1.length Bp.1.length) = Bp.1.take (min A.2.1.length Bp.1.length)
      rotate_left
      · rw [decide_eq_false c]
        refine iteT ⟨rfl, rfl, fun e H4 s4 he => k e H4 (s23.trans s4) ?_⟩
        have ej : joinM ps = none := by
          rw [hj, hd]
          unfold joinF comp
          rw [if_neg c]
        rw [ej]
        exact he
      rw [decide_eq_true c]
      refine iteF ?_
      refine ⟨_, rfl, _, rfl, v, _, rfl, .inr (Same.tup s3 hv), _, rfl, u, _, rfl, .inr (Same.tup s3 hu), _, _, rfl, rfl, _, rfl, _, _, rfl, rfl, _, _, rfl, ?_⟩
      rw [List.length_map, List.length_map]
      refine ⟨_, rfl, _, rfl, _, rfl, _, rfl, p1, _, rfl, Same.tup s3 q2, fun c1 H4 s4 hc1 => ?_⟩
      rw [cutF_from] at hc1
      refine ⟨u, c1, _, _, rfl, rfl, Same.tup (s3.trans s4) hu, hc1, ?_, fun u2 H5 s5 hu2 => ?_⟩
      · rw [List.length_map, List.length_map, List.length_drop, sizeLine_eq]
        omega
      have s35 := (s3.trans s4).trans s5
      refine ⟨_, rfl, _, rfl, _, rfl, _, rfl, v, _, rfl, Same.tup s35 hv, fun c2 H6 s6 hc2 => ?_⟩
      rw [cutF_from] at hc2
      refine ⟨p2, c2, _, _, rfl, rfl, Same.tup (s35.trans s6) q3, hc2, ?_, fun v2 H7 s7 hv2 => ?_⟩
      · rw [List.length_map, List.length_map, List.length_drop, sizeLine_eq]
        omega
      obtain ⟨Dp, hD⟩ : ∃ Dp, comp A Bp = some Dp := by
        unfold comp
        rw [if_pos c]
        exact ⟨_, rfl⟩
      have oD := comp_ok oA oB hD
      have e1 : Dp.1 = A.1 ++ Bp.1.drop (min A.2.1.length Bp.1.length) ∧ Dp.2.1 = Bp.2.1 ++ A.2.1.drop (min A.2.1.length Bp.1.length) ∧ Dp.2.2 = if (A.2.1.length : Int) - (A.1.length : Int) + Bp.2.2 > A.2.2 then (A.2.1.length : Int) - (A.1.length : Int) + Bp.2.2 else A.2.2 := by
        unfold comp at hD
        rw [if_pos c] at hD
        cases hD
        exact ⟨rfl, rfl, rfl⟩
      rw [← List.map_append, ← e1.1] at hu2
      rw [← List.map_append, ← e1.2.1] at hv2
      refine ⟨u2, v2, Dp, some (.ref p1), some (.ref p2), some (.int Bp.2.2), some (.int ((min A.2.1.length Bp.1.length : Nat) : Int)), ?_, s2.trans ((s35.trans s6).trans s7), Same.tup (s6.trans s7) hu2, hv2, oD.1, ?_, ?_⟩
      · rw [e1.2.2]
        rfl
      · rw [hj, hd]
        conv => lhs; unfold joinF
        rw [hD]
      · have := oD.2
        omega
    · rintro σ H2 ⟨u, v, A, y4, y5, y6, y7, rfl, s2, hu, hv, oA, hj, hsz⟩
      rw [paired_len hV, List.drop_length] at hj
      refine ⟨_, rfl, _, rfl, _, rfl, u, v, A.1, A.2.1, some A.2.2, rfl, rfl, hu, hv, by omega, by omega, oA.i1, oA.i2, fun p z => ?_, fun e H3 s3 _ he => ?_⟩
      · cases z
        exact oA.lp
      · refine k e H3 (s2.trans s3) ?_
        rw [hj]
        exact he
end
end SE
namespace SE
open PySem PySem.Spec PyProof.Rows L2
/-! ### effect_of -/
def partM (s : Stp) : Prt := if s.1 = true then ([], [s.2], 1) else ([s.2], [], 0)
def effM (ss : List Stp) : Eff := joinM (ss.map partM)
theorem partM_ok {s : Stp} (h : Item s.2) : PrtOk (partM s) := by
  unfold partM
  split
  · exact ⟨fun z m => (by cases m), fun z m => (by rw [List.mem_singleton.mp m]; exact h), (by show (0 : Int) ≤ 1; decide), (by show ((1 : Nat) : Int) - ((0 : Nat) : Int) ≤ 1; decide)⟩
  · exact ⟨fun z m => (by rw [List.mem_singleton.mp m]; exact h), fun z m => (by cases m), (by show (0 : Int) ≤ 0; decide), (by show ((0 : Nat) : Int) - ((1 : Nat) : Int) ≤ 0; decide)⟩
theorem szP_steps : ∀ ss : List Stp, szP (ss.map partM) = ss.length
  | [] => rfl
  | s :: ss => by
    have ih := szP_steps ss
    unfold szP at ih ⊢
    rw [List.map_cons, List.map_cons, List.sum_cons, ih, List.length_cons]
    unfold partM
    split
    · show 0 + 1 + ss.length = _
      omega
    · show 1 + 0 + ss.length = _
      omega
theorem tup_updL {K : PySem.W.Frag} {H : Hp} {D t : Addr} {xs us : List V} {o : HO} (hD : H D = some (.lst us)) (h : SqT K H t xs) : SqT K (upd H D o) t xs := by
  rcases h with (h | ⟨p, h⟩) | h
  · exact .inl (.inl (by rw [upd_ne (ne_of h hD (by intro z; cases z))]; exact h))
  · exact .inl (.inr ⟨p, by rw [upd_ne (ne_of h hD (by intro z; cases z))]; exact h⟩)
  · exact .inr h
theorem PrtV.updL {K : PySem.W.Frag} {H : Hp} {D : Addr} {us : List V} {v : V} {B : Prt} {o : HO} (hD : H D = some (.lst us)) (h : PrtV K H v B) : PrtV K (upd H D o) v B := by
  obtain ⟨t, a, b, e, h1, h2, h3⟩ := h
  exact ⟨t, a, b, e, tup_updL hD h1, tup_updL hD h2, tup_updL hD h3⟩
theorem Paired.snoc2 {α β : Type} {F : α → β → Prop} : ∀ {l₁ : List α} {l₂ : List β} {x : α} {y : β}, Paired F l₁ l₂ → F x y → Paired F (l₁ ++ [x]) (l₂ ++ [y])
  | _, _, _, _, .nil, h => .cons h .nil
  | _, _, _, _, .cons r t, h => .cons r (Paired.snoc2 t h)
section
variable {P : Program} {w : World} {K : PySem.W.Frag} {mg : Str → Option Value} {base : Heap} {C : Addr}
def spPart (K : PySem.W.Frag) : Sp := fun vs H Q _ => ∃ (v : V) (s : Stp), vs = [v] ∧ StepV K H v s ∧ ∀ (u : V) (H' : Hp), Same H H' → PrtV K H' u (partM s) → Q u H'
theorem scPt : FnScope ["step", "action", "item"] ["step"] (defScope sPartsOfStep) := ⟨rfl, rfl, rfl, by decide +kernel, rfl, by decide +kernel, by decide +kernel⟩
theorem has_part (D : Def K mg "parts_of_step" sPartsOfStep) : Has P w K mg base "parts_of_step" 1 ["step"] [] (spPart K) := by
  refine has_of D scPt (fun _ _ _ _ _ _ us hl => match us, hl with | [_], _ => rfl) (fun xs H Q E h => ?_) (fun f cv A out s H xs Q E hr h => ?_)
  · obtain ⟨v, st, rfl, _⟩ := h
    rfl
  · obtain ⟨v, st, rfl, ⟨t, rfl, hT⟩, k⟩ := h
    refine ⟨_, pss_cons (ps_asg (pv 0) (pg_tup (by rfl) (pgs_cons (pg_name (i := 1) scPt.nd rfl (.inl rfl)) (pgs_cons (pg_name (i := 2) scPt.nd rfl (.inl rfl)) pgs_nil))))
      (pss_one (ps_ret (pe_ifExp (pt_cmpR op_eq (pv 1) pe_str (nomark _)) (pe_tup (pa_cons (pe_tup pa_nil) (pa_cons (pe_tup (pa_cons (pv 2) pa_nil)) (pa_cons pe_int pa_nil)))) (pe_tup (pa_cons (pe_tup (pa_cons (pv 2) pa_nil)) (pa_cons (pe_tup pa_nil) (pa_cons pe_int pa_nil))))))), ?_⟩
    refine ⟨_, rfl, t, _, rfl, hT, rfl, _, _, rfl, _, _, rfl, rfl, ?_⟩
    obtain ⟨b, z⟩ := st
    cases b with
    | true =>
      refine ⟨_, rfl, rfl, true, congrArg V.bl (decide_eq_true (show V.str (act true) = V.str "push" from rfl)), iteT ?_⟩
      refine ⟨Nat.zero_le _, fun a ha => ⟨_, rfl, (by show 1 ≤ sizeLine; decide), fun c hc => ⟨(by show 3 ≤ sizeLine; decide), fun q hq => ?_⟩⟩⟩
      have nac : a ≠ c := ne_of_none upd_same hc
      have naq : a ≠ q := ne_of_none (by rw [upd_ne nac]; exact upd_same) hq
      have ncq : c ≠ q := ne_of_none upd_same hq
      refine k (.ref q) _ ?_ ⟨q, a, c, rfl, .of upd_same, .of ?_, .of ?_⟩
      · exact Same.free2 (Same.free2 (Same.new ha) ((Same.new ha).free hc)) ((Same.free2 (Same.new ha) ((Same.new ha).free hc)).free hq)
      · rw [upd_ne naq, upd_ne nac]
        exact upd_same
      · rw [upd_ne ncq]
        exact upd_same
    | false =>
      refine ⟨_, rfl, rfl, false, congrArg V.bl (decide_eq_false (fun y => absurd (V.str.inj (show V.str (act false) = V.str "push" from y)) (by decide +kernel))), iteF ?_⟩
      refine ⟨_, rfl, (by show 1 ≤ sizeLine; decide), fun a ha => ⟨Nat.zero_le _, fun c hc => ⟨(by show 3 ≤ sizeLine; decide), fun q hq => ?_⟩⟩⟩
      have nac : a ≠ c := ne_of_none upd_same hc
      have naq : a ≠ q := ne_of_none (by rw [upd_ne nac]; exact upd_same) hq
      have ncq : c ≠ q := ne_of_none upd_same hq
      refine k (.ref q) _ ?_ ⟨q, a, c, rfl, .of upd_same, .of ?_, .of ?_⟩
      · exact Same.free2 (Same.free2 (Same.new ha) ((Same.new ha).free hc)) ((Same.free2 (Same.new ha) ((Same.new ha).free hc)).free hq)
      · rw [upd_ne naq, upd_ne nac]
        exact upd_same
      · rw [upd_ne ncq]
        exact upd_same
def spEffOf (K : PySem.W.Frag) (C : Addr) : Sp := fun vs H Q _ => ∃ (a : Addr) (ys : List V) (ss : List Stp), vs = [.ref a] ∧ SqL K H a ys ∧ ys.length ≤ 1000 ∧ StepsV K H ys ss ∧ (∀ s ∈ ss, Item s.2) ∧ ∀ (e : Addr) (H' : Hp), Same H H' → EffV K C H' e (effM ss) → Q (.ref e) H'
theorem scEo : FnScope ["steps", "step"] ["steps"] (defScope sEffectOf) := ⟨rfl, rfl, rfl, by decide +kernel, rfl, by decide +kernel, by decide +kernel⟩
theorem has_effOf (D : Def K mg "effect_of" sEffectOf) (GC : Has P w K mg base "check_steps" 3 ["steps"] [] (spChkSteps K)) (GP : Has P w K mg base "parts_of_step" 1 ["step"] [] (spPart K)) (GJ : Has P w K mg base "joined" 7 ["parts"] [] (spJoin K C)) :
    Has P w K mg base "effect_of" 8 ["steps"] [] (spEffOf K C) := by
  refine has_of D scEo (fun _ _ _ _ _ _ us hl => match us, hl with | [_], _ => rfl) (fun xs H Q E h => ?_) (fun f cv A out s H xs Q E hr h => ?_)
  · obtain ⟨a, ys, ss, rfl, _⟩ := h
    rfl
  · obtain ⟨a, ys, ss, rfl, hS, hl, hV, hI, k⟩ := h
    have hr1 : Room 1 _ := hr.mono (by decide)
    have hr3 : Room 3 _ := hr.mono (by decide)
    have hln : ys.length = ss.length := hV.length
    refine ⟨_, pss_cons (ps_expr (pe_has GC hr3 (pa_cons (pv 0) pa_nil))) (pss_one (ps_ret (pe_has GJ hr (pa_cons
      (pe_lc (own := [("step", 1)]) (g := gName 1) (tt := tYes) (te := tCall (spPart K) [] E0 (tCons (tVar 1) tNil)) rfl scEo.nd (pi_list (pv 0)) (blkOk_by (own := [("step", 1)]) (N := ["steps", "step"]) (sc := defScope sEffectOf) (by decide +kernel))
        (fun _ _ _ _ _ => pg_name (i := 1) scEo.nd rfl (.inl rfl)) (fun _ _ _ _ _ => pts_nil) (fun _ _ _ _ _ => pe_has GP hr1 (pa_cons (pv 1) pa_nil))) pa_nil)))), ?_⟩
    refine ⟨_, rfl, a, ys, ss, rfl, .inl hS, hl, hV, hI, fun H1 s1 => ?_⟩
    refine ⟨_, rfl, a, rfl, ⟨_, Same.seq s1 hS⟩, fun D hD => lc_list (K := K) (a := a) (xs := ys) (fun j H2 => ∃ us, H2 D = some (.lst us) ∧ Paired (PrtV K H2) us ((ss.take j).map partM) ∧ Same H1 H2) ⟨[], upd_same, .nil, Same.new hD⟩ (fun j H2 _ q => ?_) ?_ ?_⟩
    · obtain ⟨_, _, _, s2⟩ := q
      exact Same.seq (s1.trans s2) hS
    · rintro j x H2 hx ⟨us, hu, hP, s2⟩
      obtain ⟨st, h1, h2⟩ := StepsV.at hV hx
      refine ⟨rfl, yes_in ⟨_, rfl, x, st, rfl, h2.same (s1.trans s2), fun u H3 s3 hp => ⟨us, s3 _ _ hu, ?_, us ++ [u], upd_same, ?_, ?_⟩⟩⟩
      · have l2 := paired_len hP
        rw [List.length_map, List.length_take] at l2
        rw [sizeLine_eq]
        omega
      · have e1 : (ss.take (j + 1)).map partM = (ss.take j).map partM ++ [partM st] := by
          rw [List.take_add_one, h1, List.map_append]
          rfl
        rw [e1]
        have hu3 := s3 _ _ hu
        exact Paired.snoc2 (Paired.mapP hP fun v B q => (q.same s3).updL hu3) (hp.updL hu3)
      · exact Same.free2 (s2.trans s3) hD
    · rintro H2 ⟨us, hu, hP, s2⟩
      rw [hln, List.take_length] at hP
      refine ⟨D, us, ss.map partM, rfl, .of hu, hP, fun Bp m => ?_, ?_, fun e H3 s3 he => k e H3 ((s1.trans s2).trans s3) he⟩
      · obtain ⟨st, ms, rfl⟩ := List.mem_map.mp m
        exact partM_ok (hI st ms)
      · rw [szP_steps]
        omega
end
end SE
/-! == and != by an own __eq__, whatever it answers; repr by an own __repr__. -/
namespace SE
open PySem PySem.Spec PyProof.Rows L2
section
variable {prog : Program} {w : World} {A : Around} {E : Value → Shared → Prop} {s : Shared} {K : PySem.W.Frag} {x y C f : Addr} {ox oy : Obj} {od oe : Option Obj} {Q : Value → Shared → Prop}
/-- a special method that is a built-in's slot -/
theorem bound_slot {M : Model} {name : Str} {id : String} {args : List Value} {R : Option Value → Shared → Prop} (X : K.In s.heap) (I : PySem.W.InstAt s.heap x ox C od) (hs : PySem.W.findIn K (.ref C) name = some (some (.builtin id)))
    (hb : ∀ v, bindSpecial (.builtin id) v = pure (.builtin id, [v])) (h : wpAny M A (call (.builtin id) (.ref x :: args)) (fun v => R (some v)) E s) : wpAny M A (callSpecialIfBound? (.ref x) name args) R E s := by
  simp only [callSpecialIfBound?, bindSpecialIfBound?]
  refine wpAny_holding (wpAny_bind (wpAny_bind (wpAny_bind (I.type.here ((PySem.W.looks_findIn X hs).here (wpAny_bind (wpAny_askSetting (wpAny_ite ?_))))))))
  have last : wpAny M A (call (.builtin id) ([.ref x] ++ args) >>= fun v => pure (some v)) R E s := wpAny_bind (wpAny_mono h (fun v s2 z => wpAny_pure z) fun _ _ z => z)
  split
  · exact wpAny_bind ((PySem.W.Looks.of_pure (hb _)).here (wpAny_pure (by exact last)))
  · exact wpAny_tryCatch (wpAny_bind ((PySem.W.Looks.of_pure (hb _)).here (wpAny_pure (by exact last))))
open Builtin in
theorem ne_call {v : Value} (hu : A.in1.units < cLine) (X : K.In s.heap) (I : PySem.W.InstAt s.heap x ox C od) (hm : PySem.W.mroIn K C (.type "object") = some true) (hs : PySem.W.findIn K (.ref C) "__eq__" = some (some (.ref f))) (hf : PySem.W.isFn K (.ref f) = true)
    (h : wpAny (model prog w) A.in1 (call (.ref f) [.ref x, v]) (fun r s2 => ∃ b, r = .bool b ∧ Q (.bool (!b)) s2) E s) : wpAny (model prog w) A (call (.builtin "object.__ne__") [.ref x, v]) Q E s := by
  refine wpAny_call (codeAny_call_builtin PySem.F.cmp_object.ne.plain PySem.F.cmpEntry_ne (PySem.W.check_slot PySem.F.cmpKind_ne PySem.F.cmpSplit_ne (I.type.andThen (PySem.W.looks_mroIn X hm)) (PySem.F.cmpArgs_ne _ _) ?_))
  unfold Builtin.«object.__ne__»
  refine wpAny_bind (m := slotArgs "__ne__" 1 _) (wpAny_pure ?_)
  refine wpAny_bind (m := cRoomFor _ _) (wpAny_cRoomFor hu ?_)
  refine wpAny_bind (m := callSpecialIfBound? (.ref x) (Str.ofString "__eq__") _) (PySem.W.ifBound_K X I hs hf (wpAny_mono h (fun r s2 z => ?_) fun _ _ z => z))
  obtain ⟨b, rfl, q⟩ := z
  exact wpAny_bind (wpAny_truthy_bool (wpAny_pure q))
theorem ne_inst (hu : A.units + 1 < cLine) (X : K.In s.heap) (I : PySem.W.InstAt s.heap x ox C od) (J : PySem.W.InstAt s.heap y oy C oe) (hm : PySem.W.mroIn K C (.type "object") = some true)
    (hn : PySem.W.findIn K (.ref C) "__ne__" = some (some (.builtin "object.__ne__"))) (hs : PySem.W.findIn K (.ref C) "__eq__" = some (some (.ref f))) (hf : PySem.W.isFn K (.ref f) = true)
    (h : wpAny (model prog w) A.in1 (call (.ref f) [.ref x, .ref y]) (fun r s2 => ∃ b, r = .bool b ∧ Q (.bool (!b)) s2) E s) : wpAny (model prog w) A (richCompare .NotEq (.ref x) (.ref y)) Q E s := by
  have one : wpAny (model prog w) A (tryCompare (.ref x) (cmpInfo .NotEq).2.1 (.ref y)) (fun r s2 => ∃ v, r = some v ∧ Q v s2) E s := by
    unfold tryCompare
    refine wpAny_bind (bound_slot X I hn PySem.F.cmp_object.ne.bind (ne_call hu X I hm hs hf (wpAny_mono h (fun v s2 z => ?_) fun _ _ z => z)))
    obtain ⟨b, rfl, q⟩ := z
    exact ⟨b, rfl, wpAny_pure ⟨_, rfl, q⟩⟩
  unfold richCompare
  simp only [oneThing_ref]
  refine wpAny_holding (wpAny_bind (wpAny_cRoomFor (Nat.lt_of_succ_lt hu) (wpAny_bind (I.type.here (wpAny_bind (J.type.here ?_))))))
  rw [show (Value.ref C != Value.ref C) = false by simp]
  simp only [Bool.false_eq_true, if_false]
  refine wpAny_bind (wpAny_pure ?_)
  simp only [Bool.false_eq_true, if_false]
  refine wpAny_bind (wpAny_mono one (fun r s2 z => ?_) fun _ _ z => z)
  obtain ⟨v, rfl, q⟩ := z
  exact wpAny_pure q
end
/-! ### the rules -/
/-- what an own == promises -/
def spEqB (R : Addr → Addr → Bool → Hp → Prop) : Sp := fun vs H Q _ => ∃ (a b : Addr) (c : Bool), vs = [.ref a, .ref b] ∧ R a b c H ∧ ∀ H', Same H H' → Q (.bl c) H'
def rCmp (C : Addr) (R : Addr → Addr → Bool → Hp → Prop) (neg : Bool) : R2 := fun x y H Q => ∃ (a b : Addr) (c : Bool) (dx dy : Addr) (fs gs : List (Str × V)), x = .ref a ∧ y = .ref b ∧ H a = some (.ins C dx fs) ∧ H b = some (.ins C dy gs) ∧ R a b c H ∧ ∀ H', Same H H' → Q (.bl (c != neg)) H'
section
variable {X : Cx} {n : Nat} {C f : Addr} {fd : FuncData} {ps : List Str} {R : Addr → Addr → Bool → Hp → Prop}
theorem op_eqE (F : FnOk X.prog X.w X.K X.mg X.base CX0 n f fd ps (spEqB R)) (hs : PySem.W.findIn X.K (.ref C) "__eq__" = some (some (.ref f))) (hf : PySem.W.isFn X.K (.ref f) = true) (hb : Binds X.K fd ps []) (hr : Room n X.A) : OpR X (compareOp .Eq) (rCmp C R false) := by
  intro pins s σ H x y u v Q I rx ry hq
  obtain ⟨a, b, c, dx, dy, fs, gs, rfl, rfl, ha, hb2, hR, k⟩ := hq
  cases rx
  cases ry
  obtain ⟨mA, J, _⟩ := ins_get I.hok ha
  obtain ⟨mB, J2, _⟩ := ins_get I.hok hb2
  obtain ⟨od, J, _⟩ := J.look
  obtain ⟨oe, J2, _⟩ := J2.look
  obtain ⟨m, hF⟩ := I.fr
  show wpAny (model X.prog X.w) X.A (richCompare .Eq (.ref a) (.ref b)) (EP X pins σ Q) X.xe s
  refine PySem.W.cmp_K (op := .Eq) (tb := .ref C) hr.units0 hF I.ok.mod.kin J J2.type (by simp [PySem.W.notFirst]) hs hf ?_
  have hsp : spEqB R [.ref a, .ref b] H (fun z H' => z = .bl c ∧ Same H H') (fun _ _ _ => False) := ⟨a, b, c, rfl, hR, fun H' e => ⟨rfl, e⟩⟩
  have hl := F.len _ _ _ _ hsp
  refine wpAny_call (codeAny_mono (F.run X.A X.stack s H ⟨[.ref a, .ref b], []⟩ [.ref a, .ref b] [.ref a, .ref b] _ _ hr I.env0 (by simpa using hb s [.ref a, .ref b] I.kIn (by simpa using hl)) (.cons rfl (.cons rfl .nil)) hsp) fun r s2 hq => ?_)
  cases r with
  | error e => exact hq.elim
  | ok fl =>
    cases fl with
    | ret z =>
      obtain ⟨y, H2, I2, rz, ez, ex⟩ := I.after hq
      subst ez
      cases rz
      refine ⟨.bl c, H2, I2, rfl, ?_⟩
      have q := k H2 ex
      rw [show (c != false) = c by cases c <;> rfl] at q
      exact q
    | next => exact hq.elim
    | brk => exact hq.elim
    | cont => exact hq.elim
theorem op_neE (F : FnOk X.prog X.w X.K X.mg X.base CX0 n f fd ps (spEqB R)) (hs : PySem.W.findIn X.K (.ref C) "__eq__" = some (some (.ref f))) (hf : PySem.W.isFn X.K (.ref f) = true) (hb : Binds X.K fd ps []) (hm : PySem.W.mroIn X.K C (.type "object") = some true)
    (hn : PySem.W.findIn X.K (.ref C) "__ne__" = some (some (.builtin "object.__ne__"))) (hr : Room (n + 1) X.A) : OpR X (compareOp .NotEq) (rCmp C R true) := by
  intro pins s σ H x y u v Q I rx ry hq
  obtain ⟨a, b, c, dx, dy, fs, gs, rfl, rfl, ha, hb2, hR, k⟩ := hq
  cases rx
  cases ry
  obtain ⟨mA, J, _⟩ := ins_get I.hok ha
  obtain ⟨mB, J2, _⟩ := ins_get I.hok hb2
  obtain ⟨od, J, _⟩ := J.look
  obtain ⟨oe, J2, _⟩ := J2.look
  show wpAny (model X.prog X.w) X.A (richCompare .NotEq (.ref a) (.ref b)) (EP X pins σ Q) X.xe s
  refine ne_inst (by have := hr.in1.units0; exact this) I.kIn J J2 hm hn hs hf ?_
  have hsp : spEqB R [.ref a, .ref b] H (fun z H' => z = .bl c ∧ Same H H') (fun _ _ _ => False) := ⟨a, b, c, rfl, hR, fun H' e => ⟨rfl, e⟩⟩
  have hl := F.len _ _ _ _ hsp
  refine wpAny_call (codeAny_mono (F.run X.A.in1 X.stack s H ⟨[.ref a, .ref b], []⟩ [.ref a, .ref b] [.ref a, .ref b] _ _ hr.in1 I.env0.in1 (by simpa using hb s [.ref a, .ref b] I.kIn (by simpa using hl)) (.cons rfl (.cons rfl .nil)) hsp) fun r s2 hq => ?_)
  cases r with
  | error e => exact hq.elim
  | ok fl =>
    cases fl with
    | ret z =>
      obtain ⟨y, H2, I2, rz, ez, ex⟩ := I.after hq
      subst ez
      cases rz
      refine ⟨c, rfl, .bl (!c), H2, I2, rfl, ?_⟩
      have q := k H2 ex
      rw [show (c != true) = !c by cases c <;> rfl] at q
      exact q
    | next => exact hq.elim
    | brk => exact hq.elim
    | cont => exact hq.elim
/-- repr(o), an own __repr__ -/
theorem call_reprE {sp : Sp} (F : GOk X.prog X.w X.K X.mg X.base n f fd ["self"] sp) (hs : PySem.W.findIn X.K (.ref C) "__repr__" = some (some (.ref f))) (hf : PySem.W.isFn X.K (.ref f) = true) (hb : Binds X.K fd ["self"] []) (hgu : X.A.guards = some []) (hr : Room (n + 1) X.A) :
    CallR X (.builtin "repr") (fun xs H Q => ∃ (a dx : Addr) (fs : List (Str × V)), xs = [.ref a] ∧ H a = some (.ins C dx fs) ∧ sp [.ref a] H (fun v H' => ∃ z, v = .str z ∧ Q (.str z) H') (fun _ _ _ => False)) := by
  intro pins s σ H xs us Q I r h
  obtain ⟨a, dx, fs, rfl, ha, hsp⟩ := h
  cases r with
  | cons r1 r2 =>
    cases r2
    cases r1
    obtain ⟨mA, J, _⟩ := ins_get I.hok ha
    obtain ⟨od, J, _⟩ := J.look
    obtain ⟨m, hF⟩ := I.fr
    refine PySem.W.repr_K hr.in1.units0 hF I.ok.mod.kin J hs hf ?_
    refine wpAny_call (codeAny_mono (F.run X.A.in1 X.stack s H ⟨[.ref a], []⟩ [.ref a] [.ref a] _ _ hgu hr.in1 I.env0.in1 (by simpa using hb s [.ref a] I.kIn rfl) (.cons rfl .nil) hsp) fun r s2 hq => ?_)
    cases r with
    | error e => exact hq.elim
    | ok fl =>
      cases fl with
      | ret z =>
        obtain ⟨y, H2, I2, rz, t, ez, q⟩ := I.after hq
        subst ez
        obtain ⟨tk, rfl⟩ := rz
        exact ⟨.str t, H2, I2, ⟨_, rfl⟩, q⟩
      | next => exact hq.elim
      | brk => exact hq.elim
      | cont => exact hq.elim
/-- {x!r}, x plain data -/
def tFmtT (K : PySem.W.Frag) (te : TE) : TE := fun σ H Q => te σ H fun x H1 => ∃ (a : Addr) (d : PyData), x = .ref a ∧ Dp K H1 x d ∧ d.showable = true ∧ d.hasDict = false ∧ d.depth ≤ 20 ∧ d.shown.length ≤ sizeLine ∧ Q (.str d.shown) H1
theorem pe_fmtT {e : Expr} {te : TE} {pos : Pos} (hgu : X.A.guards = some []) (hu : X.A.units + 64 < cLine) (he : PE X e te) : PE X (.FormattedValue e 114 none pos) (tFmtT X.K te) := by
  constructor
  intro pins s σ H Q I h
  refine wpAny_FormattedValue_repr (thn (he.run pins s σ H _ I h) fun v s1 hv => ?_)
  obtain ⟨x, H1, I1, r1, a, d, rfl, hd, hs, hn, hdep, hz, q⟩ := hv
  cases r1
  obtain ⟨as, rd⟩ := Dp.reads I1 d (.ref a) (.ref a) hd rfl
  refine pyReprObj_of_reads rd hs (PyData.noDict_hsm hn) hgu (by omega) (fun _ _ z => z) (fun h2 u tk keep => ?_) hz
  have I2 := I1.kept (t' := tk) keep
  exact wpAny_formatField_str ⟨.str d.shown, H1, I2, ⟨u, rfl⟩, q⟩ ⟨.str d.shown, H1, I2.tok _, ⟨_, rfl⟩, q⟩ hz
end
theorem Nice.shownLe {k B : Nat} {d : PyData} (h : Nice k B d) : d.shown.length ≤ 15 * B + 13 := by
  have q := PyData.shown_le 13 (by decide) d (PyData.leavesShort_of_canLay0 13 d h.lay h.ish)
  have := h.wt
  omega
end SE
namespace SE
open PySem PySem.Spec PyProof.Rows L2
abbrev sEq : Stmt := inClass sEffect 13
abbrev sRepr : Stmt := inClass sEffect 14
/-- what isinstance asks of the class -/
structure EI (K : PySem.W.Frag) (C : Addr) : Prop where
  ha : PySem.W.findIn K (.ref C) "__class__" = some (some (.builtin "object.__class__"))
  hn : PySem.W.specialIn K (.builtin "object.__class__") "__get__" = some (some (.builtin "getset_descriptor.__get__"))
  ht : PySem.W.takesIn K (.builtin "object.__class__") = some true
  hm : PySem.W.mroIn K C (.type "object") = some true
  ki : PySem.W.kitOne K (.ref C) (.ref C) = some true
/-- the parts of an effect as data -/
def dN : Eff → PyData
  | none => .none
  | some (xs, _, _) => .tuple (xs.map .str)
def dL : Eff → PyData
  | none => .none
  | some (_, ys, _) => .tuple (ys.map .str)
def dH : Eff → PyData
  | none => .none
  | some (_, _, p) => .int p
/-- an effect whose words are of items -/
def EffOk : Eff → Prop
  | none => True
  | some (xs, ys, p) => (∀ z ∈ xs, Item z) ∧ (∀ z ∈ ys, Item z) ∧ xs.length ≤ 1000 ∧ ys.length ≤ 1000 ∧ 0 ≤ p ∧ p ≤ 100000
theorem eff_eqv (a b : Eff) : (PyData.eqv (dN a) (dN b) && (PyData.eqv (dL a) (dL b) && PyData.eqv (dH a) (dH b))) = decide (a = b) := by
  cases a with
  | none =>
    cases b with
    | none => simp [dN, dL, dH, PyData.eqv]
    | some b =>
      obtain ⟨x, y, p⟩ := b
      simp [dN, dL, dH, PyData.eqv]
  | some a =>
    obtain ⟨x, y, p⟩ := a
    cases b with
    | none => simp [dN, dL, dH, PyData.eqv]
    | some b =>
      obtain ⟨x2, y2, p2⟩ := b
      show (PyData.eqv (.tuple (x.map .str)) (.tuple (x2.map .str)) && (PyData.eqv (.tuple (y.map .str)) (.tuple (y2.map .str)) && PyData.eqv (.int p) (.int p2))) = _
      rw [eqv_tupS, eqv_tupS]
      have e : PyData.eqv (.int p) (.int p2) = decide (p = p2) := by
        unfold PyData.eqv
        by_cases c : p = p2
        · subst c
          simp
        · simp [c]
      rw [e]
      by_cases c1 : x = x2 <;> by_cases c2 : y = y2 <;> by_cases c3 : p = p2 <;> simp [c1, c2, c3]
def shownE : Eff → Str
  | none => "Effect.never()"
  | some (xs, ys, p) => Str.empty ++ "Effect(" ++ (PyData.tuple (xs.map .str)).shown ++ ", " ++ (PyData.tuple (ys.map .str)).shown ++ ", peak=" ++ toString p ++ ")"
section
variable {P : Program} {w : World} {K : PySem.W.Frag} {mg : Str → Option Value} {base : Heap} {C : Addr}
theorem EffV.dp {H : Hp} {e : Addr} : ∀ {o : Eff}, EffV K C H e o → ∃ dx u v p, H e = some (.ins C dx (eF u v p)) ∧ Dp K H u (dN o) ∧ Dp K H v (dL o) ∧ Dp K H p (dH o)
  | none, h => by
    obtain ⟨dx, h1⟩ := NevAt.ex h
    exact ⟨dx, _, _, _, h1, .non, .non, .non⟩
  | some (_, _, _), h => by
    obtain ⟨dx, u, v, h1, h2, h3⟩ := EffAt.ex h
    exact ⟨dx, _, _, _, h1, .tup h2 (dp_strs _), .tup h3 (dp_strs _), .int _⟩
theorem EffOk.shaped : ∀ {o : Eff}, EffOk o → SeqAt.shaped (dN o) = true ∧ SeqAt.shaped (dL o) = true ∧ SeqAt.shaped (dH o) = true
  | none, _ => ⟨rfl, rfl, rfl⟩
  | some (_, _, _), h => ⟨(nice_tuple (nice_strs h.1)).shaped (by decide), (nice_tuple (nice_strs h.2.1)).shaped (by decide), rfl⟩
/-! ### __eq__ -/
def rEff (K : PySem.W.Frag) (C : Addr) (a b : Addr) (c : Bool) (H : Hp) : Prop := ∃ o1 o2, EffV K C H a o1 ∧ EffV K C H b o2 ∧ EffOk o1 ∧ EffOk o2 ∧ c = decide (o1 = o2)
theorem scEq : FnScope ["self", "other"] ["self", "other"] (defScope sEq) := ⟨rfl, rfl, rfl, by decide +kernel, rfl, by decide +kernel, by decide +kernel⟩
theorem ok_eq {f : Addr} {fd : FuncData} (F : Fun K "__eq__" "Effect.__eq__" sEq f fd) (T : EC K mg C) (TI : EI K C) (B : Blt mg) : FnOk P w K mg base CX0 1 f fd ["self", "other"] (spEqB (rEff K C)) := by
  refine F.ok scEq (fun vs H Q E h => ?_) (fun cdv A outer s H vs Q E hr h => ?_)
  · obtain ⟨a, b, c, rfl, _⟩ := h
    rfl
  · obtain ⟨a, b, c, rfl, ⟨o1, o2, h1, h2, k1, k2, rfl⟩, k⟩ := h
    obtain ⟨dx, u, v, p, i1, d1, d2, d3⟩ := h1.dp
    obtain ⟨dy, u2, v2, p2, i2, g1, g2, g3⟩ := h2.dp
    obtain ⟨s1, s2, s3⟩ := k1.shaped
    obtain ⟨t1, t2, t3⟩ := k2.shaped
    refine ⟨_, pss_one (ps_ret (pe_and (pe_callB call_isi (by rfl) B.isi (by decide +kernel) (pa_cons (pv 1) (pa_cons (pe_glob (v := .ref C) rfl T.mgE rfl) pa_nil)))
      (pe_and (pe_cmpR (op_eqD hr.units) (pe_fld (pv 0) rfl) (pe_fld (pv 1) rfl) (nomark _)) (pe_and (pe_cmpR (op_eqD hr.units) (pe_fld (pv 0) rfl) (pe_fld (pv 1) rfl) (nomark _)) (pe_one (pe_cmpR (op_eqD hr.units) (pe_fld (pv 0) rfl) (pe_fld (pv 1) rfl) (nomark _))))))), ?_⟩
    have fin := k H (Same.refl H)
    rw [← eff_eqv] at fin
    refine ⟨_, rfl, _, .ref C, .ref C, .ref C, true, rfl, .own C, .base (.ins i2 T.cl TI.ha TI.hn TI.ht TI.hm), TI.ki, true, rfl, iteT ?_⟩
    refine ⟨_, rfl, a, C, dx, _, _, rfl, i1, T.cl, T.nN, eF_needs _ _ _, _, rfl, b, C, dy, _, _, rfl, i2, T.cl, T.nN, eF_needs _ _ _, dN o1, dN o2, d1, g1, s1, t1, _, rfl, ?_⟩
    cases e1 : PyData.eqv (dN o1) (dN o2) with
    | false =>
      rw [e1, Bool.false_and] at fin
      exact iteF fin
    | true =>
      rw [e1, Bool.true_and] at fin
      refine iteT ⟨_, rfl, a, C, dx, _, _, rfl, i1, T.cl, T.nL, eF_leaves _ _ _, _, rfl, b, C, dy, _, _, rfl, i2, T.cl, T.nL, eF_leaves _ _ _, dL o1, dL o2, d2, g2, s2, t2, _, rfl, ?_⟩
      cases e2 : PyData.eqv (dL o1) (dL o2) with
      | false =>
        rw [e2, Bool.false_and] at fin
        exact iteF fin
      | true =>
        rw [e2, Bool.true_and] at fin
        exact iteT ⟨_, rfl, a, C, dx, _, _, rfl, i1, T.cl, T.nH, eF_high _ _ _, _, rfl, b, C, dy, _, _, rfl, i2, T.cl, T.nH, eF_high _ _ _, dH o1, dH o2, d3, g3, s3, t3, fin⟩
/-! ### __repr__ -/
def spRepr (K : PySem.W.Frag) (C : Addr) : Sp := fun vs H Q _ => ∃ (e : Addr) (o : Eff), vs = [.ref e] ∧ EffV K C H e o ∧ EffOk o ∧ Q (.str (shownE o)) H
theorem scRp : FnScope ["self"] ["self"] (defScope sRepr) := ⟨rfl, rfl, rfl, by decide +kernel, rfl, by decide +kernel, by decide +kernel⟩
theorem ok_repr {f : Addr} {fd : FuncData} (F : Fun K "__repr__" "Effect.__repr__" sRepr f fd) (T : EC K mg C) : GOk P w K mg base 1 f fd ["self"] (spRepr K C) := by
  obtain ⟨oc, od, kV, doc, pm, an, cv, ct, osl, rfl, look, hcode⟩ := F.ex
  refine gok_of look hcode scRp (fun vs H Q E h => ?_) (fun A out s H vs Q E hgu hr h => ?_)
  · obtain ⟨e, o, rfl, _⟩ := h
    rfl
  · obtain ⟨e, o, rfl, h, ok, k⟩ := h
    have body : ∃ t, PSs (cxOf CX0 P w K mg base ["self"] "Effect.__repr__" (defScope sRepr) f cv A out s H E).nox (defBody sRepr) t ∧ t { nx := fun _ H2 => Q .non H2, rt := Q } (start ["self"] [.ref e]) H := by
      refine ⟨_, pss_cons (ps_if (pt_cmpR op_isN (pe_fld (pv 0) rfl) pe_non (nomark _)) (pss_one (ps_ret pe_str)) pss_nil)
        (pss_one (ps_ret (pe_joined (.cons pe_str (.cons (pe_fmtT hgu hr.units (pe_fld (pv 0) rfl)) (.cons pe_str (.cons (pe_fmtT hgu hr.units (pe_fld (pv 0) rfl)) (.cons pe_str (.cons (pe_fmtR (pe_fld (pv 0) rfl)) (.cons pe_str .nil)))))))))), ?_⟩
      cases o with
      | none =>
        obtain ⟨dx, h1⟩ := NevAt.ex h
        exact ⟨_, rfl, e, C, dx, _, _, rfl, h1, T.cl, T.nN, eF_needs _ _ _, rfl, true, rfl, iteT k⟩
      | some o =>
        obtain ⟨xs, ys, p⟩ := o
        obtain ⟨dx, u, v, h1, h2, h3⟩ := EffAt.ex h
        obtain ⟨i1, i2, l1, l2, p0, p1⟩ := ok
        have n1 := nice_tuple (nice_strs i1)
        have n2 := nice_tuple (nice_strs i2)
        have z1 := n1.shownLe
        have z2 := n2.shownLe
        rw [List.length_map] at z1 z2
        have tl : (toString p : Str).length ≤ 13 := by
          have := PyData.shown_int_le (i := p) (by omega)
          exact this
        have big : ∀ m : Nat, m ≤ 400000 → m ≤ sizeLine := fun m hm => by
          rw [sizeLine_eq]
          omega
        have w0 : (Str.empty : Str).length = 0 := by decide +kernel
        have w1 : ("Effect(" : Str).length = 7 := by decide +kernel
        have w2 : (", " : Str).length = 2 := by decide +kernel
        have w3 : (", peak=" : Str).length = 7 := by decide +kernel
        have w4 : (")" : Str).length = 1 := by decide +kernel
        have lg : p.natAbs.log2 < 1920 := PySem.Flt.log2_lt_of (by decide) (Nat.lt_of_lt_of_le (show p.natAbs < 2 ^ 17 by show _ < 131072; omega) (Nat.pow_le_pow_right (by decide) (by decide)))
        refine ⟨_, rfl, e, C, dx, _, _, rfl, h1, T.cl, T.nN, eF_needs _ _ _, rfl, false, rfl, iteF ?_⟩
        refine ⟨_, rfl, big _ ?_, _, rfl, e, C, dx, _, _, rfl, h1, T.cl, T.nN, eF_needs _ _ _, u, _, rfl, .tup h2 (dp_strs xs), n1.sh, n1.nd, Nat.le_trans n1.dep (by decide), big _ (by omega), _, rfl, big _ ?_, _, rfl, big _ ?_, _, rfl, e, C, dx, _, _, rfl, h1, T.cl, T.nL, eF_leaves _ _ _, v, _, rfl, .tup h3 (dp_strs ys), n2.sh, n2.nd, Nat.le_trans n2.dep (by decide), big _ (by omega), _, rfl, big _ ?_, _, rfl, big _ ?_, _, rfl, e, C, dx, _, _, rfl, h1, T.cl, T.nH, eF_high _ _ _, .inr ⟨p, rfl, lg, _, rfl, big _ ?_, _, rfl, big _ ?_, k⟩⟩
        all_goals (simp only [len_add, w0, w1, w2, w3, w4]; omega)
    obtain ⟨t, a, b⟩ := body
    exact ⟨t, a.nox, b⟩
end
end SE
/-! A dict whose keys are None and tuples of texts together. -/
namespace SE
open PySem PySem.Spec PyProof.Rows L2 SeqAt
/-- a row: what the key is, the key as it stands, the value -/
abbrev Row := NestedKey × Value × Value
def rowE (w : World) (r : Row) : DictEntry := ⟨r.1.hash w, r.2.1, r.2.2⟩
def NoneRef (v : Value) : Prop := v = .none ∨ ∃ a, v = .ref a
/-- rows that may stand in a dict -/
structure RowsOk (h : Heap) (rows : List Row) : Prop where
  is : ∀ r ∈ rows, NestedIs h r.1 r.2.1
  dp : ∀ r ∈ rows, r.1.depth ≤ 8
  nr : ∀ r ∈ rows, NoneRef r.2.1
  nd : (rows.map (·.1)).Nodup
def idxR : List Row → NestedKey → Option Nat
  | [], _ => none
  | r :: rest, k => if r.1 = k then some 0 else (idxR rest k).map (· + 1)
theorem idxR_some : ∀ {rows : List Row} {k : NestedKey} {j : Nat}, idxR rows k = some j → ∃ p, rows[j]? = some (k, p)
  | [], _, _, h => by cases h
  | r :: rest, k, j, h => by
    unfold idxR at h
    split at h
    · rename_i e
      cases h
      exact ⟨r.2, by rw [← e]; rfl⟩
    · obtain ⟨i, hi, rfl⟩ := Option.map_eq_some_iff.mp h
      obtain ⟨p, q⟩ := idxR_some hi
      exact ⟨p, q⟩
theorem idxR_none : ∀ {rows : List Row} {k : NestedKey}, idxR rows k = none → ∀ (j : Nat) p, rows[j]? ≠ some (k, p)
  | [], _, _, j, p => by simp
  | r :: rest, k, h, j, p => by
    unfold idxR at h
    split at h
    · cases h
    · rename_i ne
      have h2 := Option.map_eq_none_iff.mp h
      cases j with
      | zero =>
        intro q
        have q2 : r = (k, p) := Option.some.inj q
        exact ne (by rw [q2])
      | succ j => exact idxR_none h2 j p
theorem idxR_of : ∀ {rows : List Row} {k : NestedKey} {j : Nat} {p : Value × Value}, (rows.map (·.1)).Nodup → rows[j]? = some (k, p) → idxR rows k = some j
  | [], _, j, _, _, h => by simp at h
  | r :: rest, k, 0, p, _, h => by
    have e : r = (k, p) := Option.some.inj h
    unfold idxR
    rw [if_pos (by rw [e])]
  | r :: rest, k, j + 1, p, nd, h => by
    have nd2 := (List.nodup_cons.mp nd)
    have h2 : rest[j]? = some (k, p) := h
    have ne : ¬ r.1 = k := fun e => nd2.1 (by
      show r.1 ∈ _
      rw [e]
      exact List.mem_map.mpr ⟨_, List.mem_of_getElem? h2, rfl⟩)
    unfold idxR
    rw [if_neg ne, idxR_of nd2.2 h2]
    rfl
section
variable {prog : Program} {w : World} {A : Around} {E : Value → Shared → Prop} {s : Shared} {d : Addr} {ob : Obj} {es : Array DictEntry} {ep : Nat} {rows : List Row} {k : NestedKey} {key : Value}
theorem row_at (he : es.toList = rows.map (rowE w)) (j : Nat) : es[j]? = (rows[j]?).map (rowE w) := by
  rw [← Array.getElem?_toList, he, List.getElem?_map]
theorem row_size (he : es.toList = rows.map (rowE w)) : es.size = rows.length := by
  rw [← Array.length_toList, he, List.length_map]
theorem tell_not {stored : List Value} {Q : Bool → Shared → Prop} (hk : NestedIs s.heap k key) (hd : k.depth ≤ 8) (hst : ∀ v ∈ stored, ∃ k', NestedIs s.heap k' v ∧ k'.depth ≤ 8) (h : Q false s) :
    wpAny (model prog w) A (tableMayTell key stored) Q E s := by
  unfold tableMayTell
  split
  · exact wpAny_pure h
  refine wpAny_bind (quiet_key k key 8 s hk hd A E _ ?_)
  rw [if_neg (show ¬ (!true) = true by decide)]
  refine wpAny_bind (wpAny_forIn_list _ (fun left out t => t = s ∧ out = (none, ()) ∧ ∀ v ∈ left, ∃ k', NestedIs s.heap k' v ∧ k'.depth ≤ 8) _ ?_ ?_ _ _ ⟨rfl, rfl, hst⟩)
  · rintro v left out t ⟨rfl, rfl, all⟩
    obtain ⟨k', q1, q2⟩ := all v List.mem_cons_self
    refine wpAny_bind (quiet_key k' v 8 t q1 q2 A E _ ?_)
    rw [if_neg (show ¬ (!true) = true by decide)]
    exact wpAny_pure ⟨rfl, rfl, fun u m => all u (List.mem_cons_of_mem _ m)⟩
  · rintro out t ⟨rfl, rfl, _⟩
    exact wpAny_pure h
/-- where a key stands -/
theorem find_row {Q : Option Nat → Shared → Prop} (room : A.units + 8 < cLine) (hk : NestedIs s.heap k key) (dk : k.depth ≤ 8) (nr : NoneRef key) (at_d : s.heap.get? d = some ob) (in_d : ob.data = .dict es ep) (he : es.toList = rows.map (rowE w)) (ok : RowsOk s.heap rows)
    (h : Q (idxR rows k) s) : wpAny (model prog w) A (dictFind d key (k.hash w)) Q E s := by
  have sz := row_size he
  have has : ∀ (j : Nat) (p : Value × Value), rows[j]? = some (k, p) → ((es[j]?.map (·.hash)) == some (k.hash w)) = true := fun j p hj => by
    rw [row_at he j, hj]
    simp [rowE]
  have mem : ∀ e ∈ es, ∃ r ∈ rows, e = rowE w r := fun e m => by
    have m2 : e ∈ rows.map (rowE w) := he ▸ Array.mem_toList_iff.mpr m
    obtain ⟨r, m3, q⟩ := List.mem_map.mp m2
    exact ⟨r, m3, q.symm⟩
  have held : ∀ v ∈ (placesWithHash es.size (fun i => es[i]?.map (·.hash)) (k.hash w)).filterMap (fun i => es[i]?.map (·.key)), ∃ k', NestedIs s.heap k' v ∧ k'.depth ≤ 8 := fun v m => by
    obtain ⟨i, _, q⟩ := List.mem_filterMap.mp m
    obtain ⟨e, e1, e2⟩ := Option.map_eq_some_iff.mp q
    obtain ⟨r, m3, rfl⟩ := mem e (Array.mem_of_getElem? e1)
    exact ⟨r.1, by rw [← e2]; exact ok.is r m3, ok.dp r m3⟩
  -- what is known of the places before i
  have low : ∀ {i x : Nat} {rest : List Nat}, x :: rest = (List.range' i (es.size - i)).filter (fun i => (es[i]?.map (·.hash)) == some (k.hash w)) → i ≤ x := fun hr => (filter_range'_cons _ _ _ _ _ hr.symm).1
  have next : ∀ {i x : Nat} {rest : List Nat}, x :: rest = (List.range' i (es.size - i)).filter (fun i => (es[i]?.map (·.hash)) == some (k.hash w)) → i ≤ es.size →
      x < es.size ∧ rest = (List.range' (x + 1) (es.size - (x + 1))).filter (fun i => (es[i]?.map (·.hash)) == some (k.hash w)) ∧ ((∀ j p, j < i → rows[j]? ≠ some (k, p)) → ∀ j p, j < x → rows[j]? ≠ some (k, p)) := fun {i x rest} hr hi => by
    obtain ⟨a1, a2, a3, a4, a5⟩ := filter_range'_cons _ _ _ _ _ hr.symm
    refine ⟨by omega, by rw [a5]; congr 2; omega, fun hn j p hj q => ?_⟩
    rcases Nat.lt_or_ge j i with c | c
    · exact hn j p c q
    · have z := a4 j c hj
      rw [has j p q] at z
      cases z
  have done : ∀ {i : Nat}, ([] : List Nat) = (List.range' i (es.size - i)).filter (fun i => (es[i]?.map (·.hash)) == some (k.hash w)) → i ≤ es.size → (∀ j p, j < i → rows[j]? ≠ some (k, p)) → idxR rows k = none := fun {i} hr hi hn => by
    cases q : idxR rows k with
    | none => rfl
    | some j =>
      obtain ⟨p, hj⟩ := idxR_some q
      rcases Nat.lt_or_ge j i with c | c
      · exact absurd hj (hn j p c)
      · have jl : j < es.size := by
          rw [sz]
          exact (List.getElem?_eq_some_iff.mp hj).1
        have z := List.filter_eq_nil_iff.mp hr.symm j (List.mem_range'_1.mpr ⟨c, by omega⟩)
        exact absurd (has j p hj) z
  have eqv : ∀ {r : Row} {Q2 : Bool → Shared → Prop}, r ∈ rows → Q2 (decide (r.1 = k)) s → wpAny (model prog w) A (eqBool r.2.1 key) Q2 E s := fun {r Q2} m q => by
    refine eqAt_key r.1 k A s _ _ (ok.is r m) hk (by have := Nat.min_le_right r.1.depth k.depth; omega) _ _ _ _ ?_
    rw [← NestedKey.decide_eq]
    exact q
  unfold dictFind
  refine wpAny_holding (wpAny_bind (wpAny_dictEntries at_d in_d ?_))
  rcases nr with rfl | ⟨a, rfl⟩
  · dsimp only
    generalize hst : (placesWithHash es.size (fun i => es[i]?.map (·.hash)) (k.hash w)).filterMap (fun i => es[i]?.map (·.key)) = stored at held ⊢
    by_cases all : ((Value.none :: stored).all carriedByValue) = true
    · rw [if_pos all]
      refine wpAny_bind ?_
      refine wpAny_forIn_list _ (fun rest out t => t = s ∧ out = (none, ()) ∧ ∃ i, rest = (List.range' i (es.size - i)).filter (fun i => (es[i]?.map (·.hash)) == some (k.hash w)) ∧ i ≤ es.size ∧ ∀ j p, j < i → rows[j]? ≠ some (k, p)) _ ?_ ?_ _ _
        ⟨rfl, rfl, 0, by rw [placesWithHash, List.range_eq_range', Nat.sub_zero], Nat.zero_le _, fun _ _ z => absurd z (Nat.not_lt_zero _)⟩
      · rintro x rest out t ⟨rfl, rfl, i, hr, hi, hn⟩
        obtain ⟨lt, tl, sk⟩ := next hr hi
        obtain ⟨r, hrow⟩ : ∃ r, rows[x]? = some r := ⟨rows[x]'(by rw [← sz]; exact lt), List.getElem?_eq_getElem _⟩
        have mr := List.mem_of_getElem? hrow
        have ex : es[x]? = some (rowE w r) := by rw [row_at he x, hrow]; rfl
        have before := sk hn
        have stay : ¬ r.1 = k → ∀ j p, j < x + 1 → rows[j]? ≠ some (k, p) := fun ne j p hj q => by
          rcases Nat.lt_or_ge j x with c | c
          · exact before j p c q
          · have e : j = x := by omega
            rw [e, hrow] at q
            have e2 : r = (k, p) := Option.some.inj q
            exact ne (by rw [e2])
        rw [ex]
        dsimp only
        by_cases same : ((rowE w r).hash == k.hash w) = true
        · rw [if_pos same]
          refine wpAny_bind (wpAny_dictEpoch at_d in_d (wpAny_bind (eqv mr (wpAny_bind (wpAny_dictEpoch at_d in_d ?_)))))
          rw [if_neg (by simp)]
          by_cases eq : r.1 = k
          · rw [decide_eq_true eq, if_pos rfl]
            have hk2 : rows[x]? = some (k, r.2) := by rw [hrow, ← eq]
            rw [idxR_of ok.nd hk2] at h
            exact wpAny_bind (wpAny_rule (wpAny_pure (wpAny_pure h)))
          · rw [decide_eq_false eq, if_neg (by simp)]
            exact wpAny_bind (wpAny_rule (wpAny_pure ⟨rfl, rfl, x + 1, tl, lt, stay eq⟩))
        · rw [if_neg same]
          refine wpAny_pure ⟨rfl, rfl, x + 1, tl, lt, stay fun eq => same ?_⟩
          show (r.1.hash w == k.hash w) = true
          rw [eq]
          simp
      · rintro out t ⟨rfl, rfl, i, hr, hi, hn⟩
        rw [done hr hi hn] at h
        exact wpAny_pure h
    · rw [if_neg all]
      by_cases one : (stored == [Value.none]) = true
      · rw [if_pos one]
        refine wpAny_bind (wpAny_pure ?_)
        rw [if_neg (by simp)]
        refine wpAny_bind (wpAny_forIn_list _ (fun rest out t => t = s ∧ ∃ i hit, out = (none, hit) ∧ rest = (List.range' i (es.size - i)).filter (fun i => (es[i]?.map (·.hash)) == some (k.hash w)) ∧ i ≤ es.size ∧
          ((hit = none ∧ ∀ j p, j < i → rows[j]? ≠ some (k, p)) ∨ ∃ j p, hit = some j ∧ j < i ∧ rows[j]? = some (k, p))) _ ?_ ?_ _ _ ⟨rfl, 0, none, rfl, by rw [placesWithHash, List.range_eq_range', Nat.sub_zero], Nat.zero_le _, .inl ⟨rfl, fun _ _ z => absurd z (Nat.not_lt_zero _)⟩⟩)
        · rintro x rest out t ⟨rfl, i, hit, rfl, hr, hi, hh⟩
          obtain ⟨lt, tl, sk⟩ := next hr hi
          obtain ⟨r, hrow⟩ : ∃ r, rows[x]? = some r := ⟨rows[x]'(by rw [← sz]; exact lt), List.getElem?_eq_getElem _⟩
          have mr := List.mem_of_getElem? hrow
          have ex : es[x]? = some (rowE w r) := by rw [row_at he x, hrow]; rfl
          have before : (hit = none ∧ ∀ j p, j < x → rows[j]? ≠ some (k, p)) ∨ ∃ j p, hit = some j ∧ j < x ∧ rows[j]? = some (k, p) := by
            rcases hh with ⟨h0, hn⟩ | ⟨j, p, h1, h2, h3⟩
            · exact .inl ⟨h0, sk hn⟩
            · refine .inr ⟨j, p, h1, ?_, h3⟩
              have := low hr
              omega
          have stay : ¬ r.1 = k → (hit = none ∧ ∀ j p, j < x + 1 → rows[j]? ≠ some (k, p)) ∨ ∃ j p, hit = some j ∧ j < x + 1 ∧ rows[j]? = some (k, p) := fun ne => by
            rcases before with ⟨h0, hn⟩ | ⟨j, p, h1, h2, h3⟩
            · refine .inl ⟨h0, fun j p hj q => ?_⟩
              rcases Nat.lt_or_ge j x with c | c
              · exact hn j p c q
              · have e : j = x := by omega
                rw [e, hrow] at q
                have e2 : r = (k, p) := Option.some.inj q
                exact ne (by rw [e2])
            · exact .inr ⟨j, p, h1, by omega, h3⟩
          rw [ex]
          dsimp only
          by_cases same : ((rowE w r).hash == k.hash w) = true
          · rw [if_pos same]
            refine wpAny_bind (wpAny_dictEpoch at_d in_d (wpAny_bind (eqv mr (wpAny_bind (wpAny_dictEpoch at_d in_d ?_)))))
            rw [if_neg (by simp)]
            by_cases eq : r.1 = k
            · rw [decide_eq_true eq, if_pos rfl]
              have hk2 : rows[x]? = some (k, r.2) := by rw [hrow, ← eq]
              rcases before with ⟨rfl, _⟩ | ⟨j, p, _, h2, h3⟩
              · rw [if_neg (by simp)]
                refine wpAny_bind (wpAny_rule ?_)
                split
                · refine wpAny_pure (wpAny_pure ?_)
                  rw [idxR_of ok.nd hk2] at h
                  exact h
                · exact wpAny_pure ⟨rfl, x + 1, some x, rfl, tl, lt, .inr ⟨x, _, rfl, Nat.lt_succ_self x, hk2⟩⟩
              · have z1 := idxR_of ok.nd h3
                rw [idxR_of ok.nd hk2] at z1
                have z2 := Option.some.inj z1
                omega
            · rw [decide_eq_false eq, if_neg (by simp)]
              refine wpAny_bind (wpAny_rule ?_)
              rw [if_neg (by simp)]
              exact wpAny_pure ⟨rfl, x + 1, hit, rfl, tl, lt, stay eq⟩
          · rw [if_neg same]
            refine wpAny_pure ⟨rfl, x + 1, hit, rfl, tl, lt, stay fun eq => same ?_⟩
            show (r.1.hash w == k.hash w) = true
            rw [eq]
            simp
        · rintro out t ⟨rfl, i, hit, rfl, hr, hi, hh⟩
          rcases hh with ⟨rfl, hn⟩ | ⟨j, p, rfl, _, h3⟩
          · rw [done hr hi hn] at h
            exact wpAny_pure h
          · rw [idxR_of ok.nd h3] at h
            exact wpAny_pure h
      · rw [if_neg one]
        refine wpAny_bind (tell_not hk dk held ?_)
        rw [if_neg (by simp)]
        refine wpAny_bind (wpAny_forIn_list _ (fun rest out t => t = s ∧ ∃ i hit, out = (none, hit) ∧ rest = (List.range' i (es.size - i)).filter (fun i => (es[i]?.map (·.hash)) == some (k.hash w)) ∧ i ≤ es.size ∧
          ((hit = none ∧ ∀ j p, j < i → rows[j]? ≠ some (k, p)) ∨ ∃ j p, hit = some j ∧ j < i ∧ rows[j]? = some (k, p))) _ ?_ ?_ _ _ ⟨rfl, 0, none, rfl, by rw [placesWithHash, List.range_eq_range', Nat.sub_zero], Nat.zero_le _, .inl ⟨rfl, fun _ _ z => absurd z (Nat.not_lt_zero _)⟩⟩)
        · rintro x rest out t ⟨rfl, i, hit, rfl, hr, hi, hh⟩
          obtain ⟨lt, tl, sk⟩ := next hr hi
          obtain ⟨r, hrow⟩ : ∃ r, rows[x]? = some r := ⟨rows[x]'(by rw [← sz]; exact lt), List.getElem?_eq_getElem _⟩
          have mr := List.mem_of_getElem? hrow
          have ex : es[x]? = some (rowE w r) := by rw [row_at he x, hrow]; rfl
          have before : (hit = none ∧ ∀ j p, j < x → rows[j]? ≠ some (k, p)) ∨ ∃ j p, hit = some j ∧ j < x ∧ rows[j]? = some (k, p) := by
            rcases hh with ⟨h0, hn⟩ | ⟨j, p, h1, h2, h3⟩
            · exact .inl ⟨h0, sk hn⟩
            · refine .inr ⟨j, p, h1, ?_, h3⟩
              have := low hr
              omega
          have stay : ¬ r.1 = k → (hit = none ∧ ∀ j p, j < x + 1 → rows[j]? ≠ some (k, p)) ∨ ∃ j p, hit = some j ∧ j < x + 1 ∧ rows[j]? = some (k, p) := fun ne => by
            rcases before with ⟨h0, hn⟩ | ⟨j, p, h1, h2, h3⟩
            · refine .inl ⟨h0, fun j p hj q => ?_⟩
              rcases Nat.lt_or_ge j x with c | c
              · exact hn j p c q
              · have e : j = x := by omega
                rw [e, hrow] at q
                have e2 : r = (k, p) := Option.some.inj q
                exact ne (by rw [e2])
            · exact .inr ⟨j, p, h1, by omega, h3⟩
          rw [ex]
          dsimp only
          by_cases same : ((rowE w r).hash == k.hash w) = true
          · rw [if_pos same]
            refine wpAny_bind (wpAny_dictEpoch at_d in_d (wpAny_bind (eqv mr (wpAny_bind (wpAny_dictEpoch at_d in_d ?_)))))
            rw [if_neg (by simp)]
            by_cases eq : r.1 = k
            · rw [decide_eq_true eq, if_pos rfl]
              have hk2 : rows[x]? = some (k, r.2) := by rw [hrow, ← eq]
              rcases before with ⟨rfl, _⟩ | ⟨j, p, _, h2, h3⟩
              · rw [if_neg (by simp)]
                refine wpAny_bind (wpAny_rule ?_)
                split
                · refine wpAny_pure (wpAny_pure ?_)
                  rw [idxR_of ok.nd hk2] at h
                  exact h
                · exact wpAny_pure ⟨rfl, x + 1, some x, rfl, tl, lt, .inr ⟨x, _, rfl, Nat.lt_succ_self x, hk2⟩⟩
              · have z1 := idxR_of ok.nd h3
                rw [idxR_of ok.nd hk2] at z1
                have z2 := Option.some.inj z1
                omega
            · rw [decide_eq_false eq, if_neg (by simp)]
              refine wpAny_bind (wpAny_rule ?_)
              rw [if_neg (by simp)]
              exact wpAny_pure ⟨rfl, x + 1, hit, rfl, tl, lt, stay eq⟩
          · rw [if_neg same]
            refine wpAny_pure ⟨rfl, x + 1, hit, rfl, tl, lt, stay fun eq => same ?_⟩
            show (r.1.hash w == k.hash w) = true
            rw [eq]
            simp
        · rintro out t ⟨rfl, i, hit, rfl, hr, hi, hh⟩
          rcases hh with ⟨rfl, hn⟩ | ⟨j, p, rfl, _, h3⟩
          · rw [done hr hi hn] at h
            exact wpAny_pure h
          · rw [idxR_of ok.nd h3] at h
            exact wpAny_pure h
  · dsimp only
    generalize hst : (placesWithHash es.size (fun i => es[i]?.map (·.hash)) (k.hash w)).filterMap (fun i => es[i]?.map (·.key)) = stored at held ⊢
    rw [if_neg (show ¬ ((Value.ref a :: stored).all carriedByValue) = true by simp [carriedByValue])]
    have kept : ¬ (es.any fun e => e.key == Value.ref a && e.hash != k.hash w) = true := by
      rw [← Array.any_toList, List.any_eq_true]
      rintro ⟨e, m, c⟩
      obtain ⟨r, m2, rfl⟩ := mem e (Array.mem_toList_iff.mp m)
      simp only [rowE, Bool.and_eq_true, beq_iff_eq, bne_iff_ne, ne_eq] at c
      have q := ok.is r m2
      rw [c.1] at q
      exact c.2 (by rw [NestedIs.inj _ _ _ q hk])
    rw [if_neg kept]
    by_cases one : (stored == [Value.ref a]) = true
    · rw [if_pos one]
      refine wpAny_bind (wpAny_pure ?_)
      rw [if_neg (by simp)]
      refine wpAny_bind (wpAny_forIn_list _ (fun rest out t => t = s ∧ ∃ i hit, out = (none, hit) ∧ rest = (List.range' i (es.size - i)).filter (fun i => (es[i]?.map (·.hash)) == some (k.hash w)) ∧ i ≤ es.size ∧
        ((hit = none ∧ ∀ j p, j < i → rows[j]? ≠ some (k, p)) ∨ ∃ j p, hit = some j ∧ j < i ∧ rows[j]? = some (k, p))) _ ?_ ?_ _ _ ⟨rfl, 0, none, rfl, by rw [placesWithHash, List.range_eq_range', Nat.sub_zero], Nat.zero_le _, .inl ⟨rfl, fun _ _ z => absurd z (Nat.not_lt_zero _)⟩⟩)
      · rintro x rest out t ⟨rfl, i, hit, rfl, hr, hi, hh⟩
        obtain ⟨lt, tl, sk⟩ := next hr hi
        obtain ⟨r, hrow⟩ : ∃ r, rows[x]? = some r := ⟨rows[x]'(by rw [← sz]; exact lt), List.getElem?_eq_getElem _⟩
        have mr := List.mem_of_getElem? hrow
        have ex : es[x]? = some (rowE w r) := by rw [row_at he x, hrow]; rfl
        have before : (hit = none ∧ ∀ j p, j < x → rows[j]? ≠ some (k, p)) ∨ ∃ j p, hit = some j ∧ j < x ∧ rows[j]? = some (k, p) := by
          rcases hh with ⟨h0, hn⟩ | ⟨j, p, h1, h2, h3⟩
          · exact .inl ⟨h0, sk hn⟩
          · refine .inr ⟨j, p, h1, ?_, h3⟩
            have := low hr
            omega
        have stay : ¬ r.1 = k → (hit = none ∧ ∀ j p, j < x + 1 → rows[j]? ≠ some (k, p)) ∨ ∃ j p, hit = some j ∧ j < x + 1 ∧ rows[j]? = some (k, p) := fun ne => by
          rcases before with ⟨h0, hn⟩ | ⟨j, p, h1, h2, h3⟩
          · refine .inl ⟨h0, fun j p hj q => ?_⟩
            rcases Nat.lt_or_ge j x with c | c
            · exact hn j p c q
            · have e : j = x := by omega
              rw [e, hrow] at q
              have e2 : r = (k, p) := Option.some.inj q
              exact ne (by rw [e2])
          · exact .inr ⟨j, p, h1, by omega, h3⟩
        rw [ex]
        dsimp only
        by_cases same : ((rowE w r).hash == k.hash w) = true
        · rw [if_pos same]
          refine wpAny_bind (wpAny_dictEpoch at_d in_d (wpAny_bind (eqv mr (wpAny_bind (wpAny_dictEpoch at_d in_d ?_)))))
          rw [if_neg (by simp)]
          by_cases eq : r.1 = k
          · rw [decide_eq_true eq, if_pos rfl]
            have hk2 : rows[x]? = some (k, r.2) := by rw [hrow, ← eq]
            rcases before with ⟨rfl, _⟩ | ⟨j, p, _, h2, h3⟩
            · rw [if_neg (by simp)]
              refine wpAny_bind (wpAny_rule ?_)
              split
              · refine wpAny_pure (wpAny_pure ?_)
                rw [idxR_of ok.nd hk2] at h
                exact h
              · exact wpAny_pure ⟨rfl, x + 1, some x, rfl, tl, lt, .inr ⟨x, _, rfl, Nat.lt_succ_self x, hk2⟩⟩
            · have z1 := idxR_of ok.nd h3
              rw [idxR_of ok.nd hk2] at z1
              have z2 := Option.some.inj z1
              omega
          · rw [decide_eq_false eq, if_neg (by simp)]
            refine wpAny_bind (wpAny_rule ?_)
            rw [if_neg (by simp)]
            exact wpAny_pure ⟨rfl, x + 1, hit, rfl, tl, lt, stay eq⟩
        · rw [if_neg same]
          refine wpAny_pure ⟨rfl, x + 1, hit, rfl, tl, lt, stay fun eq => same ?_⟩
          show (r.1.hash w == k.hash w) = true
          rw [eq]
          simp
      · rintro out t ⟨rfl, i, hit, rfl, hr, hi, hh⟩
        rcases hh with ⟨rfl, hn⟩ | ⟨j, p, rfl, _, h3⟩
        · rw [done hr hi hn] at h
          exact wpAny_pure h
        · rw [idxR_of ok.nd h3] at h
          exact wpAny_pure h
    · rw [if_neg one]
      refine wpAny_bind (tell_not hk dk held ?_)
      rw [if_neg (by simp)]
      refine wpAny_bind (wpAny_forIn_list _ (fun rest out t => t = s ∧ ∃ i hit, out = (none, hit) ∧ rest = (List.range' i (es.size - i)).filter (fun i => (es[i]?.map (·.hash)) == some (k.hash w)) ∧ i ≤ es.size ∧
        ((hit = none ∧ ∀ j p, j < i → rows[j]? ≠ some (k, p)) ∨ ∃ j p, hit = some j ∧ j < i ∧ rows[j]? = some (k, p))) _ ?_ ?_ _ _ ⟨rfl, 0, none, rfl, by rw [placesWithHash, List.range_eq_range', Nat.sub_zero], Nat.zero_le _, .inl ⟨rfl, fun _ _ z => absurd z (Nat.not_lt_zero _)⟩⟩)
      · rintro x rest out t ⟨rfl, i, hit, rfl, hr, hi, hh⟩
        obtain ⟨lt, tl, sk⟩ := next hr hi
        obtain ⟨r, hrow⟩ : ∃ r, rows[x]? = some r := ⟨rows[x]'(by rw [← sz]; exact lt), List.getElem?_eq_getElem _⟩
        have mr := List.mem_of_getElem? hrow
        have ex : es[x]? = some (rowE w r) := by rw [row_at he x, hrow]; rfl
        have before : (hit = none ∧ ∀ j p, j < x → rows[j]? ≠ some (k, p)) ∨ ∃ j p, hit = some j ∧ j < x ∧ rows[j]? = some (k, p) := by
          rcases hh with ⟨h0, hn⟩ | ⟨j, p, h1, h2, h3⟩
          · exact .inl ⟨h0, sk hn⟩
          · refine .inr ⟨j, p, h1, ?_, h3⟩
            have := low hr
            omega
        have stay : ¬ r.1 = k → (hit = none ∧ ∀ j p, j < x + 1 → rows[j]? ≠ some (k, p)) ∨ ∃ j p, hit = some j ∧ j < x + 1 ∧ rows[j]? = some (k, p) := fun ne => by
          rcases before with ⟨h0, hn⟩ | ⟨j, p, h1, h2, h3⟩
          · refine .inl ⟨h0, fun j p hj q => ?_⟩
            rcases Nat.lt_or_ge j x with c | c
            · exact hn j p c q
            · have e : j = x := by omega
              rw [e, hrow] at q
              have e2 : r = (k, p) := Option.some.inj q
              exact ne (by rw [e2])
          · exact .inr ⟨j, p, h1, by omega, h3⟩
        rw [ex]
        dsimp only
        by_cases same : ((rowE w r).hash == k.hash w) = true
        · rw [if_pos same]
          refine wpAny_bind (wpAny_dictEpoch at_d in_d (wpAny_bind (eqv mr (wpAny_bind (wpAny_dictEpoch at_d in_d ?_)))))
          rw [if_neg (by simp)]
          by_cases eq : r.1 = k
          · rw [decide_eq_true eq, if_pos rfl]
            have hk2 : rows[x]? = some (k, r.2) := by rw [hrow, ← eq]
            rcases before with ⟨rfl, _⟩ | ⟨j, p, _, h2, h3⟩
            · rw [if_neg (by simp)]
              refine wpAny_bind (wpAny_rule ?_)
              split
              · refine wpAny_pure (wpAny_pure ?_)
                rw [idxR_of ok.nd hk2] at h
                exact h
              · exact wpAny_pure ⟨rfl, x + 1, some x, rfl, tl, lt, .inr ⟨x, _, rfl, Nat.lt_succ_self x, hk2⟩⟩
            · have z1 := idxR_of ok.nd h3
              rw [idxR_of ok.nd hk2] at z1
              have z2 := Option.some.inj z1
              omega
          · rw [decide_eq_false eq, if_neg (by simp)]
            refine wpAny_bind (wpAny_rule ?_)
            rw [if_neg (by simp)]
            exact wpAny_pure ⟨rfl, x + 1, hit, rfl, tl, lt, stay eq⟩
        · rw [if_neg same]
          refine wpAny_pure ⟨rfl, x + 1, hit, rfl, tl, lt, stay fun eq => same ?_⟩
          show (r.1.hash w == k.hash w) = true
          rw [eq]
          simp
      · rintro out t ⟨rfl, i, hit, rfl, hr, hi, hh⟩
        rcases hh with ⟨rfl, hn⟩ | ⟨j, p, rfl, _, h3⟩
        · rw [done hr hi hn] at h
          exact wpAny_pure h
        · rw [idxR_of ok.nd h3] at h
          exact wpAny_pure h
end
end SE
/-! A dict whose keys are None and tuples of texts together: d[k], d[k] = v, d.get, d.setdefault, in. -/
namespace SE
open PySem PySem.Spec PyProof.Rows L2 SeqAt
/-! ### rows as they change -/
def putR (k : NestedKey) (key v : Value) : List Row → List Row
  | [] => [(k, key, v)]
  | r :: rest => if r.1 = k then (r.1, r.2.1, v) :: rest else r :: putR k key v rest
def valR (k : NestedKey) : List Row → Option Value
  | [] => none
  | r :: rest => if r.1 = k then some r.2.2 else valR k rest
theorem valR_none : ∀ {rows : List Row} {k : NestedKey}, idxR rows k = none → valR k rows = none
  | [], _, _ => rfl
  | r :: rest, k, h => by
    unfold idxR at h
    split at h
    · cases h
    · rename_i ne
      unfold valR
      rw [if_neg ne]
      exact valR_none (Option.map_eq_none_iff.mp h)
theorem valR_some : ∀ {rows : List Row} {k : NestedKey} {j : Nat}, idxR rows k = some j → valR k rows = (rows[j]?).map (·.2.2)
  | [], _, _, h => by cases h
  | r :: rest, k, j, h => by
    unfold idxR at h
    unfold valR
    split at h
    · rename_i e
      cases h
      rw [if_pos e]
      rfl
    · rename_i ne
      obtain ⟨i, hi, rfl⟩ := Option.map_eq_some_iff.mp h
      rw [if_neg ne, valR_some hi]
      rfl
theorem putR_none : ∀ {rows : List Row} {k : NestedKey} {key v : Value}, idxR rows k = none → putR k key v rows = rows ++ [(k, key, v)]
  | [], _, _, _, _ => rfl
  | r :: rest, k, key, v, h => by
    unfold idxR at h
    unfold putR
    split at h
    · cases h
    · rename_i ne
      rw [if_neg ne, putR_none (Option.map_eq_none_iff.mp h)]
      rfl
theorem putR_some (w : World) : ∀ {rows : List Row} {k : NestedKey} {key v : Value} {j : Nat}, idxR rows k = some j → (putR k key v rows).map (rowE w) = (rows.map (rowE w)).modify j fun e => { e with val := v }
  | [], _, _, _, _, h => by cases h
  | r :: rest, k, key, v, j, h => by
    unfold idxR at h
    unfold putR
    split at h
    · rename_i e
      cases h
      rw [if_pos e]
      rfl
    · rename_i ne
      obtain ⟨i, hi, rfl⟩ := Option.map_eq_some_iff.mp h
      rw [if_neg ne, List.map_cons, List.map_cons, putR_some w hi]
      rfl
theorem putR_length (k : NestedKey) (key v : Value) : ∀ rows : List Row, (putR k key v rows).length ≤ rows.length + 1
  | [] => Nat.le_refl _
  | r :: rest => by
    unfold putR
    split
    · simp
    · have := putR_length k key v rest
      simp only [List.length_cons]
      omega
/-- at d stands a dict of these rows -/
def RowsAt (w : World) (h : Heap) (d : Addr) (rows : List Row) : Prop :=
  (d == sysModules) = false ∧ rows.length ≤ sizeLine ∧ ∃ o es ep, h.get? d = some o ∧ o.ExactDict ∧ o.data = .dict es ep ∧ es.toList = rows.map (rowE w)
/-- the key -/
structure KeyOk (h : Heap) (k : NestedKey) (key : Value) : Prop where
  is : NestedIs h k key
  dp : k.depth ≤ 8
  nr : NoneRef key
section
variable {prog : Program} {w : World} {A : Around} {E : Value → Shared → Prop} {s : Shared} {d : Addr} {rows : List Row} {k : NestedKey} {key v dflt : Value}
theorem RowsAt.typeIs (m : RowsAt w s.heap d rows) : s.TypeIs (.ref d) "dict" := by
  obtain ⟨_, _, o, es, ep, ho, hc, _⟩ := m
  exact ⟨o, ho, hc.1⟩
theorem rows_get {Q : Option Value → Shared → Prop} (room : A.units + 8 < cLine) (hk : KeyOk s.heap k key) (m : RowsAt w s.heap d rows) (ok : RowsOk s.heap rows) (h : Q (valR k rows) { s with toks := s.toks + k.draws }) :
    wpAny (model prog w) A (dictGet d key) Q E s := by
  obtain ⟨hd, hz, o, es, ep, ho, hc, hdat, he⟩ := m
  unfold dictGet
  refine wpAny_holding (wpAny_bind (pyHash_key k key A s _ hk.is (by have := hk.dp; omega) (wpAny_bind ?_)))
  refine find_row (s := { s with toks := s.toks + k.draws }) room hk.is hk.dp hk.nr ho hdat he ok ?_
  cases q : idxR rows k with
  | none =>
    rw [valR_none q] at h
    exact wpAny_pure h
  | some j =>
    rw [valR_some q] at h
    refine wpAny_bind (wpAny_dictEntries (s := { s with toks := s.toks + k.draws }) ho hdat (wpAny_pure ?_))
    rw [row_at he j, Option.map_map]
    exact h
theorem rows_write {o : Obj} {es : Array DictEntry} {ep : Nat} {j : Nat} (hd : (d == sysModules) = false) (hz : rows.length ≤ sizeLine) (ho : s.heap.get? d = some o) (hc : o.ExactDict) (hdat : o.data = .dict es ep) (he : es.toList = rows.map (rowE w)) (q : idxR rows k = some j) :
    RowsAt w (s.heap.update d (Obj.mapDict fun es => es.modify j fun e => { e with val := v })) d (putR k key v rows) := by
  refine ⟨hd, ?_, _, _, ep, Heap.get?_update_self _ ho (Obj.isFreed_of_dict (Obj.data_mapDict hdat _)), hc.mapDict _, Obj.data_mapDict hdat _, ?_⟩
  · have e := congrArg List.length (putR_some w (key := key) (v := v) q)
    rw [List.length_map, List.length_modify, List.length_map] at e
    omega
  · rw [putR_some w q, ← he]
    obtain ⟨l⟩ := es
    simp
theorem rows_push {o : Obj} {es : Array DictEntry} {ep : Nat} (hd : (d == sysModules) = false) (hz : rows.length < sizeLine) (ho : s.heap.get? d = some o) (hc : o.ExactDict) (hdat : o.data = .dict es ep) (he : es.toList = rows.map (rowE w)) (q : idxR rows k = none) :
    RowsAt w (s.heap.update d (Obj.mapDictKeys fun es => es.push ⟨k.hash w, key, v⟩)) d (putR k key v rows) := by
  refine ⟨hd, Nat.le_trans (putR_length k key v rows) hz, _, _, ep + 1, Heap.get?_update_self _ ho (Obj.isFreed_of_dict (Obj.data_mapDictKeys hdat _)), hc.mapDictKeys _, Obj.data_mapDictKeys hdat _, ?_⟩
  rw [putR_none q]
  simp [he, rowE]
theorem rows_set {Q : Unit → Shared → Prop} (room : A.units + 8 < cLine) (hk : KeyOk s.heap k key) (m : RowsAt w s.heap d rows) (ok : RowsOk s.heap rows) (hz : rows.length < sizeLine)
    (h : ∀ h', RowsAt w h' d (putR k key v rows) → Heap.SameBut d s.heap h' → Q () { s with heap := h', toks := s.toks + k.draws }) : wpAny (model prog w) A (dictSet d key v) Q E s := by
  obtain ⟨hd, _, o, es, ep, ho, hc, hdat, he⟩ := m
  unfold dictSet
  refine wpAny_holding (wpAny_bind (pyHash_key k key A s _ hk.is (by have := hk.dp; omega) ?_))
  unfold dictSetHashed
  refine wpAny_holding (wpAny_bind ?_)
  refine find_row (s := { s with toks := s.toks + k.draws }) room hk.is hk.dp hk.nr ho hdat he ok ?_
  cases q : idxR rows k with
  | none =>
    exact wpAny_bind (wpAny_rule (wpAny_updateDictKeys (hz := by have e := row_size he; omega) (s := { s with toks := s.toks + k.draws }) ho hdat (h _ (rows_push hd hz ho hc hdat he q) (Heap.SameBut.update ..))))
  | some j =>
    exact wpAny_bind (wpAny_rule (wpAny_bind (wpAny_updateDict (s := { s with toks := s.toks + k.draws }) ho hdat (wpAny_point (h _ (rows_write hd (Nat.le_of_lt hz) ho hc hdat he q) (Heap.SameBut.update ..))))))
theorem rows_setdefault {Q : Value → Shared → Prop} (room : A.units + 8 < cLine) (hk : KeyOk s.heap k key) (m : RowsAt w s.heap d rows) (ok : RowsOk s.heap rows) (hz : rows.length < sizeLine)
    (h1 : ∀ x, valR k rows = some x → Q x { s with toks := s.toks + k.draws })
    (h2 : valR k rows = none → ∀ h', RowsAt w h' d (putR k key dflt rows) → Heap.SameBut d s.heap h' → Q dflt { s with heap := h', toks := s.toks + k.draws }) : wpAny (model prog w) A (dictSetDefault d key dflt) Q E s := by
  obtain ⟨hd, _, o, es, ep, ho, hc, hdat, he⟩ := m
  unfold dictSetDefault
  refine wpAny_holding (wpAny_bind (pyHash_key k key A s _ hk.is (by have := hk.dp; omega) (wpAny_bind ?_)))
  refine find_row (s := { s with toks := s.toks + k.draws }) room hk.is hk.dp hk.nr ho hdat he ok ?_
  cases q : idxR rows k with
  | none =>
    exact wpAny_bind (wpAny_rule (wpAny_bind (wpAny_updateDictKeys (hz := by have e := row_size he; omega) (s := { s with toks := s.toks + k.draws }) ho hdat (wpAny_pure (h2 (valR_none q) _ (rows_push hd hz ho hc hdat he q) (Heap.SameBut.update ..))))))
  | some j =>
    refine wpAny_bind (wpAny_dictEntries (s := { s with toks := s.toks + k.draws }) ho hdat ?_)
    obtain ⟨p, hj⟩ := idxR_some q
    rw [row_at he j, hj]
    refine wpAny_bind (wpAny_rule (wpAny_pure (h1 _ ?_)))
    rw [valR_some q, hj]
    rfl
/-! ### the operations -/
theorem rows_in {Q : Value → Shared → Prop} (room : A.units + 9 < cLine) (hk : KeyOk s.heap k key) (m : RowsAt w s.heap d rows) (ok : RowsOk s.heap rows) (h : Q (.bool (valR k rows).isSome) { s with toks := s.toks + k.draws }) :
    wpAny (model prog w) A (compareOp .In key (.ref d)) Q E s := by
  have room1 : A.in1.units + 8 < cLine := by rw [Around.in1_units]; omega
  show wpAny _ _ (do return .bool (← contains (.ref d) key)) Q E s
  refine wpAny_bind ?_
  unfold contains
  refine wpAny_holding (wpAny_bind (wpAny_specialOf m.typeIs slot_dict_contains.lookup ?_))
  show wpAny _ _ (if (some (Value.builtin "dict.__contains__") == some Value.none) = true then _ else _) _ E s
  rw [if_neg (by rw [beq_builtin_none]; exact Bool.false_ne_true)]
  refine wpAny_bind (wpAny_callSpecialUnlessNone?_slot (name := Str.ofString "__contains__") m.typeIs slot_dict_contains (wpAny_call_entry slot_dict_contains m.typeIs entry_dict_contains ?_ (args_dict_contains _ _)))
  show wpAny _ _ (dictGet d key >>= _) _ _ s
  refine wpAny_bind (rows_get room1 hk m ok ?_)
  cases hf : valR k rows with
  | some p =>
    rw [hf] at h
    show wpAny _ _ (ret (.bool true)) _ _ _
    exact wpAny_pure ⟨_, rfl, wpAny_truthy_bool (wpAny_pure h)⟩
  | none =>
    rw [hf] at h
    show wpAny _ _ (Builtin.Dict.pendingKey? d key >>= _) _ _ _
    exact wpAny_bind (wpAny_pendingKey_other m.1 (wpAny_pure ⟨_, rfl, wpAny_truthy_bool (wpAny_pure h)⟩))
theorem rows_item {Q : Value → Shared → Prop} (room : A.units + 9 < cLine) (hk : KeyOk s.heap k key) (m : RowsAt w s.heap d rows) (ok : RowsOk s.heap rows) (hv : valR k rows = some v) (h : Q v { s with toks := s.toks + k.draws }) :
    wpAny (model prog w) A (getItem (.ref d) key) Q E s := by
  have room1 : A.in1.units + 8 < cLine := by rw [Around.in1_units]; omega
  unfold getItem
  refine wpAny_holding (wpAny_bind (wpAny_sequenceKey m.typeIs (by decide) ?_))
  refine wpAny_bind (wpAny_callSpecial?_slot (name := Str.ofString "__getitem__") m.typeIs slot_dict_getitem (wpAny_call_entry slot_dict_getitem m.typeIs entry_dict_getitem ?_ (args_dict_getitem _ _)))
  show wpAny _ _ (dictGet d key >>= _) _ _ s
  refine wpAny_bind (rows_get room1 hk m ok ?_)
  rw [hv]
  exact wpAny_pure ⟨v, rfl, wpAny_pure h⟩
theorem rows_setItem {Q : Unit → Shared → Prop} (room : A.units + 9 < cLine) (hk : KeyOk s.heap k key) (m : RowsAt w s.heap d rows) (ok : RowsOk s.heap rows) (hz : rows.length < sizeLine)
    (h : ∀ h', RowsAt w h' d (putR k key v rows) → Heap.SameBut d s.heap h' → Q () { s with heap := h', toks := s.toks + k.draws }) : wpAny (model prog w) A (setItem (.ref d) key v) Q E s := by
  have room1 : A.in1.units + 8 < cLine := by rw [Around.in1_units]; omega
  unfold setItem
  refine wpAny_holding (wpAny_bind (wpAny_sequenceKey m.typeIs (by decide) ?_))
  refine wpAny_bind (wpAny_callSpecial?_slot (name := Str.ofString "__setitem__") m.typeIs slot_dict_setitem (wpAny_call_entry slot_dict_setitem m.typeIs entry_dict_setitem ?_ (args_dict_setitem _ _ _)))
  show wpAny _ _ (Builtin.Dict.notOrdered "__setitem__" ⟨[.ref d, key, v], []⟩ >>= _) _ _ s
  refine wpAny_bind (wpAny_notOrdered_dict m.typeIs ?_)
  show wpAny _ _ (dictSet d key v >>= _) _ _ s
  exact wpAny_bind (rows_set room1 hk m ok hz fun h' m' sb => wpAny_pure ⟨.none, rfl, wpAny_pure (h h' m' sb)⟩)
theorem rows_getD {Q : Value → Shared → Prop} (room : A.units + 9 < cLine) (hk : KeyOk s.heap k key) (m : RowsAt w s.heap d rows) (ok : RowsOk s.heap rows) (h : Q ((valR k rows).getD dflt) { s with toks := s.toks + k.draws }) :
    wpAny (model prog w) A (call (.builtin "dict.get") [.ref d, key, dflt]) Q E s := by
  have room1 : A.in1.units + 8 < cLine := by rw [Around.in1_units]; omega
  refine call_meetsIn (S := fun A' R s' => A' = A ∧ s' = s ∧ R (.ok (.ret ((valR k rows).getD dflt))) { s with toks := s.toks + k.draws }) F.slot_dict_get m.typeIs F.entry_dict_get (F.args_dict_get_3 _ _ _) (.of_wp ?_) ⟨rfl, rfl, h⟩
  rintro A' R s' ⟨rfl, rfl, hR⟩
  show wpAny _ _ (dictGet d key >>= _) _ _ _
  refine wpAny_bind (rows_get room1 hk m ok ?_)
  cases hf : valR k rows with
  | some v =>
    rw [hf] at hR
    exact wpAny_pure ⟨v, rfl, hR⟩
  | none =>
    rw [hf] at hR
    show wpAny _ _ (Builtin.Dict.missed d key >>= _) _ _ _
    exact wpAny_bind (wpAny_missed_other m.1 (wpAny_pure ⟨dflt, rfl, hR⟩))
theorem rows_setD {Q : Value → Shared → Prop} (room : A.units + 9 < cLine) (hk : KeyOk s.heap k key) (m : RowsAt w s.heap d rows) (ok : RowsOk s.heap rows) (hz : rows.length < sizeLine)
    (h1 : ∀ x, valR k rows = some x → Q x { s with toks := s.toks + k.draws })
    (h2 : valR k rows = none → ∀ h', RowsAt w h' d (putR k key dflt rows) → Heap.SameBut d s.heap h' → Q dflt { s with heap := h', toks := s.toks + k.draws }) : wpAny (model prog w) A (call (.builtin "dict.setdefault") [.ref d, key, dflt]) Q E s := by
  have room1 : A.in1.units + 8 < cLine := by rw [Around.in1_units]; omega
  refine call_meetsIn (S := fun A' R s' => A' = A ∧ s' = s ∧ (∀ x, valR k rows = some x → R (.ok (.ret x)) { s with toks := s.toks + k.draws }) ∧ (valR k rows = none → ∀ h', RowsAt w h' d (putR k key dflt rows) → Heap.SameBut d s.heap h' → R (.ok (.ret dflt)) { s with heap := h', toks := s.toks + k.draws }))
    F.slot_dict_setdefault m.typeIs F.entry_dict_setdefault (F.args_dict_setdefault_3 _ _ _) (.of_wp ?_) ⟨rfl, rfl, h1, h2⟩
  rintro A' R s' ⟨rfl, rfl, r1, r2⟩
  unfold Builtin.«dict.setdefault»
  refine wpAny_bind ?_
  unfold Builtin.Dict.keyAndDefault
  refine wpAny_bind (wpAny_notOrdered_dict m.typeIs ?_)
  show wpAny _ _ (pure (d, key, some dflt)) _ _ _
  refine wpAny_pure ?_
  show wpAny _ _ (if (d == sysModules) = true then _ else (dictSetDefault d key dflt >>= _)) _ _ _
  rw [if_neg (by rw [m.1]; exact Bool.false_ne_true)]
  exact wpAny_bind (rows_setdefault room1 hk m ok hz (fun p hp => wpAny_pure ⟨p, rfl, r1 p hp⟩) fun hn h' m' sb => wpAny_pure ⟨dflt, rfl, r2 hn h' m' sb⟩)
end
end SE
/-! Rules for a dict whose keys are flat tuples (None, ints, texts), whose values are any. -/
namespace SE
open PySem PySem.Spec PyProof.Rows L2 SeqAt
inductive AtomV : V → Prop
  | non : AtomV .non
  | int (i : Int) : AtomV (.int i)
  | str (x : Str) : AtomV (.str x)
def atomK : V → NestedKey
  | .int i => .num i
  | .str x => .text x
  | _ => .none
theorem atomK_inj {a b : V} (ha : AtomV a) (hb : AtomV b) (h : atomK a = atomK b) : a = b := by
  cases ha <;> cases hb <;> first | rfl | (cases h; rfl) | cases h
/-- how a key is written as a tuple -/
structure KF (κ : Type) where
  vs : κ → List V
  inj : ∀ {a b}, vs a = vs b → a = b
  atoms : ∀ k, ∀ v ∈ vs k, AtomV v
section
variable {κ : Type} [DecidableEq κ] {F : KF κ}
def keyF (F : KF κ) (k : κ) : NestedKey := .tup ((F.vs k).map atomK)
theorem atoms_inj : ∀ {xs ys : List V}, (∀ v ∈ xs, AtomV v) → (∀ v ∈ ys, AtomV v) → xs.map atomK = ys.map atomK → xs = ys
  | [], [], _, _, _ => rfl
  | [], _ :: _, _, _, h => by cases h
  | _ :: _, [], _, _, h => by cases h
  | x :: xs, y :: ys, hx, hy, h => by
    obtain ⟨h1, h2⟩ := List.cons.inj h
    rw [atomK_inj (hx x List.mem_cons_self) (hy y List.mem_cons_self) h1, atoms_inj (fun v m => hx v (List.mem_cons_of_mem _ m)) (fun v m => hy v (List.mem_cons_of_mem _ m)) h2]
theorem keyF_inj {a b : κ} (h : keyF F a = keyF F b) : a = b := F.inj (atoms_inj (F.atoms a) (F.atoms b) (NestedKey.tup.inj h))
theorem atoms_flat : ∀ xs : List V, NestedKey.depthAll (xs.map atomK) = 0
  | [] => rfl
  | x :: xs => by
    show max (atomK x).depth (NestedKey.depthAll (xs.map atomK)) = 0
    rw [atoms_flat xs]
    cases x <;> rfl
theorem keyF_depth (k : κ) : (keyF F k).depth ≤ 8 := by
  show NestedKey.depthAll ((F.vs k).map atomK) + 1 ≤ 8
  rw [atoms_flat]
  decide
/-- a row: the key, the key's tuple, the value -/
abbrev RowF (κ : Type) := κ × Addr × V
def RelF (F : KF κ) (r : RowF κ) (x : Row) : Prop := x.1 = keyF F r.1 ∧ x.2.1 = .ref r.2.1 ∧ RelV r.2.2 x.2.2
def atF (k : κ) : List (RowF κ) → Option V
  | [] => none
  | r :: rest => if r.1 = k then some r.2.2 else atF k rest
def putF (k : κ) (b : Addr) (v : V) : List (RowF κ) → List (RowF κ)
  | [] => [(k, b, v)]
  | r :: rest => if r.1 = k then (r.1, r.2.1, v) :: rest else r :: putF k b v rest
theorem atF_none {k : κ} : ∀ {rows : List (RowF κ)} {rs : List Row}, Paired (RelF F) rows rs → atF k rows = none → valR (keyF F k) rs = none
  | [], _, h, _ => by cases h; rfl
  | r :: rest, _, h, q => by
    cases h with
    | cons a t =>
      rename_i x xs
      unfold atF at q
      split at q
      · cases q
      · rename_i ne
        unfold valR
        rw [if_neg (fun e => ne (keyF_inj (a.1.symm.trans e))), atF_none t q]
theorem atF_some {k : κ} {v : V} : ∀ {rows : List (RowF κ)} {rs : List Row}, Paired (RelF F) rows rs → atF k rows = some v → ∃ u, valR (keyF F k) rs = some u ∧ RelV v u
  | [], _, h, q => by cases q
  | r :: rest, _, h, q => by
    cases h with
    | cons a t =>
      rename_i x xs
      unfold atF at q
      split at q
      · rename_i e
        cases q
        exact ⟨x.2.2, by unfold valR; rw [if_pos (by rw [a.1, e])], a.2.2⟩
      · rename_i ne
        obtain ⟨u, hu, ru⟩ := atF_some t q
        exact ⟨u, by unfold valR; rw [if_neg (fun e => ne (keyF_inj (a.1.symm.trans e))), hu], ru⟩
theorem atF_isSome {k : κ} {rows : List (RowF κ)} {rs : List Row} (h : Paired (RelF F) rows rs) : (valR (keyF F k) rs).isSome = (atF k rows).isSome := by
  cases q : atF k rows with
  | none =>
    rw [atF_none h q]
    rfl
  | some v =>
    obtain ⟨u, hu, _⟩ := atF_some h q
    rw [hu]
    rfl
theorem putF_rel {k : κ} {b : Addr} {v : V} {u : Value} (rv : RelV v u) : ∀ {rows : List (RowF κ)} {rs : List Row}, Paired (RelF F) rows rs → Paired (RelF F) (putF k b v rows) (putR (keyF F k) (.ref b) u rs)
  | [], _, h => by
    cases h
    exact .cons ⟨rfl, rfl, rv⟩ .nil
  | r :: rest, _, h => by
    cases h with
    | cons a t =>
      rename_i x xs
      unfold putF putR
      by_cases e : r.1 = k
      · rw [if_pos e, if_pos (show x.1 = keyF F k by rw [a.1, e])]
        exact .cons ⟨a.1, a.2.1, rv⟩ t
      · rw [if_neg e, if_neg (fun z => e (keyF_inj (a.1.symm.trans z)))]
        exact .cons a (putF_rel rv t)
theorem putF_length (k : κ) (b : Addr) (v : V) : ∀ rows : List (RowF κ), (putF k b v rows).length ≤ rows.length + 1
  | [] => Nat.le_refl _
  | r :: rest => by
    unfold putF
    split
    · simp
    · have := putF_length k b v rest
      simp only [List.length_cons]
      omega
theorem putF_mem {k : κ} {b : Addr} {v : V} : ∀ {rows : List (RowF κ)} {r : RowF κ}, r ∈ putF k b v rows → (∃ r0 ∈ rows, r.1 = r0.1 ∧ r.2.1 = r0.2.1) ∨ r = (k, b, v)
  | [], r, h => by
    have e : r = (k, b, v) := by simpa [putF] using h
    exact .inr e
  | q :: rest, r, h => by
    unfold putF at h
    split at h
    · rcases List.mem_cons.mp h with e | m
      · exact .inl ⟨q, List.mem_cons_self, by rw [e], by rw [e]⟩
      · exact .inl ⟨r, List.mem_cons_of_mem _ m, rfl, rfl⟩
    · rcases List.mem_cons.mp h with e | m
      · exact .inl ⟨q, List.mem_cons_self, by rw [e], by rw [e]⟩
      · rcases putF_mem m with ⟨r0, m0, e⟩ | e
        · exact .inl ⟨r0, List.mem_cons_of_mem _ m0, e⟩
        · exact .inr e
theorem putF_keys {k : κ} {b : Addr} {v : V} : ∀ {rows : List (RowF κ)}, (rows.map (·.1)).Nodup → ((putF k b v rows).map (·.1)).Nodup
  | [], _ => by simp [putF]
  | q :: rest, h => by
    have h2 := List.nodup_cons.mp h
    unfold putF
    split
    · exact h
    · rename_i ne
      refine List.nodup_cons.mpr ⟨fun m => ?_, putF_keys h2.2⟩
      obtain ⟨r, m1, e⟩ := List.mem_map.mp m
      rcases putF_mem m1 with ⟨r0, m0, e0, _⟩ | z
      · exact h2.1 (List.mem_map.mpr ⟨r0, m0, e0.symm.trans e⟩)
      · exact ne ((show q.1 = r.1 from e.symm).trans (by rw [z]))
def RowsF (F : KF κ) (w : World) (h : Heap) (d : Addr) (rows : List (RowF κ)) : Prop := ∃ rs, Paired (RelF F) rows rs ∧ RowsAt w h d rs
/-- the dict's object -/
def dF (F : KF κ) (w : World) (d : Addr) (rows : List (RowF κ)) : HO := .ext fun h => RowsF F w h d rows
/-- a key's value -/
def KeyF (F : KF κ) (K : PySem.W.Frag) (H : Hp) (y : V) (k : κ) : Prop := ∃ b, y = .ref b ∧ SqT K H b (F.vs k)
structure KeysF (F : KF κ) (K : PySem.W.Frag) (H : Hp) (rows : List (RowF κ)) : Prop where
  keys : ∀ r ∈ rows, SqT K H r.2.1 (F.vs r.1)
  nd : (rows.map (·.1)).Nodup
theorem KeysF.mono {K : PySem.W.Frag} {H H' : Hp} {rows : List (RowF κ)} (t : ∀ b xs, SqT K H b xs → SqT K H' b xs) (r : KeysF F K H rows) : KeysF F K H' rows := ⟨fun q m => t _ _ (r.keys q m), r.nd⟩
theorem KeysF.nil {K : PySem.W.Frag} {H : Hp} : KeysF F K H [] := ⟨fun q m => (by cases m), List.nodup_nil⟩
theorem KeysF.put {K : PySem.W.Frag} {H : Hp} {rows : List (RowF κ)} {k : κ} {b : Addr} (v : V) (r : KeysF F K H rows) (q : SqT K H b (F.vs k)) : KeysF F K H (putF k b v rows) := by
  refine ⟨fun z m => ?_, putF_keys r.nd⟩
  rcases putF_mem m with ⟨r0, m0, e1, e2⟩ | e
  · rw [e1, e2]
    exact r.keys r0 m0
  · rw [e]
    exact q
/-- a dict that is written leaves the tuples -/
theorem dF_tup {K : PySem.W.Frag} {H : Hp} {w : World} {d : Addr} {rows : List (RowF κ)} {o : HO} (e : H d = some (dF F w d rows)) : ∀ b xs, SqT K H b xs → SqT K (upd H d o) b xs := fun b xs q => by
  rcases q with (q | ⟨ob, q⟩) | q
  · exact .inl (.inl (by rw [upd_ne (ne_of q e (fun z => nomatch z))]; exact q))
  · exact .inl (.inr ⟨ob, by rw [upd_ne (ne_of q e (fun z => nomatch z))]; exact q⟩)
  · exact .inr q
theorem dF_at {w : World} {h h' : Heap} {d : Addr} {rows : List (RowF κ)} (m : RowsF F w h d rows) (k : ∀ o, h.get? d = some o → h'.get? d = some o) : RowsF F w h' d rows := by
  obtain ⟨rs, hr, a, b, o, es, ep, ho, r⟩ := m
  exact ⟨rs, hr, a, b, o, es, ep, k o ho, r⟩
theorem dF_ok {P : Program} {w : World} {H : Hp} {h : Heap} {d : Addr} {rows : List (RowF κ)} (m : RowsF F w h d rows) : ObjOk P w H h d (dF F w d rows) := by
  have ⟨_, _, _, _, o, _, _, ho, _⟩ := m
  exact ⟨m, ⟨o, ho⟩, fun h1 h2 p k => dF_at p k⟩
section
variable {X : Cx} {pins : List (Addr × Obj)} {σ : L2.St} {H : Hp} {s : Shared} {d : Addr} {rows : List (RowF κ)} {rs : List Row} {y : V} {k : κ} {u : Value} {A : Around} {E : Value → Shared → Prop}
theorem dF_read (I : Inv X pins σ H s) (e : Rd H d (dF F X.w d rows)) : RowsF F X.w s.heap d rows := (e.ok I.hok).1
theorem atoms_all {h : Heap} : ∀ {xs : List V} {us : List Value}, (∀ v ∈ xs, AtomV v) → Vals xs us → NestedAll h (xs.map atomK) us
  | [], _, _, r => by cases r; exact .nil
  | x :: xs, _, hx, r => by
    cases r with
    | cons a b =>
      have tl := atoms_all (h := h) (fun v m => hx v (List.mem_cons_of_mem _ m)) b
      have hd := hx x List.mem_cons_self
      cases hd with
      | non =>
        cases a
        exact .cons .none tl
      | int i =>
        obtain ⟨t, rfl⟩ := a
        exact .cons (.int i t) tl
      | str z =>
        obtain ⟨t, rfl⟩ := a
        exact .cons (.text z t) tl
theorem tupF_ok {b : Addr} (I : Inv X pins σ H s) (q : SqT X.K H b (F.vs k)) : KeyOk s.heap (keyF F k) (.ref b) := by
  obtain ⟨its, rv, ⟨o, h1, h2, n, h3⟩, _⟩ := I.tuple q
  exact ⟨.tup h1 h2 h3 (atoms_all (F.atoms k) (by simpa using rv)), keyF_depth _, .inr ⟨b, rfl⟩⟩
theorem keyF_ok (I : Inv X pins σ H s) (q : KeyF F X.K H y k) (r : RelV y u) : ∃ b, y = .ref b ∧ u = .ref b ∧ KeyOk s.heap (keyF F k) u := by
  obtain ⟨b, rfl, q⟩ := q
  cases r
  exact ⟨b, rfl, rfl, tupF_ok I q⟩
theorem mem_pair {rows : List (RowF κ)} {rs : List Row} (h : Paired (RelF F) rows rs) : ∀ x ∈ rs, ∃ r ∈ rows, RelF F r x := by
  induction h with
  | nil => intro x m; cases m
  | cons a t ih =>
    intro x m
    rcases List.mem_cons.mp m with e | m
    · exact ⟨_, List.mem_cons_self, e ▸ a⟩
    · obtain ⟨r, mr, q⟩ := ih x m
      exact ⟨r, List.mem_cons_of_mem _ mr, q⟩
theorem keys_pair {rows : List (RowF κ)} {rs : List Row} (h : Paired (RelF F) rows rs) : rs.map (·.1) = (rows.map (·.1)).map (keyF F) := by
  induction h with
  | nil => rfl
  | cons a t ih =>
    simp only [List.map_cons]
    rw [ih, a.1]
theorem len_pair {rows : List (RowF κ)} {rs : List Row} (h : Paired (RelF F) rows rs) : rs.length = rows.length := by
  induction h with
  | nil => rfl
  | cons a t ih => simp only [List.length_cons, ih]
theorem dF_rows (I : Inv X pins σ H s) (rk : KeysF F X.K H rows) (h : Paired (RelF F) rows rs) : RowsOk s.heap rs := by
  refine ⟨fun x m => ?_, fun x m => ?_, fun x m => ?_, ?_⟩
  · obtain ⟨r, mr, q⟩ := mem_pair h x m
    rw [q.1, q.2.1]
    exact (tupF_ok I (rk.keys r mr)).is
  · obtain ⟨r, mr, q⟩ := mem_pair h x m
    rw [q.1]
    exact keyF_depth _
  · obtain ⟨r, mr, q⟩ := mem_pair h x m
    rw [q.2.1]
    exact .inr ⟨_, rfl⟩
  · rw [keys_pair h]
    exact List.pairwise_map.mpr (rk.nd.imp fun ne z => ne (keyF_inj z))
theorem dF_turned {h' : Heap} {t' : Nat} {rows' : List (RowF κ)} (I : Inv X pins σ H s) (e : H d = some (dF F X.w d rows)) (m : RowsF F X.w h' d rows') (sb : Heap.SameBut d s.heap h') : Inv X pins σ (upd H d (dF F X.w d rows')) { s with heap := h', toks := t' } :=
  d_write I (by rw [e]; exact True.intro) sb (let ⟨_, _, _, _, o, _, _, ho, _⟩ := m; ⟨o, ho⟩) (dF_ok m)
end
/-! ### rules -/
/-- {} -/
def tNewF (F : KF κ) (w : World) : TE := fun _ H Q => ∀ p, H p = none → Q (.ref p) (upd H p (dF F w p []))
/-- d[y] -/
def tGetF (F : KF κ) (w : World) (K : PySem.W.Frag) (td ty : TE) : TE := fun σ H Q => td σ H fun x H1 => ty σ H1 fun y H2 => ∃ d rows k v, x = .ref d ∧ Rd H2 d (dF F w d rows) ∧ KeysF F K H2 rows ∧ KeyF F K H2 y k ∧ atF k rows = some v ∧ Q v H2
/-- d.get(y) -/
def tGet1F (F : KF κ) (w : World) (K : PySem.W.Frag) (td ty : TE) : TE := fun σ H Q => td σ H fun x H1 => ∃ d rows, x = .ref d ∧ Rd H1 d (dF F w d rows) ∧ ty σ H1 fun y H3 => ∃ k, Rd H3 d (dF F w d rows) ∧ KeysF F K H3 rows ∧ KeyF F K H3 y k ∧ Q ((atF k rows).getD .non) H3
/-- d.get(y, z) -/
def tGet2F (F : KF κ) (w : World) (K : PySem.W.Frag) (td ty tx : TE) : TE := fun σ H Q => td σ H fun x H1 => ∃ d rows, x = .ref d ∧ Rd H1 d (dF F w d rows) ∧ ty σ H1 fun y H2 => tx σ H2 fun z H3 => ∃ k, Rd H3 d (dF F w d rows) ∧ KeysF F K H3 rows ∧ KeyF F K H3 y k ∧ Q ((atF k rows).getD z) H3
/-- d.setdefault(y, z) -/
def tSetDF (F : KF κ) (w : World) (K : PySem.W.Frag) (td ty tx : TE) : TE := fun σ H Q => td σ H fun x H1 => ∃ d rows, x = .ref d ∧ Rd H1 d (dF F w d rows) ∧ ty σ H1 fun y H2 => tx σ H2 fun z H3 => ∃ k b, y = .ref b ∧ H3 d = some (dF F w d rows) ∧ KeysF F K H3 rows ∧ SqT K H3 b (F.vs k) ∧ rows.length < sizeLine ∧
  (∀ v, atF k rows = some v → Q v H3) ∧ (atF k rows = none → Q z (upd H3 d (dF F w d (putF k b z rows))))
/-- y in d, y not in d -/
def tInF (F : KF κ) (w : World) (K : PySem.W.Frag) (neg : Bool) (ty td : TE) : TE := fun σ H Q => ty σ H fun y H1 => td σ H1 fun x H2 => ∃ d rows k, x = .ref d ∧ Rd H2 d (dF F w d rows) ∧ KeysF F K H2 rows ∧ KeyF F K H2 y k ∧ Q (.bl (neg ^^ (atF k rows).isSome)) H2
/-- d[y] = v -/
def sPutF (F : KF κ) (w : World) (K : PySem.W.Frag) (td ty tv : TE) : TS := fun D σ H => tv σ H fun v H1 => td σ H1 fun x H2 => ty σ H2 fun y H3 => ∃ d rows k b, y = .ref b ∧ x = .ref d ∧ H3 d = some (dF F w d rows) ∧ KeysF F K H3 rows ∧ SqT K H3 b (F.vs k) ∧ rows.length < sizeLine ∧ D.nx σ (upd H3 d (dF F w d (putF k b v rows)))
section
variable {X : Cx} {o i e f value : Expr} {pos pos' apos cpos : Pos} {td ty tx tv : TE}
theorem pe_newF : PE X (.Dict [] [] pos) (tNewF F X.w) := ⟨fun pins s σ H Q I h => by
  have big : (s.heap.objs.size == sysModules) = false := beq_eq_false_iff_ne.mpr (Ne.symm (Nat.ne_of_lt I.big))
  refine wpAny_Dict_empty ⟨.ref s.heap.objs.size, _, I.laid (a := s.heap.objs.size) (o := dF F X.w s.heap.objs.size []) (t' := s.toks) (fun _ _ q => Heap.get?_push_of_some _ q) (Nat.le_refl _) (dF_ok ?_), rfl, h _ (I.hok.fresh (Nat.le_refl _))⟩
  exact ⟨[], .nil, big, Nat.zero_le _, _, #[], 0, Heap.get?_push_size _ rfl, ⟨rfl, rfl, rfl⟩, rfl, rfl⟩⟩
theorem pe_getF (room : X.A.units + 9 < cLine) (ho : PE X o td) (hi : PE X i ty) (hs : NoSl i) : PE X (.Subscript o i pos) (tGetF F X.w X.K td ty) := by
  refine ⟨fun pins s σ H Q I h => ?_⟩
  refine subD_of PySem.F.slot_dict_getitem.lookup hs (thn (ho.run pins s σ H _ I h) fun u s1 ⟨x, H1, I1, rx, q1⟩ => thn (hi.run pins s1 σ H1 _ I1 q1) fun iv s2 ⟨y, H2, I2, ry, d, rows, k, v, ex, rd, rk, kv, at_k, q2⟩ => ?_)
  subst ex
  obtain rfl : u = Value.ref d := rx
  obtain ⟨rs, hp, m⟩ := dF_read I2 rd
  obtain ⟨uv, hu, ru⟩ := atF_some hp at_k
  obtain ⟨b, _, _, kk⟩ := keyF_ok I2 kv ry
  exact ⟨m.typeIs, rows_item (v := uv) room kk m (dF_rows I2 rk hp) hu ⟨v, H2, I2.tok _, ru, q2⟩⟩
theorem pc_inF (room : X.A.units + 9 < cLine) (hi : PE X i ty) (ho : PE X o td) : PC X .In i o (tInF F X.w X.K false ty td) := by
  refine ⟨fun pins s σ H Q I h => ?_⟩
  refine thn (hi.run pins s σ H _ I h) fun iv s1 ⟨y, H1, I1, ry, q1⟩ => thn (ho.run pins s1 σ H1 _ I1 q1) fun u s2 ⟨x, H2, I2, rx, d, rows, k, ex, rd, rk, kv, q2⟩ => ?_
  subst ex
  obtain rfl : u = Value.ref d := rx
  obtain ⟨rs, hp, m⟩ := dF_read I2 rd
  obtain ⟨b, _, _, kk⟩ := keyF_ok I2 kv ry
  refine rows_in room kk m (dF_rows I2 rk hp) ?_
  refine ⟨.bl (atF k rows).isSome, H2, I2.tok _, ?_, by simpa using q2⟩
  rw [atF_isSome hp]
  rfl
theorem rows_notin {prog : Program} {w : World} {A : Around} {E : Value → Shared → Prop} {s : Shared} {d : Addr} {rows : List Row} {k : NestedKey} {key : Value} {Q : Value → Shared → Prop} (room : A.units + 9 < cLine) (hk : KeyOk s.heap k key) (m : RowsAt w s.heap d rows) (ok : RowsOk s.heap rows) (h : Q (.bool (!(valR k rows).isSome)) { s with toks := s.toks + k.draws }) :
    wpAny (model prog w) A (compareOp .NotIn key (.ref d)) Q E s := by
  have room1 : A.in1.units + 8 < cLine := by rw [Around.in1_units]; omega
  show wpAny _ _ (do return .bool (!(← contains (.ref d) key))) Q E s
  refine wpAny_bind ?_
  unfold contains
  refine wpAny_holding (wpAny_bind (wpAny_specialOf m.typeIs slot_dict_contains.lookup ?_))
  show wpAny _ _ (if (some (Value.builtin "dict.__contains__") == some Value.none) = true then _ else _) _ E s
  rw [if_neg (by rw [beq_builtin_none]; exact Bool.false_ne_true)]
  refine wpAny_bind (wpAny_callSpecialUnlessNone?_slot (name := Str.ofString "__contains__") m.typeIs slot_dict_contains (wpAny_call_entry slot_dict_contains m.typeIs entry_dict_contains ?_ (args_dict_contains _ _)))
  show wpAny _ _ (dictGet d key >>= _) _ _ s
  refine wpAny_bind (rows_get room1 hk m ok ?_)
  cases hf : valR k rows with
  | some p =>
    rw [hf] at h
    show wpAny _ _ (ret (.bool true)) _ _ _
    exact wpAny_pure ⟨_, rfl, wpAny_truthy_bool (wpAny_pure h)⟩
  | none =>
    rw [hf] at h
    show wpAny _ _ (Builtin.Dict.pendingKey? d key >>= _) _ _ _
    exact wpAny_bind (wpAny_pendingKey_other m.1 (wpAny_pure ⟨_, rfl, wpAny_truthy_bool (wpAny_pure h)⟩))
theorem pc_notinF (room : X.A.units + 9 < cLine) (hi : PE X i ty) (ho : PE X o td) : PC X .NotIn i o (tInF F X.w X.K true ty td) := by
  refine ⟨fun pins s σ H Q I h => ?_⟩
  refine thn (hi.run pins s σ H _ I h) fun iv s1 ⟨y, H1, I1, ry, q1⟩ => thn (ho.run pins s1 σ H1 _ I1 q1) fun u s2 ⟨x, H2, I2, rx, d, rows, k, ex, rd, rk, kv, q2⟩ => ?_
  subst ex
  obtain rfl : u = Value.ref d := rx
  obtain ⟨rs, hp, m⟩ := dF_read I2 rd
  obtain ⟨b, _, _, kk⟩ := keyF_ok I2 kv ry
  refine rows_notin room kk m (dF_rows I2 rk hp) ?_
  refine ⟨.bl (!(atF k rows).isSome), H2, I2.tok _, ?_, by simpa using q2⟩
  rw [atF_isSome hp]
  rfl
theorem ps_putF (room : X.A.units + 9 < cLine) (ho : PE X o td) (hi : PE X i ty) (hv : PE X value tv) (hs : swapsWith value (some (.Subscript o i pos')) pos.line X.env = pure false) :
    PS X (.Assign [.Subscript o i pos'] value pos) (sPutF F X.w X.K td ty tv) := by
  refine ⟨fun pins s σ H D I h => ?_⟩
  refine wpAny_Assign_Subscript (thn (hv.run pins s σ H _ I h) fun r s1 ⟨v, H1, I1, rv, q1⟩ => thn (ho.run pins s1 σ H1 _ I1 q1) fun u s2 ⟨x, H2, I2, rx, q2⟩ => thn (hi.run pins s2 σ H2 _ I2 q2) fun iv s3 ⟨y, H3, I3, ry, d, rows, k, b, ey, ex, e, rk, kv, hz, q3⟩ => ?_) hs
  subst ey ex
  obtain rfl : u = Value.ref d := rx
  obtain rfl : iv = Value.ref b := ry
  obtain ⟨rs, hp, m⟩ := dF_read I3 (.of e)
  exact rows_setItem room (tupF_ok I3 kv) m (dF_rows I3 rk hp) (by rw [len_pair hp]; exact hz) fun h' m sb => ⟨σ, _, dF_turned I3 e ⟨_, putF_rel rv hp, m⟩ sb, q3⟩
theorem dF_plain (I : Inv X pins σ H s) {d : Addr} {rows : List (RowF κ)} (e : Rd H d (dF F X.w d rows)) : s.TypeIs (.ref d) "dict" ∧ ∀ b, Value.ref d = .ref b → ∃ ob, s.heap.get? b = some ob ∧ ob.dict = none := by
  obtain ⟨rs, hp, m⟩ := dF_read I e
  refine ⟨m.typeIs, fun b q => ?_⟩
  cases q
  obtain ⟨_, _, ob, _, _, h1, h2, _⟩ := m
  exact ⟨ob, h1, h2.2.1⟩
theorem rows_get1 {prog : Program} {w : World} {A : Around} {E : Value → Shared → Prop} {s : Shared} {d : Addr} {rows : List Row} {k : NestedKey} {key : Value} {Q : Value → Shared → Prop} (room : A.units + 9 < cLine) (hk : KeyOk s.heap k key) (m : RowsAt w s.heap d rows) (ok : RowsOk s.heap rows) (h : Q ((valR k rows).getD .none) { s with toks := s.toks + k.draws }) :
    wpAny (model prog w) A (call (.builtin "dict.get") [.ref d, key]) Q E s := by
  have room1 : A.in1.units + 8 < cLine := by rw [Around.in1_units]; omega
  refine call_meetsIn (S := fun A' R s' => A' = A ∧ s' = s ∧ R (.ok (.ret ((valR k rows).getD .none))) { s with toks := s.toks + k.draws }) F.slot_dict_get m.typeIs F.entry_dict_get (F.args_dict_get_2 _ _) (.of_wp ?_) ⟨rfl, rfl, h⟩
  rintro A' R s' ⟨rfl, rfl, hR⟩
  show wpAny _ _ (dictGet d key >>= _) _ _ _
  refine wpAny_bind (rows_get room1 hk m ok ?_)
  cases hf : valR k rows with
  | some v =>
    rw [hf] at hR
    exact wpAny_pure ⟨v, rfl, hR⟩
  | none =>
    rw [hf] at hR
    show wpAny _ _ (Builtin.Dict.missed d key >>= _) _ _ _
    exact wpAny_bind (wpAny_missed_other m.1 (wpAny_pure ⟨.none, rfl, hR⟩))
theorem getD_rel {rows : List (RowF κ)} {rs : List Row} {k : κ} {z : V} {fv : Value} (hp : Paired (RelF F) rows rs) (rz : RelV z fv) : RelV ((atF k rows).getD z) ((valR (keyF F k) rs).getD fv) := by
  cases q : atF k rows with
  | none =>
    rw [atF_none hp q]
    exact rz
  | some v =>
    obtain ⟨u, hu, ru⟩ := atF_some hp q
    rw [hu]
    exact ru
theorem pe_get1F (room : X.A.units + 9 < cLine) (ho : PE X o td) (he : PE X e ty) (m : M1 X o "get" apos e cpos) : PE X (.Call (.Attribute o "get" apos) [e] [] cpos) (tGet1F F X.w X.K td ty) := by
  refine ⟨fun pins s σ H Q I h => ?_⟩
  refine wpAny_Call_method m.base m.few m.line PySem.F.plainAttrs_dict PySem.F.slot_dict_get PySem.F.type_dict_get (thn (ho.run pins s σ H _ I h) fun u s1 ⟨x, H1, I1, rx, d, rows, ex, rd, q1⟩ => ?_)
  subst ex
  obtain rfl : u = Value.ref d := rx
  obtain ⟨t1, t2⟩ := dF_plain I1 rd
  refine ⟨t1, t2, ?_⟩
  rw [m.trees]
  refine Calls.callWith_builtin rfl (Calls.evalArgs_plain (Calls.spliced_cons (thn (he.run pins s1 σ H1 _ I1 q1) fun iv s2 ⟨y, H2, I2, ry, k, rd3, rk, kv, q2⟩ => Calls.spliced_nil ?_)))
  obtain ⟨rs, hp, m⟩ := dF_read I2 rd3
  obtain ⟨b, _, _, kk⟩ := keyF_ok I2 kv ry
  exact rows_get1 room kk m (dF_rows I2 rk hp) ⟨_, H2, I2.tok _, getD_rel (z := .non) hp (show RelV .non Value.none from rfl), q2⟩
theorem pe_get2F (room : X.A.units + 9 < cLine) (ho : PE X o td) (he : PE X e ty) (hf : PE X f tx) (m : M2 X o "get" apos e f cpos) : PE X (.Call (.Attribute o "get" apos) [e, f] [] cpos) (tGet2F F X.w X.K td ty tx) := by
  refine ⟨fun pins s σ H Q I h => ?_⟩
  refine wpAny_Call_method m.base m.few m.line PySem.F.plainAttrs_dict PySem.F.slot_dict_get PySem.F.type_dict_get (thn (ho.run pins s σ H _ I h) fun u s1 ⟨x, H1, I1, rx, d, rows, ex, rd, q1⟩ => ?_)
  subst ex
  obtain rfl : u = Value.ref d := rx
  obtain ⟨t1, t2⟩ := dF_plain I1 rd
  refine ⟨t1, t2, ?_⟩
  rw [m.trees]
  refine Calls.callWith_builtin rfl (Calls.evalArgs_plain (Calls.spliced_cons (thn (he.run pins s1 σ H1 _ I1 q1) fun iv s2 ⟨y, H2, I2, ry, q2⟩ => Calls.spliced_cons (thn (hf.run pins s2 σ H2 _ I2 q2) fun fv s3 ⟨z, H3, I3, rz, k, rd3, rk, kv, q3⟩ => Calls.spliced_nil ?_))))
  obtain ⟨rs, hp, m⟩ := dF_read I3 rd3
  obtain ⟨b, _, _, kk⟩ := keyF_ok I3 kv ry
  exact rows_getD room kk m (dF_rows I3 rk hp) ⟨_, H3, I3.tok _, getD_rel hp rz, q3⟩
theorem pe_setDF (room : X.A.units + 9 < cLine) (ho : PE X o td) (he : PE X e ty) (hf : PE X f tx) (m : M2 X o "setdefault" apos e f cpos) : PE X (.Call (.Attribute o "setdefault" apos) [e, f] [] cpos) (tSetDF F X.w X.K td ty tx) := by
  refine ⟨fun pins s σ H Q I h => ?_⟩
  refine wpAny_Call_method m.base m.few m.line PySem.F.plainAttrs_dict PySem.F.slot_dict_setdefault PySem.F.type_dict_setdefault (thn (ho.run pins s σ H _ I h) fun u s1 ⟨x, H1, I1, rx, d, rows, ex, rd, q1⟩ => ?_)
  subst ex
  obtain rfl : u = Value.ref d := rx
  obtain ⟨t1, t2⟩ := dF_plain I1 rd
  refine ⟨t1, t2, ?_⟩
  rw [m.trees]
  refine Calls.callWith_builtin rfl (Calls.evalArgs_plain (Calls.spliced_cons (thn (he.run pins s1 σ H1 _ I1 q1) fun iv s2 ⟨y, H2, I2, ry, q2⟩ => Calls.spliced_cons (thn (hf.run pins s2 σ H2 _ I2 q2) fun fv s3 ⟨z, H3, I3, rz, k, b, ey, e3, rk, kv, hz, c1, c2⟩ => Calls.spliced_nil ?_))))
  subst ey
  obtain rfl : iv = Value.ref b := ry
  obtain ⟨rs, hp, m⟩ := dF_read I3 (.of e3)
  refine rows_setD room (tupF_ok I3 kv) m (dF_rows I3 rk hp) (by rw [len_pair hp]; exact hz) (fun x hx => ?_) fun hn h' m' sb => ?_
  · cases q : atF k rows with
    | none =>
      rw [atF_none hp q] at hx
      cases hx
    | some v =>
      obtain ⟨u, hu, ru⟩ := atF_some hp q
      rw [hu] at hx
      cases hx
      exact ⟨v, H3, I3.tok _, ru, c1 v q⟩
  · cases q : atF k rows with
    | none => exact ⟨z, _, dF_turned I3 e3 ⟨_, putF_rel rz hp, m'⟩ sb, rz, c2 q⟩
    | some v =>
      obtain ⟨u, hu, ru⟩ := atF_some hp q
      rw [hu] at hn
      cases hn
end
/-! ### a walk of the keys -/
def ItKF (F : KF κ) (w : World) (d : Addr) (o : Obj) (rows : List (RowF κ)) : It :=
  ⟨fun i H => H d = some (.frz o (dF F w d rows)) ∧ i < rows.length, fun i H x H' => H' = H ∧ ∃ r, rows[i]? = some r ∧ x = .ref r.2.1, fun i H => H d = some (.frz o (dF F w d rows)) ∧ rows.length ≤ i⟩
section
variable {X : Cx} {pins : List (Addr × Obj)} {σ : L2.St} {H : Hp} {s : Shared} {d : Addr} {o : Obj} {rows : List (RowF κ)}
theorem pair_get {rows : List (RowF κ)} {rs : List Row} (h : Paired (RelF F) rows rs) : ∀ {i : Nat} {r : RowF κ}, rows[i]? = some r → ∃ x, rs[i]? = some x ∧ RelF F r x := by
  induction h with
  | nil => intro i r e; simp at e
  | cons a t ih =>
    intro i r e
    cases i with
    | zero =>
      cases Option.some.inj e
      exact ⟨_, rfl, a⟩
    | succ i => exact ih (i := i) e
theorem dF_frz (I : Inv X pins σ H s) (h : H d = some (.frz o (dF F X.w d rows))) : (d == sysModules) = false ∧ ∃ (es : Array DictEntry) (ep : Nat), o.data = .dict es ep ∧ s.heap.DictRaw d es ep ∧ es.size = rows.length ∧ ∀ (i : Nat) (r : RowF κ), rows[i]? = some r → ∃ e : DictEntry, es[i]? = some e ∧ e.key = .ref r.2.1 := by
  obtain ⟨hd, ⟨rs, hp, a, b, o', es, ep, ho, hx, hdt, he⟩, _⟩ := I.hok d _ h
  rw [hd] at ho
  cases ho
  refine ⟨a, es, ep, hdt, ⟨o, hd, hx, hdt⟩, ?_, fun i r e => ?_⟩
  · rw [row_size he, len_pair hp]
  · obtain ⟨x, hx, q⟩ := pair_get hp e
    exact ⟨rowE X.w x, by rw [row_at he i, hx]; rfl, q.2.1⟩
end
section
variable {P : Program} {w : World} {K : PySem.W.Frag} {tg : Expr} {d : Addr} {o : Obj} {es : Array DictEntry} {ep : Nat} {rows : List (RowF κ)}
theorem turn_keysF (it : Addr) (hod : o.data = .dict es ep) : Turn P w K tg (ItKF F w d o rows) [it] it (fun i h => h.IsKeyIter it d i rows.length ep) where
  mem := by simp
  obj := fun i h st b hb => by
    obtain rfl : b = it := by simpa using hb
    obtain ⟨oi, e, c, dd⟩ := st
    exact ⟨oi, e, fun v z => by rw [dd] at z; cases z⟩
  keep := fun i h h' st k => st.at fun oi e => k it (by simp) oi e
  item := by
    intro X hP hw hK hc i pins s σ H E I hf st hg
    subst hP hw hK
    obtain ⟨hd, hi⟩ := hg
    obtain ⟨f0, f1, f2, f3, f4, f5⟩ := hf it (by simp)
    obtain ⟨hs, es', ep', hdt, raw, hsz, ent⟩ := dF_frz I hd
    obtain ⟨rfl, rfl⟩ := dict_ep hod hdt
    obtain ⟨r, hr⟩ : ∃ r, rows[i]? = some r := ⟨rows[i], List.getElem?_eq_getElem hi⟩
    obtain ⟨en, hen, ken⟩ := ent i r hr
    have hlt : i < es'.size := by omega
    have ei : es'[i].key = .ref r.2.1 := by
      rw [Array.getElem?_eq_getElem hlt] at hen
      rw [Option.some.inj hen]
      exact ken
    rw [← hsz] at st
    refine wpAny_pyNext_keys_item_raw st raw hlt fun h' st' sb => ?_
    have I1 : Inv X pins σ H { s with heap := h' } := I.turned (t' := s.toks) (fun b ob hb e => (sb.2 b hb).trans e) f0 f1 f3 f4 f5
    obtain ⟨oi, e, c, dd⟩ := id st'
    rw [hsz] at st'
    refine ⟨_, rfl, go_of (s := { s with heap := h' }) e c dd (by decide) ?_⟩
    rw [ei]
    exact ⟨.ref r.2.1, H, I1, rfl, ⟨rfl, r, hr, rfl⟩, st', fun b hb => (hf b hb).1⟩
  done := by
    intro X hP hw hK hc i pins s σ H E I hf st hg
    subst hP hw hK
    obtain ⟨hd, hi⟩ := hg
    obtain ⟨f0, f1, f2, f3, f4, f5⟩ := hf it (by simp)
    obtain ⟨hs, es', ep', hdt, raw, hsz, ent⟩ := dF_frz I hd
    obtain ⟨rfl, rfl⟩ := dict_ep hod hdt
    rw [← hsz] at st
    exact wpAny_pyNext_keys_end_raw (I.ok.hd hc) st raw (by omega) fun h' eb => ⟨rfl, I.turned (t' := s.toks) (fun b ob hb e => eb b ob hb e) f0 f1 f3 f4 f5⟩
  self := fun A i s Q E st h => wpAny_pyIter_keyiter st h
end
def iKeysF (F : KF κ) (w : World) (td : TE) : TI := fun σ H R => td σ H fun x H1 => ∃ d o rows, x = .ref d ∧ H1 d = some (.frz o (dF F w d rows)) ∧ R (ItKF F w d o rows) H1
section
variable {X : Cx} {tg e : Expr} {td : TE} {apos cpos : Pos}
theorem pi_keysF (he : PE X e td) : PI X tg e (iKeysF F X.w td) := by
  refine ⟨fun pins s σ H R I h => ?_⟩
  refine thn (he.run pins s σ H _ I h) fun u s1 ⟨x, H1, I1, rx, d, o, rows, ex, hd, q⟩ => ?_
  subst ex
  obtain rfl : u = Value.ref d := rx
  obtain ⟨hs, es, ep, hdt, raw, hsz, ent⟩ := dF_frz I1 hd
  refine wpAny_pyIter_dict_raw hs raw (pi_one (tk := s1.toks) I1 _ (turn_keysF _ hdt) ⟨_, Heap.get?_push_size _ rfl, rfl, ?_⟩ q)
  rw [hsz] <;> rfl
end
end
end SE
/-! The search of a block network, as functions of what it holds. -/
namespace SE
open PySem PySem.Spec PyProof.Rows L2
/-! ### tables -/
section
variable {κ β : Type} [DecidableEq κ]
def lookA (k : κ) : List (κ × β) → Option β
  | [] => none
  | r :: rest => if r.1 = k then some r.2 else lookA k rest
def putA (k : κ) (b : β) : List (κ × β) → List (κ × β)
  | [] => [(k, b)]
  | r :: rest => if r.1 = k then (r.1, b) :: rest else r :: putA k b rest
def dropA (k : κ) (m : List (κ × β)) : List (κ × β) := m.filter fun r => decide (r.1 ≠ k)
/-- no table and no list of this search grows beyond this -/
def capA : Nat := 4000
def putB (k : κ) (b : β) (m : List (κ × β)) : Option (List (κ × β)) := if m.length < capA then some (putA k b m) else none
def addB {γ : Type} (k : κ) (x : γ) (m : List (κ × List γ)) : Option (List (κ × List γ)) :=
  match lookA k m with
  | none => if m.length < capA then some (putA k [x] m) else none
  | some l => if m.length < capA ∧ l.length < capA then some (putA k (l ++ [x]) m) else none
end
abbrev Edge := Nat × Option Str × Nat
abbrev Place := Nat × Nat × Nat
abbrev OnK := Nat × Option Str
abbrev Org := Option Place × Option Edge
abbrev Wt := Place × Org
abbrev Rule := Str × List Str × List Str
/-- what does not change while it settles -/
structure SC0 where
  rules : List Rule
  words : List (List Str)
  bases : List Nat
structure SS where
  states : Nat
  costs : List (Edge × Nat)
  makers : List (Edge × Nat)
  onward : List (OnK × List Edge)
  settled : List (Place × Nat)
  origins : List (Place × Org)
  visitors : List (OnK × List Place)
  waiting : List (Nat × List Wt)
def aftP (pl : Place) (e : Edge) : Place := (pl.1, (match e.2.1 with | none => pl.2.1 | some _ => pl.2.1 + 1), e.2.2)
def addWait (pl : Place) (e : Edge) (R : SS) : Option SS :=
  (lookA pl R.settled).bind fun a => (lookA e R.costs).bind fun c => (addB (a + c) (aftP pl e, some pl, some e) R.waiting).map fun w => { R with waiting := w }
/-- in turn -/
def foldO {α σ : Type} (f : α → σ → Option σ) : List α → σ → Option σ
  | [], s => some s
  | a :: rest, s => (f a s).bind (foldO f rest)
def addEdge (e : Edge) (cost : Nat) (R : SS) : Option SS :=
  (putB e cost R.costs).bind fun co => (addB (e.1, e.2.1) e R.onward).bind fun on =>
    foldO (fun pl R => addWait pl e R) ((lookA (e.1, e.2.1) R.visitors).getD []) { R with costs := co, onward := on }
def useRule (c : SC0) (r state cost : Nat) (R : SS) : Option SS :=
  (c.rules[r]?).bind fun ru => (c.bases[r]?).bind fun b =>
    if (lookA (b, ru.2.2.getLast?, state) R.costs).isSome = true ∨ ((b, ru.2.2.getLast?, state) : Edge) = (0, none, 0) then some R
    else (putB (b, ru.2.2.getLast?, state) r R.makers).bind fun mk => addEdge (b, ru.2.2.getLast?, state) cost { R with makers := mk }
def goOn1 (pl : Place) (it : Option Str) (R : SS) : Option SS :=
  (addB (pl.2.2, it) pl R.visitors).bind fun vi => foldO (fun e R => addWait pl e R) ((lookA (pl.2.2, it) R.onward).getD []) { R with visitors := vi }
def goOn (c : SC0) (pl : Place) (R : SS) : Option SS :=
  (c.words[pl.1]?).bind fun w => (foldO (goOn1 pl) (none :: (w[pl.2.1]?).toList.map some) R).bind fun R =>
    if pl.1 < c.rules.length ∧ pl.2.1 = w.length then (lookA pl R.settled).bind fun a => useRule c pl.1 pl.2.2 (a + 1) R else some R
def settle1 (c : SC0) (cost : Nat) (x : Wt) (R : SS) : Option SS :=
  if (lookA x.1 R.settled).isSome = true then some R
  else (putB x.1 cost R.settled).bind fun se => (putB x.1 x.2 R.origins).bind fun og => goOn c x.1 { R with settled := se, origins := og }
def minK : List (Nat × List Wt) → Nat
  | [] => 0
  | [r] => r.1
  | r :: rest => min r.1 (minK rest)
def settleN (c : SC0) : Nat → SS → Option SS
  | n, R => match R.waiting with
    | [] => some R
    | _ :: _ => match n with
      | 0 => none
      | n + 1 => (lookA (minK R.waiting) R.waiting).bind fun due => (foldO (settle1 c (minK R.waiting)) due { R with waiting := dropA (minK R.waiting) R.waiting }).bind (settleN c n)
def addPath1 (it : Str) (x : Nat × SS) : Option (Nat × SS) := (addEdge (x.1, some it, x.2.states) 0 x.2).map fun R => (R.states, { R with states := R.states + 1 })
def addPath (word : List Str) (R : SS) : Option (Nat × SS) := foldO addPath1 word (0, R)
/-- the bases in turn -/
def basesO : List Rule → SS → Option (List Nat × SS)
  | [], R => some ([], R)
  | r :: rest, R => (addPath r.2.2.dropLast R).bind fun x => (basesO rest x.2).map fun y => (x.1 :: y.1, y.2)
def initS (words : List (List Str)) : SS := { states := 1, costs := [], makers := [], onward := [], settled := [], origins := [], visitors := [], waiting := [(0, (List.range words.length).map fun i => ((i, 0, 0), none, none))] }
structure SR where
  c : SC0
  fin : Nat
  R : SS
def searchM (n : Nat) (rules : List Rule) (start : List Str) (goals : List (List Str)) : Option SR :=
  (addPath start (initS (rules.map (·.2.1) ++ goals))).bind fun x => (basesO rules x.2).bind fun y =>
    (settleN { rules := rules, words := rules.map (·.2.1) ++ goals, bases := y.1 } n y.2).map fun R => { c := { rules := rules, words := rules.map (·.2.1) ++ goals, bases := y.1 }, fin := x.1, R := R }
/-! ### what is read of it -/
def lastP (r : SR) (word : Nat) : Option Place := (r.c.words[word]?).map fun w => (word, w.length, r.fin)
def leastM (r : SR) (word : Nat) : Option Nat := (lastP r word).bind fun p => lookA p r.R.settled
/-- the edges of the way to a place, the last first -/
def contO (og : List (Place × Org)) : Nat → Org → Option (List Edge)
  | _, (_, none) => some []
  | 0, (_, some _) => none
  | n + 1, (some b, some e) => (lookA b og).bind fun o => (contO og n o).map (e :: ·)
  | _ + 1, (none, some _) => none
def wayO (og : List (Place × Org)) (n : Nat) (pl : Place) : Option (List Edge) := (lookA pl og).bind (contO og n)
/-- the next edge that a rule made, off a pile -/
def popTo (mk : List (Edge × Nat)) : List Edge → Option (Edge × Nat × List Edge)
  | [] => none
  | e :: t => match lookA e mk with
    | some r => some (e, r, t)
    | none => popTo mk t
def namesM (c : SC0) (mk : List (Edge × Nat)) (og : List (Place × Org)) (fu : Nat) : Nat → List Edge → Option (List Str)
  | 0, _ => some []
  | n + 1, st => (popTo mk st).bind fun x => (c.rules[x.2.1]?).bind fun ru => (c.words[x.2.1]?).bind fun w => (wayO og fu (x.2.1, w.length, x.1.2.2)).bind fun ws =>
    if ws.length + x.2.2.length ≤ capA then (namesM c mk og fu n (ws.reverse ++ x.2.2)).map (ru.1 :: ·) else none
/-- names_to -/
def namesTo (fu : Nat) (r : SR) (word : Nat) : Option (List Str) := (lastP r word).bind fun p => (leastM r word).bind fun k => (wayO r.R.origins fu p).bind fun ws => if ws.length ≤ capA ∧ k ≤ capA then (namesM r.c r.R.makers r.R.origins fu k ws.reverse).map List.reverse else none
end SE
/-! list(d.values()). -/
namespace SE
open PySem PySem.Spec PyProof.Rows L2
def tListVals (te : TE) : TE := fun σ H Q => te σ H fun x H1 => ∃ (d : Addr) (kvs : List (Key × V)), x = .ref d ∧ H1 d = some (.dK kvs) ∧ ∀ p, H1 p = none → Q (.ref p) (upd H1 p (.lst (kvs.map Prod.snd)))
theorem vals_of_kv : ∀ {kvs : List (Key × V)} {vs : List (Key × Value)}, KV kvs vs → Vals (kvs.map Prod.snd) (vs.map (·.2))
  | _, _, .nil => .nil
  | _, _, .cons h t => .cons h.2 (vals_of_kv t)
section
variable {X : Cx} {e : Expr} {te : TE} {p apos cpos pos : Pos}
theorem pe_listVals (hc : X.calm = true) (he : PE X e te) (hg : Gl X "list") (hm : X.mg "list" = none) (hv : bootBuiltins "list" = some (.type "list")) (hbase : attributeBase e "values" X.env (eval e X.env) = eval e X.env := by rfl) (hline : (apos.endLine == cpos.line) = true := by rfl)
    (hs : starEach [.Call (.Attribute e "values" apos) [] [] cpos] X.env = (false, eval (.Call (.Attribute e "values" apos) [] [] cpos) X.env) :: starEach [] X.env := by rfl) :
    PE X (.Call (.Name "list" p) [.Call (.Attribute e "values" apos) [] [] cpos] [] pos) (tListVals te) := by
  refine ⟨fun pins s σ H Q I hq => ?_⟩
  refine wpAny_Call_Name_kw (ld_blt I hg hm hv ?_)
  refine PyProof.Rows.callWith_type1 ?_ hs rfl
  rw [hs]
  show wpAny _ _ (spliced ((false, eval (.Call (.Attribute e "values" apos) [] [] cpos) X.env) :: backTo pos (starEach [] X.env))) _ _ s
  refine Calls.spliced_cons ?_
  refine wpAny_Call_method (T := "dict") (id := "dict.values") hbase rfl hline F.plainAttrs_dict F.slot_dict_values F.type_dict_values (thn (he.run pins s σ H _ I hq) fun u s1 ⟨x, H1, I1, rx, d, kvs, ex, hd, q⟩ => ?_)
  subst ex
  obtain rfl : u = Value.ref d := rx
  obtain ⟨hz, hs0, vs, kv, hdo⟩ := I1.hok d _ hd
  obtain ⟨ep, hat⟩ := hdo.dictAt
  have lk : kvs.length = vs.length := Paired.length kv
  have I2 : Inv X pins σ H1 { s1 with heap := s1.heap.push { cls := .type "dict_values", data := .fields #[.ref d] } } := I1.kept (t' := s1.toks) fun b ob q => Heap.get?_push_of_some _ q
  refine ⟨hdo.typeIs, hdo.mapOf.noDict, ?_⟩
  show wpAny _ _ (callWith cpos (.builtin "dict.values") [.ref d] [] []) _ X.xe s1
  refine method_meetsIn F.slot_dict_values F.entry_dict_values rfl (PySem.evalArgs_none ⟨rfl, hdo.typeIs, F.args_dict_values_1 _, _, meets_dict_values (mixKind X.prog X.w) d hs0, ⟨vs, hdo⟩, ?_⟩)
  refine Calls.spliced_nil ?_
  refine PySem.W.kdl_call (PySem.W.kdl_values (knd := mixKind X.prog X.w) (kvs := vs) (ep := ep)) (I1.ok.hd hc) ⟨⟨_, Heap.get?_push_size _ rfl, rfl, rfl⟩, hat.push _⟩ (by omega) fun h' tk acc c' hk hD hacc => ?_
  have hv : acc.toList = vs.map (·.2) := PySem.W.kdl_vals_eq acc.toList (by rw [Array.length_toList]; exact hacc.1) fun j v e => hacc.2 j v (by rw [← Array.getElem?_toList]; exact e)
  refine ⟨.ref _, upd H1 _ (.lst (kvs.map Prod.snd)), I2.laid (t' := tk) hk (Nat.le_refl _) (show ObjOk X.prog X.w _ _ _ (.lst (kvs.map Prod.snd)) from ⟨by rw [List.length_map]; exact hz, acc.toList, c', by rw [hv]; exact vals_of_kv kv, by rw [Array.toArray_toList]; exact hD⟩), rfl, q _ (I2.hok.fresh (Nat.le_refl _))⟩
end
end SE
/-! max(d) of a dict whose keys are whole numbers. -/
namespace SE
open PySem PySem.Spec PyProof.Rows PySem.Calls L2
section
variable {X : Cx}
def rMaxK : List V → Hp → VK → Prop := fun xs H Q => ∃ (a : Addr) (kvs : List (Key × V)) (ns : List Int), xs = [.ref a] ∧ Rd H a (.dK kvs) ∧ kvs.map (·.1) = ns.map Sum.inl ∧ 0 < ns.length ∧ ∀ m, m ∈ ns → (∀ y, y ∈ ns → y ≤ m) → Q (.int m) H
theorem call_maxK (hc : X.calm = true) : CallR X (.builtin "max") rMaxK := by
  intro pins s σ H xs us Q I rx h
  obtain ⟨a, kvs, ns, rfl, hd, hks, hne, q⟩ := h
  rw [Vals.ref1 rx]
  obtain ⟨z, lo, vs, rel, dd⟩ := dk_rd I.hok hd
  obtain ⟨ep, hat⟩ := dd.dictAt
  have hkeys : vs.map (·.1) = ns.map Sum.inl := rel.keys.symm.trans hks
  have hl : vs.length = ns.length := by
    have e := congrArg List.length hkeys
    rw [List.length_map, List.length_map] at e
    exact e
  have ha : a < s.heap.objs.size := by
    obtain ⟨o, es, ho, _⟩ := hat
    exact Heap.lt_size ho
  refine call_max_walk (wpAny_pyIter_dict lo hat ?_)
  have W := (Walks.dictKeys (prog := X.prog) (w := X.w) (knd := mixKind X.prog X.w) (A := X.A.in1) (show X.A.in1.handled = none from I.ok.hd hc) s.heap.objs.size a (Nat.ne_of_lt ha) vs ep)
  have hP : ∀ (i : Nat) (v : Value), (∃ k x, vs[i]? = some (k, x) ∧ (mixKind X.prog X.w).is k v = true) → ∃ t, v = .int (ns.getD i 0) t := fun i v hv => by
    obtain ⟨k, x, e1, e2⟩ := hv
    have e3 : (vs.map (·.1))[i]? = some k := by rw [List.getElem?_map, e1]; rfl
    rw [hkeys, List.getElem?_map] at e3
    cases e4 : ns[i]? with
    | none => rw [e4] at e3; cases e3
    | some y =>
      rw [e4] at e3
      have e5 : Sum.inl y = k := Option.some.inj e3
      subst e5
      rcases keyIs_shape (show keyIs (Sum.inl y) v = true from e2) with ⟨i', t, ek, ev⟩ | ⟨z, t, ek, ev⟩
      · cases ek
        refine ⟨t, ?_⟩
        rw [ev, List.getD_eq_getElem?_getD, e4]
        rfl
      · cases ek
  refine ⟨s.heap.objs.size, [s.heap.objs.size, a], [s.heap.objs.size], vs.length, _, _, fun i j => decide (ns.getD i 0 > ns.getD j 0), rfl, W, ⟨⟨_, Heap.get?_push_size _ rfl, rfl, rfl⟩, hat.at' fun o e => Heap.get?_push_of_some _ e⟩, fun b hb => ?_, by omega, CmpOf.ints_gt (fun i => ns.getD i 0) hP, fun v h' tk hv' hk => ?_⟩
  · show b < (s.heap.push _).objs.size
    rw [size_push']
    rcases List.mem_cons.mp hb with z | z
    · rw [z]
      exact Nat.lt_succ_self _
    · rw [List.mem_singleton.mp z]
      exact Nat.lt_succ_of_lt ha
  · obtain ⟨t, rfl⟩ := hP _ _ hv'
    obtain ⟨m1', m2'⟩ := argBest_gt (fun i => ns.getD i 0) (vs.length - 1)
    have m1 : argBest (fun i j => decide (ns.getD i 0 > ns.getD j 0)) (vs.length - 1) ≤ vs.length - 1 := m1'
    have m2 : ∀ j, j ≤ vs.length - 1 → ns.getD j 0 ≤ ns.getD (argBest (fun i j => decide (ns.getD i 0 > ns.getD j 0)) (vs.length - 1)) 0 := m2'
    have hk2 : ∀ b o, s.heap.get? b = some o → h'.get? b = some o := fun b o e => hk b o (fun z => by rw [List.mem_singleton.mp z] at e; exact absurd (Heap.lt_size e) (Nat.lt_irrefl _)) (Heap.get?_push_of_some _ e)
    refine ⟨.int _, H, I.kept (t' := tk) hk2, ⟨_, rfl⟩, q _ ?_ fun y hy => ?_⟩
    · exact PySem.getD_mem (by omega)
    · obtain ⟨j, hj, rfl⟩ := mem_getD hy
      exact m2 j (by omega)
end
end SE
/-! list(d) of a dict whose keys are whole numbers; min(list of whole numbers). -/
namespace SE
open PySem PySem.Spec PyProof.Rows PySem.Calls L2 SeqAt
/-- list(d) -/
def kListK (x : V) (H : Hp) (Q : VK) : Prop := ∃ (a : Addr) (kvs : List (Key × V)) (ns : List Int), x = .ref a ∧ Rd H a (.dK kvs) ∧ kvs.map (·.1) = ns.map Sum.inl ∧ ∀ p, H p = none → Q (.ref p) (upd H p (.lst (ns.map V.int)))
section
variable {X : Cx} {e : Expr} {te : TE} {p pos : Pos}
theorem key_int {v : Value} {n : Int} (h : keyIs (Sum.inl n) v = true) : RelV (.int n) v := by
  rcases keyIs_shape h with ⟨i', t, ek, ev⟩ | ⟨z, t, ek, ev⟩
  · cases ek
    exact ⟨t, ev⟩
  · cases ek
theorem keys_rel {ns : List Int} : ∀ {acc : List Value}, acc.length = ns.length → (∀ (j : Nat) v n, acc[j]? = some v → ns[j]? = some n → RelV (.int n) v) → Vals (ns.map V.int) acc := by
  induction ns with
  | nil =>
    intro acc hl _
    cases acc with
    | nil => exact .nil
    | cons _ _ => cases hl
  | cons n ns ih =>
    intro acc hl h
    cases acc with
    | nil => cases hl
    | cons v acc => exact .cons (h 0 v n rfl rfl) (ih (by simpa using hl) fun j v n e1 e2 => h (j + 1) v n e1 e2)
theorem rl_listK (hc : X.calm = true) (pins : List (Addr × Obj)) (s : Shared) (σ : L2.St) (H : Hp) (x : V) (v : Value) (Q : VK) (I : Inv X pins σ H s) (r : RelV x v) (h : kListK x H Q) :
    wpAny (model X.prog X.w) X.A (call (.type "list") [v]) (EP X pins σ Q) X.xe s := by
  obtain ⟨a, kvs, ns, rfl, hd, hks, q⟩ := h
  obtain rfl : v = Value.ref a := r
  obtain ⟨z, lo, vs, rel, dd⟩ := dk_rd I.hok hd
  obtain ⟨ep, hat⟩ := dd.dictAt
  have lk : kvs.length = vs.length := Paired.length rel
  have hkeys : vs.map (·.1) = ns.map Sum.inl := rel.keys.symm.trans hks
  have hl : vs.length = ns.length := by
    have e := congrArg List.length hkeys
    rw [List.length_map, List.length_map] at e
    exact e
  refine PySem.W.kdl_call (PySem.W.kdl_dict (knd := mixKind X.prog X.w) (kvs := vs) (ep := ep) lo) (I.ok.hd hc) hat (by omega) fun h' tk acc c' hk hD hacc => ?_
  have rv : Vals (ns.map V.int) acc.toList := keys_rel (by rw [Array.length_toList, hacc.1, hl]) fun j v n e1 e2 => by
    obtain ⟨k, x, e3, e4⟩ := hacc.2 j v (by rw [← Array.getElem?_toList]; exact e1)
    have e5 : (vs.map (·.1))[j]? = some k := by rw [List.getElem?_map, e3]; rfl
    rw [hkeys, List.getElem?_map, e2] at e5
    have e6 : Sum.inl n = k := Option.some.inj e5
    subst e6
    exact key_int e4
  refine ⟨.ref _, upd H _ (.lst (ns.map V.int)), I.laid (t' := tk) hk (Nat.le_refl _) (show ObjOk X.prog X.w _ _ _ (.lst (ns.map V.int)) from ⟨by rw [List.length_map, ← hl, ← lk]; exact z, acc.toList, c', rv, by rw [Array.toArray_toList]; exact hD⟩), rfl, q _ (I.hok.fresh (Nat.le_refl _))⟩
theorem pe_listK (hc : X.calm = true) (hg : Gl X "list") (hm : X.mg "list" = none) (hv : bootBuiltins "list" = some (.type "list")) (he : PE X e te) (na : starEach [e] X.env = (false, eval e X.env) :: starEach [] X.env := by rfl) :
    PE X (.Call (.Name "list" p) [e] [] pos) (tThen te kListK) := by
  refine ⟨fun pins s σ H Q I h => ?_⟩
  exact Call_ (ld_blt I hg hm hv (PyProof.Rows.callWith_type1 (one_arg he I h (fun v s2 x H2 I2 r q => rl_listK hc pins s2 σ H2 x v Q I2 r q) na) na))
/-- min(list of whole numbers) -/
def rMinI (K : PySem.W.Frag) : List V → Hp → VK → Prop := fun vs H Q => ∃ (l : Addr) (ns : List Int), vs = [.ref l] ∧ SqL K H l (ns.map V.int) ∧ 0 < ns.length ∧ ∀ m, m ∈ ns → (∀ y, y ∈ ns → m ≤ y) → Q (.int m) H
theorem call_minI (hc : X.calm = true) : CallR X (.builtin "min") (rMinI X.K) := by
  intro pins s σ H vs us Q I r h
  obtain ⟨l, ns, rfl, hl, ne, hq⟩ := h
  obtain ⟨ul, rfl, rl⟩ := vals1 r
  cases rl
  obtain ⟨its, rv, pl, hz⟩ := I.list hl
  have lv := rv.length
  rw [List.length_map] at lv
  have pos : 0 < its.toArray.size := by
    rw [List.size_toArray, ← lv]
    exact ne
  refine call_min_walkH (PySem.W.iter_listW (A := X.A.in1) (I.ok.hd hc) pl.isList fun s₂ e W st hfp hw hk => ?_)
  have hP : ∀ (i : Nat) (v : Value), its.toArray[i]? = some v → ∃ t, v = .int (ns.getD i 0) t := fun i v hv => by
    have hv : its[i]? = some v := by simpa using hv
    have li : i < its.length := (List.getElem?_eq_some_iff.mp hv).1
    have e1 : (ns.map V.int)[i]? = some (.int (ns.getD i 0)) := by
      rw [List.getElem?_map, List.getD_eq_getElem?_getD, List.getElem?_eq_getElem (by omega)]
      rfl
    obtain ⟨u, hu, ru⟩ := rv.get e1
    rw [hv] at hu
    cases hu
    exact ru
  refine ⟨_, _, _, _, _, _, _, s.heap, (fun i j => decide (ns.getD i 0 < ns.getD j 0)), rfl, W, st, hfp, pos, hw, hk, fun i j vi vj s Q E _ h1 h2 q => CmpOf.ints_lt (fun i => ns.getD i 0) hP i j vi vj s Q E h1 h2 q, fun v s' hPv m => ?_⟩
  obtain ⟨h', tk, rfl, hk'⟩ := PySem.W.moved_old e rfl m
  have hPv : its.toArray[argBest (fun i j => decide (ns.getD i 0 < ns.getD j 0)) (its.toArray.size - 1)]? = some v := hPv
  obtain ⟨t, rfl⟩ := hP _ _ hPv
  obtain ⟨m1', m2'⟩ := argBest_lt (fun i => ns.getD i 0) (its.toArray.size - 1)
  have m1 : argBest (fun i j => decide (ns.getD i 0 < ns.getD j 0)) (its.toArray.size - 1) ≤ its.toArray.size - 1 := m1'
  have m2 : ∀ j, j ≤ its.toArray.size - 1 → ns.getD (argBest (fun i j => decide (ns.getD i 0 < ns.getD j 0)) (its.toArray.size - 1)) 0 ≤ ns.getD j 0 := m2'
  have sz : its.toArray.size = ns.length := by rw [List.size_toArray, ← lv]
  refine ⟨.int _, H, I.kept (t' := tk) hk', ⟨_, rfl⟩, hq _ ?_ fun y hy => ?_⟩
  · exact PySem.getD_mem (by omega)
  · obtain ⟨j, hj, rfl⟩ := mem_getD hy
    exact m2 j (by omega)
end
end SE
namespace SE
open PySem PySem.Spec PyProof.Rows L2
abbrev sSeInit : Stmt := inClass sSearch 0
abbrev sSePath : Stmt := inClass sSearch 1
abbrev sSeEdge : Stmt := inClass sSearch 2
abbrev sSeWait : Stmt := inClass sSearch 3
abbrev sSeAll : Stmt := inClass sSearch 4
abbrev sSeGo : Stmt := inClass sSearch 5
abbrev sSeUse : Stmt := inClass sSearch 6
abbrev sSeTable : Stmt := inClass sSearch 7
abbrev sSeLast : Stmt := inClass sSearch 8
abbrev sSeLeast : Stmt := inClass sSearch 9
abbrev sSeWay : Stmt := inClass sSearch 10
abbrev sSeNames : Stmt := inClass sSearch 11
/-! ### keys -/
abbrev natV (n : Nat) : V := .int (n : Int)
def optV : Option Str → V
  | none => .non
  | some x => .str x
theorem optV_inj : ∀ {a b : Option Str}, optV a = optV b → a = b
  | none, none, _ => rfl
  | none, some _, h => by cases h
  | some _, none, h => by cases h
  | some x, some y, h => by cases h; rfl
theorem natV_inj {a b : Nat} (h : natV a = natV b) : a = b := Int.ofNat.inj (V.int.inj h)
def edgeF : KF Edge where
  vs e := [natV e.1, optV e.2.1, natV e.2.2]
  inj := fun {a b} h => by
    obtain ⟨h1, h2⟩ := List.cons.inj h
    obtain ⟨h2, h3⟩ := List.cons.inj h2
    exact Prod.ext (natV_inj h1) (Prod.ext (optV_inj h2) (natV_inj (List.cons.inj h3).1))
  atoms := fun e v m => by
    rcases List.mem_cons.mp m with rfl | m
    · exact .int _
    rcases List.mem_cons.mp m with rfl | m
    · cases e.2.1
      · exact .non
      · exact .str _
    rw [List.mem_singleton.mp m]
    exact .int _
def placeF : KF Place where
  vs e := [natV e.1, natV e.2.1, natV e.2.2]
  inj := fun {a b} h => by
    obtain ⟨h1, h2⟩ := List.cons.inj h
    obtain ⟨h2, h3⟩ := List.cons.inj h2
    exact Prod.ext (natV_inj h1) (Prod.ext (natV_inj h2) (natV_inj (List.cons.inj h3).1))
  atoms := fun e v m => by
    rcases List.mem_cons.mp m with rfl | m
    · exact .int _
    rcases List.mem_cons.mp m with rfl | m
    · exact .int _
    rw [List.mem_singleton.mp m]
    exact .int _
def siF : KF OnK where
  vs e := [natV e.1, optV e.2]
  inj := fun {a b} h => by
    obtain ⟨h1, h2⟩ := List.cons.inj h
    exact Prod.ext (natV_inj h1) (optV_inj (List.cons.inj h2).1)
  atoms := fun e v m => by
    rcases List.mem_cons.mp m with rfl | m
    · exact .int _
    rw [List.mem_singleton.mp m]
    cases e.2
    · exact .non
    · exact .str _
/-! ### the object -/
inductive Role
  | me | ru | wo | co | mk | on | se | og | vi | wa | ba
  | onL (k : OnK) | viL (k : OnK) | waL (c : Nat)
  deriving DecidableEq
abbrev Rho := Addr → Option Role
structure Adr where
  ru : Addr
  wo : Addr
  co : Addr
  ma : Addr
  on : Addr
  se : Addr
  og : Addr
  vi : Addr
  wa : Addr
inductive ExS
  | no
  | fin (n : Nat)
  | full (n : Nat) (ba : Addr) (bs : List Nat)
def exF : ExS → List (Str × V)
  | .no => []
  | .fin n => [("end", natV n)]
  | .full n ba _ => [("end", natV n), ("bases", .ref ba)]
def seF (A : Adr) (n : Nat) (e : ExS) : List (Str × V) := ("rules", .ref A.ru) :: ("words", .ref A.wo) :: ("states", natV n) :: ("costs", .ref A.co) :: ("makers", .ref A.ma) :: ("onward", .ref A.on) :: ("settled", .ref A.se) :: ("origins", .ref A.og) :: ("visitors", .ref A.vi) :: ("waiting", .ref A.wa) :: exF e
/-- what a change leaves -/
structure Out (K : PySem.W.Frag) (ρ ρ' : Rho) (H H' : Hp) : Prop where
  tup : ∀ b xs, SqT K H b xs → SqT K H' b xs
  out : ∀ a o, H a = some o → ρ a = none → ρ' a = none ∧ H' a = some o
structure Kept (K : PySem.W.Frag) (r0 : Role → Prop) (ρ ρ' : Rho) (H H' : Hp) : Prop extends Out K ρ ρ' H H' where
  at_ : ∀ a r, ρ a = some r → ¬ r0 r → ρ' a = some r ∧ ∀ o, H a = some o → H' a = some o
theorem Out.trans {K : PySem.W.Frag} {ρ ρ1 ρ2 : Rho} {H H1 H2 : Hp} (a : Out K ρ ρ1 H H1) (b : Out K ρ1 ρ2 H1 H2) : Out K ρ ρ2 H H2 :=
  ⟨fun c xs q => b.tup c xs (a.tup c xs q), fun c o q n => have h := a.out c o q n; b.out c o h.2 h.1⟩
theorem Out.refl {K : PySem.W.Frag} {ρ : Rho} {H : Hp} : Out K ρ ρ H H := ⟨fun _ _ q => q, fun _ _ q n => ⟨n, q⟩⟩
theorem Out.same {K : PySem.W.Frag} {ρ : Rho} {H H' : Hp} (s : Same H H') : Out K ρ ρ H H' := ⟨fun _ _ q => Same.tup s q, fun _ _ q n => ⟨n, s _ _ q⟩⟩
theorem Kept.same {K : PySem.W.Frag} {r0 : Role → Prop} {ρ : Rho} {H H' : Hp} (s : Same H H') : Kept K r0 ρ ρ H H' := ⟨Out.same s, fun a r e _ => ⟨e, fun o q => s _ _ q⟩⟩
theorem Kept.trans {K : PySem.W.Frag} {r1 r2 : Role → Prop} {ρ ρ1 ρ2 : Rho} {H H1 H2 : Hp} (a : Kept K r1 ρ ρ1 H H1) (b : Kept K r2 ρ1 ρ2 H1 H2) : Kept K (fun r => r1 r ∨ r2 r) ρ ρ2 H H2 :=
  ⟨a.toOut.trans b.toOut, fun c r e n => have h := a.at_ c r e (fun z => n (.inl z)); have g := b.at_ c r h.1 (fun z => n (.inr z)); ⟨g.1, fun o q => g.2 o (h.2 o q)⟩⟩
/-! ### tables in the heap -/
section
variable {κ β : Type} [DecidableEq κ] {F : KF κ} {K : PySem.W.Frag} {w : World} {H H' : Hp} {d : Addr} {m : List (κ × β)} {val val' : κ → β → V → Prop}
def DV (F : KF κ) (K : PySem.W.Frag) (w : World) (val : κ → β → V → Prop) (H : Hp) (d : Addr) (m : List (κ × β)) : Prop := ∃ rows : List (RowF κ), H d = some (dF F w d rows) ∧ KeysF F K H rows ∧ Paired (fun r p => r.1 = p.1 ∧ val p.1 p.2 r.2.2) rows m
theorem pair_look {rows : List (RowF κ)} {m : List (κ × β)} (h : Paired (fun r p => r.1 = p.1 ∧ val p.1 p.2 r.2.2) rows m) (k : κ) : (lookA k m = none ∧ atF k rows = none) ∨ ∃ b v, lookA k m = some b ∧ atF k rows = some v ∧ val k b v := by
  induction h with
  | nil => exact .inl ⟨rfl, rfl⟩
  | cons a t ih =>
    rename_i r p rs ps
    unfold lookA atF
    by_cases e : r.1 = k
    · have e2 : p.1 = k := by rw [← a.1, e]
      rw [if_pos e, if_pos e2]
      refine .inr ⟨p.2, r.2.2, rfl, rfl, ?_⟩
      rw [← e2]
      exact a.2
    · have e2 : ¬ p.1 = k := by rw [← a.1]; exact e
      rw [if_neg e, if_neg e2]
      exact ih
theorem pair_put {rows : List (RowF κ)} {m : List (κ × β)} (h : Paired (fun r p => r.1 = p.1 ∧ val p.1 p.2 r.2.2) rows m) {k : κ} {b : Addr} {x : β} {v : V} (hv : val' k x v) (mono : ∀ k2 x2 v2, k2 ≠ k → val k2 x2 v2 → val' k2 x2 v2) (nd : (rows.map (·.1)).Nodup) :
    Paired (fun r p => r.1 = p.1 ∧ val' p.1 p.2 r.2.2) (putF k b v rows) (putA k x m) := by
  induction h with
  | nil => exact .cons ⟨rfl, hv⟩ .nil
  | cons a t ih =>
    rename_i r p rs ps
    obtain ⟨n1, n2⟩ := List.nodup_cons.mp (show (r.1 :: rs.map (·.1)).Nodup from nd)
    unfold putF putA
    by_cases e : r.1 = k
    · have e2 : p.1 = k := by rw [← a.1, e]
      rw [if_pos e, if_pos e2]
      refine .cons ⟨a.1, by rw [e2]; exact hv⟩ ?_
      clear ih nd
      have aux : ∀ {rs : List (RowF κ)} {ps : List (κ × β)}, Paired (fun r p => r.1 = p.1 ∧ val p.1 p.2 r.2.2) rs ps → (∀ q ∈ rs, q.1 ≠ k) → Paired (fun r p => r.1 = p.1 ∧ val' p.1 p.2 r.2.2) rs ps := fun {rs ps} h => by
        induction h with
        | nil => exact fun _ => .nil
        | cons a t ih => exact fun q => .cons ⟨a.1, mono _ _ _ (by rw [← a.1]; exact q _ List.mem_cons_self) a.2⟩ (ih fun z mz => q z (List.mem_cons_of_mem _ mz))
      exact aux t fun q mq z => n1 (by rw [e, ← z]; exact List.mem_map.mpr ⟨q, mq, rfl⟩)
    · have e2 : ¬ p.1 = k := by rw [← a.1]; exact e
      rw [if_neg e, if_neg e2]
      exact .cons ⟨a.1, mono _ _ _ e2 a.2⟩ (ih n2)
theorem pair_put1 {rows : List (RowF κ)} {m : List (κ × β)} (h : Paired (fun r p => r.1 = p.1 ∧ val p.1 p.2 r.2.2) rows m) {k : κ} {v : V} {x : β} (mono : ∀ k2 x2 v2, k2 ≠ k → val k2 x2 v2 → val' k2 x2 v2) (nd : (rows.map (·.1)).Nodup) (e : atF k rows = some v) (hv : val' k x v) :
    Paired (fun r p => r.1 = p.1 ∧ val' p.1 p.2 r.2.2) rows (putA k x m) := by
  induction h with
  | nil => cases e
  | cons a t ih =>
    rename_i r p rs ps
    obtain ⟨n1, n2⟩ := List.nodup_cons.mp (show (r.1 :: rs.map (·.1)).Nodup from nd)
    unfold atF at e
    unfold putA
    by_cases c : r.1 = k
    · have e2 : p.1 = k := by rw [← a.1, c]
      rw [if_pos c] at e
      cases e
      rw [if_pos e2]
      refine .cons ⟨a.1, by rw [e2]; exact hv⟩ ?_
      have aux : ∀ {rs : List (RowF κ)} {ps : List (κ × β)}, Paired (fun r p => r.1 = p.1 ∧ val p.1 p.2 r.2.2) rs ps → (∀ q ∈ rs, q.1 ≠ k) → Paired (fun r p => r.1 = p.1 ∧ val' p.1 p.2 r.2.2) rs ps := fun {rs ps} h => by
        induction h with
        | nil => exact fun _ => .nil
        | cons a t ih => exact fun q => .cons ⟨a.1, mono _ _ _ (by rw [← a.1]; exact q _ List.mem_cons_self) a.2⟩ (ih fun z mz => q z (List.mem_cons_of_mem _ mz))
      exact aux t fun q mq z => n1 (by rw [c, ← z]; exact List.mem_map.mpr ⟨q, mq, rfl⟩)
    · have e2 : ¬ p.1 = k := by rw [← a.1]; exact c
      rw [if_neg c] at e
      rw [if_neg e2]
      exact .cons ⟨a.1, mono _ _ _ e2 a.2⟩ (ih n2 e)
theorem DV.mv (h : DV F K w val H d m) (hd : ∀ o, H d = some o → H' d = some o) (t : ∀ b xs, SqT K H b xs → SqT K H' b xs) (hv : ∀ k b v, val k b v → val' k b v) : DV F K w val' H' d m := by
  obtain ⟨rows, h1, h2, h3⟩ := h
  exact ⟨rows, hd _ h1, h2.mono t, Paired.mapP h3 fun _ _ q => ⟨q.1, hv _ _ _ q.2⟩⟩
theorem DV.len {rows : List (RowF κ)} {m : List (κ × β)} (h : Paired (fun r p => r.1 = p.1 ∧ val p.1 p.2 r.2.2) rows m) : rows.length = m.length := Paired.length h
end
/-- a list at the place of a role -/
def LV {κ γ : Type} (ρ : Rho) (tag : κ → Role) (el : γ → V → Prop) (H : Hp) (k : κ) (xs : List γ) (v : V) : Prop := ∃ l us, v = .ref l ∧ ρ l = some (tag k) ∧ H l = some (.lst us) ∧ Paired (fun u x => el x u) us xs
theorem LV.mv {κ γ : Type} {ρ ρ' : Rho} {tag : κ → Role} {el el' : γ → V → Prop} {H H' : Hp} {k : κ} {xs : List γ} {v : V} (h : LV ρ tag el H k xs v) (hl : ∀ l, ρ l = some (tag k) → ρ' l = some (tag k) ∧ ∀ o, H l = some o → H' l = some o) (he : ∀ x u, el x u → el' x u) : LV ρ' tag el' H' k xs v := by
  obtain ⟨l, us, e, h1, h2, h3⟩ := h
  have g := hl l h1
  exact ⟨l, us, e, g.1, g.2 _ h2, Paired.mapP h3 fun _ _ q => he _ _ q⟩
/-- lists at keys grow by one -/
theorem add_dF {κ γ : Type} [DecidableEq κ] {F : KF κ} {K : PySem.W.Frag} {w : World} {H0 H : Hp} {d b l : Addr} {m m' : List (κ × List γ)} {k : κ} {x : γ} {ρ : Rho} {tag : κ → Role} {rd : Role} {el : Hp → γ → V → Prop}
    (elm : ∀ {H H' : Hp} {x u}, (∀ b xs, SqT K H b xs → SqT K H' b xs) → el H x u → el H' x u) (tj : ∀ a b, tag a = tag b → a = b) (td : ∀ a, tag a ≠ rd) (hd : ρ d = some rd) {rows : List (RowF κ)} (h1 : H d = some (dF F w d rows)) (h2 : KeysF F K H rows) (h3 : Paired (fun r p => r.1 = p.1 ∧ LV ρ tag (el H) H p.1 p.2 r.2.2) rows m) (ad : addB k x m = some m') (hb : SqT K H b (F.vs k))
    (s0 : Same H0 H) (nl : H0 l = none) (hl : H l = some (.lst [])) (rl : ρ l = none) {Q : Hp → Prop} (fin : ∀ ρ' H', Kept K (fun r => r = rd ∨ r = tag k) ρ ρ' H0 H' → DV F K w (LV ρ' tag (el H') H') H' d m' → ρ' d = some rd → (∀ a r, ρ' a = some r → ρ a = some r ∨ r = tag k ∧ a = l) → (∀ a, H a ≠ none → H' a ≠ none) → Q H') :
    rows.length < sizeLine ∧ (∀ v, atF k rows = some v → ∃ l0 us, v = .ref l0 ∧ H l0 = some (.lst us) ∧ us.length < sizeLine ∧ ∀ H8 y, Same H H8 → el H8 x y → Q (upd H8 l0 (.lst (us ++ [y])))) ∧
      (atF k rows = none → (upd H d (dF F w d (putF k b (.ref l) rows))) l = some (.lst []) ∧ ∀ H8 y, Same (upd H d (dF F w d (putF k b (.ref l) rows))) H8 → el H8 x y → Q (upd H8 l (.lst [y]))) := by
  have ln := DV.len (val := LV ρ tag (el H) H) h3
  have big : capA ≤ sizeLine := by decide
  have lm : m.length < capA := by
    unfold addB at ad
    split at ad <;> split at ad <;> first | (cases ad) | skip
    · assumption
    · rename_i c
      exact c.1
  refine ⟨by omega, fun v hv => ?_, fun hn => ?_⟩
  · rcases pair_look (val := LV ρ tag (el H) H) h3 k with ⟨_, z⟩ | ⟨xs, v2, e1, e2, l0, us, rfl, r0, hl0, hu⟩
    · rw [z] at hv
      cases hv
    · rw [e2] at hv
      cases hv
      have lu : us.length = xs.length := Paired.length hu
      unfold addB at ad
      rw [e1] at ad
      dsimp only at ad
      split at ad
      · rename_i c
        cases ad
        refine ⟨l0, us, rfl, hl0, by omega, fun H8 y s8 hy => ?_⟩
        have tp : ∀ b xs, SqT K H b xs → SqT K (upd H8 l0 (.lst (us ++ [y]))) b xs := fun b xs q => tup_updL (s8 _ _ hl0) (Same.tup s8 q)
        have tq : ∀ b xs, SqT K H8 b xs → SqT K (upd H8 l0 (.lst (us ++ [y]))) b xs := fun b xs q => tup_updL (s8 _ _ hl0) q
        have nd0 : d ≠ l0 := fun e => by
          rw [e, r0] at hd
          exact td k (Option.some.inj hd)
        refine fin ρ _ ⟨⟨fun _ _ q => tp _ _ (Same.tup s0 q), fun a o q n => ⟨n, by rw [upd_ne (fun e => by rw [e, r0] at n; cases n)]; exact s8 _ _ (s0 _ _ q)⟩⟩, fun a r q n => ⟨q, fun o z => by rw [upd_ne (fun e => by rw [e, r0] at q; exact n (.inr (Option.some.inj q).symm))]; exact s8 _ _ (s0 _ _ z)⟩⟩ ?_ hd (fun a r q => .inl q) (fun a q => ?_)
        · refine ⟨rows, by rw [upd_ne nd0]; exact s8 _ _ h1, h2.mono tp, ?_⟩
          refine pair_put1 (val := LV ρ tag (el H) H) (val' := LV ρ tag (el _) _) h3 (fun k2 x2 v2 ne q => LV.mv q (fun l2 r2 => ⟨r2, fun o z => ?_⟩) fun _ _ z => elm tp z) h2.nd e2 ⟨l0, us ++ [y], rfl, r0, upd_same, Paired.snoc2 (Paired.mapP hu fun _ _ z => elm tp z) (elm tq hy)⟩
          rw [upd_ne (fun e => by rw [e, r0] at r2; exact ne (tj _ _ (Option.some.inj r2).symm))]
          exact s8 _ _ z
        · unfold upd
          split
          · exact fun c => by cases c
          · intro c
            cases z : H a with
            | none => exact q z
            | some o => rw [s8 _ _ z] at c; cases c
      · cases ad
  · rcases pair_look (val := LV ρ tag (el H) H) h3 k with ⟨e1, _⟩ | ⟨xs, v2, e1, e2, _⟩
    rotate_left
    · rw [hn] at e2
      cases e2
    have nld : l ≠ d := fun e => by rw [e, hd] at rl; cases rl
    have hl2 : (upd H d (dF F w d (putF k b (.ref l) rows))) l = some (.lst []) := by rw [upd_ne nld]; exact hl
    refine ⟨hl2, fun H8 y s8 hy => ?_⟩
    unfold addB at ad
    rw [e1] at ad
    dsimp only at ad
    rw [if_pos lm] at ad
    cases ad
    have tp1 : ∀ b2 xs, SqT K H b2 xs → SqT K (upd H d (dF F w d (putF k b (.ref l) rows))) b2 xs := dF_tup h1
    have tp : ∀ b2 xs, SqT K H b2 xs → SqT K (upd H8 l (.lst [y])) b2 xs := fun b2 xs q => tup_updL (s8 _ _ hl2) (Same.tup s8 (tp1 _ _ q))
    have tq : ∀ b2 xs, SqT K H8 b2 xs → SqT K (upd H8 l (.lst [y])) b2 xs := fun b2 xs q => tup_updL (s8 _ _ hl2) q
    have at1 : ∀ a o, a ≠ l → a ≠ d → H a = some o → (upd H8 l (.lst [y])) a = some o := fun a o n1 n2 q => by rw [upd_ne n1]; exact s8 _ _ (by rw [upd_ne n2]; exact q)
    refine fin (fun a => if a = l then some (tag k) else ρ a) _ ⟨⟨fun _ _ q => tp _ _ (Same.tup s0 q), fun a o q n => ?_⟩, fun a r q n => ?_⟩ ?_ (by rw [if_neg (Ne.symm nld)]; exact hd) (fun a r q => ?_) (fun a q => ?_)
    · have n1 : a ≠ l := fun e => by rw [e, nl] at q; cases q
      have n2 : a ≠ d := fun e => by rw [e, hd] at n; cases n
      exact ⟨by rw [if_neg n1]; exact n, at1 a o n1 n2 (s0 _ _ q)⟩
    · have n1 : a ≠ l := fun e => by rw [e, rl] at q; cases q
      have n2 : a ≠ d := fun e => by rw [e, hd] at q; exact n (.inl (Option.some.inj q).symm)
      exact ⟨by rw [if_neg n1]; exact q, fun o z => at1 a o n1 n2 (s0 _ _ z)⟩
    · refine ⟨putF k b (.ref l) rows, by rw [upd_ne (Ne.symm nld)]; exact s8 _ _ upd_same, (h2.put _ hb).mono tp, ?_⟩
      refine pair_put (val := LV ρ tag (el H) H) (val' := LV _ tag (el _) _) h3 ⟨l, [y], rfl, if_pos rfl, upd_same, .cons (elm tq hy) .nil⟩ (fun k2 x2 v2 ne q => LV.mv q (fun l2 r2 => ?_) fun _ _ z => elm tp z) h2.nd
      have n1 : l2 ≠ l := fun e => by rw [e, rl] at r2; cases r2
      have n2 : l2 ≠ d := fun e => by rw [e, hd] at r2; exact td _ (Option.some.inj r2).symm
      exact ⟨by rw [if_neg n1]; exact r2, fun o z => at1 l2 o n1 n2 z⟩
    · split at q
      · rename_i e
        exact .inr ⟨(Option.some.inj q).symm, e⟩
      · exact .inl q
    · unfold upd
      split
      · exact fun c => by cases c
      · intro c
        cases z : H a with
        | none => exact q z
        | some o =>
          by_cases e : a = d
          · rw [e, s8 _ _ upd_same] at c
            cases c
          · rw [s8 _ _ (show upd H d _ a = some o by rw [upd_ne e]; exact z)] at c
            cases c
end SE
namespace SE
open PySem PySem.Spec PyProof.Rows L2
/-! ### what waits -/
def KP (K : PySem.W.Frag) (H : Hp) (p : Place) (v : V) : Prop := ∃ b, v = .ref b ∧ SqT K H b (placeF.vs p)
def KE' (K : PySem.W.Frag) (H : Hp) (p : Edge) (v : V) : Prop := ∃ b, v = .ref b ∧ SqT K H b (edgeF.vs p)
def OpV {α : Type} (g : α → V → Prop) : Option α → V → Prop
  | none, v => v = .non
  | some a, v => g a v
/-- (place before, edge) -/
def OgV (K : PySem.W.Frag) (H : Hp) (o : Org) (v : V) : Prop := ∃ b x y, v = .ref b ∧ SqT K H b [x, y] ∧ OpV (KP K H) o.1 x ∧ OpV (KE' K H) o.2 y
/-- (place, place before, edge) -/
def WtV (K : PySem.W.Frag) (H : Hp) (o : Wt) (v : V) : Prop := ∃ b x y z, v = .ref b ∧ SqT K H b [x, y, z] ∧ KP K H o.1 x ∧ OpV (KP K H) o.2.1 y ∧ OpV (KE' K H) o.2.2 z
section
variable {K : PySem.W.Frag} {H H' : Hp}
theorem KP.mv {p : Place} {v : V} (t : ∀ b xs, SqT K H b xs → SqT K H' b xs) (h : KP K H p v) : KP K H' p v := ⟨h.choose, h.choose_spec.1, t _ _ h.choose_spec.2⟩
theorem KE'.mv {p : Edge} {v : V} (t : ∀ b xs, SqT K H b xs → SqT K H' b xs) (h : KE' K H p v) : KE' K H' p v := ⟨h.choose, h.choose_spec.1, t _ _ h.choose_spec.2⟩
theorem OpV.mv {α : Type} {g g' : α → V → Prop} (q : ∀ a v, g a v → g' a v) : ∀ {o : Option α} {v : V}, OpV g o v → OpV g' o v
  | none, _, h => h
  | some _, _, h => q _ _ h
theorem OgV.mv {p : Org} {v : V} (t : ∀ b xs, SqT K H b xs → SqT K H' b xs) (h : OgV K H p v) : OgV K H' p v := by
  obtain ⟨b, x, y, e, h1, h2, h3⟩ := h
  exact ⟨b, x, y, e, t _ _ h1, h2.mv fun _ _ => KP.mv t, h3.mv fun _ _ => KE'.mv t⟩
theorem WtV.mv {p : Wt} {v : V} (t : ∀ b xs, SqT K H b xs → SqT K H' b xs) (h : WtV K H p v) : WtV K H' p v := by
  obtain ⟨b, x, y, z, e, h1, h2, h3, h4⟩ := h
  exact ⟨b, x, y, z, e, t _ _ h1, h2.mv t, h3.mv fun _ _ => KP.mv t, h4.mv fun _ _ => KE'.mv t⟩
end
abbrev natK (n : Nat) : Key := Sum.inl (n : Int)
theorem natK_inj {a b : Nat} (h : natK a = natK b) : a = b := Int.ofNat.inj (Sum.inl.inj h)
abbrev WPair (K : PySem.W.Frag) (ρ : Rho) (H : Hp) (kvs : List (Key × V)) (m : List (Nat × List Wt)) : Prop := Paired (fun (r : Key × V) (p : Nat × List Wt) => r.1 = natK p.1 ∧ LV ρ Role.waL (WtV K H) H p.1 p.2 r.2) kvs m
def WV (K : PySem.W.Frag) (ρ : Rho) (H : Hp) (d : Addr) (m : List (Nat × List Wt)) : Prop := ∃ kvs : List (Key × V), H d = some (.dK kvs) ∧ WPair K ρ H kvs m ∧ (m.map (·.1)).Nodup
section
variable {K : PySem.W.Frag} {ρ ρ' : Rho} {H H' : Hp} {d : Addr} {kvs : List (Key × V)} {m m' : List (Nat × List Wt)}
theorem wp_look (h : WPair K ρ H kvs m) (k : Nat) : (lookA k m = none ∧ valV kvs (natK k) = none) ∨ ∃ xs v, lookA k m = some xs ∧ valV kvs (natK k) = some v ∧ LV ρ Role.waL (WtV K H) H k xs v := by
  induction h with
  | nil => exact .inl ⟨rfl, rfl⟩
  | cons a t ih =>
    rename_i r p rs ps
    unfold lookA
    by_cases e : p.1 = k
    · rw [if_pos e, valV_pos (by rw [a.1, e])]
      exact .inr ⟨_, _, rfl, rfl, e ▸ a.2⟩
    · rw [if_neg e, valV_neg (fun z => e (natK_inj (by rw [← a.1, z])))]
      exact ih
theorem wp_mv (h : WPair K ρ H kvs m) (t : ∀ b xs, SqT K H b xs → SqT K H' b xs) (hl : ∀ p ∈ m, ∀ l, ρ l = some (.waL p.1) → ρ' l = some (.waL p.1) ∧ ∀ o, H l = some o → H' l = some o) : WPair K ρ' H' kvs m := by
  induction h with
  | nil => exact .nil
  | cons a r ih => exact .cons ⟨a.1, a.2.mv (hl _ List.mem_cons_self) fun _ _ => WtV.mv t⟩ (ih fun p mp => hl p (List.mem_cons_of_mem _ mp))
theorem WV.mv (h : WV K ρ H d m) (hd : ∀ o, H d = some o → H' d = some o) (t : ∀ b xs, SqT K H b xs → SqT K H' b xs) (hl : ∀ c l, ρ l = some (.waL c) → ρ' l = some (.waL c) ∧ ∀ o, H l = some o → H' l = some o) : WV K ρ' H' d m := by
  obtain ⟨kvs, h1, h2, h3⟩ := h
  exact ⟨kvs, hd _ h1, wp_mv h2 t fun p _ => hl p.1, h3⟩
theorem putA_keys {κ β : Type} [DecidableEq κ] {k : κ} {b : β} : ∀ {m : List (κ × β)}, (m.map (·.1)).Nodup → ((putA k b m).map (·.1)).Nodup
  | [], _ => by simp [putA]
  | r :: rest, h => by
    have h2 := List.nodup_cons.mp h
    unfold putA
    by_cases e : r.1 = k
    · rw [if_pos e]
      exact h
    · rw [if_neg e]
      refine List.nodup_cons.mpr ⟨fun mm => ?_, putA_keys h2.2⟩
      have aux : ∀ {m : List (κ × β)} {x : κ}, x ∈ (putA k b m).map (·.1) → x ∈ m.map (·.1) ∨ x = k := by
        intro m
        induction m with
        | nil =>
          intro x q
          exact .inr (by simpa [putA] using q)
        | cons q t ih =>
          intro x z
          unfold putA at z
          by_cases e2 : q.1 = k
          · rw [if_pos e2] at z
            exact .inl z
          · rw [if_neg e2] at z
            rcases List.mem_cons.mp z with y | y
            · exact .inl (by rw [y]; exact List.mem_cons_self)
            · rcases ih y with y | y
              · exact .inl (List.mem_cons_of_mem _ y)
              · exact .inr y
      rcases aux mm with q | q
      · exact h2.1 q
      · exact e q
theorem wp_put1 (h : WPair K ρ H kvs m) {k : Nat} {v : V} {xs : List Wt} (t : ∀ b xs, SqT K H b xs → SqT K H' b xs) (hl : ∀ p ∈ m, p.1 ≠ k → ∀ l, ρ l = some (.waL p.1) → ρ' l = some (.waL p.1) ∧ ∀ o, H l = some o → H' l = some o) (nd : (m.map (·.1)).Nodup) (e : valV kvs (natK k) = some v) (hv : LV ρ' Role.waL (WtV K H') H' k xs v) : WPair K ρ' H' kvs (putA k xs m) := by
  induction h with
  | nil => cases e
  | cons a r ih =>
    rename_i q p rs ps
    obtain ⟨n1, n2⟩ := List.nodup_cons.mp (show (p.1 :: ps.map (·.1)).Nodup from nd)
    unfold putA
    by_cases c : p.1 = k
    · rw [valV_pos (by rw [a.1, c])] at e
      rw [if_pos c]
      refine .cons ⟨a.1, by rw [c, Option.some.inj e]; exact hv⟩ (wp_mv r t fun p2 mp => hl p2 (List.mem_cons_of_mem _ mp) fun z => n1 (by rw [c, ← z]; exact List.mem_map.mpr ⟨p2, mp, rfl⟩))
    · rw [valV_neg (fun z => c (natK_inj (by rw [← a.1, z])))] at e
      rw [if_neg c]
      exact .cons ⟨a.1, a.2.mv (hl _ List.mem_cons_self c) fun _ _ => WtV.mv t⟩ (ih (fun p2 mp => hl p2 (List.mem_cons_of_mem _ mp)) n2 e)
theorem wp_put2 (h : WPair K ρ H kvs m) {k : Nat} {v : V} {xs : List Wt} (t : ∀ b xs, SqT K H b xs → SqT K H' b xs) (hl : ∀ p ∈ m, ∀ l, ρ l = some (.waL p.1) → ρ' l = some (.waL p.1) ∧ ∀ o, H l = some o → H' l = some o) (e : lookA k m = none) (hv : LV ρ' Role.waL (WtV K H') H' k xs v) : WPair K ρ' H' (kvs ++ [(natK k, v)]) (putA k xs m) := by
  induction h with
  | nil => exact .cons ⟨rfl, hv⟩ .nil
  | cons a r ih =>
    rename_i q p rs ps
    unfold lookA at e
    unfold putA
    by_cases c : p.1 = k
    · rw [if_pos c] at e
      cases e
    · rw [if_neg c] at e
      rw [if_neg c]
      exact .cons ⟨a.1, a.2.mv (hl _ List.mem_cons_self) fun _ _ => WtV.mv t⟩ (ih (fun p2 mp => hl p2 (List.mem_cons_of_mem _ mp)) e)
/-- what waits grows by one -/
theorem add_dK {H0 : Hp} {l : Addr} {k : Nat} {x : Wt} (hd : ρ d = some .wa) (h : WV K ρ H d m) (ad : addB k x m = some m') (s0 : Same H0 H) (nl : H0 l = none) (hl : H l = some (.lst [])) (rl : ρ l = none) {Q : Hp → Prop}
    (fin : ∀ ρ' H', Kept K (fun r => r = .wa ∨ r = .waL k) ρ ρ' H0 H' → WV K ρ' H' d m' → ρ' d = some .wa → (∀ a r, ρ' a = some r → ρ a = some r ∨ r = .waL k ∧ a = l) → (∀ a, H a ≠ none → H' a ≠ none) → Q H') :
    ∃ (kvs : List (Key × V)) (kk : Key), H d = some (.dK kvs) ∧ (.int (k : Int) : V) = kV kk ∧ kvs.length < sizeLine ∧ (∀ v, valV kvs kk = some v → ∃ l0 us, v = .ref l0 ∧ H l0 = some (.lst us) ∧ us.length < sizeLine ∧ ∀ H8 y, Same H H8 → WtV K H8 x y → Q (upd H8 l0 (.lst (us ++ [y])))) ∧
      (valV kvs kk = none → (upd H d (.dK (putK kvs kk (.ref l)))) l = some (.lst []) ∧ ∀ H8 y, Same (upd H d (.dK (putK kvs kk (.ref l)))) H8 → WtV K H8 x y → Q (upd H8 l (.lst [y]))) := by
  obtain ⟨kvs, h1, h2, h3⟩ := h
  have ln : kvs.length = m.length := Paired.length h2
  have big : capA ≤ sizeLine := by decide
  have lm : m.length < capA := by
    unfold addB at ad
    split at ad <;> split at ad <;> first | (cases ad) | skip
    · assumption
    · rename_i c
      exact c.1
  refine ⟨kvs, natK k, h1, rfl, by omega, fun v hv => ?_, fun hn => ?_⟩
  · rcases wp_look h2 k with ⟨_, z⟩ | ⟨xs, v2, e1, e2, l0, us, rfl, r0, hl0, hu⟩
    · rw [z] at hv
      cases hv
    · rw [e2] at hv
      cases hv
      have lu : us.length = xs.length := Paired.length hu
      unfold addB at ad
      rw [e1] at ad
      dsimp only at ad
      split at ad
      · rename_i c
        cases ad
        refine ⟨l0, us, rfl, hl0, by omega, fun H8 y s8 hy => ?_⟩
        have tp : ∀ b xs, SqT K H b xs → SqT K (upd H8 l0 (.lst (us ++ [y]))) b xs := fun b xs q => tup_updL (s8 _ _ hl0) (Same.tup s8 q)
        have tq : ∀ b xs, SqT K H8 b xs → SqT K (upd H8 l0 (.lst (us ++ [y]))) b xs := fun b xs q => tup_updL (s8 _ _ hl0) q
        have nd0 : d ≠ l0 := fun e => by
          rw [e, r0] at hd
          cases hd
        refine fin ρ _ ⟨⟨fun _ _ q => tp _ _ (Same.tup s0 q), fun a o q n => ⟨n, by rw [upd_ne (fun e => by rw [e, r0] at n; cases n)]; exact s8 _ _ (s0 _ _ q)⟩⟩, fun a r q n => ⟨q, fun o z => by rw [upd_ne (fun e => by rw [e, r0] at q; exact n (.inr (Option.some.inj q).symm))]; exact s8 _ _ (s0 _ _ z)⟩⟩ ?_ hd (fun a r q => .inl q) (fun a q => ?_)
        · refine ⟨kvs, by rw [upd_ne nd0]; exact s8 _ _ h1, ?_, putA_keys h3⟩
          refine wp_put1 h2 tp (fun p mp ne l2 r2 => ⟨r2, fun o z => ?_⟩) h3 e2 ⟨l0, us ++ [y], rfl, r0, upd_same, Paired.snoc2 (Paired.mapP hu fun _ _ z => WtV.mv tp z) (WtV.mv tq hy)⟩
          rw [upd_ne (fun e => by rw [e, r0] at r2; cases Option.some.inj r2; exact ne rfl)]
          exact s8 _ _ z
        · unfold upd
          split
          · exact fun c => by cases c
          · intro c
            cases z : H a with
            | none => exact q z
            | some o => rw [s8 _ _ z] at c; cases c
      · cases ad
  · rcases wp_look h2 k with ⟨e1, _⟩ | ⟨xs, v2, e1, e2, _⟩
    rotate_left
    · rw [hn] at e2
      cases e2
    have nld : l ≠ d := fun e => by rw [e, hd] at rl; cases rl
    have pk : putK kvs (natK k) (.ref l) = kvs ++ [(natK k, .ref l)] := by
      unfold putK
      rw [valV_any, hn]
      rfl
    rw [pk]
    have hl2 : (upd H d (.dK (kvs ++ [(natK k, .ref l)]))) l = some (.lst []) := by rw [upd_ne nld]; exact hl
    refine ⟨hl2, fun H8 y s8 hy => ?_⟩
    unfold addB at ad
    rw [e1] at ad
    dsimp only at ad
    rw [if_pos lm] at ad
    cases ad
    have tp1 : ∀ b2 xs, SqT K H b2 xs → SqT K (upd H d (.dK (kvs ++ [(natK k, .ref l)]))) b2 xs := fun b2 xs q => by
      rcases q with (q | ⟨ob, q⟩) | q
      · exact .inl (.inl (by rw [upd_ne (ne_of q h1 (fun z => nomatch z))]; exact q))
      · exact .inl (.inr ⟨ob, by rw [upd_ne (ne_of q h1 (fun z => nomatch z))]; exact q⟩)
      · exact .inr q
    have tp : ∀ b2 xs, SqT K H b2 xs → SqT K (upd H8 l (.lst [y])) b2 xs := fun b2 xs q => tup_updL (s8 _ _ hl2) (Same.tup s8 (tp1 _ _ q))
    have tq : ∀ b2 xs, SqT K H8 b2 xs → SqT K (upd H8 l (.lst [y])) b2 xs := fun b2 xs q => tup_updL (s8 _ _ hl2) q
    have at1 : ∀ a o, a ≠ l → a ≠ d → H a = some o → (upd H8 l (.lst [y])) a = some o := fun a o n1 n2 q => by rw [upd_ne n1]; exact s8 _ _ (by rw [upd_ne n2]; exact q)
    refine fin (fun a => if a = l then some (.waL k) else ρ a) _ ⟨⟨fun _ _ q => tp _ _ (Same.tup s0 q), fun a o q n => ?_⟩, fun a r q n => ?_⟩ ?_ (by rw [if_neg (Ne.symm nld)]; exact hd) (fun a r q => ?_) (fun a q => ?_)
    · have n1 : a ≠ l := fun e => by rw [e, nl] at q; cases q
      have n2 : a ≠ d := fun e => by rw [e, hd] at n; cases n
      exact ⟨by rw [if_neg n1]; exact n, at1 a o n1 n2 (s0 _ _ q)⟩
    · have n1 : a ≠ l := fun e => by rw [e, rl] at q; cases q
      have n2 : a ≠ d := fun e => by rw [e, hd] at q; exact n (.inl (Option.some.inj q).symm)
      exact ⟨by rw [if_neg n1]; exact q, fun o z => at1 a o n1 n2 (s0 _ _ z)⟩
    · refine ⟨_, by rw [upd_ne (Ne.symm nld)]; exact s8 _ _ upd_same, wp_put2 h2 tp (fun p mp l2 r2 => ?_) e1 ⟨l, [y], rfl, if_pos rfl, upd_same, .cons (WtV.mv tq hy) .nil⟩, putA_keys h3⟩
      have n1 : l2 ≠ l := fun e => by rw [e, rl] at r2; cases r2
      have n2 : l2 ≠ d := fun e => by rw [e, hd] at r2; cases r2
      exact ⟨by rw [if_neg n1]; exact r2, fun o z => at1 l2 o n1 n2 z⟩
    · split at q
      · rename_i e
        exact .inr ⟨(Option.some.inj q).symm, e⟩
      · exact .inl q
    · unfold upd
      split
      · exact fun c => by cases c
      · intro c
        cases z : H a with
        | none => exact q z
        | some o =>
          by_cases e : a = d
          · rw [e, s8 _ _ upd_same] at c
            cases c
          · rw [s8 _ _ (show upd H d _ a = some o by rw [upd_ne e]; exact z)] at c
            cases c
theorem minK_least : ∀ {m : List (Nat × List Wt)}, m ≠ [] → minK m ∈ m.map (·.1) ∧ ∀ x ∈ m.map (·.1), minK m ≤ x
  | [], h => absurd rfl h
  | [r], _ => ⟨by simp [minK], fun x q => by simp [minK] at q ⊢; omega⟩
  | r :: q :: rest, _ => by
    obtain ⟨h1, h2⟩ := minK_least (m := q :: rest) (by simp)
    show min r.1 (minK (q :: rest)) ∈ _ ∧ ∀ x ∈ _, min r.1 (minK (q :: rest)) ≤ x
    refine ⟨?_, fun x z => ?_⟩
    · by_cases c : r.1 ≤ minK (q :: rest)
      · rw [Nat.min_eq_left c]
        exact List.mem_cons_self
      · rw [Nat.min_eq_right (by omega)]
        exact List.mem_cons_of_mem _ h1
    · rcases List.mem_cons.mp z with e | z
      · rw [e]
        exact Nat.min_le_left _ _
      · exact Nat.le_trans (Nat.min_le_right _ _) (h2 x z)
theorem wp_keys (h : WPair K ρ H kvs m) : kvs.map (·.1) = (m.map fun p => (p.1 : Int)).map Sum.inl := by
  induction h with
  | nil => rfl
  | cons a t ih => rw [List.map_cons, List.map_cons, List.map_cons, ih, a.1]
theorem wp_drop (h : WPair K ρ H kvs m) (k : Nat) (t : ∀ b xs, SqT K H b xs → SqT K H' b xs) (hl : ∀ p ∈ m, p.1 ≠ k → ∀ l, ρ l = some (.waL p.1) → ρ' l = some (.waL p.1) ∧ ∀ o, H l = some o → H' l = some o) : WPair K ρ' H' (dropK kvs (natK k)) (dropA k m) := by
  induction h with
  | nil => exact .nil
  | cons a r ih =>
    rename_i q p rs ps
    have ih := ih fun p2 mp => hl p2 (List.mem_cons_of_mem _ mp)
    unfold dropK dropA at ih ⊢
    by_cases c : p.1 = k
    · rw [List.filter_cons_of_neg (by rw [a.1, c]; simp), List.filter_cons_of_neg (by simp [c])]
      exact ih
    · rw [List.filter_cons_of_pos (by rw [a.1]; simp; exact fun z => c (by omega)), List.filter_cons_of_pos (by simp [c])]
      exact .cons ⟨a.1, a.2.mv (hl _ List.mem_cons_self c) fun _ _ => WtV.mv t⟩ ih
end
/-! ### the whole -/
def RuV (K : PySem.W.Frag) (H : Hp) (u : V) (r : Rule) : Prop := ∃ b p q, u = .ref b ∧ SqT K H b [.str r.1, .ref p, .ref q] ∧ SqT K H p (r.2.1.map V.str) ∧ SqT K H q (r.2.2.map V.str)
def WoV (K : PySem.W.Frag) (H : Hp) (u : V) (ws : List Str) : Prop := ∃ b, u = .ref b ∧ SqT K H b (ws.map V.str)
def ExOk (ρ : Rho) (H : Hp) : ExS → Prop
  | .full _ ba bs => ρ ba = none ∧ H ba = some (.lst (bs.map natV))
  | _ => True
structure SeaAt (K : PySem.W.Frag) (w : World) (Z S : Addr) (A : Adr) (e : ExS) (rules : List Rule) (words : List (List Str)) (ρ : Rho) (R : SS) (H : Hp) : Prop where
  me : ∃ dx, H S = some (.ins Z dx (seF A R.states e))
  rme : ρ S = some .me
  rru : ρ A.ru = none
  rwo : ρ A.wo = none
  rco : ρ A.co = some .co
  rma : ρ A.ma = some .mk
  ron : ρ A.on = some .on
  rse : ρ A.se = some .se
  rog : ρ A.og = some .og
  rvi : ρ A.vi = some .vi
  rwa : ρ A.wa = some .wa
  dom : ∀ a r, ρ a = some r → H a ≠ none
  ru : ∃ us, H A.ru = some (.lst us) ∧ Paired (RuV K H) us rules
  wo : ∃ us, H A.wo = some (.lst us) ∧ Paired (WoV K H) us words
  ex : ExOk ρ H e
  co : DV edgeF K w (fun _ n v => v = natV n) H A.co R.costs
  ma : DV edgeF K w (fun _ n v => v = natV n) H A.ma R.makers
  on : DV siF K w (LV ρ Role.onL (KE' K H) H) H A.on R.onward
  se : DV placeF K w (fun _ n v => v = natV n) H A.se R.settled
  og : DV placeF K w (fun _ o v => OgV K H o v) H A.og R.origins
  vi : DV siF K w (LV ρ Role.viL (KP K H) H) H A.vi R.visitors
  wa : WV K ρ H A.wa R.waiting
section
variable {K : PySem.W.Frag} {w : World} {Z S : Addr} {A : Adr} {e : ExS} {rules : List Rule} {words : List (List Str)} {ρ ρ' : Rho} {R R' : SS} {H H' : Hp} {r0 : Role → Prop}
theorem RuV.mv {u : V} {r : Rule} (t : ∀ b xs, SqT K H b xs → SqT K H' b xs) (h : RuV K H u r) : RuV K H' u r := by
  obtain ⟨b, p, q, e, h1, h2, h3⟩ := h
  exact ⟨b, p, q, e, t _ _ h1, t _ _ h2, t _ _ h3⟩
theorem WoV.mv {u : V} {r : List Str} (t : ∀ b xs, SqT K H b xs → SqT K H' b xs) (h : WoV K H u r) : WoV K H' u r := ⟨h.choose, h.choose_spec.1, t _ _ h.choose_spec.2⟩
/-- a change of some parts -/
theorem SeaAt.mv (h : SeaAt K w Z S A e rules words ρ R H) (k : Kept K r0 ρ ρ' H H') (dom : ∀ a r, ρ' a = some r → H' a ≠ none) (st : R'.states = R.states)
    (n : ∀ r, r = .me ∨ r = .ru ∨ r = .wo ∨ r = .ba → ¬ r0 r)
    (co : (R'.costs = R.costs ∧ ¬ r0 .co) ∨ (ρ' A.co = some .co ∧ DV edgeF K w (fun _ n v => v = natV n) H' A.co R'.costs))
    (ma : (R'.makers = R.makers ∧ ¬ r0 .mk) ∨ (ρ' A.ma = some .mk ∧ DV edgeF K w (fun _ n v => v = natV n) H' A.ma R'.makers))
    (on : (R'.onward = R.onward ∧ ¬ r0 .on ∧ ∀ k, ¬ r0 (.onL k)) ∨ (ρ' A.on = some .on ∧ DV siF K w (LV ρ' Role.onL (KE' K H') H') H' A.on R'.onward))
    (se : (R'.settled = R.settled ∧ ¬ r0 .se) ∨ (ρ' A.se = some .se ∧ DV placeF K w (fun _ n v => v = natV n) H' A.se R'.settled))
    (og : (R'.origins = R.origins ∧ ¬ r0 .og) ∨ (ρ' A.og = some .og ∧ DV placeF K w (fun _ o v => OgV K H' o v) H' A.og R'.origins))
    (vi : (R'.visitors = R.visitors ∧ ¬ r0 .vi ∧ ∀ k, ¬ r0 (.viL k)) ∨ (ρ' A.vi = some .vi ∧ DV siF K w (LV ρ' Role.viL (KP K H') H') H' A.vi R'.visitors))
    (wa : (R'.waiting = R.waiting ∧ ¬ r0 .wa ∧ ∀ k, ¬ r0 (.waL k)) ∨ (ρ' A.wa = some .wa ∧ WV K ρ' H' A.wa R'.waiting)) : SeaAt K w Z S A e rules words ρ' R' H' where
  me := by
    obtain ⟨dx, q⟩ := h.me
    rw [st]
    exact ⟨dx, (k.at_ _ _ h.rme (n _ (.inl rfl))).2 _ q⟩
  rme := (k.at_ _ _ h.rme (n _ (.inl rfl))).1
  rru := by
    obtain ⟨us, h1, _⟩ := h.ru
    exact (k.out _ _ h1 h.rru).1
  rwo := by
    obtain ⟨us, h1, _⟩ := h.wo
    exact (k.out _ _ h1 h.rwo).1
  rco := co.elim (fun q => (k.at_ _ _ h.rco q.2).1) (·.1)
  rma := ma.elim (fun q => (k.at_ _ _ h.rma q.2).1) (·.1)
  ron := on.elim (fun q => (k.at_ _ _ h.ron q.2.1).1) (·.1)
  rse := se.elim (fun q => (k.at_ _ _ h.rse q.2).1) (·.1)
  rog := og.elim (fun q => (k.at_ _ _ h.rog q.2).1) (·.1)
  rvi := vi.elim (fun q => (k.at_ _ _ h.rvi q.2.1).1) (·.1)
  rwa := wa.elim (fun q => (k.at_ _ _ h.rwa q.2.1).1) (·.1)
  dom := dom
  ru := by
    obtain ⟨us, h1, h2⟩ := h.ru
    exact ⟨us, (k.out _ _ h1 h.rru).2, Paired.mapP h2 fun _ _ => RuV.mv k.tup⟩
  wo := by
    obtain ⟨us, h1, h2⟩ := h.wo
    exact ⟨us, (k.out _ _ h1 h.rwo).2, Paired.mapP h2 fun _ _ => WoV.mv k.tup⟩
  ex := by
    have := h.ex
    cases e with
    | no => exact trivial
    | fin _ => exact trivial
    | full m ba bs => exact k.out _ _ this.2 this.1
  co := co.elim (fun q => by rw [q.1]; exact h.co.mv (k.at_ _ _ h.rco q.2).2 k.tup fun _ _ _ z => z) (·.2)
  ma := ma.elim (fun q => by rw [q.1]; exact h.ma.mv (k.at_ _ _ h.rma q.2).2 k.tup fun _ _ _ z => z) (·.2)
  on := on.elim (fun q => by rw [q.1]; exact h.on.mv (k.at_ _ _ h.ron q.2.1).2 k.tup fun c _ _ z => z.mv (fun l r => k.at_ _ _ r (q.2.2 c)) fun _ _ => KE'.mv k.tup) (·.2)
  se := se.elim (fun q => by rw [q.1]; exact h.se.mv (k.at_ _ _ h.rse q.2).2 k.tup fun _ _ _ z => z) (·.2)
  og := og.elim (fun q => by rw [q.1]; exact h.og.mv (k.at_ _ _ h.rog q.2).2 k.tup fun _ _ _ z => z.mv k.tup) (·.2)
  vi := vi.elim (fun q => by rw [q.1]; exact h.vi.mv (k.at_ _ _ h.rvi q.2.1).2 k.tup fun c _ _ z => z.mv (fun l r => k.at_ _ _ r (q.2.2 c)) fun _ _ => KP.mv k.tup) (·.2)
  wa := wa.elim (fun q => by rw [q.1]; exact h.wa.mv (k.at_ _ _ h.rwa q.2.1).2 k.tup fun c l r => k.at_ _ _ r (q.2.2 c)) (·.2)
theorem SeaAt.same (h : SeaAt K w Z S A e rules words ρ R H) (s : Same H H') : SeaAt K w Z S A e rules words ρ R H' :=
  h.mv (r0 := fun _ => False) (Kept.same s) (fun a r q c => by
    cases z : H a with
    | none => exact h.dom a r q z
    | some o => rw [s _ _ z] at c; cases c) rfl (fun _ _ => id) (.inl ⟨rfl, id⟩) (.inl ⟨rfl, id⟩) (.inl ⟨rfl, id, fun _ => id⟩) (.inl ⟨rfl, id⟩) (.inl ⟨rfl, id⟩) (.inl ⟨rfl, id, fun _ => id⟩) (.inl ⟨rfl, id, fun _ => id⟩)
theorem SeaAt.free (h : SeaAt K w Z S A e rules words ρ R H) {a : Addr} (n : H a = none) : ρ a = none := by
  cases q : ρ a with
  | none => rfl
  | some r => exact absurd n (h.dom a r q)
end
end SE
namespace SE
open PySem PySem.Spec PyProof.Rows L2
/-- the class Search -/
structure TSea (K : PySem.W.Frag) (Z : Addr) : Prop where
  cl : Cls K Z
  nRu : NoAttr K Z "rules"
  nWo : NoAttr K Z "words"
  nSt : NoAttr K Z "states"
  nCo : NoAttr K Z "costs"
  nMa : NoAttr K Z "makers"
  nOn : NoAttr K Z "onward"
  nSe : NoAttr K Z "settled"
  nOg : NoAttr K Z "origins"
  nVi : NoAttr K Z "visitors"
  nWa : NoAttr K Z "waiting"
  nEn : NoAttr K Z "end"
  nBa : NoAttr K Z "bases"
/-- o.m(..) -/
def MethHas (P : Program) (w : World) (K : PySem.W.Frag) (mg : Str → Option Value) (base : Heap) (C : Addr) (m : Str) (k : Nat) (ps : List Str) (sp : Sp) : Prop := ∃ f fd, Meth K C m f ∧ FnOk P w K mg base CX0 k f fd ps sp ∧ Binds K fd ps []
theorem pe_mH0 {X : Cx} {C : Addr} {m : Str} {k : Nat} {ps : List Str} {sp : Sp} {o : Expr} {ta : TE} {apos pos : Pos} {pl : Sem Bool} (h : MethHas X.prog X.w X.K X.mg X.base C m k ps sp) (he : PE X o ta) (c : Cls X.K C) (hr : Room k X.A)
    (ht : eval (.Call (.Attribute o m apos) [] [] pos) X.env = (do
      let ov ← eval o X.env
      standAt apos.atName
      let (f, first) ← holding [ov] (getMethod ov m pl)
      callWith pos f first (backTo pos (starEach [] X.env)) (backToKw pos (keywordEach [] X.env))) := by rfl) : PE X (.Call (.Attribute o m apos) [] [] pos) (tMeth C m sp [] E0 ta tNil) := by
  obtain ⟨f, fd, hm, F, hb⟩ := h
  exact pe_meth0 (pl := pl) he c hm F hr hb .nil pass0 ht
theorem pe_mH1 {X : Cx} {C : Addr} {m : Str} {k : Nat} {ps : List Str} {sp : Sp} {o e : Expr} {es : List Expr} {ta : TE} {t : TA} {apos pos : Pos} {pl : Sem Bool} (h : MethHas X.prog X.w X.K X.mg X.base C m k ps sp) (he : PE X o ta) (c : Cls X.K C) (hr : Room k X.A) (ha : PA X (e :: es) t)
    (hst : starEach (e :: es) X.env = (false, eval e X.env) :: starEach es X.env := by rfl) (hpl : (backTo pos (starEach es X.env)).any (·.1) = false := by rfl)
    (ht : eval (.Call (.Attribute o m apos) (e :: es) [] pos) X.env = (do
      let ov ← eval o X.env
      standAt apos.atName
      let (f, first) ← holding [ov] (getMethod ov m pl)
      callWith pos f first (backTo pos (starEach (e :: es) X.env)) (backToKw pos (keywordEach [] X.env))) := by rfl) : PE X (.Call (.Attribute o m apos) (e :: es) [] pos) (tMeth C m sp [] E0 ta t) := by
  obtain ⟨f, fd, hm, F, hb⟩ := h
  exact pe_meth (pl := pl) he c hm F hr hb .nil pass0 ha hst hpl ht
section
variable {P : Program} {w : World} {K : PySem.W.Frag} {mg : Str → Option Value} {base : Heap} {Z : Addr}
section
variable {κ β : Type} [DecidableEq κ] {F : KF κ} {K : PySem.W.Frag} {w : World} {H : Hp} {d : Addr} {m : List (κ × β)} {val val' : κ → β → V → Prop}
theorem DV.look (h : DV F K w val H d m) : ∃ rows : List (RowF κ), H d = some (dF F w d rows) ∧ KeysF F K H rows ∧ rows.length = m.length ∧ (∀ k b, lookA k m = some b → ∃ v, atF k rows = some v ∧ val k b v) ∧ (∀ k, lookA k m = none → atF k rows = none) := by
  obtain ⟨rows, h1, h2, h3⟩ := h
  refine ⟨rows, h1, h2, DV.len h3, fun k b e => ?_, fun k e => ?_⟩
  · rcases pair_look (val := val) h3 k with ⟨z, _⟩ | ⟨b1, v1, z1, z2, z3⟩
    · rw [e] at z
      cases z
    · rw [e] at z1
      cases z1
      exact ⟨v1, z2, z3⟩
  · rcases pair_look (val := val) h3 k with ⟨_, z⟩ | ⟨b1, v1, z1, z2, z3⟩
    · exact z
    · rw [e] at z1
      cases z1
/-- d[k] = v -/
theorem DV.put {k : κ} {x : β} {b : Addr} {v : V} {m' : List (κ × β)} (h : DV F K w val H d m) (p : putB k x m = some m') (q : SqT K H b (F.vs k)) : ∃ rows : List (RowF κ), H d = some (dF F w d rows) ∧ KeysF F K H rows ∧ rows.length < sizeLine ∧
    (∀ val', val' k x v → (∀ k2 x2 v2, val k2 x2 v2 → val' k2 x2 v2) → DV F K w val' (L2.upd H d (dF F w d (putF k b v rows))) d m') := by
  obtain ⟨rows, h1, h2, h3⟩ := h
  unfold putB at p
  split at p
  · rename_i c
    cases p
    have big : capA ≤ sizeLine := by decide
    have ln := DV.len h3
    exact ⟨rows, h1, h2, by omega, fun val' hv mono => ⟨_, upd_same, (h2.put v q).mono (dF_tup h1), pair_put (val := val) (val' := val') h3 hv (fun k2 x2 v2 _ z => mono k2 x2 v2 z) h2.nd⟩⟩
  · cases p
end
theorem dK_tup {K : PySem.W.Frag} {H : Hp} {d : Addr} {kvs : List (Key × V)} {o : HO} (e : H d = some (.dK kvs)) : ∀ b xs, SqT K H b xs → SqT K (upd H d o) b xs := fun b xs q => by
  rcases q with (q | ⟨ob, q⟩) | q
  · exact .inl (.inl (by rw [upd_ne (ne_of q e (fun z => nomatch z))]; exact q))
  · exact .inl (.inr ⟨ob, by rw [upd_ne (ne_of q e (fun z => nomatch z))]; exact q⟩)
  · exact .inr q
theorem Kept.dict {K : PySem.W.Frag} {ρ : Rho} {H : Hp} {d : Addr} {rd : Role} {o : HO} (hd : ρ d = some rd) (t : ∀ b xs, SqT K H b xs → SqT K (upd H d o) b xs) : Kept K (fun r => r = rd) ρ ρ H (upd H d o) :=
  ⟨⟨t, fun a _ q n => ⟨n, by rw [upd_ne (fun e => by rw [e, hd] at n; cases n)]; exact q⟩⟩, fun a r q n => ⟨q, fun _ z => by rw [upd_ne (fun e => by rw [e, hd] at q; exact n (Option.some.inj q).symm)]; exact z⟩⟩
theorem Kept.two {K : PySem.W.Frag} {r0 : Role → Prop} {ρ ρ1 ρ2 : Rho} {H H1 H2 : Hp} (a : Kept K r0 ρ ρ1 H H1) (b : Kept K r0 ρ1 ρ2 H1 H2) : Kept K r0 ρ ρ2 H H2 := ⟨(a.trans b).toOut, fun c r e n => (a.trans b).at_ c r e fun z => z.elim n n⟩
theorem seF_wait {A : Adr} {n : Nat} : ∀ {e : ExS}, (seF A n e).lookup ("add_waiting" : Str) = none
  | .no => by rfl
  | .fin _ => by rfl
  | .full _ _ _ => by rfl
theorem domU {H : Hp} {d : Addr} {o : HO} {a : Addr} (h : H a ≠ none) : upd H d o a ≠ none := by
  unfold upd
  split
  · exact fun c => by cases c
  · exact h
theorem foldO_at {α σ : Type} {f : α → σ → Option σ} {xs : List α} {i : Nat} {x : α} {s s' : σ} (hx : xs[i]? = some x) (h : foldO f (xs.drop i) s = some s') : ∃ s1, f x s = some s1 ∧ foldO f (xs.drop (i + 1)) s1 = some s' := by
  have li := (List.getElem?_eq_some_iff.mp hx).1
  rw [List.drop_eq_getElem_cons li, (List.getElem?_eq_some_iff.mp hx).2] at h
  unfold foldO at h
  cases e : f x s with
  | none => rw [e] at h; cases h
  | some s1 => rw [e] at h; exact ⟨s1, rfl, h⟩
theorem foldO_end {α σ : Type} {f : α → σ → Option σ} {xs : List α} {s s' : σ} (h : foldO f (xs.drop xs.length) s = some s') : s = s' := by
  rw [List.drop_length] at h
  exact Option.some.inj h
theorem pe_imp {X : Cx} {e : Expr} {t t' : TE} (h : PE X e t) (i : ∀ σ H Q, t' σ H Q → t σ H Q) : PE X e t' := ⟨fun pins s σ H Q I q => h.run pins s σ H Q I (i _ _ _ q)⟩
/-! ### add_waiting -/
/-- read if item is None else read + 1 -/
def tRd : TE := fun σ H Q => ∃ (o : Option Str) (n : Nat), σ[6]? = some (some (optV o)) ∧ σ[4]? = some (some (natV n)) ∧ Q (natV (match o with | none => n | some _ => n + 1)) H
theorem rd_imp {σ : L2.St} {H : Hp} {Q : VK} (h : tRd σ H Q) : (tIf (tTest (tOp (fun x y H Q => y = V.non ∧ Q (V.bl (decide (x = V.non))) H) (tVar 6) (tC V.non))) (tVar 4) (tOp (rI0 fun i j => V.int (i + j)) (tVar 4) (tC (V.int 1)))) σ H Q := by
  obtain ⟨o, n, h6, h4, q⟩ := h
  cases o with
  | none => exact ⟨_, h6, rfl, true, rfl, iteT ⟨_, h4, q⟩⟩
  | some x => exact ⟨_, h6, rfl, false, rfl, iteF ⟨_, h4, _, 1, rfl, rfl, q⟩⟩
abbrev waR : Role → Prop := fun r => r = .wa ∨ ∃ c, r = .waL c
def spWt (K : PySem.W.Frag) (w : World) (Z : Addr) : Sp := fun vs H Q _ => ∃ (S pb eb : Addr) (A : Adr) (e : ExS) (rules : List Rule) (words : List (List Str)) (ρ : Rho) (R R' : SS) (pl : Place) (ed : Edge), vs = [.ref S, .ref pb, .ref eb] ∧ SeaAt K w Z S A e rules words ρ R H ∧ SqT K H pb (placeF.vs pl) ∧ SqT K H eb (edgeF.vs ed) ∧ addWait pl ed R = some R' ∧
  ∀ ρ' H', SeaAt K w Z S A e rules words ρ' R' H' → Kept K waR ρ ρ' H H' → Q .non H'
abbrev nWt : List Str := ["self", "place", "edge", "word", "read", "state", "item", "target", "after", "cost"]
abbrev pWt : List Str := ["self", "place", "edge"]
theorem scWt : FnScope nWt pWt (defScope sSeWait) := ⟨rfl, rfl, rfl, by decide +kernel, rfl, by decide +kernel, by decide +kernel⟩
theorem ok_wt {f : Addr} {fd : FuncData} (F : Fun K "add_waiting" "Search.add_waiting" sSeWait f fd) (T : TSea K Z) : FnOk P w K mg base CX0 1 f fd pWt (spWt K w Z) := by
  refine F.ok scWt (fun vs H Q E h => ?_) (fun cdv A out s H vs Q E hr h => ?_)
  · obtain ⟨S, pb, eb, _, _, _, _, _, _, _, _, _, rfl, _⟩ := h
    rfl
  · obtain ⟨S, pb, eb, Ad, e, rules, words, ρ, R, R', pl, ed, rfl, hS, hp, he, hR, k⟩ := h
    refine ⟨_, (pss_cons (ps_asg (pv 1) (pg_tup (by rfl) (pgs_cons (pg_name (i := 3) scWt.nd rfl (.inl rfl)) (pgs_cons (pg_name (i := 4) scWt.nd rfl (.inl rfl)) (pgs_cons (pg_name (i := 5) scWt.nd rfl (.inl rfl)) pgs_nil)))))
      (pss_cons (ps_asg (pe_slice sl_tupS (pv 2) (po_some pe_int) po_none) (pg_tup (by rfl) (pgs_cons (pg_name (i := 6) scWt.nd rfl (.inl rfl)) (pgs_cons (pg_name (i := 7) scWt.nd rfl (.inl rfl)) pgs_nil))))
      (pss_cons (ps_set (i := 8) scWt.nd rfl (.inl rfl) (pe_tup (pa_cons (pv 3) (pa_cons (pe_imp (t' := tRd) (pe_ifExp (pt_cmpR op_isN (pv 6) pe_non (nomark _)) (pv 4) (pe_op op_add (pv 4) pe_int)) fun _ _ _ => rd_imp) (pa_cons (pv 7) pa_nil)))))
      (pss_cons (ps_set (i := 9) scWt.nd rfl (.inl rfl) (pe_op op_add (pe_getF (F := placeF) (by have := hr.un; show (A.deeper _).units + 9 < cLine; omega) (pe_fld (pv 0) rfl) (pv 1) (fun _ _ => rfl)) (pe_getF (F := edgeF) (by have := hr.un; show (A.deeper _).units + 9 < cLine; omega) (pe_fld (pv 0) rfl) (pv 2) (fun _ _ => rfl))))
      (pss_one (ps_expr (pe_bm PySem.F.plainAttrs_list PySem.F.slot_list_append PySem.F.type_list_append mt_append (pe_dsetd (pe_fld (pv 0) rfl) (pv 9) (pe_lst pa_nil) ⟨rfl, rfl, rfl, rfl⟩) (pa_cons (pe_tup (pa_cons (pv 8) (pa_cons (pv 1) (pa_cons (pv 2) pa_nil)))) pa_nil)))))))), ?_⟩
    have hr0 := hr
    obtain ⟨dx, hme⟩ := hS.me
    unfold addWait at hR
    cases e1 : lookA pl R.settled with
    | none => rw [e1] at hR; cases hR
    | some a =>
    rw [e1] at hR
    cases e2 : lookA ed R.costs with
    | none => rw [e2] at hR; cases hR
    | some c =>
    rw [e2] at hR
    dsimp only [Option.bind_some] at hR
    cases e3 : addB (a + c) (aftP pl ed, some pl, some ed) R.waiting with
    | none => rw [e3] at hR; cases hR
    | some wa =>
    rw [e3] at hR
    cases hR
    refine ⟨_, rfl, pb, _, rfl, hp, rfl, _, _, rfl, _, _, rfl, _, _, rfl, rfl, ?_⟩
    refine ⟨_, rfl, 1, rfl, eb, _, rfl, he, fun p1 H1 s1 hp1 => ?_⟩
    have hp1 : SqT K H1 p1 [optV ed.2.1, natV ed.2.2] := hp1
    refine ⟨p1, _, rfl, hp1, rfl, _, _, rfl, _, _, rfl, rfl, ?_⟩
    refine ⟨_, rfl, ed.2.1, pl.2.1, rfl, rfl, _, rfl, by show 3 ≤ sizeLine; decide, fun U hU => ?_⟩
    have sT := s1.trans (Same.new (o := .tup (placeF.vs (aftP pl ed))) hU)
    have hU2 : SqT K (upd H1 U (.tup (placeF.vs (aftP pl ed)))) U (placeF.vs (aftP pl ed)) := .of upd_same
    have eT : (upd H1 U (.tup [natV pl.1, natV (match ed.2.1 with | none => pl.2.1 | some _ => pl.2.1 + 1), natV ed.2.2])) = upd H1 U (.tup (placeF.vs (aftP pl ed))) := rfl
    rw [eT]
    generalize upd H1 U (.tup (placeF.vs (aftP pl ed))) = H2 at sT hU2 ⊢
    clear eT
    have S2 := hS.same sT
    obtain ⟨rows1, g1, g2, _, g3, _⟩ := S2.se.look
    obtain ⟨rows2, j1, j2, _, j3, _⟩ := S2.co.look
    have me2 := sT _ _ hme
    obtain ⟨_, z2, rfl⟩ := g3 _ _ e1
    obtain ⟨_, y2, rfl⟩ := j3 _ _ e2
    refine ⟨_, rfl, S, Z, dx, _, _, rfl, me2, T.cl, T.nSe, rfl, _, rfl, Ad.se, rows1, pl, _, rfl, .of g1, g2, ⟨pb, rfl, Same.tup sT hp⟩, z2, ?_⟩
    refine ⟨_, rfl, S, Z, dx, _, _, rfl, me2, T.cl, T.nCo, rfl, _, rfl, Ad.co, rows2, ed, _, rfl, .of j1, j2, ⟨eb, rfl, Same.tup sT he⟩, y2, ?_⟩
    refine ⟨_, _, rfl, rfl, ?_⟩
    obtain ⟨kw, w1, _, _⟩ := S2.wa
    refine ⟨_, rfl, S, Z, dx, _, _, rfl, me2, T.cl, T.nWa, rfl, Ad.wa, rfl, .inl ⟨_, .inl w1⟩, _, rfl, by show 0 ≤ sizeLine; decide, fun l hl => ?_⟩
    have sl := Same.new (o := .lst []) hl
    have S3 := S2.same sl
    have s03 := sT.trans sl
    have rl := S2.free hl
    have nl : H l = none := by
      cases z : H l with
      | none => rfl
      | some o => rw [sT _ _ z] at hl; cases hl
    have fin : ∀ (H8 : Hp) (y : V), (∀ b xs, SqT K H b xs → SqT K H8 b xs) → ∀ (b : Addr) (x : V), y = V.ref b → SqT K H8 b [x, .ref pb, .ref eb] → KP K H8 (aftP pl ed) x → WtV K H8 (aftP pl ed, some pl, some ed) y := fun H8 y s8 b x e1 e2 e3 => ⟨b, x, .ref pb, .ref eb, e1, e2, e3, ⟨pb, rfl, s8 _ _ hp⟩, ⟨eb, rfl, s8 _ _ he⟩⟩
    obtain ⟨kvs, kk, a1, a2, a3, a4, a5⟩ := add_dK (H0 := H) (x := (aftP pl ed, some pl, some ed)) (Q := fun H' => Q .non H') S3.rwa S3.wa e3 s03 nl upd_same rl fun ρ' H' kp wv rd ro dom => k ρ' H'
      (hS.mv (R' := { R with waiting := wa }) kp (fun a r q => (ro a r q).elim (fun z => dom _ (S3.dom a r z)) (fun z => dom _ (by rw [z.2, upd_same]; exact fun c => by cases c))) rfl (by rintro r (rfl | rfl | rfl | rfl) (h | h) <;> cases h) (.inl ⟨rfl, by rintro (h | h) <;> cases h⟩) (.inl ⟨rfl, by rintro (h | h) <;> cases h⟩) (.inl ⟨rfl, (by rintro (h | h) <;> cases h), (by rintro _ (h | h) <;> cases h)⟩) (.inl ⟨rfl, by rintro (h | h) <;> cases h⟩) (.inl ⟨rfl, by rintro (h | h) <;> cases h⟩) (.inl ⟨rfl, (by rintro (h | h) <;> cases h), (by rintro _ (h | h) <;> cases h)⟩) (.inr ⟨rd, wv⟩))
      ⟨kp.toOut, fun a r q n => kp.at_ a r q fun z => n (z.elim .inl fun z => .inr ⟨_, z⟩)⟩
    refine ⟨kvs, kk, a1, a2, a3, fun v hv => ?_, fun hn => ?_⟩
    · obtain ⟨l0, us, rfl, hl0, lu, go⟩ := a4 v hv
      refine ⟨.inl ⟨rfl, _, .inl (.inl hl0)⟩, _, rfl, _, rfl, _, rfl, by show 3 ≤ sizeLine; decide, fun W hW => ?_⟩
      have sW := Same.new (o := .tup [V.ref U, .ref pb, .ref eb]) hW
      exact ⟨l0, us, .ref W, rfl, rfl, sW _ _ hl0, lu, go _ _ sW (fin _ _ (fun _ _ => Same.tup (s03.trans sW)) W _ rfl (.of upd_same) ⟨U, rfl, Same.tup (sl.trans sW) hU2⟩)⟩
    · obtain ⟨hl7, go⟩ := a5 hn
      refine ⟨.inl ⟨rfl, _, .inl (.inl hl7)⟩, _, rfl, _, rfl, _, rfl, by show 3 ≤ sizeLine; decide, fun W hW => ?_⟩
      have sW := Same.new (o := .tup [V.ref U, .ref pb, .ref eb]) hW
      exact ⟨l, _, .ref W, rfl, rfl, sW _ _ hl7, by show 0 < sizeLine; decide, go _ _ sW (fin _ _ (fun _ _ q => Same.tup sW (dK_tup a1 _ _ (Same.tup s03 q))) W _ rfl (.of upd_same) ⟨U, rfl, Same.tup sW (dK_tup a1 _ _ (Same.tup sl hU2))⟩)⟩
/-! ### add_edge -/
def spEg (K : PySem.W.Frag) (w : World) (Z : Addr) : Sp := fun vs H Q _ => ∃ (S eb : Addr) (A : Adr) (e : ExS) (rules : List Rule) (words : List (List Str)) (ρ : Rho) (R R' : SS) (ed : Edge) (cost : Nat), vs = [.ref S, .ref eb, natV cost] ∧ SeaAt K w Z S A e rules words ρ R H ∧ SqT K H eb (edgeF.vs ed) ∧ addEdge ed cost R = some R' ∧
  ∀ ρ' H', SeaAt K w Z S A e rules words ρ' R' H' → Out K ρ ρ' H H' → Q .non H'
abbrev nEg : List Str := ["self", "edge", "cost", "state", "item", "target", "place"]
abbrev pEg : List Str := ["self", "edge", "cost"]
theorem scEg : FnScope nEg pEg (defScope sSeEdge) := ⟨rfl, rfl, rfl, by decide +kernel, rfl, by decide +kernel, by decide +kernel⟩
theorem ok_eg {f : Addr} {fd : FuncData} (F : Fun K "add_edge" "Search.add_edge" sSeEdge f fd) (T : TSea K Z) (GWt : MethHas P w K mg base Z "add_waiting" 1 pWt (spWt K w Z)) : FnOk P w K mg base CX0 2 f fd pEg (spEg K w Z) := by
  refine F.ok scEg (fun vs H Q E h => ?_) (fun cdv A out s H vs Q E hr h => ?_)
  · obtain ⟨S, eb, _, _, _, _, _, _, _, _, _, rfl, _⟩ := h
    rfl
  · obtain ⟨S, eb, Ad, e, rules, words, ρ, R, R', ed, cost, rfl, hS, he, hR, k⟩ := h
    have hr1 : Room 1 _ := hr.mono (by decide)
    refine ⟨_, (pss_cons (ps_asg (pv 1) (pg_tup (by rfl) (pgs_cons (pg_name (i := 3) scEg.nd rfl (.inl rfl)) (pgs_cons (pg_name (i := 4) scEg.nd rfl (.inl rfl)) (pgs_cons (pg_name (i := 5) scEg.nd rfl (.inl rfl)) pgs_nil)))))
      (pss_cons (ps_putF (F := edgeF) (by have := hr.un; show (A.deeper _).units + 9 < cLine; omega) (pe_fld (pv 0) rfl) (pv 1) (pv 2) rfl)
      (Evl.pss_cut (ps_expr (pe_bm PySem.F.plainAttrs_list PySem.F.slot_list_append PySem.F.type_list_append mt_append (pe_setDF (F := siF) (by have := hr.un; show (A.deeper _).units + 9 < cLine; omega) (pe_fld (pv 0) rfl) (pe_tup (pa_cons (pv 3) (pa_cons (pv 4) pa_nil))) (pe_lst pa_nil) ⟨rfl, rfl, rfl, rfl⟩) (pa_cons (pv 1) pa_nil)))
      (pss_one (ps_for PassesOwn.never rfl (pi_list (pe_get2F (F := siF) (by have := hr.un; show (A.deeper _).units + 9 < cLine; omega) (pe_fld (pv 0) rfl) (pe_tup (pa_cons (pv 3) (pa_cons (pv 4) pa_nil))) (pe_lst pa_nil) ⟨rfl, rfl, rfl, rfl⟩)) (pg_name (i := 6) scEg.nd rfl (.inl rfl)) (pss_one (ps_expr (pe_mH1 GWt (pv 0) T.cl hr1 (pa_cons (pv 6) (pa_cons (pv 1) pa_nil)))))))))), ?_⟩
    obtain ⟨dx, hme⟩ := hS.me
    unfold addEdge at hR
    cases e1 : putB ed cost R.costs with
    | none => rw [e1] at hR; cases hR
    | some co =>
    rw [e1] at hR
    cases e2 : addB (ed.1, ed.2.1) ed R.onward with
    | none => rw [e2] at hR; cases hR
    | some on =>
    rw [e2] at hR
    have hR : foldO (fun pl R => addWait pl ed R) ((lookA (ed.1, ed.2.1) R.visitors).getD []) { R with costs := co, onward := on } = some R' := hR
    refine ⟨_, rfl, eb, _, rfl, he, rfl, _, _, rfl, _, _, rfl, _, _, rfl, rfl, ?_⟩
    obtain ⟨rows, h1, h2, h3, put⟩ := hS.co.put (v := natV cost) e1 he
    refine ⟨_, rfl, _, rfl, S, Z, dx, _, _, rfl, hme, T.cl, T.nCo, rfl, _, rfl, Ad.co, rows, ed, eb, rfl, rfl, h1, h2, he, h3, ?_⟩
    have ka : Kept K (fun r => r = .co) ρ ρ H (upd H Ad.co (dF edgeF w Ad.co (putF ed eb (natV cost) rows))) := Kept.dict hS.rco (dF_tup h1)
    have Sa := hS.mv (R' := { R with costs := co }) ka (fun a r q => domU (hS.dom a r q)) rfl (by rintro r (rfl | rfl | rfl | rfl) h <;> cases h) (.inr ⟨hS.rco, put _ rfl fun _ _ _ z => z⟩) (.inl ⟨rfl, fun h => nomatch h⟩) (.inl ⟨rfl, (fun h => nomatch h), (fun _ h => nomatch h)⟩) (.inl ⟨rfl, fun h => nomatch h⟩) (.inl ⟨rfl, fun h => nomatch h⟩) (.inl ⟨rfl, (fun h => nomatch h), (fun _ h => nomatch h)⟩) (.inl ⟨rfl, (fun h => nomatch h), (fun _ h => nomatch h)⟩)
    have oa := ka.toOut
    clear ka put
    obtain ⟨dx, hme⟩ := Sa.me
    obtain ⟨rows2, g1, g2, g3⟩ := Sa.on
    refine ⟨fun σ H1 => σ = [some (.ref S), some (.ref eb), some (natV cost), some (natV ed.1), some (optV ed.2.1), some (natV ed.2.2), none] ∧ ∃ ρ1, SeaAt K w Z S Ad e rules words ρ1 { R with costs := co, onward := on } H1 ∧ Out K ρ ρ1 H H1, ?_, ?_⟩
    · refine ⟨_, rfl, S, Z, dx, _, _, rfl, hme, T.cl, T.nOn, rfl, Ad.on, rows2, rfl, .of g1, _, rfl, _, rfl, by show 2 ≤ sizeLine; decide, fun U hU => ⟨by show 0 ≤ sizeLine; decide, fun l hl => ?_⟩⟩
      have sU := Same.new (o := .tup (siF.vs (ed.1, ed.2.1))) hU
      have sl := Same.new (o := .lst []) hl
      have s2 := sU.trans sl
      have Sb := Sa.same s2
      have rl := (Sa.same sU).free hl
      have nl := sU.free hl
      have hb2 := Same.tup sl (.of (K := K) (upd_same (H := _) (a := U) (o := .tup (siF.vs (ed.1, ed.2.1)))))
      have he2 := Same.tup s2 (oa.tup _ _ he)
      obtain ⟨a3, a4, a5⟩ := add_dF (el := KE' K) (tag := Role.onL) (rd := .on) (x := ed) (Q := fun H' => ∃ ρ1, SeaAt K w Z S Ad e rules words ρ1 { R with costs := co, onward := on } H' ∧ Out K ρ ρ1 H H') KE'.mv (fun _ _ q => Role.onL.inj q) (fun _ q => by cases q) Sb.ron (s2 _ _ g1) (g2.mono fun _ _ => Same.tup s2) (Paired.mapP g3 fun _ _ q => ⟨q.1, q.2.mv (fun l2 r2 => ⟨r2, fun o z => s2 _ _ z⟩) fun _ _ => KE'.mv fun _ _ => Same.tup s2⟩) e2 hb2 s2 nl upd_same rl
        fun ρ' H' kp wv rd ro dom => ⟨ρ', Sa.mv (R' := { R with costs := co, onward := on }) kp (fun a r q => (ro a r q).elim (fun z => dom _ (Sb.dom a r z)) (fun z => dom _ (by rw [z.2, upd_same]; exact fun c => by cases c))) rfl (by rintro r (rfl | rfl | rfl | rfl) (h | h) <;> cases h) (.inl ⟨rfl, by rintro (h | h) <;> cases h⟩) (.inl ⟨rfl, by rintro (h | h) <;> cases h⟩) (.inr ⟨rd, wv⟩) (.inl ⟨rfl, by rintro (h | h) <;> cases h⟩) (.inl ⟨rfl, by rintro (h | h) <;> cases h⟩) (.inl ⟨rfl, (by rintro (h | h) <;> cases h), (by rintro _ (h | h) <;> cases h)⟩) (.inl ⟨rfl, (by rintro (h | h) <;> cases h), (by rintro _ (h | h) <;> cases h)⟩), oa.trans kp.toOut⟩
      refine ⟨_, U, rfl, s2 _ _ g1, g2.mono fun _ _ => Same.tup s2, hb2, a3, fun v hv => ?_, fun hn => ?_⟩
      · obtain ⟨l0, us, rfl, hl0, lu, go⟩ := a4 v hv
        exact ⟨.inl ⟨rfl, _, .inl (.inl hl0)⟩, _, rfl, l0, us, .ref eb, rfl, rfl, hl0, lu, rfl, go _ _ (Same.refl _) ⟨eb, rfl, he2⟩⟩
      · obtain ⟨hl7, go⟩ := a5 hn
        exact ⟨.inl ⟨rfl, _, .inl (.inl hl7)⟩, _, rfl, l, [], .ref eb, rfl, rfl, hl7, by show 0 < sizeLine; decide, rfl, go _ _ (Same.refl _) ⟨eb, rfl, dF_tup (s2 _ _ g1) _ _ he2⟩⟩
    rintro σ H1 ⟨rfl, ρ1, S1, o1⟩
    clear Sa oa hme g1 g2 g3 h1 h2 h3 hS
    obtain ⟨dx, hme⟩ := S1.me
    obtain ⟨rows3, g1, g2, g3⟩ := S1.vi
    refine ⟨_, rfl, S, Z, dx, _, _, rfl, hme, T.cl, T.nVi, rfl, Ad.vi, rows3, rfl, .of g1, _, rfl, _, rfl, by show 2 ≤ sizeLine; decide, fun U hU => ⟨by show 0 ≤ sizeLine; decide, fun l hl => ?_⟩⟩
    have sU := Same.new (o := .tup (siF.vs (ed.1, ed.2.1))) hU
    have sl := Same.new (o := .lst []) hl
    have s2 := sU.trans sl
    have S2 := S1.same s2
    have rl := (S1.same sU).free hl
    have he2 := Same.tup s2 (o1.tup _ _ he)
    have hb2 := Same.tup sl (.of (K := K) (upd_same (H := _) (a := U) (o := .tup (siF.vs (ed.1, ed.2.1)))))
    refine ⟨(ed.1, ed.2.1), .of (s2 _ _ g1), g2.mono fun _ _ => Same.tup s2, ⟨U, rfl, hb2⟩, ?_⟩
    obtain ⟨L0, us, ex, hus, pus, keepL⟩ : ∃ (L0 : Addr) (us : List V), (atF (ed.1, ed.2.1) rows3).getD (.ref l) = .ref L0 ∧ (upd (upd H1 U (.tup (siF.vs (ed.1, ed.2.1)))) l (.lst [])) L0 = some (.lst us) ∧ Paired (fun u x => KP K (upd (upd H1 U (.tup (siF.vs (ed.1, ed.2.1)))) l (.lst [])) x u) us ((lookA (ed.1, ed.2.1) R.visitors).getD []) ∧
        ∀ ρ' H', Kept K waR ρ1 ρ' (upd (upd H1 U (.tup (siF.vs (ed.1, ed.2.1)))) l (.lst [])) H' → H' L0 = some (.lst us) := by
      rcases pair_look (val := LV ρ1 Role.viL (KP K H1) H1) g3 (ed.1, ed.2.1) with ⟨z1, z2⟩ | ⟨xs, v, z1, z2, l0, us, rfl, r0, hl0, hu⟩
      · have z1 : lookA (ed.1, ed.2.1) R.visitors = none := z1
        rw [z1, z2]
        exact ⟨l, [], rfl, upd_same, .nil, fun ρ' H' kp => (kp.out _ _ upd_same rl).2⟩
      · have z1 : lookA (ed.1, ed.2.1) R.visitors = some xs := z1
        rw [z1, z2]
        exact ⟨l0, us, rfl, s2 _ _ hl0, Paired.mapP hu fun _ _ => KP.mv fun _ _ => Same.tup s2, fun ρ' H' kp => (kp.at_ _ _ r0 (by rintro (h | ⟨_, h⟩) <;> cases h)).2 _ (s2 _ _ hl0)⟩
    rw [ex]
    have oU := o1.trans (Out.same s2)
    generalize (lookA (ed.1, ed.2.1) R.visitors).getD [] = xs at hR pus
    have lu := Paired.length pus
    refine ⟨L0, rfl, ⟨_, .of hus⟩, for_list (K := K) (a := L0) (xs := us) (fun i σ HX => ∃ (y6 : Option V) (ρX : Rho) (RX : SS), σ = [some (.ref S), some (.ref eb), some (natV cost), some (natV ed.1), some (optV ed.2.1), some (natV ed.2.2), y6] ∧ SeaAt K w Z S Ad e rules words ρX RX HX ∧ Kept K waR ρ1 ρX (upd (upd H1 U (.tup (siF.vs (ed.1, ed.2.1)))) l (.lst [])) HX ∧ foldO (fun pl R => addWait pl ed R) (xs.drop i) RX = some R') ⟨_, ρ1, _, rfl, S2, Kept.same (Same.refl _), hR⟩ (fun i σ HX _ q => ?_) ?_ ?_⟩
    · obtain ⟨_, _, _, _, _, kp, _⟩ := q
      exact .of (keepL _ _ kp)
    · rintro i x σ HX hx ⟨y6, ρX, RX, rfl, SX, kp, fo⟩
      obtain ⟨p, hp, b, rfl, hb⟩ := paired_at pus hx
      obtain ⟨R2, f1, f2⟩ := foldO_at hp fo
      obtain ⟨dxx, hmx⟩ := SX.me
      refine ⟨_, rfl, S, dxx, _, rfl, hmx, seF_wait, _, rfl, _, rfl, S, b, eb, Ad, e, rules, words, ρX, RX, R2, p, ed, rfl, SX, kp.tup _ _ hb, kp.tup _ _ he2, f1, fun ρ' H' S' kp' => ?_⟩
      exact ⟨_, ρ', R2, rfl, S', kp.two kp', f2⟩
    · rintro σ HX ⟨y6, ρX, RX, rfl, SX, kp, fo⟩
      rw [lu] at fo
      cases foldO_end fo
      exact k _ _ SX (oU.trans kp.toOut)
end
end SE
namespace SE
open PySem PySem.Spec PyProof.Rows L2
section
variable {P : Program} {w : World} {K : PySem.W.Frag} {mg : Str → Option Value} {base : Heap} {Z : Addr}
theorem seF_edge {A : Adr} {n : Nat} : ∀ {e : ExS}, (seF A n e).lookup ("add_edge" : Str) = none
  | .no => by rfl
  | .fin _ => by rfl
  | .full _ _ _ => by rfl
theorem seF_use {A : Adr} {n : Nat} : ∀ {e : ExS}, (seF A n e).lookup ("use_rule" : Str) = none
  | .no => by rfl
  | .fin _ => by rfl
  | .full _ _ _ => by rfl
/-! ### use_rule -/
/-- pushes[-1] if pushes else None -/
def tLastO (K : PySem.W.Frag) : TE := fun σ H Q => ∃ (b : Addr) (ws : List Str), σ[6]? = some (some (.ref b)) ∧ SqT K H b (ws.map V.str) ∧ Q (optV ws.getLast?) H
theorem last_imp {σ : L2.St} {H : Hp} {Q : VK} (h : tLastO K σ H Q) : (tIf (fun σ H Q => tVar 6 σ H fun x H' => ∃ k, TruV K x H' k ∧ Q k H') (tOp (rIxT K) (tVar 6) (tUn (rU fun i => .int (-i)) (tC (.int 1)))) (tC V.non)) σ H Q := by
  obtain ⟨b, ws, h6, hb, q⟩ := h
  refine ⟨_, h6, !ws.isEmpty, .inr (.inl ⟨_, hb, by cases ws <;> rfl⟩), ?_⟩
  cases ws with
  | nil => exact q
  | cons x xs =>
    obtain ⟨z, hz⟩ : ∃ z, (x :: xs).getLast? = some z := ⟨_, List.getLast?_eq_some_getLast (by simp)⟩
    obtain ⟨ys, hy⟩ := List.getLast?_eq_some_iff.mp hz
    rw [hz] at q
    refine ⟨_, h6, 1, rfl, b, _, -1, _, rfl, rfl, hb, ?_, q⟩
    rw [hy, List.map_append]
    exact atI_last _ _
theorem pair_rev {α β : Type} {F : α → β → Prop} : ∀ {l : List α} {k : List β} {i : Nat} {y : β}, Paired F l k → k[i]? = some y → ∃ x, l[i]? = some x ∧ F x y
  | _, _, i, _, .nil, e => by simp at e
  | _, _, 0, _, .cons a _, e => ⟨_, rfl, by cases Option.some.inj e; exact a⟩
  | _, _, i + 1, _, .cons _ t, e => pair_rev (i := i) t e
theorem optD {H : Hp} : ∀ o : Option Str, (∀ x, o = some x → Item x) → ∃ d, Dp K H (optV o) d ∧ d.canLay0 = true ∧ d.depth = 0 ∧ PyData.eqv d .none = decide (o = none)
  | none, _ => ⟨.none, .non, rfl, rfl, rfl⟩
  | some x, h => ⟨.str x, .str x, (h x rfl).nice.lay, rfl, rfl⟩
theorem edge_ne {H : Hp} {a b : Addr} {e : Edge} {Q : VK} (ok : ∀ x, e.2.1 = some x → Item x) (ha : SqT K H a (edgeF.vs e)) (hb : SqT K H b [.int 0, .non, .int 0]) (q : Q (.bl (decide (e ≠ (0, none, 0)))) H) : rNeD K (.ref a) (.ref b) H Q := by
  obtain ⟨d, h1, h2, h3, h4⟩ := optD (K := K) (H := H) e.2.1 ok
  refine ⟨.tuple [.int e.1, d, .int e.2.2], .tuple [.int 0, .none, .int 0], .tup ha (.cons (.int _) (.cons h1 (.cons (.int _) .nil))), .tup hb (.cons (.int _) (.cons .non (.cons (.int _) .nil))), ?_, rfl, ?_⟩
  · unfold SeqAt.shaped
    simp [PyData.canLay0, PyData.canLayAll0, PyData.depth, PyData.depthAll, h2, h3]
  · have : (!PyData.eqv (.tuple [.int e.1, d, .int e.2.2]) (.tuple [.int 0, .none, .int 0])) = decide (e ≠ (0, none, 0)) := by
      simp only [PyData.eqv, PyData.eqvAll, h4]
      obtain ⟨x, y, z⟩ := e
      have i0 : ∀ n : Nat, ((n : Int) == 0) = decide (n = 0) := fun n => by
        by_cases c : n = 0 <;> simp [c]
      simp [i0]
    rw [this]
    exact q
def spUs (K : PySem.W.Frag) (w : World) (Z : Addr) : Sp := fun vs H Q _ => ∃ (S : Addr) (A : Adr) (n : Nat) (ba : Addr) (bs : List Nat) (rules : List Rule) (words : List (List Str)) (ρ : Rho) (R R' : SS) (r st cost : Nat), vs = [.ref S, natV r, natV st, natV cost] ∧ SeaAt K w Z S A (.full n ba bs) rules words ρ R H ∧ (∀ ru ∈ rules, ∀ z ∈ ru.2.2, Item z) ∧ useRule ⟨rules, words, bs⟩ r st cost R = some R' ∧
  ∀ ρ' H', SeaAt K w Z S A (.full n ba bs) rules words ρ' R' H' → Out K ρ ρ' H H' → Q .non H'
abbrev nUs : List Str := ["self", "rule", "state", "cost", "name", "pops", "pushes", "edge"]
abbrev pUs : List Str := ["self", "rule", "state", "cost"]
theorem scUs : FnScope nUs pUs (defScope sSeUse) := ⟨rfl, rfl, rfl, by decide +kernel, rfl, by decide +kernel, by decide +kernel⟩
theorem ok_us {f : Addr} {fd : FuncData} (F : Fun K "use_rule" "Search.use_rule" sSeUse f fd) (T : TSea K Z) (GEg : MethHas P w K mg base Z "add_edge" 2 pEg (spEg K w Z)) : FnOk P w K mg base CX0 3 f fd pUs (spUs K w Z) := by
  refine F.ok scUs (fun vs H Q E h => ?_) (fun cdv A out s H vs Q E hr h => ?_)
  · obtain ⟨S, _, _, _, _, _, _, _, _, _, _, _, _, rfl, _⟩ := h
    rfl
  · obtain ⟨S, Ad, n, ba, bs, rules, words, ρ, R, R', r, st, cost, rfl, hS, rok, hR, k⟩ := h
    refine ⟨_, (pss_cons (ps_asg (pe_ix ix_list (pe_fld (pv 0) rfl) (pv 1) (fun _ _ => rfl)) (pg_tup (by rfl) (pgs_cons (pg_name (i := 4) scUs.nd rfl (.inl rfl)) (pgs_cons (pg_name (i := 5) scUs.nd rfl (.inl rfl)) (pgs_cons (pg_name (i := 6) scUs.nd rfl (.inl rfl)) pgs_nil)))))
      (pss_cons (ps_set (i := 7) scUs.nd rfl (.inl rfl) (pe_tup (pa_cons (pe_ix ix_list (pe_fld (pv 0) rfl) (pv 1) (fun _ _ => rfl)) (pa_cons (pe_imp (t' := tLastO K) (pe_ifExp (pt_truth (pv 6) (fun _ => rfl)) (pe_ix ix_tup (pv 6) (pe_un un_neg pe_int) (fun _ _ => rfl)) pe_non) fun _ _ _ => last_imp) (pa_cons (pv 2) pa_nil)))))
      (pss_one (ps_if (PW.pt (pw_and (pt_cmp (pc_notinF (F := edgeF) (by have := hr.un; show (A.deeper _).units + 9 < cLine; omega) (pv 7) (pe_fld (pv 0) rfl)) (by rfl)) (pw_and1 (pt_cmpR (op_neD hr.units) (pv 7) (pe_tup (pa_cons pe_int (pa_cons pe_non (pa_cons pe_int pa_nil)))) (nomark _))))) (pss_cons (ps_putF (F := edgeF) (by have := hr.un; show (A.deeper _).units + 9 < cLine; omega) (pe_fld (pv 0) rfl) (pv 7) (pv 1) rfl)
      (pss_one (ps_expr (pe_mH1 GEg (pv 0) T.cl hr (pa_cons (pv 7) (pa_cons (pv 3) pa_nil)))))) pss_nil)))), ?_⟩
    obtain ⟨dx, hme⟩ := hS.me
    unfold useRule at hR
    cases e1 : rules[r]? with
    | none => rw [e1] at hR; cases hR
    | some ru =>
    rw [e1] at hR
    cases e2 : bs[r]? with
    | none => rw [e2] at hR; cases hR
    | some b0 =>
    rw [e2] at hR
    obtain ⟨us, hru, pru⟩ := hS.ru
    obtain ⟨rba, hba⟩ := hS.ex
    obtain ⟨u, hu, tb, tp, tq, rfl, t1, t2, t3⟩ := pair_rev pru e1
    refine ⟨_, rfl, S, Z, dx, _, _, rfl, hme, T.cl, T.nRu, rfl, _, rfl, Ad.ru, us, (r : Int), _, rfl, rfl, .of hru, at_of (j := r) rfl hu, tb, _, rfl, t1, rfl, _, _, rfl, _, _, rfl, _, _, rfl, rfl, ?_⟩
    refine ⟨_, rfl, S, Z, dx, _, _, rfl, hme, T.cl, T.nBa, rfl, _, rfl, ba, _, (r : Int), natV b0, rfl, rfl, .of hba, at_of (j := r) rfl (by rw [List.getElem?_map, e2]; rfl), tq, ru.2.2, rfl, t3, _, rfl, by show 3 ≤ sizeLine; decide, fun U hU => ?_⟩
    have sU := Same.new (o := .tup (edgeF.vs (b0, ru.2.2.getLast?, st))) hU
    have S2 := hS.same sU
    have hU2 : SqT K (upd H U (.tup (edgeF.vs (b0, ru.2.2.getLast?, st)))) U (edgeF.vs (b0, ru.2.2.getLast?, st)) := .of upd_same
    have me2 := sU _ _ hme
    have oU := Out.same (K := K) (ρ := ρ) sU
    obtain ⟨rows, g1, g2, _, g3, g4⟩ := S2.co.look
    have okE : ∀ x, ((b0, ru.2.2.getLast?, st) : Edge).2.1 = some x → Item x := fun x hx => rok ru (List.mem_of_getElem? e1) x (List.mem_of_getLast? hx)
    have hR : (if (lookA ((b0, ru.2.2.getLast?, st) : Edge) R.costs).isSome = true ∨ ((b0, ru.2.2.getLast?, st) : Edge) = (0, none, 0) then some R
      else (putB ((b0, ru.2.2.getLast?, st) : Edge) r R.makers).bind fun mk => addEdge (b0, ru.2.2.getLast?, st) cost { R with makers := mk }) = some R' := hR
    refine ⟨_, rfl, _, rfl, S, Z, dx, _, _, rfl, me2, T.cl, T.nCo, rfl, Ad.co, rows, (b0, ru.2.2.getLast?, st), rfl, .of g1, g2, ⟨U, rfl, hU2⟩, ?_⟩
    by_cases c1 : (lookA ((b0, ru.2.2.getLast?, st) : Edge) R.costs).isSome = true
    · rw [if_pos (.inl c1)] at hR
      cases hR
      have a1 : (atF ((b0, ru.2.2.getLast?, st) : Edge) rows).isSome = true := by
        obtain ⟨x, hx⟩ := Option.isSome_iff_exists.mp c1
        obtain ⟨v, hv, _⟩ := g3 _ _ hx
        rw [hv]
        rfl
      rw [a1]
      exact ⟨_, rfl, iteF (iteF (k _ _ S2 oU))⟩
    have c1' : lookA ((b0, ru.2.2.getLast?, st) : Edge) R.costs = none := by
      cases q : lookA ((b0, ru.2.2.getLast?, st) : Edge) R.costs with
      | none => rfl
      | some _ => rw [q] at c1; exact absurd rfl c1
    rw [g4 _ c1']
    refine ⟨_, rfl, iteT ⟨_, rfl, by show 3 ≤ sizeLine; decide, fun W hW => ?_⟩⟩
    have sW := Same.new (o := .tup [.int 0, .non, .int 0]) hW
    refine edge_ne okE (Same.tup sW hU2) (.of upd_same) ⟨_, rfl, ?_⟩
    have S3 := S2.same sW
    have o3 := oU.trans (Out.same sW)
    by_cases c2 : ((b0, ru.2.2.getLast?, st) : Edge) = (0, none, 0)
    · rw [if_pos (.inr c2)] at hR
      cases hR
      rw [decide_eq_false (fun z => z c2)]
      exact iteF (k _ _ S3 o3)
    rw [if_neg (fun z => z.elim c1 c2)] at hR
    rw [decide_eq_true c2]
    refine iteT ?_
    cases e3 : putB ((b0, ru.2.2.getLast?, st) : Edge) r R.makers with
    | none => rw [e3] at hR; cases hR
    | some mk =>
    rw [e3] at hR
    have hR : addEdge ((b0, ru.2.2.getLast?, st) : Edge) cost { R with makers := mk } = some R' := hR
    obtain ⟨rows2, h1, h2, h3, put⟩ := S3.ma.put (v := natV r) e3 (Same.tup sW hU2)
    refine ⟨_, rfl, _, rfl, S, Z, dx, _, _, rfl, sW _ _ me2, T.cl, T.nMa, rfl, _, rfl, Ad.ma, rows2, ((b0, ru.2.2.getLast?, st) : Edge), U, rfl, rfl, h1, h2, Same.tup sW hU2, h3, ?_⟩
    have ka := Kept.dict (K := K) (o := dF edgeF w Ad.ma (putF ((b0, ru.2.2.getLast?, st) : Edge) U (natV r) rows2)) S3.rma (dF_tup h1)
    have S4 := S3.mv (R' := { R with makers := mk }) ka (fun a r q => domU (S3.dom a r q)) rfl (by rintro r (rfl | rfl | rfl | rfl) h <;> cases h) (.inl ⟨rfl, fun h => nomatch h⟩) (.inr ⟨S3.rma, put _ rfl fun _ _ _ z => z⟩) (.inl ⟨rfl, (fun h => nomatch h), (fun _ h => nomatch h)⟩) (.inl ⟨rfl, fun h => nomatch h⟩) (.inl ⟨rfl, fun h => nomatch h⟩) (.inl ⟨rfl, (fun h => nomatch h), (fun _ h => nomatch h)⟩) (.inl ⟨rfl, (fun h => nomatch h), (fun _ h => nomatch h)⟩)
    obtain ⟨dx4, me4⟩ := S4.me
    exact ⟨_, rfl, S, dx4, _, rfl, me4, seF_edge, _, rfl, _, rfl, S, U, Ad, _, rules, words, ρ, _, R', ((b0, ru.2.2.getLast?, st) : Edge), cost, rfl, S4, dF_tup h1 _ _ (Same.tup sW hU2), hR, fun ρ' H' S' o' => k _ _ S' (o3.trans (ka.toOut.trans o'))⟩
/-! ### go_on -/
theorem cut_one {α : Type} (f : α → V) (xs : List α) (i : Nat) : cutV (xs.map f) (some (i : Int)) (some ((i : Int) + 1)) = (xs[i]?).toList.map f := by
  unfold cutV
  rw [List.length_map, HT.sIx_nat, show ((i : Int) + 1) = ((i + 1 : Nat) : Int) by omega, HT.sIx_nat, ← List.map_drop, ← List.map_take]
  by_cases l : i < xs.length
  · rw [Nat.min_eq_left (by omega), Nat.min_eq_left (by omega), show i + 1 - i = 1 by omega, List.drop_eq_getElem_cons l, List.getElem?_eq_getElem l]
    rfl
  · rw [Nat.min_eq_right (by omega : xs.length ≤ i), List.drop_length, List.getElem?_eq_none (by omega), List.take_nil]
    rfl
def spGo (K : PySem.W.Frag) (w : World) (Z : Addr) : Sp := fun vs H Q _ => ∃ (S pb : Addr) (A : Adr) (n : Nat) (ba : Addr) (bs : List Nat) (rules : List Rule) (words : List (List Str)) (ρ : Rho) (R R' : SS) (pl : Place), vs = [.ref S, .ref pb] ∧ SeaAt K w Z S A (.full n ba bs) rules words ρ R H ∧ SqT K H pb (placeF.vs pl) ∧ (∀ ru ∈ rules, ∀ z ∈ ru.2.2, Item z) ∧ goOn ⟨rules, words, bs⟩ pl R = some R' ∧
  ∀ ρ' H', SeaAt K w Z S A (.full n ba bs) rules words ρ' R' H' → Out K ρ ρ' H H' → Q .non H'
abbrev nGo : List Str := ["self", "place", "word", "read", "state", "item", "edge"]
abbrev pGo : List Str := ["self", "place"]
theorem scGo : FnScope nGo pGo (defScope sSeGo) := ⟨rfl, rfl, rfl, by decide +kernel, rfl, by decide +kernel, by decide +kernel⟩
theorem ok_go {f : Addr} {fd : FuncData} (F : Fun K "go_on" "Search.go_on" sSeGo f fd) (T : TSea K Z) (GWt : MethHas P w K mg base Z "add_waiting" 1 pWt (spWt K w Z)) (GUs : MethHas P w K mg base Z "use_rule" 3 pUs (spUs K w Z)) (B : Blt mg) : FnOk P w K mg base CX0 4 f fd pGo (spGo K w Z) := by
  refine F.ok scGo (fun vs H Q E h => ?_) (fun cdv A out s H vs Q E hr h => ?_)
  · obtain ⟨S, _, _, _, _, _, _, _, _, _, _, _, rfl, _⟩ := h
    rfl
  · obtain ⟨S, pb, Ad, n, ba, bs, rules, words, ρ, R, R', pl, rfl, hS, hp, rok, hR, k⟩ := h
    have hr1 : Room 1 _ := hr.mono (by decide)
    have hr3 : Room 3 _ := hr.mono (by decide)
    refine ⟨_, (pss_cons (ps_asg (pv 1) (pg_tup (by rfl) (pgs_cons (pg_name (i := 2) scGo.nd rfl (.inl rfl)) (pgs_cons (pg_name (i := 3) scGo.nd rfl (.inl rfl)) (pgs_cons (pg_name (i := 4) scGo.nd rfl (.inl rfl)) pgs_nil)))))
      (Evl.pss_cut (ps_for PassesOwn.never rfl (pi_tup (pe_op op_catS (pe_tup (pa_cons pe_non pa_nil)) (pe_slice sl_tupS (pe_ix ix_list (pe_fld (pv 0) rfl) (pv 2) (fun _ _ => rfl)) (po_some (pv 3)) (po_some (pe_op op_add (pv 3) pe_int))))) (pg_name (i := 5) scGo.nd rfl (.inl rfl)) (Evl.pss_cut (ps_expr (pe_bm PySem.F.plainAttrs_list PySem.F.slot_list_append PySem.F.type_list_append mt_append (pe_setDF (F := siF) (by have := hr.un; show (A.deeper _).units + 9 < cLine; omega) (pe_fld (pv 0) rfl) (pe_tup (pa_cons (pv 4) (pa_cons (pv 5) pa_nil))) (pe_lst pa_nil) ⟨rfl, rfl, rfl, rfl⟩) (pa_cons (pv 1) pa_nil)))
      (pss_one (ps_for PassesOwn.never rfl (pi_list (pe_get2F (F := siF) (by have := hr.un; show (A.deeper _).units + 9 < cLine; omega) (pe_fld (pv 0) rfl) (pe_tup (pa_cons (pv 4) (pa_cons (pv 5) pa_nil))) (pe_lst pa_nil) ⟨rfl, rfl, rfl, rfl⟩)) (pg_name (i := 6) scGo.nd rfl (.inl rfl)) (pss_one (ps_expr (pe_mH1 GWt (pv 0) T.cl hr1 (pa_cons (pv 1) (pa_cons (pv 6) pa_nil)))))))))
      (pss_one (ps_if (PW.pt (pw_and (pt_cmpR op_lt (pv 2) (pe_callB call_len_seq (by rfl) B.len PySem.boot_len (pa_cons (pe_fld (pv 0) rfl) pa_nil)) (nomark _)) (pw_and1 (pt_cmpR op_eq (pv 3) (pe_callB call_len_seq (by rfl) B.len PySem.boot_len (pa_cons (pe_ix ix_list (pe_fld (pv 0) rfl) (pv 2) (fun _ _ => rfl)) pa_nil)) (nomark _))))) (pss_one (ps_expr (pe_mH1 GUs (pv 0) T.cl hr3 (pa_cons (pv 2) (pa_cons (pv 4) (pa_cons (pe_op op_add (pe_getF (F := placeF) (by have := hr.un; show (A.deeper _).units + 9 < cLine; omega) (pe_fld (pv 0) rfl) (pv 1) (fun _ _ => rfl)) pe_int) pa_nil)))))) pss_nil)))), ?_⟩
    obtain ⟨dx, hme⟩ := hS.me
    unfold goOn at hR
    cases e1 : words[pl.1]? with
    | none => rw [e1] at hR; cases hR
    | some ws =>
    rw [e1] at hR
    cases e2 : foldO (goOn1 pl) (none :: (ws[pl.2.1]?).toList.map some) R with
    | none =>
      have hR : (foldO (goOn1 pl) (none :: (ws[pl.2.1]?).toList.map some) R).bind _ = some R' := hR
      rw [e2] at hR
      cases hR
    | some R1 =>
    have hR : (foldO (goOn1 pl) (none :: (ws[pl.2.1]?).toList.map some) R).bind (fun R => if pl.1 < rules.length ∧ pl.2.1 = ws.length then (lookA pl R.settled).bind fun a => useRule ⟨rules, words, bs⟩ pl.1 pl.2.2 (a + 1) R else some R) = some R' := hR
    rw [e2] at hR
    have hR : (if pl.1 < rules.length ∧ pl.2.1 = ws.length then (lookA pl R1.settled).bind fun a => useRule ⟨rules, words, bs⟩ pl.1 pl.2.2 (a + 1) R1 else some R1) = some R' := hR
    refine ⟨_, rfl, pb, _, rfl, hp, rfl, _, _, rfl, _, _, rfl, _, _, rfl, rfl, ?_⟩
    refine ⟨fun σ H1 => (∃ y5 y6 : Option V, σ = [some (.ref S), some (.ref pb), some (natV pl.1), some (natV pl.2.1), some (natV pl.2.2), y5, y6]) ∧ ∃ ρ1, SeaAt K w Z S Ad (.full n ba bs) rules words ρ1 R1 H1 ∧ Out K ρ ρ1 H H1, ?_, ?_⟩
    · obtain ⟨us, hwo, pwo⟩ := hS.wo
      obtain ⟨u, hu, tb, rfl, t1⟩ := pair_rev pwo e1
      refine ⟨by show 1 ≤ sizeLine; decide, fun N hN => ?_⟩
      have sN := Same.new (o := .tup [V.non]) hN
      have hN1 : SqT K (upd H N (.tup [.non])) N [.non] := .of upd_same
      refine ⟨_, rfl, S, Z, dx, _, _, rfl, sN _ _ hme, T.cl, T.nWo, rfl, _, rfl, Ad.wo, us, (pl.1 : Int), _, rfl, rfl, .of (sN _ _ hwo), at_of (j := pl.1) rfl hu, _, rfl, (pl.2.1 : Int), rfl, _, rfl, _, 1, rfl, rfl, _, rfl, tb, _, rfl, Same.tup sN t1, fun c1 H1 s1 hc1 => ?_⟩
      have hc1 : SqT K H1 c1 ((ws[pl.2.1]?).toList.map V.str) := by
        rw [← cut_one]
        exact hc1
      have lc : ((ws[pl.2.1]?).toList.map V.str).length ≤ 1 := by
        cases ws[pl.2.1]? <;> simp
      refine ⟨N, c1, _, _, rfl, rfl, Same.tup s1 hN1, hc1, (by show 1 + _ ≤ sizeLine; rw [sizeLine_eq]; omega), fun c2 H2 s2 hc2 => ?_⟩
      have ei : [V.non] ++ (ws[pl.2.1]?).toList.map V.str = (none :: (ws[pl.2.1]?).toList.map some).map optV := by
        rw [List.map_cons, List.map_map]
        rfl
      rw [ei] at hc2
      have s02 := (sN.trans s1).trans s2
      have S2 := hS.same s02
      have o2 := Out.same (K := K) (ρ := ρ) s02
      generalize (none :: (ws[pl.2.1]?).toList.map some : List (Option Str)) = its at e2 hc2
      refine ⟨c2, rfl, ⟨_, hc2⟩, for_tup (K := K) (a := c2) (xs := its.map optV) (fun i σ HX => ∃ (y5 y6 : Option V) (ρX : Rho) (RX : SS), σ = [some (.ref S), some (.ref pb), some (natV pl.1), some (natV pl.2.1), some (natV pl.2.2), y5, y6] ∧ SeaAt K w Z S Ad (.full n ba bs) rules words ρX RX HX ∧ Out K ρ ρX H2 HX ∧ foldO (goOn1 pl) (its.drop i) RX = some R1) ⟨_, _, ρ, R, rfl, S2, Out.refl, e2⟩ (fun i σ HX _ q => ?_) ?_ ?_⟩
      · obtain ⟨_, _, _, _, _, _, oX, _⟩ := q
        exact oX.tup _ _ hc2
      rotate_left
      · rintro σ HX ⟨y5, y6, ρX, RX, rfl, SX, oX, fo⟩
        rw [List.length_map] at fo
        cases foldO_end fo
        exact ⟨⟨_, _, rfl⟩, _, SX, o2.trans oX⟩
      rintro i x σ HX hx ⟨y5, y6, ρX, RX, rfl, SX, oX, fo⟩
      rw [List.getElem?_map] at hx
      obtain ⟨it, hit, rfl⟩ := Option.map_eq_some_iff.mp hx
      obtain ⟨R2, f1, f2⟩ := foldO_at hit fo
      unfold goOn1 at f1
      cases e3 : addB (pl.2.2, it) pl RX.visitors with
      | none => rw [e3] at f1; cases f1
      | some vi =>
      rw [e3] at f1
      have f1 : foldO (fun e R => addWait pl e R) ((lookA (pl.2.2, it) RX.onward).getD []) { RX with visitors := vi } = some R2 := f1
      have hpX := oX.tup _ _ (o2.tup _ _ hp)
      refine ⟨fun σ H3 => σ = [some (.ref S), some (.ref pb), some (natV pl.1), some (natV pl.2.1), some (natV pl.2.2), some (optV it), y6] ∧ ∃ ρ3, SeaAt K w Z S Ad (.full n ba bs) rules words ρ3 { RX with visitors := vi } H3 ∧ Out K ρX ρ3 HX H3, ?_, ?_⟩
      · obtain ⟨dx, hme⟩ := SX.me
        obtain ⟨rows2, g1, g2, g3⟩ := SX.vi
        refine ⟨_, rfl, S, Z, dx, _, _, rfl, hme, T.cl, T.nVi, rfl, Ad.vi, rows2, rfl, .of g1, _, rfl, _, rfl, by show 2 ≤ sizeLine; decide, fun U hU => ⟨by show 0 ≤ sizeLine; decide, fun l hl => ?_⟩⟩
        have sU := Same.new (o := .tup (siF.vs (pl.2.2, it))) hU
        have sl := Same.new (o := .lst []) hl
        have s2 := sU.trans sl
        have Sb := SX.same s2
        have rl := (SX.same sU).free hl
        have nl := sU.free hl
        have hb2 := Same.tup sl (.of (K := K) (upd_same (H := _) (a := U) (o := .tup (siF.vs (pl.2.2, it)))))
        have he2 := Same.tup s2 hpX
        obtain ⟨a3, a4, a5⟩ := add_dF (el := KP K) (tag := Role.viL) (rd := .vi) (x := pl) (Q := fun H' => ∃ ρ1, SeaAt K w Z S Ad (.full n ba bs) rules words ρ1 { RX with visitors := vi } H' ∧ Out K ρX ρ1 HX H') KP.mv (fun _ _ q => Role.viL.inj q) (fun _ q => by cases q) Sb.rvi (s2 _ _ g1) (g2.mono fun _ _ => Same.tup s2) (Paired.mapP g3 fun _ _ q => ⟨q.1, q.2.mv (fun l2 r2 => ⟨r2, fun o z => s2 _ _ z⟩) fun _ _ => KP.mv fun _ _ => Same.tup s2⟩) e3 hb2 s2 nl upd_same rl
          fun ρ' H' kp wv rd ro dom => ⟨ρ', SX.mv (R' := { RX with visitors := vi }) kp (fun a r q => (ro a r q).elim (fun z => dom _ (Sb.dom a r z)) (fun z => dom _ (by rw [z.2, upd_same]; exact fun c => by cases c))) rfl (by rintro r (rfl | rfl | rfl | rfl) (h | h) <;> cases h) (.inl ⟨rfl, by rintro (h | h) <;> cases h⟩) (.inl ⟨rfl, by rintro (h | h) <;> cases h⟩) (.inl ⟨rfl, (by rintro (h | h) <;> cases h), (by rintro _ (h | h) <;> cases h)⟩) (.inl ⟨rfl, by rintro (h | h) <;> cases h⟩) (.inl ⟨rfl, by rintro (h | h) <;> cases h⟩) (.inr ⟨rd, wv⟩) (.inl ⟨rfl, (by rintro (h | h) <;> cases h), (by rintro _ (h | h) <;> cases h)⟩), kp.toOut⟩
        refine ⟨_, U, rfl, s2 _ _ g1, g2.mono fun _ _ => Same.tup s2, hb2, a3, fun v hv => ?_, fun hn => ?_⟩
        · obtain ⟨l0, us, rfl, hl0, lu, go⟩ := a4 v hv
          exact ⟨.inl ⟨rfl, _, .inl (.inl hl0)⟩, _, rfl, l0, us, .ref pb, rfl, rfl, hl0, lu, rfl, go _ _ (Same.refl _) ⟨pb, rfl, he2⟩⟩
        · obtain ⟨hl7, go⟩ := a5 hn
          exact ⟨.inl ⟨rfl, _, .inl (.inl hl7)⟩, _, rfl, l, [], .ref pb, rfl, rfl, hl7, by show 0 < sizeLine; decide, rfl, go _ _ (Same.refl _) ⟨pb, rfl, dF_tup (s2 _ _ g1) _ _ he2⟩⟩
      rintro σ H3 ⟨rfl, ρ3, S3, o3⟩
      obtain ⟨dx, hme⟩ := S3.me
      obtain ⟨rows3, g1, g2, g3⟩ := S3.on
      refine ⟨_, rfl, S, Z, dx, _, _, rfl, hme, T.cl, T.nOn, rfl, Ad.on, rows3, rfl, .of g1, _, rfl, _, rfl, by show 2 ≤ sizeLine; decide, fun U hU => ⟨by show 0 ≤ sizeLine; decide, fun l hl => ?_⟩⟩
      have sU := Same.new (o := .tup (siF.vs (pl.2.2, it))) hU
      have sl := Same.new (o := .lst []) hl
      have s4 := sU.trans sl
      have S4 := S3.same s4
      have rl := (S3.same sU).free hl
      have he2 := Same.tup s4 (o3.tup _ _ hpX)
      have hb2 := Same.tup sl (.of (K := K) (upd_same (H := _) (a := U) (o := .tup (siF.vs (pl.2.2, it)))))
      refine ⟨(pl.2.2, it), .of (s4 _ _ g1), g2.mono fun _ _ => Same.tup s4, ⟨U, rfl, hb2⟩, ?_⟩
      obtain ⟨L0, us4, ex, hus, pus, keepL⟩ : ∃ (L0 : Addr) (us : List V), (atF (pl.2.2, it) rows3).getD (.ref l) = .ref L0 ∧ (upd (upd H3 U (.tup (siF.vs (pl.2.2, it)))) l (.lst [])) L0 = some (.lst us) ∧ Paired (fun u x => KE' K (upd (upd H3 U (.tup (siF.vs (pl.2.2, it)))) l (.lst [])) x u) us ((lookA (pl.2.2, it) RX.onward).getD []) ∧
          ∀ ρ' H', Kept K waR ρ3 ρ' (upd (upd H3 U (.tup (siF.vs (pl.2.2, it)))) l (.lst [])) H' → H' L0 = some (.lst us) := by
        rcases pair_look (val := LV ρ3 Role.onL (KE' K H3) H3) g3 (pl.2.2, it) with ⟨z1, z2⟩ | ⟨xs, v, z1, z2, l0, us, rfl, r0, hl0, hu⟩
        · have z1 : lookA (pl.2.2, it) RX.onward = none := z1
          rw [z1, z2]
          exact ⟨l, [], rfl, upd_same, .nil, fun ρ' H' kp => (kp.out _ _ upd_same rl).2⟩
        · have z1 : lookA (pl.2.2, it) RX.onward = some xs := z1
          rw [z1, z2]
          exact ⟨l0, us, rfl, s4 _ _ hl0, Paired.mapP hu fun _ _ => KE'.mv fun _ _ => Same.tup s4, fun ρ' H' kp => (kp.at_ _ _ r0 (by rintro (h | ⟨_, h⟩) <;> cases h)).2 _ (s4 _ _ hl0)⟩
      rw [ex]
      generalize (lookA (pl.2.2, it) RX.onward).getD [] = xs at f1 pus
      have lu := Paired.length pus
      have o4 := oX.trans (o3.trans (Out.same s4))
      refine ⟨L0, rfl, ⟨_, .of hus⟩, for_list (K := K) (a := L0) (xs := us4) (fun j σ HY => ∃ (y6 : Option V) (ρY : Rho) (RY : SS), σ = [some (.ref S), some (.ref pb), some (natV pl.1), some (natV pl.2.1), some (natV pl.2.2), some (optV it), y6] ∧ SeaAt K w Z S Ad (.full n ba bs) rules words ρY RY HY ∧ Kept K waR ρ3 ρY (upd (upd H3 U (.tup (siF.vs (pl.2.2, it)))) l (.lst [])) HY ∧ foldO (fun e R => addWait pl e R) (xs.drop j) RY = some R2) ⟨_, ρ3, _, rfl, S4, Kept.same (Same.refl _), f1⟩ (fun j σ HY _ q => ?_) ?_ ?_⟩
      · obtain ⟨_, _, _, _, _, kp, _⟩ := q
        exact .of (keepL _ _ kp)
      · rintro j x σ HY hx ⟨y6, ρY, RY, rfl, SY, kp, fo2⟩
        obtain ⟨ed, hp2, b, rfl, hb⟩ := paired_at pus hx
        obtain ⟨R3, h1, h2⟩ := foldO_at hp2 fo2
        obtain ⟨dxx, hmx⟩ := SY.me
        refine ⟨_, rfl, S, dxx, _, rfl, hmx, seF_wait, _, rfl, _, rfl, S, pb, b, Ad, _, rules, words, ρY, RY, R3, pl, ed, rfl, SY, kp.tup _ _ he2, kp.tup _ _ hb, h1, fun ρ' H' S' kp' => ?_⟩
        exact ⟨_, ρ', R3, rfl, S', kp.two kp', h2⟩
      · rintro σ HY ⟨y6, ρY, RY, rfl, SY, kp, fo2⟩
        rw [lu] at fo2
        cases foldO_end fo2
        exact ⟨_, _, _, _, rfl, SY, o4.trans kp.toOut, f2⟩
    rintro σ H1 ⟨⟨y5, y6, rfl⟩, ρ1, S1, o1⟩
    obtain ⟨dx1, me1⟩ := S1.me
    obtain ⟨us, hru, pru⟩ := S1.ru
    obtain ⟨uw, hwo, pwo⟩ := S1.wo
    obtain ⟨u, hu, tb, rfl, t1⟩ := pair_rev pwo e1
    have lr : us.length = rules.length := Paired.length pru
    refine ⟨_, rfl, _, rfl, S, Z, dx1, _, _, rfl, me1, T.cl, T.nRu, rfl, Ad.ru, us, rfl, .inl (.of hru), _, _, rfl, rfl, _, rfl, ?_⟩
    by_cases c1 : pl.1 < rules.length
    rotate_left
    · rw [if_neg (fun z => c1 z.1)] at hR
      cases hR
      rw [show decide ((pl.1 : Int) < (us.length : Int)) = false from decide_eq_false (by omega)]
      exact iteF (iteF (k _ _ S1 o1))
    rw [show decide ((pl.1 : Int) < (us.length : Int)) = true from decide_eq_true (by omega)]
    refine iteT ⟨_, rfl, _, rfl, S, Z, dx1, _, _, rfl, me1, T.cl, T.nWo, rfl, _, rfl, Ad.wo, uw, (pl.1 : Int), _, rfl, rfl, .of hwo, at_of (j := pl.1) rfl hu, tb, _, rfl, .inr t1, ?_⟩
    refine ⟨rfl, _, rfl, ?_⟩
    have ew : decide (natV pl.2.1 = V.int ((ws.map V.str).length : Int)) = decide (pl.2.1 = ws.length) := by
      rw [List.length_map]
      exact decide_eq_decide.mpr ⟨fun z => Int.ofNat.inj (V.int.inj z), fun z => by rw [z]⟩
    rw [ew]
    by_cases c2 : pl.2.1 = ws.length
    rotate_left
    · rw [if_neg (fun z => c2 z.2)] at hR
      cases hR
      rw [decide_eq_false c2]
      exact iteF (k _ _ S1 o1)
    rw [if_pos ⟨c1, c2⟩] at hR
    rw [decide_eq_true c2]
    cases e4 : lookA pl R1.settled with
    | none => rw [e4] at hR; cases hR
    | some a =>
    rw [e4] at hR
    obtain ⟨rows, g1, g2, _, g3, _⟩ := S1.se.look
    obtain ⟨_, z2, rfl⟩ := g3 _ _ e4
    refine iteT ⟨_, rfl, S, dx1, _, rfl, me1, seF_use, _, rfl, _, rfl, _, rfl, S, Z, dx1, _, _, rfl, me1, T.cl, T.nSe, rfl, _, rfl, Ad.se, rows, pl, _, rfl, .of g1, g2, ⟨pb, rfl, o1.tup _ _ hp⟩, z2, _, 1, rfl, rfl, ?_⟩
    exact ⟨S, Ad, n, ba, bs, rules, words, ρ1, R1, R', pl.1, pl.2.2, a + 1, rfl, S1, rok, hR, fun ρ' H' S' o' => k _ _ S' (o1.trans o')⟩
end
end SE
namespace SE
open PySem PySem.Spec PyProof.Rows L2
section
variable {P : Program} {w : World} {K : PySem.W.Frag} {mg : Str → Option Value} {base : Heap} {Z : Addr}
theorem seF_go {A : Adr} {n : Nat} : ∀ {e : ExS}, (seF A n e).lookup ("go_on" : Str) = none
  | .no => by rfl
  | .fin _ => by rfl
  | .full _ _ _ => by rfl
theorem settle_nil {c : SC0} {n : Nat} {R R' : SS} (h : R.waiting = []) (q : settleN c n R = some R') : R = R' := by
  unfold settleN at q
  rw [h] at q
  exact Option.some.inj q
theorem settle_cons {c : SC0} {n : Nat} {R R' : SS} (h : R.waiting ≠ []) (q : settleN c n R = some R') : ∃ m due R1, n = m + 1 ∧ lookA (minK R.waiting) R.waiting = some due ∧ foldO (settle1 c (minK R.waiting)) due { R with waiting := dropA (minK R.waiting) R.waiting } = some R1 ∧ settleN c m R1 = some R' := by
  unfold settleN at q
  cases e : R.waiting with
  | nil => exact absurd e h
  | cons a t =>
    rw [e] at q
    cases n with
    | zero => cases q
    | succ m =>
      dsimp only at q
      rw [← e] at q ⊢
      cases e1 : lookA (minK R.waiting) R.waiting with
      | none => rw [e1] at q; cases q
      | some due =>
        rw [e1] at q
        cases e2 : foldO (settle1 c (minK R.waiting)) due { R with waiting := dropA (minK R.waiting) R.waiting } with
        | none =>
          have q : (foldO (settle1 c (minK R.waiting)) due { R with waiting := dropA (minK R.waiting) R.waiting }).bind _ = some R' := q
          rw [e2] at q
          cases q
        | some R1 =>
          have q : (foldO (settle1 c (minK R.waiting)) due { R with waiting := dropA (minK R.waiting) R.waiting }).bind (settleN c m) = some R' := q
          rw [e2] at q
          exact ⟨m, due, R1, rfl, rfl, e2, q⟩
/-! ### settle_all -/
def spAl (K : PySem.W.Frag) (w : World) (Z : Addr) : Sp := fun vs H Q _ => ∃ (S : Addr) (A : Adr) (n : Nat) (ba : Addr) (bs : List Nat) (rules : List Rule) (words : List (List Str)) (ρ : Rho) (R R' : SS) (fu : Nat), vs = [.ref S] ∧ SeaAt K w Z S A (.full n ba bs) rules words ρ R H ∧ (∀ ru ∈ rules, ∀ z ∈ ru.2.2, Item z) ∧ settleN ⟨rules, words, bs⟩ fu R = some R' ∧
  ∀ ρ' H', SeaAt K w Z S A (.full n ba bs) rules words ρ' R' H' → Out K ρ ρ' H H' → Q .non H'
abbrev nAl : List Str := ["self", "cost", "due", "place", "before", "edge"]
theorem scAl : FnScope nAl ["self"] (defScope sSeAll) := ⟨rfl, rfl, rfl, by decide +kernel, rfl, by decide +kernel, by decide +kernel⟩
theorem ok_al {f : Addr} {fd : FuncData} (F : Fun K "settle_all" "Search.settle_all" sSeAll f fd) (T : TSea K Z) (GGo : MethHas P w K mg base Z "go_on" 4 pGo (spGo K w Z)) (mn : mg "min" = none) (ml : mg "list" = none) : FnOk P w K mg base CX0 5 f fd ["self"] (spAl K w Z) := by
  refine F.ok scAl (fun vs H Q E h => ?_) (fun cdv A out s H vs Q E hr h => ?_)
  · obtain ⟨S, _, _, _, _, _, _, _, _, _, _, rfl, _⟩ := h
    rfl
  · obtain ⟨S, Ad, n, ba, bs, rules, words, ρ, R, R', fu, rfl, hS, rok, hR, k⟩ := h
    refine ⟨_, (pss_one (ps_while PassesOwn.never (pt_truth (pe_fld (pv 0) rfl) (fun _ => rfl)) (pss_cons (ps_set (i := 1) scAl.nd rfl (.inl rfl) (pe_callB (call_minI rfl) (by rfl) mn (by decide +kernel) (pa_cons (pe_listK rfl (by rfl) ml (by decide +kernel) (pe_fld (pv 0) rfl)) pa_nil)))
      (pss_cons (ps_set (i := 2) scAl.nd rfl (.inl rfl) (pe_dpop1 (pe_fld (pv 0) rfl) (pv 1) ⟨rfl, rfl, rfl, rfl⟩))
      (pss_one (ps_for PassesOwn.never rfl (pi_list (pv 2)) (pg_tup (by rfl) (pgs_cons (pg_name (i := 3) scAl.nd rfl (.inl rfl)) (pgs_cons (pg_name (i := 4) scAl.nd rfl (.inl rfl)) (pgs_cons (pg_name (i := 5) scAl.nd rfl (.inl rfl)) pgs_nil)))) (pss_one (ps_if (pt_cmp (pc_notinF (F := placeF) (by have := hr.un; show (A.deeper _).units + 9 < cLine; omega) (pv 3) (pe_fld (pv 0) rfl)) (by rfl)) (pss_cons (ps_putF (F := placeF) (by have := hr.un; show (A.deeper _).units + 9 < cLine; omega) (pe_fld (pv 0) rfl) (pv 3) (pv 1) rfl)
      (pss_cons (ps_putF (F := placeF) (by have := hr.un; show (A.deeper _).units + 9 < cLine; omega) (pe_fld (pv 0) rfl) (pv 3) (pe_tup (pa_cons (pv 4) (pa_cons (pv 5) pa_nil))) rfl)
      (pss_one (ps_expr (pe_mH1 GGo (pv 0) T.cl hr (pa_cons (pv 3) pa_nil)))))) pss_nil)))))))), ?_⟩
    refine ⟨fun m σ HX => ∃ (y1 y2 y3 y4 y5 : Option V) (ρX : Rho) (RX : SS), σ = [some (.ref S), y1, y2, y3, y4, y5] ∧ SeaAt K w Z S Ad (.full n ba bs) rules words ρX RX HX ∧ Out K ρ ρX H HX ∧ settleN ⟨rules, words, bs⟩ m RX = some R', ⟨fu, _, _, _, _, _, ρ, R, rfl, hS, Out.refl, hR⟩, ?_⟩
    rintro m σ HX ⟨y1, y2, y3, y4, y5, ρX, RX, rfl, SX, oX, hX⟩
    obtain ⟨dx, hme⟩ := SX.me
    obtain ⟨kvs, w1, w2, w3⟩ := SX.wa
    refine ⟨_, rfl, S, Z, dx, _, _, rfl, hme, T.cl, T.nWa, rfl, !kvs.isEmpty, .inr (.inr ⟨kvs, w1, rfl⟩), ?_⟩
    by_cases c : RX.waiting = []
    · have ek : kvs = [] := by
        rw [c] at w2
        cases w2
        rfl
      rw [ek]
      cases settle_nil c hX
      exact iteF (k _ _ SX oX)
    obtain ⟨m', due, R1, rfl, e1, e2, e3⟩ := settle_cons c hX
    have ek : kvs ≠ [] := fun z => c (by rw [z] at w2; cases hw : RX.waiting with | nil => rfl | cons a t => rw [hw] at w2; cases w2)
    have eb : (!kvs.isEmpty) = true := by
      cases kvs with
      | nil => exact absurd rfl ek
      | cons _ _ => rfl
    rw [eb]
    refine iteT ⟨fun σ HY => ∃ (y1 y2 y3 y4 y5 : Option V) (ρX : Rho) (RX : SS), σ = [some (.ref S), y1, y2, y3, y4, y5] ∧ SeaAt K w Z S Ad (.full n ba bs) rules words ρX RX HY ∧ Out K ρ ρX H HY ∧ settleN ⟨rules, words, bs⟩ m' RX = some R', fun σ' H' q => ⟨m', Nat.lt_succ_self _, q⟩, ?_⟩
    refine ⟨_, rfl, S, Z, dx, _, _, rfl, hme, T.cl, T.nWa, rfl, Ad.wa, kvs, _, rfl, .of w1, wp_keys w2, fun lk hlk => ?_⟩
    obtain ⟨k1, k2⟩ := minK_least c
    have sk := Same.new (o := .lst ((RX.waiting.map fun p => (p.1 : Int)).map V.int)) hlk
    refine ⟨lk, _, rfl, .of upd_same, (by rw [List.length_map]; cases hw : RX.waiting with | nil => exact absurd hw c | cons _ _ => simp), fun mm hm hle => ?_⟩
    obtain ⟨x, hx, rfl⟩ := List.mem_map.mp hm
    have le1 := k2 x.1 (List.mem_map.mpr ⟨x, hx, rfl⟩)
    obtain ⟨q, hq, eq⟩ := List.mem_map.mp k1
    have le2 := hle _ (List.mem_map.mpr ⟨q, hq, rfl⟩)
    rw [eq] at le2
    have ex : x.1 = minK RX.waiting := by omega
    rw [ex]
    clear hx hm hle le1 le2 hq eq ex k1 k2
    generalize minK RX.waiting = c0 at e1 e2
    have SK := SX.same sk
    have w1' := sk _ _ w1
    have w2' : WPair K ρX (upd HX lk (.lst ((RX.waiting.map fun p => (p.1 : Int)).map V.int))) kvs RX.waiting := wp_mv w2 (fun _ _ => Same.tup sk) fun _ _ _ r => ⟨r, fun o z => sk _ _ z⟩
    rcases wp_look w2' c0 with ⟨z, _⟩ | ⟨xs, v, z1, z2, l0, us, rfl, r0, hl0, hu⟩
    · rw [e1] at z
      cases z
    rw [e1] at z1
    cases z1
    refine ⟨_, rfl, S, Z, dx, _, _, rfl, sk _ _ hme, T.cl, T.nWa, rfl, Ad.wa, rfl, .inl ⟨kvs, .inl w1'⟩, _, rfl, kvs, natK c0, _, w1', rfl, z2, ?_⟩
    have nd0 : Ad.wa ≠ l0 := fun e => by
      have := SX.rwa
      rw [e, r0] at this
      cases this
    have tp := dK_tup (K := K) (o := .dK (dropK kvs (natK c0))) w1'
    have kp : Kept K (fun r => r = .wa ∨ r = .waL c0) ρX (fun a => if a = l0 then none else ρX a) (upd HX lk (.lst ((RX.waiting.map fun p => (p.1 : Int)).map V.int))) (upd (upd HX lk (.lst ((RX.waiting.map fun p => (p.1 : Int)).map V.int))) Ad.wa (.dK (dropK kvs (natK c0)))) := by
      refine ⟨⟨tp, fun a o q n => ⟨?_, ?_⟩⟩, fun a r q n => ⟨?_, fun o z => ?_⟩⟩
      · split
        · rfl
        · exact n
      · rw [upd_ne (fun e => by rw [e, SX.rwa] at n; cases n)]
        exact q
      · rw [if_neg (fun e => by rw [e, r0] at q; exact n (.inr (Option.some.inj q).symm))]
        exact q
      · rw [upd_ne (fun e => by rw [e, SX.rwa] at q; exact n (.inl (Option.some.inj q).symm))]
        exact z
    have SY := SK.mv (R' := { RX with waiting := dropA c0 RX.waiting }) kp (fun a r q => domU (SK.dom a r (by split at q; cases q; exact q))) rfl (by rintro r (rfl | rfl | rfl | rfl) (h | h) <;> cases h) (.inl ⟨rfl, by rintro (h | h) <;> cases h⟩) (.inl ⟨rfl, by rintro (h | h) <;> cases h⟩) (.inl ⟨rfl, (by rintro (h | h) <;> cases h), (by rintro _ (h | h) <;> cases h)⟩) (.inl ⟨rfl, by rintro (h | h) <;> cases h⟩) (.inl ⟨rfl, by rintro (h | h) <;> cases h⟩) (.inl ⟨rfl, (by rintro (h | h) <;> cases h), (by rintro _ (h | h) <;> cases h)⟩)
      (.inr ⟨by rw [if_neg nd0]; exact SX.rwa, _, upd_same, wp_drop w2' c0 tp (fun p _ ne l r => ⟨by rw [if_neg (fun e => by rw [e, r0] at r; cases Option.some.inj r; exact ne rfl)]; exact r, fun o z => by rw [upd_ne (fun e => by rw [e, SX.rwa] at r; cases r)]; exact z⟩), (List.Sublist.map _ List.filter_sublist).nodup w3⟩)
    have oY := (oX.trans (Out.same sk)).trans kp.toOut
    have rl0 : (fun a => if a = l0 then none else ρX a : Rho) l0 = none := if_pos rfl
    have hlY : (upd (upd HX lk (.lst ((RX.waiting.map fun p => (p.1 : Int)).map V.int))) Ad.wa (.dK (dropK kvs (natK c0)))) l0 = some (.lst us) := by rw [upd_ne (Ne.symm nd0)]; exact hl0
    have huY : Paired (fun u x => WtV K (upd (upd HX lk (.lst ((RX.waiting.map fun p => (p.1 : Int)).map V.int))) Ad.wa (.dK (dropK kvs (natK c0)))) x u) us due := Paired.mapP hu fun _ _ => WtV.mv tp
    generalize (fun a => if a = l0 then none else ρX a : Rho) = ρY at SY oY rl0
    generalize upd (upd HX lk (.lst ((RX.waiting.map fun p => (p.1 : Int)).map V.int))) Ad.wa (.dK (dropK kvs (natK c0))) = HY at SY oY hlY huY ⊢
    clear kp SK SX oX w1 w1' w2 w2' w3 hl0 hu tp sk r0 hlk hme
    refine ⟨_, rfl, l0, rfl, ⟨_, .of hlY⟩, for_list (K := K) (a := l0) (xs := us) (fun i σ HV => ∃ (y3 y4 y5 : Option V) (ρV : Rho) (RV : SS), σ = [some (.ref S), some (natV c0), some (.ref l0), y3, y4, y5] ∧ SeaAt K w Z S Ad (.full n ba bs) rules words ρV RV HV ∧ Out K ρY ρV HY HV ∧ foldO (settle1 ⟨rules, words, bs⟩ c0) (due.drop i) RV = some R1) ⟨_, _, _, _, _, rfl, SY, Out.refl, e2⟩ (fun i σ HV _ q => ?_) ?_ ?_⟩
    · obtain ⟨_, _, _, _, _, _, _, oV, _⟩ := q
      exact .of (oV.out _ _ hlY rl0).2
    rotate_left
    · rintro σ HV ⟨y3, y4, y5, ρV, RV, rfl, SV, oV, fo⟩
      rw [Paired.length huY] at fo
      cases foldO_end fo
      exact ⟨_, _, _, _, _, _, _, rfl, SV, oY.trans oV, e3⟩
    rintro i x σ HV hx ⟨y3, y4, y5, ρV, RV, rfl, SV, oV, fo⟩
    obtain ⟨wt, hwt, b, px, by', bz, rfl, hb, hpx, hby, hbz⟩ := paired_at huY hx
    obtain ⟨R2, f1, f2⟩ := foldO_at hwt fo
    obtain ⟨dx, hme⟩ := SV.me
    obtain ⟨rows, g1, g2, _, g3, g4⟩ := SV.se.look
    obtain ⟨pb, rfl, hpb⟩ := hpx.mv oV.tup
    refine ⟨b, _, rfl, oV.tup _ _ hb, rfl, _, _, rfl, _, _, rfl, _, _, rfl, rfl, ?_⟩
    refine ⟨_, rfl, _, rfl, S, Z, dx, _, _, rfl, hme, T.cl, T.nSe, rfl, Ad.se, rows, wt.1, rfl, .of g1, g2, ⟨pb, rfl, hpb⟩, ?_⟩
    unfold settle1 at f1
    by_cases c1 : (lookA wt.1 RV.settled).isSome = true
    · rw [if_pos c1] at f1
      cases f1
      have a1 : (atF wt.1 rows).isSome = true := by
        obtain ⟨x, hx⟩ := Option.isSome_iff_exists.mp c1
        obtain ⟨v, hv, _⟩ := g3 _ _ hx
        rw [hv]
        rfl
      rw [a1]
      exact ⟨_, rfl, iteF ⟨_, _, _, _, _, rfl, SV, oV, f2⟩⟩
    have c1' : lookA wt.1 RV.settled = none := by
      cases q : lookA wt.1 RV.settled with
      | none => rfl
      | some _ => rw [q] at c1; exact absurd rfl c1
    rw [if_neg c1] at f1
    rw [g4 _ c1']
    cases e4 : putB wt.1 c0 RV.settled with
    | none => rw [e4] at f1; cases f1
    | some se =>
    rw [e4] at f1
    cases e5 : putB wt.1 wt.2 RV.origins with
    | none => rw [e5] at f1; cases f1
    | some og =>
    rw [e5] at f1
    have f1 : goOn ⟨rules, words, bs⟩ wt.1 { RV with settled := se, origins := og } = some R2 := f1
    refine ⟨_, rfl, iteT ?_⟩
    obtain ⟨rows1, h1, h2, h3, put1⟩ := SV.se.put (v := natV c0) e4 hpb
    refine ⟨_, rfl, _, rfl, S, Z, dx, _, _, rfl, hme, T.cl, T.nSe, rfl, _, rfl, Ad.se, rows1, wt.1, pb, rfl, rfl, h1, h2, hpb, h3, ?_⟩
    have ka := Kept.dict (K := K) (o := dF placeF w Ad.se (putF wt.1 pb (natV c0) rows1)) SV.rse (dF_tup h1)
    have S1 := SV.mv (R' := { RV with settled := se }) ka (fun a r q => domU (SV.dom a r q)) rfl (by rintro r (rfl | rfl | rfl | rfl) h <;> cases h) (.inl ⟨rfl, fun h => nomatch h⟩) (.inl ⟨rfl, fun h => nomatch h⟩) (.inl ⟨rfl, (fun h => nomatch h), (fun _ h => nomatch h)⟩) (.inr ⟨SV.rse, put1 _ rfl fun _ _ _ z => z⟩) (.inl ⟨rfl, fun h => nomatch h⟩) (.inl ⟨rfl, (fun h => nomatch h), (fun _ h => nomatch h)⟩) (.inl ⟨rfl, (fun h => nomatch h), (fun _ h => nomatch h)⟩)
    have o1 := oV.trans ka.toOut
    have hpb1 := ka.tup _ _ hpb
    obtain ⟨dx1, me1⟩ := S1.me
    refine ⟨_, rfl, _, rfl, by show 2 ≤ sizeLine; decide, fun W hW => ?_⟩
    have sW := Same.new (o := .tup [by', bz]) hW
    have S2 := S1.same sW
    have o2 := o1.trans (Out.same sW)
    have ogv : OgV K _ wt.2 (.ref W) := ⟨W, by', bz, rfl, .of (upd_same (o := .tup [by', bz])), hby.mv fun _ _ => KP.mv o2.tup, hbz.mv fun _ _ => KE'.mv o2.tup⟩
    obtain ⟨rows2, i1, i2, i3, put2⟩ := S2.og.put (v := .ref W) e5 (Same.tup sW hpb1)
    refine ⟨_, rfl, S, Z, dx1, _, _, rfl, sW _ _ me1, T.cl, T.nOg, rfl, _, rfl, Ad.og, rows2, wt.1, pb, rfl, rfl, i1, i2, Same.tup sW hpb1, i3, ?_⟩
    have tp2 := dF_tup (K := K) (o := dF placeF w Ad.og (putF wt.1 pb (.ref W) rows2)) i1
    have kb := Kept.dict (K := K) (o := dF placeF w Ad.og (putF wt.1 pb (.ref W) rows2)) S2.rog tp2
    have S3 := S2.mv (R' := { RV with settled := se, origins := og }) kb (fun a r q => domU (S2.dom a r q)) rfl (by rintro r (rfl | rfl | rfl | rfl) h <;> cases h) (.inl ⟨rfl, fun h => nomatch h⟩) (.inl ⟨rfl, fun h => nomatch h⟩) (.inl ⟨rfl, (fun h => nomatch h), (fun _ h => nomatch h)⟩) (.inl ⟨rfl, fun h => nomatch h⟩) (.inr ⟨S2.rog, put2 _ (ogv.mv tp2) fun _ _ _ z => z.mv tp2⟩) (.inl ⟨rfl, (fun h => nomatch h), (fun _ h => nomatch h)⟩) (.inl ⟨rfl, (fun h => nomatch h), (fun _ h => nomatch h)⟩)
    have o3 := o2.trans kb.toOut
    obtain ⟨dx3, me3⟩ := S3.me
    refine ⟨_, rfl, S, dx3, _, rfl, me3, seF_go, _, rfl, S, pb, Ad, n, ba, bs, rules, words, ρV, _, R2, wt.1, rfl, S3, tp2 _ _ (Same.tup sW hpb1), rok, f1, fun ρ' H' S' o' => ?_⟩
    exact ⟨_, _, _, ρ', R2, rfl, S', o3.trans o', f2⟩
end
end SE
namespace SE
open PySem PySem.Spec PyProof.Rows L2
theorem seF_states {A : Adr} {n m : Nat} {e : ExS} : L2.putF "states" (natV m) (seF A n e) = seF A m e := by
  have h1 : ¬ (("rules" : Str) = "states") := by decide +kernel
  have h2 : ¬ (("words" : Str) = "states") := by decide +kernel
  unfold seF
  simp only [L2.putF, h1, h2, if_false, if_true]
section
variable {K : PySem.W.Frag} {w : World} {Z S : Addr} {A : Adr} {e : ExS} {rules : List Rule} {words : List (List Str)} {ρ : Rho} {R : SS} {H : Hp}
/-- the object itself changes -/
theorem SeaAt.self {e2 : ExS} (h : SeaAt K w Z S A e rules words ρ R H) {dx : Addr} (n : Nat) (hS : ∃ fs, H S = some (.ins Z dx fs)) (ok : ExOk ρ (upd H S (.ins Z dx (seF A n e2))) e2) : SeaAt K w Z S A e2 rules words ρ { R with states := n } (upd H S (.ins Z dx (seF A n e2))) ∧ Out K ρ ρ H (upd H S (.ins Z dx (seF A n e2))) := by
  obtain ⟨fs, hS⟩ := hS
  have t : ∀ b xs, SqT K H b xs → SqT K (upd H S (.ins Z dx (seF A n e2))) b xs := fun b xs q => by
    rcases q with (q | ⟨ob, q⟩) | q
    · exact .inl (.inl (by rw [upd_ne (ne_of q hS (fun z => nomatch z))]; exact q))
    · exact .inl (.inr ⟨ob, by rw [upd_ne (ne_of q hS (fun z => nomatch z))]; exact q⟩)
    · exact .inr q
  have k := Kept.dict (K := K) (o := .ins Z dx (seF A n e2)) h.rme t
  have at_ : ∀ {a r o}, ρ a = some r → r ≠ .me → H a = some o → upd H S (.ins Z dx (seF A n e2)) a = some o := fun {a r o} q n z => (k.at_ a r q n).2 o z
  refine ⟨{ me := ⟨dx, upd_same⟩, rme := h.rme, rru := h.rru, rwo := h.rwo, rco := h.rco, rma := h.rma, ron := h.ron, rse := h.rse, rog := h.rog, rvi := h.rvi, rwa := h.rwa, dom := fun a r q => domU (h.dom a r q), ru := ?_, wo := ?_, ex := ok, co := ?_, ma := ?_, on := ?_, se := ?_, og := ?_, vi := ?_, wa := ?_ }, k.toOut⟩
  · obtain ⟨us, h1, h2⟩ := h.ru
    exact ⟨us, (k.out _ _ h1 h.rru).2, Paired.mapP h2 fun _ _ => RuV.mv t⟩
  · obtain ⟨us, h1, h2⟩ := h.wo
    exact ⟨us, (k.out _ _ h1 h.rwo).2, Paired.mapP h2 fun _ _ => WoV.mv t⟩
  · exact h.co.mv (fun o => at_ h.rco (by decide)) t fun _ _ _ z => z
  · exact h.ma.mv (fun o => at_ h.rma (by decide)) t fun _ _ _ z => z
  · exact h.on.mv (fun o => at_ h.ron (by decide)) t fun c _ _ z => z.mv (fun l r => ⟨r, fun o => at_ r (by intro q; cases q)⟩) fun _ _ => KE'.mv t
  · exact h.se.mv (fun o => at_ h.rse (by decide)) t fun _ _ _ z => z
  · exact h.og.mv (fun o => at_ h.rog (by decide)) t fun _ _ _ z => z.mv t
  · exact h.vi.mv (fun o => at_ h.rvi (by decide)) t fun c _ _ z => z.mv (fun l r => ⟨r, fun o => at_ r (by intro q; cases q)⟩) fun _ _ => KP.mv t
  · exact h.wa.mv (fun o => at_ h.rwa (by decide)) t fun c l r => ⟨r, fun o => at_ r (by intro q; cases q)⟩
end
section
variable {P : Program} {w : World} {K : PySem.W.Frag} {mg : Str → Option Value} {base : Heap} {Z : Addr}
theorem SeaAt.exS {S : Addr} {A : Adr} {e : ExS} {rules : List Rule} {words : List (List Str)} {ρ : Rho} {R : SS} {H : Hp} {o : HO} (h : SeaAt K w Z S A e rules words ρ R H) : ExOk ρ (upd H S o) e := by
  have q := h.ex
  cases e with
  | no => exact trivial
  | fin _ => exact trivial
  | full n ba bs => exact ⟨q.1, by rw [upd_ne (fun z => by have := q.1; rw [z, h.rme] at this; cases this)]; exact q.2⟩
theorem seF_len {A : Adr} {n : Nat} : ∀ {e : ExS}, (seF A n e).length < 1000
  | .no => by show 10 < 1000; decide
  | .fin _ => by show 11 < 1000; decide
  | .full _ _ _ => by show 12 < 1000; decide
/-! ### add_path -/
def spPa (K : PySem.W.Frag) (w : World) (Z : Addr) : Sp := fun vs H Q _ => ∃ (S wb : Addr) (A : Adr) (e : ExS) (rules : List Rule) (words : List (List Str)) (ρ : Rho) (R : SS) (ws : List Str) (x : Nat × SS), vs = [.ref S, .ref wb] ∧ SeaAt K w Z S A e rules words ρ R H ∧ SqT K H wb (ws.map V.str) ∧ addPath ws R = some x ∧
  ∀ ρ' H', SeaAt K w Z S A e rules words ρ' x.2 H' → Out K ρ ρ' H H' → Q (natV x.1) H'
abbrev nPa : List Str := ["self", "word", "state", "item"]
theorem scPa : FnScope nPa ["self", "word"] (defScope sSePath) := ⟨rfl, rfl, rfl, by decide +kernel, rfl, by decide +kernel, by decide +kernel⟩
theorem ok_pa {f : Addr} {fd : FuncData} (F : Fun K "add_path" "Search.add_path" sSePath f fd) (T : TSea K Z) (GEg : MethHas P w K mg base Z "add_edge" 2 pEg (spEg K w Z)) : FnOk P w K mg base CX0 3 f fd ["self", "word"] (spPa K w Z) := by
  refine F.ok scPa (fun vs H Q E h => ?_) (fun cdv A out s H vs Q E hr h => ?_)
  · obtain ⟨S, _, _, _, _, _, _, _, _, _, rfl, _⟩ := h
    rfl
  · obtain ⟨S, wb, Ad, e, rules, words, ρ, R, ws, x, rfl, hS, hwb, hR, k⟩ := h
    refine ⟨_, (pss_cons (ps_set (i := 2) scPa.nd rfl (.inl rfl) pe_int)
      (pss_cons (ps_for PassesOwn.never rfl (pi_tup (pv 1)) (pg_name (i := 3) scPa.nd rfl (.inl rfl)) (pss_cons (ps_expr (pe_mH1 GEg (pv 0) T.cl hr (pa_cons (pe_tup (pa_cons (pv 2) (pa_cons (pv 3) (pa_cons (pe_fld (pv 0) rfl) pa_nil)))) (pa_cons pe_int pa_nil))))
      (pss_cons (ps_set (i := 2) scPa.nd rfl (.inl rfl) (pe_fld (pv 0) rfl))
      (pss_one (ps_fldaug (pv 0) pe_int ip_add)))))
      (pss_one (ps_ret (pv 2))))), ?_⟩
    unfold addPath at hR
    refine ⟨_, rfl, wb, rfl, ⟨_, hwb⟩, for_tup (K := K) (a := wb) (xs := ws.map V.str) (fun i σ HX => ∃ (y3 : Option V) (ρX : Rho) (xX : Nat × SS), σ = [some (.ref S), some (.ref wb), some (natV xX.1), y3] ∧ SeaAt K w Z S Ad e rules words ρX xX.2 HX ∧ Out K ρ ρX H HX ∧ foldO addPath1 (ws.drop i) xX = some x) ⟨_, ρ, (0, R), rfl, hS, Out.refl, hR⟩ (fun i σ HX _ q => ?_) ?_ ?_⟩
    · obtain ⟨_, _, _, _, _, oX, _⟩ := q
      exact oX.tup _ _ hwb
    rotate_left
    · rintro σ HX ⟨y3, ρX, xX, rfl, SX, oX, fo⟩
      rw [List.length_map] at fo
      cases foldO_end fo
      exact ⟨_, rfl, k _ _ SX oX⟩
    rintro i x σ HX hx ⟨y3, ρX, xX, rfl, SX, oX, fo⟩
    rw [List.getElem?_map] at hx
    obtain ⟨it, hit, rfl⟩ := Option.map_eq_some_iff.mp hx
    obtain ⟨x2, f1, f2⟩ := foldO_at hit fo
    unfold addPath1 at f1
    cases e1 : addEdge (xX.1, some it, xX.2.states) 0 xX.2 with
    | none => rw [e1] at f1; cases f1
    | some R2 =>
    rw [e1] at f1
    cases f1
    obtain ⟨dx, hme⟩ := SX.me
    refine ⟨_, rfl, S, dx, _, rfl, hme, seF_edge, _, rfl, _, rfl, _, rfl, S, Z, dx, _, _, rfl, hme, T.cl, T.nSt, rfl, by show 3 ≤ sizeLine; decide, fun U hU => ?_⟩
    have sU := Same.new (o := .tup (edgeF.vs (xX.1, some it, xX.2.states))) hU
    refine ⟨S, U, Ad, e, rules, words, ρX, xX.2, R2, (xX.1, some it, xX.2.states), 0, rfl, SX.same sU, .of upd_same, e1, fun ρ' H' S' o' => ?_⟩
    obtain ⟨dx2, hm2⟩ := S'.me
    refine ⟨_, rfl, S, Z, dx2, _, _, rfl, hm2, T.cl, T.nSt, rfl, ?_⟩
    refine ⟨_, rfl, S, Z, dx2, _, _, rfl, hm2, T.cl, T.nSt, rfl, _, 1, rfl, rfl, dx2, _, hm2, ?_⟩
    obtain ⟨S3, o3⟩ := S'.self (e2 := e) (R2.states + 1) ⟨_, hm2⟩ S'.exS
    have ep : L2.putF ("states" : Str) (V.int ((R2.states : Int) + 1)) (seF Ad R2.states e) = seF Ad (R2.states + 1) e := seF_states (m := R2.states + 1)
    refine ⟨seF_len, _, ρ', (R2.states, { R2 with states := R2.states + 1 }), rfl, ?_, (oX.trans ((Out.same sU).trans o')).trans ?_, f2⟩
    · dsimp only
      rw [ep]
      exact S3
    · dsimp only
      rw [ep]
      exact o3
end
end SE
namespace SE
open PySem PySem.Spec PyProof.Rows L2
theorem paired_app {α β : Type} {F : α → β → Prop} : ∀ {l₁ : List α} {l₂ : List β} {k₁ : List α} {k₂ : List β}, Paired F l₁ l₂ → Paired F k₁ k₂ → Paired F (l₁ ++ k₁) (l₂ ++ k₂)
  | _, _, _, _, .nil, h => h
  | _, _, _, _, .cons a t, h => .cons a (paired_app t h)
/-- new things beside the object -/
structure Ini (S : Addr) (H0 : Hp) (l : List (Addr × HO)) (H : Hp) : Prop where
  at_ : ∀ p ∈ l, H p.1 = some p.2
  nd : (l.map (·.1)).Nodup
  new : ∀ p ∈ l, H0 p.1 = none
  old : ∀ a o, H0 a = some o → a ≠ S → H a = some o
  ne : ∀ p ∈ l, p.1 ≠ S
  tup : ∀ {K : PySem.W.Frag} b xs, SqT K H0 b xs → SqT K H b xs
section
variable {S : Addr} {H0 H H' : Hp} {l : List (Addr × HO)} {p : Addr} {o ob : HO}
theorem Ini.same (h : Ini S H0 l H) (s : Same H H') : Ini S H0 l H' := ⟨fun q m => s _ _ (h.at_ q m), h.nd, h.new, fun a o e n => s _ _ (h.old a o e n), h.ne, fun b xs q => Same.tup s (h.tup b xs q)⟩
/-- one more -/
theorem Ini.add (h : Ini S H0 l H) (hp : H p = none) (hS : ∃ Z dx fs, H S = some (.ins Z dx fs)) (n0 : H0 p = none) : Ini S H0 ((p, o) :: l) (upd H p o) := by
  obtain ⟨Z, dx, fs, hS⟩ := hS
  have pS : p ≠ S := fun e => by rw [e, hS] at hp; cases hp
  refine ⟨fun q m => ?_, List.nodup_cons.mpr ⟨fun m => ?_, h.nd⟩, fun q m => ?_, fun a o e n => ?_, fun q m => ?_, fun b xs q => Same.tup (Same.new hp) (h.tup b xs q)⟩
  · rcases List.mem_cons.mp m with rfl | m
    · exact upd_same
    · rw [upd_ne (fun e => by have := h.at_ q m; rw [e, hp] at this; cases this)]
      exact h.at_ q m
  · obtain ⟨q, mq, e⟩ := List.mem_map.mp m
    have := h.at_ q mq
    rw [e, hp] at this
    cases this
  · rcases List.mem_cons.mp m with rfl | m
    · exact n0
    · exact h.new q m
  · rw [upd_ne (fun z => by rw [z, n0] at e; cases e)]
    exact h.old a o e n
  · rcases List.mem_cons.mp m with rfl | m
    · exact pS
    · exact h.ne q m
/-- the object is written -/
theorem Ini.self (h : Ini S H0 l H) (hS : ∃ Z dx fs, H S = some (.ins Z dx fs)) : Ini S H0 l (upd H S ob) := by
  obtain ⟨Z, dx, fs, hS⟩ := hS
  refine ⟨fun q m => by rw [upd_ne (h.ne q m)]; exact h.at_ q m, h.nd, h.new, fun a o e n => by rw [upd_ne n]; exact h.old a o e n, h.ne, fun b xs q => ?_⟩
  rcases h.tup b xs q with (q | ⟨ob, q⟩) | q
  · exact .inl (.inl (by rw [upd_ne (ne_of q hS (fun z => nomatch z))]; exact q))
  · exact .inl (.inr ⟨ob, by rw [upd_ne (ne_of q hS (fun z => nomatch z))]; exact q⟩)
  · exact .inr q
/-- a thing that stands since a while -/
theorem Ini.put (h : Ini S H0 l H) (s : Same H H') (hp : H p = none) (hp' : H' p = some o) (hS : ∃ Z dx fs, H S = some (.ins Z dx fs)) (n0 : H0 p = none) : Ini S H0 ((p, o) :: l) H' := by
  obtain ⟨Z, dx, fs, hS⟩ := hS
  have g := h.same s
  refine ⟨fun q m => ?_, List.nodup_cons.mpr ⟨fun m => ?_, h.nd⟩, fun q m => ?_, g.old, fun q m => ?_, g.tup⟩
  · rcases List.mem_cons.mp m with rfl | m
    · exact hp'
    · exact g.at_ q m
  · obtain ⟨q, mq, e⟩ := List.mem_map.mp m
    have := h.at_ q mq
    rw [e, hp] at this
    cases this
  · rcases List.mem_cons.mp m with rfl | m
    · exact n0
    · exact h.new q m
  · rcases List.mem_cons.mp m with rfl | m
    · exact fun e => by
        dsimp only at e
        rw [e, hS] at hp
        cases hp
    · exact h.ne q m
/-- a dict that is filled -/
theorem Ini.wr {ks kvs : List (Key × V)} (h : Ini S H0 l H) (hw : H p = some (.dK ks)) (n0 : H0 p = none) (pl : ∀ q ∈ l, q.1 ≠ p) (pS : p ≠ S) : Ini S H0 ((p, .dK kvs) :: l) (upd H p (.dK kvs)) := by
  refine ⟨fun q m => ?_, List.nodup_cons.mpr ⟨fun m => ?_, h.nd⟩, fun q m => ?_, fun a o e n => ?_, fun q m => ?_, fun b xs q => dK_tup hw b xs (h.tup b xs q)⟩
  · rcases List.mem_cons.mp m with rfl | m
    · exact upd_same
    · rw [upd_ne (pl q m)]
      exact h.at_ q m
  · obtain ⟨q, mq, e⟩ := List.mem_map.mp m
    exact pl q mq e
  · rcases List.mem_cons.mp m with rfl | m
    · exact n0
    · exact h.new q m
  · rw [upd_ne (fun z => by rw [z, n0] at e; cases e)]
    exact h.old a o e n
  · rcases List.mem_cons.mp m with rfl | m
    · exact pS
    · exact h.ne q m
theorem Ini.free (h : Ini S H0 l H) (hp : H p = none) (hS : ∃ o, H S = some o) : H0 p = none := by
  cases q : H0 p with
  | none => rfl
  | some o =>
    obtain ⟨o2, h2⟩ := hS
    by_cases e : p = S
    · rw [e, h2] at hp
      cases hp
    · rw [h.old _ _ q e] at hp
      cases hp
end
section
variable {P : Program} {w : World} {K : PySem.W.Frag} {mg : Str → Option Value} {base : Heap} {Z : Addr}
theorem seF_path {A : Adr} {n : Nat} : ∀ {e : ExS}, (seF A n e).lookup ("add_path" : Str) = none
  | .no => by rfl
  | .fin _ => by rfl
  | .full _ _ _ => by rfl
theorem seF_all {A : Adr} {n : Nat} : ∀ {e : ExS}, (seF A n e).lookup ("settle_all" : Str) = none
  | .no => by rfl
  | .fin _ => by rfl
  | .full _ _ _ => by rfl
theorem lookA_mem {κ β : Type} [DecidableEq κ] {k : κ} {b : β} : ∀ {m : List (κ × β)}, (m.map (·.1)).Nodup → (k, b) ∈ m → lookA k m = some b
  | [], _, h => by cases h
  | q :: t, nd, h => by
    have n2 := List.nodup_cons.mp nd
    unfold lookA
    rcases List.mem_cons.mp h with e | h
    · rw [← e, if_pos rfl]
    · rw [if_neg (fun e => n2.1 (by show q.1 ∈ _; rw [e]; exact List.mem_map.mpr ⟨_, h, rfl⟩))]
      exact lookA_mem n2.2 h
theorem lookA_some {κ β : Type} [DecidableEq κ] {k : κ} {b : β} : ∀ {m : List (κ × β)}, lookA k m = some b → (k, b) ∈ m
  | [], h => by cases h
  | q :: t, h => by
    unfold lookA at h
    split at h
    · rename_i e
      rw [← Option.some.inj h, ← e]
      exact List.mem_cons_self
    · exact List.mem_cons_of_mem _ (lookA_some h)
theorem lookA_none {κ β : Type} [DecidableEq κ] {k : κ} {m : List (κ × β)} (h : ∀ p ∈ m, p.1 ≠ k) : lookA k m = none := by
  cases q : lookA k m with
  | none => rfl
  | some b => exact absurd rfl (h _ (lookA_some q))
/-- the state at the beginning -/
theorem sea0 {S L0 dx : Addr} {H0 H : Hp} {A : Adr} {us vs ts : List V} {rules : List Rule} {words : List (List Str)}
    (I : Ini S H0 [(A.wa, .dK [(natK 0, .ref L0)]), (L0, .lst ts), (A.vi, dF siF w A.vi []), (A.og, dF placeF w A.og []), (A.se, dF placeF w A.se []), (A.on, dF siF w A.on []), (A.ma, dF edgeF w A.ma []), (A.co, dF edgeF w A.co []), (A.wo, .lst vs)] H)
    (hS : H S = some (.ins Z dx (seF A 1 .no))) (hru : H0 A.ru = some (.lst us)) (nru : A.ru ≠ S) (pru : Paired (RuV K H0) us rules) (pwo : Paired (WoV K H0) vs words) (pt : Paired (fun u x => WtV K H x u) ts ((List.range words.length).map fun i => (((i, 0, 0), none, none) : Wt))) :
    ∃ ρ, SeaAt K w Z S A .no rules words ρ (initS words) H ∧ ∀ a o, H0 a = some o → a ≠ S → ρ a = none := by
  have nd : ([(S, Role.me), (A.wa, .wa), (L0, .waL 0), (A.vi, .vi), (A.og, .og), (A.se, .se), (A.on, .on), (A.ma, .mk), (A.co, .co)].map (·.1)).Nodup := by
    have h1 := I.nd
    have h2 := I.ne
    simp only [List.map_cons, List.map_nil, List.mem_cons, List.nodup_cons, forall_eq_or_imp, List.not_mem_nil, or_false, not_or] at h1 h2 ⊢
    refine ⟨⟨Ne.symm h2.1, Ne.symm h2.2.1, Ne.symm h2.2.2.1, Ne.symm h2.2.2.2.1, Ne.symm h2.2.2.2.2.1, Ne.symm h2.2.2.2.2.2.1, Ne.symm h2.2.2.2.2.2.2.1, Ne.symm h2.2.2.2.2.2.2.2.1⟩, ?_⟩
    refine ⟨⟨h1.1.1, h1.1.2.1, h1.1.2.2.1, h1.1.2.2.2.1, h1.1.2.2.2.2.1, h1.1.2.2.2.2.2.1, h1.1.2.2.2.2.2.2.1⟩, ⟨h1.2.1.1, h1.2.1.2.1, h1.2.1.2.2.1, h1.2.1.2.2.2.1, h1.2.1.2.2.2.2.1, h1.2.1.2.2.2.2.2.1⟩, ⟨h1.2.2.1.1, h1.2.2.1.2.1, h1.2.2.1.2.2.1, h1.2.2.1.2.2.2.1, h1.2.2.1.2.2.2.2.1⟩, ⟨h1.2.2.2.1.1, h1.2.2.2.1.2.1, h1.2.2.2.1.2.2.1, h1.2.2.2.1.2.2.2.1⟩, ⟨h1.2.2.2.2.1.1, h1.2.2.2.2.1.2.1, h1.2.2.2.2.1.2.2.1⟩, ⟨h1.2.2.2.2.2.1.1, h1.2.2.2.2.2.1.2.1⟩, h1.2.2.2.2.2.2.1.1, ?_⟩
    simp
  have out : ∀ a o, H0 a = some o → a ≠ S → lookA a [(S, Role.me), (A.wa, .wa), (L0, .waL 0), (A.vi, .vi), (A.og, .og), (A.se, .se), (A.on, .on), (A.ma, .mk), (A.co, .co)] = none := fun a o h n => lookA_none fun p m => by
    have new := I.new
    simp only [List.mem_cons, List.not_mem_nil, or_false, forall_eq_or_imp, forall_eq] at new m
    obtain ⟨n1, n2, n3, n4, n5, n6, n7, n8, n9⟩ := new
    rcases m with rfl | rfl | rfl | rfl | rfl | rfl | rfl | rfl | rfl <;> intro e <;> dsimp only at e <;> first | exact n e.symm | (rw [← e] at h; simp_all)
  have at_ := I.at_
  simp only [List.mem_cons, List.not_mem_nil, or_false, forall_eq_or_imp, forall_eq] at at_
  obtain ⟨a1, a2, a3, a4, a5, a6, a7, a8, a9⟩ := at_
  refine ⟨fun a => lookA a [(S, Role.me), (A.wa, .wa), (L0, .waL 0), (A.vi, .vi), (A.og, .og), (A.se, .se), (A.on, .on), (A.ma, .mk), (A.co, .co)], { me := ⟨dx, hS⟩, rme := lookA_mem nd (by simp), rru := out _ _ hru nru, rwo := ?_, rco := lookA_mem nd (by simp), rma := lookA_mem nd (by simp), ron := lookA_mem nd (by simp), rse := lookA_mem nd (by simp), rog := lookA_mem nd (by simp), rvi := lookA_mem nd (by simp), rwa := lookA_mem nd (by simp), dom := fun a r q => ?_, ru := ⟨us, I.old _ _ hru nru, Paired.mapP pru fun _ _ => RuV.mv I.tup⟩, wo := ⟨vs, a9, Paired.mapP pwo fun _ _ => WoV.mv I.tup⟩, ex := trivial, co := ⟨[], a8, KeysF.nil, .nil⟩, ma := ⟨[], a7, KeysF.nil, .nil⟩, on := ⟨[], a6, KeysF.nil, .nil⟩, se := ⟨[], a5, KeysF.nil, .nil⟩, og := ⟨[], a4, KeysF.nil, .nil⟩, vi := ⟨[], a3, KeysF.nil, .nil⟩, wa := ⟨_, a1, .cons ⟨rfl, L0, ts, rfl, lookA_mem nd (by simp), a2, pt⟩ .nil, by simp [initS]⟩ }, out⟩
  · refine lookA_none fun p m => ?_
    have h1 := I.nd
    have h2 := I.ne
    simp only [List.map_cons, List.map_nil, List.mem_cons, List.nodup_cons, forall_eq_or_imp, List.not_mem_nil, or_false, not_or, forall_eq] at h1 h2 m
    rcases m with rfl | rfl | rfl | rfl | rfl | rfl | rfl | rfl | rfl <;> intro e <;> dsimp only at e <;> simp_all
  · have m := lookA_some q
    simp only [List.mem_cons, List.not_mem_nil, or_false, Prod.mk.injEq] at m
    rcases m with ⟨rfl, _⟩ | ⟨rfl, _⟩ | ⟨rfl, _⟩ | ⟨rfl, _⟩ | ⟨rfl, _⟩ | ⟨rfl, _⟩ | ⟨rfl, _⟩ | ⟨rfl, _⟩ | ⟨rfl, _⟩ <;> simp_all
theorem Out.fr {S : Addr} {ρ1 ρ2 : Rho} {H0 H1 H2 : Hp} (f : (∀ a o, H0 a = some o → a ≠ S → ρ1 a = none ∧ H1 a = some o) ∧ ∀ b xs, SqT K H0 b xs → SqT K H1 b xs) (o : Out K ρ1 ρ2 H1 H2) : (∀ a o, H0 a = some o → a ≠ S → ρ2 a = none ∧ H2 a = some o) ∧ ∀ b xs, SqT K H0 b xs → SqT K H2 b xs :=
  ⟨fun a ob h n => have g := f.1 a ob h n; o.out _ _ g.2 g.1, fun b xs q => o.tup _ _ (f.2 _ _ q)⟩
theorem cut_last {α : Type} (f : α → V) (xs : List α) : cutV (xs.map f) none (some (-1)) = xs.dropLast.map f := by
  have e : ∀ n : Nat, HT.sIx n n (some (-1)) = n - 1 := fun n => by
    show (if (-1 : Int) < 0 then ((-1 : Int) + (n : Int)).toNat else min (-1 : Int).toNat n) = n - 1
    rw [if_pos (by decide)]
    omega
  unfold cutV
  rw [e, HT.sIx_none, Nat.sub_zero, List.drop_zero, List.length_map, ← List.map_take, List.dropLast_eq_take]
theorem bases_at {rules : List Rule} {j : Nat} {rr : Rule} {R : SS} {y : List Nat × SS} (h : rules[j]? = some rr) (q : basesO (rules.drop j) R = some y) : ∃ x y', addPath rr.2.2.dropLast R = some x ∧ basesO (rules.drop (j + 1)) x.2 = some y' ∧ y = (x.1 :: y'.1, y'.2) := by
  have li := (List.getElem?_eq_some_iff.mp h).1
  rw [List.drop_eq_getElem_cons li, (List.getElem?_eq_some_iff.mp h).2] at q
  unfold basesO at q
  cases e1 : addPath rr.2.2.dropLast R with
  | none => rw [e1] at q; cases q
  | some x =>
    rw [e1] at q
    have q : (basesO (rules.drop (j + 1)) x.2).map (fun y => (x.1 :: y.1, y.2)) = some y := q
    cases e2 : basesO (rules.drop (j + 1)) x.2 with
    | none => rw [e2] at q; cases q
    | some y' =>
      rw [e2] at q
      exact ⟨x, y', rfl, e2, (Option.some.inj q).symm⟩
/-- a list beside it is written -/
theorem SeaAt.side {S a : Addr} {A : Adr} {n : Nat} {rules : List Rule} {words : List (List Str)} {ρ : Rho} {R : SS} {H : Hp} {xs ys : List V} (h : SeaAt K w Z S A (.fin n) rules words ρ R H) (ha : H a = some (.lst xs)) (ra : ρ a = none) (n1 : a ≠ A.ru) (n2 : a ≠ A.wo) : SeaAt K w Z S A (.fin n) rules words ρ R (upd H a (.lst ys)) := by
  have t : ∀ b xs, SqT K H b xs → SqT K (upd H a (.lst ys)) b xs := fun b xs q => tup_updL ha q
  have at_ : ∀ {c r o}, ρ c = some r → H c = some o → upd H a (.lst ys) c = some o := fun {c r o} q z => by
    rw [upd_ne (fun e => by rw [e, ra] at q; cases q)]
    exact z
  obtain ⟨dx, hme⟩ := h.me
  refine { me := ⟨dx, at_ h.rme hme⟩, rme := h.rme, rru := h.rru, rwo := h.rwo, rco := h.rco, rma := h.rma, ron := h.ron, rse := h.rse, rog := h.rog, rvi := h.rvi, rwa := h.rwa, dom := fun a r q => domU (h.dom a r q), ru := ?_, wo := ?_, ex := trivial, co := ?_, ma := ?_, on := ?_, se := ?_, og := ?_, vi := ?_, wa := ?_ }
  · obtain ⟨us, h1, h2⟩ := h.ru
    exact ⟨us, by rw [upd_ne (Ne.symm n1)]; exact h1, Paired.mapP h2 fun _ _ => RuV.mv t⟩
  · obtain ⟨us, h1, h2⟩ := h.wo
    exact ⟨us, by rw [upd_ne (Ne.symm n2)]; exact h1, Paired.mapP h2 fun _ _ => WoV.mv t⟩
  · exact h.co.mv (fun o => at_ h.rco) t fun _ _ _ z => z
  · exact h.ma.mv (fun o => at_ h.rma) t fun _ _ _ z => z
  · exact h.on.mv (fun o => at_ h.ron) t fun c _ _ z => z.mv (fun l r => ⟨r, fun o => at_ r⟩) fun _ _ => KE'.mv t
  · exact h.se.mv (fun o => at_ h.rse) t fun _ _ _ z => z
  · exact h.og.mv (fun o => at_ h.rog) t fun _ _ _ z => z.mv t
  · exact h.vi.mv (fun o => at_ h.rvi) t fun c _ _ z => z.mv (fun l r => ⟨r, fun o => at_ r⟩) fun _ _ => KP.mv t
  · exact h.wa.mv (fun o => at_ h.rwa) t fun c l r => ⟨r, fun o => at_ r⟩
def spSI (K : PySem.W.Frag) (w : World) (Z : Addr) : Sp := fun vs H Q _ => ∃ (S ru st go dx : Addr) (us gs : List V) (rules : List Rule) (start : List Str) (goals : List (List Str)) (fu : Nat) (r : SR), vs = [.ref S, .ref ru, .ref st, .ref go] ∧ H S = some (.ins Z dx []) ∧ H ru = some (.lst us) ∧ Paired (RuV K H) us rules ∧ SqT K H st (start.map V.str) ∧ H go = some (.lst gs) ∧ Paired (WoV K H) gs goals ∧
  rules.length ≤ 1000 ∧ goals.length ≤ 1000 ∧ (∀ ru ∈ rules, ∀ z ∈ ru.2.2, Item z) ∧ searchM fu rules start goals = some r ∧
  ∀ A ba ρ H', A.ru = ru → SeaAt K w Z S A (.full r.fin ba r.c.bases) rules r.c.words ρ r.R H' → (∀ a o, H a = some o → a ≠ S → ρ a = none ∧ H' a = some o) → (∀ b xs, SqT K H b xs → SqT K H' b xs) → Q .non H'
abbrev nSi : List Str := ["self", "rules", "start", "goals", "name", "pops", "pushes", "word"]
abbrev pSi : List Str := ["self", "rules", "start", "goals"]
theorem scSi : FnScope nSi pSi (defScope sSeInit) := ⟨rfl, rfl, rfl, by decide +kernel, rfl, by decide +kernel, by decide +kernel⟩
theorem ok_si {f : Addr} {fd : FuncData} (F : Fun K "__init__" "Search.__init__" sSeInit f fd) (T : TSea K Z) (GPa : MethHas P w K mg base Z "add_path" 3 ["self", "word"] (spPa K w Z)) (GAl : MethHas P w K mg base Z "settle_all" 5 ["self"] (spAl K w Z)) (B : Blt mg) (mr : mg "range" = none) : FnOk P w K mg base CX0 6 f fd pSi (spSI K w Z) := by
  refine F.ok scSi (fun vs H Q E h => ?_) (fun cdv A out s H vs Q E hr h => ?_)
  · obtain ⟨S, _, _, _, _, _, _, _, _, _, _, _, rfl, _⟩ := h
    rfl
  · obtain ⟨S, ru, st, go, dx, us, gs, rules, start, goals, fu, r, rfl, hS, hru, pru, hst, hgo, pgo, lru, lgo, rok, hR, k⟩ := h
    have hr3 : Room 3 _ := hr.mono (by decide)
    refine ⟨_, (pss_cons (ps_fld (pv 0) (pv 1) rfl)
      (pss_cons (ps_fld (pv 0) (pe_op op_cat (pe_lc (own := [("name", 4), ("pops", 5), ("pushes", 6)]) (g := gTup K 3 (gCons (gName 4) (gCons (gName 5) (gCons (gName 6) gNil)))) (tt := tYes) (te := tVar 5) rfl scSi.nd (pi_list (pv 1)) (blkOk_by (own := [("name", 4), ("pops", 5), ("pushes", 6)]) (N := nSi) (sc := defScope sSeInit) (by decide +kernel)) (fun _ _ _ _ _ => (pg_tup (by rfl) (pgs_cons (pg_name (i := 4) scSi.nd rfl (.inl rfl)) (pgs_cons (pg_name (i := 5) scSi.nd rfl (.inl rfl)) (pgs_cons (pg_name (i := 6) scSi.nd rfl (.inl rfl)) pgs_nil))))) (fun _ _ _ _ _ => pts_nil) (fun _ _ _ _ _ => (pv 5))) (pv 3)) rfl)
      (pss_cons (ps_fld (pv 0) pe_int rfl)
      (pss_cons (ps_fld (pv 0) (pe_imp (t' := tNewF edgeF w) (pe_newF (F := edgeF)) fun _ _ _ h => h) rfl)
      (pss_cons (ps_fld (pv 0) (pe_imp (t' := tNewF edgeF w) (pe_newF (F := edgeF)) fun _ _ _ h => h) rfl)
      (pss_cons (ps_fld (pv 0) (pe_imp (t' := tNewF siF w) (pe_newF (F := siF)) fun _ _ _ h => h) rfl)
      (pss_cons (ps_fld (pv 0) (pe_imp (t' := tNewF placeF w) (pe_newF (F := placeF)) fun _ _ _ h => h) rfl)
      (pss_cons (ps_fld (pv 0) (pe_imp (t' := tNewF placeF w) (pe_newF (F := placeF)) fun _ _ _ h => h) rfl)
      (pss_cons (ps_fld (pv 0) (pe_imp (t' := tNewF siF w) (pe_newF (F := siF)) fun _ _ _ h => h) rfl)
      (pss_cons (ps_fld (pv 0) (pe_disp (pps_cons pe_int (pe_lc (own := [("word", 7)]) (g := gName 7) (tt := tYes) (te := tTup (tCons (tTup (tCons (tVar 7) (tCons (tC (.int 0)) (tCons (tC (.int 0)) tNil)))) (tCons (tC .non) (tCons (tC .non) tNil)))) rfl scSi.nd (pi_range1 (by rfl) mr (pa_cons (pe_callB call_len_seq (by rfl) B.len PySem.boot_len (pa_cons (pe_fld (pv 0) rfl) pa_nil)) pa_nil)) (blkOk_by (own := [("word", 7)]) (N := nSi) (sc := defScope sSeInit) (by decide +kernel)) (fun _ _ _ _ _ => (pg_name (i := 7) scSi.nd rfl (.inl rfl))) (fun _ _ _ _ _ => pts_nil) (fun _ _ _ _ _ => (pe_tup (pa_cons (pe_tup (pa_cons (pv 7) (pa_cons pe_int (pa_cons pe_int pa_nil)))) (pa_cons pe_non (pa_cons pe_non pa_nil)))))) pps_nil) (by rfl) (by rfl) (fun z => by cases z) (by decide)) rfl)
      (Evl.pss_cut (ps_fld (pv 0) (pe_mH1 GPa (pv 0) T.cl hr3 (pa_cons (pv 2) pa_nil)) rfl)
      (Evl.pss_cut (ps_fld (pv 0) (pe_lc (own := [("name", 4), ("pops", 5), ("pushes", 6)]) (g := gTup K 3 (gCons (gName 4) (gCons (gName 5) (gCons (gName 6) gNil)))) (tt := tYes) (te := tMeth Z "add_path" (spPa K w Z) [] E0 (tVar 0) (tCons (tSl (rSlS K) (tVar 6) tNoPart (tPart (tUn (rU fun i => .int (-i)) (tC (.int 1))))) tNil)) rfl scSi.nd (pi_list (pv 1)) (blkOk_by (own := [("name", 4), ("pops", 5), ("pushes", 6)]) (N := nSi) (sc := defScope sSeInit) (by decide +kernel)) (fun _ _ _ _ _ => (pg_tup (by rfl) (pgs_cons (pg_name (i := 4) scSi.nd rfl (.inl rfl)) (pgs_cons (pg_name (i := 5) scSi.nd rfl (.inl rfl)) (pgs_cons (pg_name (i := 6) scSi.nd rfl (.inl rfl)) pgs_nil))))) (fun _ _ _ _ _ => pts_nil) (fun _ _ _ _ _ => (pe_mH1 GPa (pv 0) T.cl hr3 (pa_cons (pe_slice sl_tupS (pv 6) po_none (po_some (pe_un un_neg pe_int))) pa_nil)))) rfl)
      (pss_one (ps_expr (pe_mH0 GAl (pv 0) T.cl hr))))))))))))))), ?_⟩
    unfold searchM at hR
    have neS : ∀ {a : Addr} {xs : List V}, H a = some (.lst xs) → a ≠ S := fun {a xs} h e => by rw [e, hS] at h; cases h
    refine ⟨_, rfl, _, rfl, S, Z, dx, [], rfl, hS, T.cl, T.nRu, by decide, ?_⟩
    have I0 : Ini S H [] H := ⟨fun _ m => (by cases m), List.nodup_nil, fun _ m => (by cases m), fun _ _ e _ => e, fun _ m => (by cases m), fun _ _ q => q⟩
    rw [show L2.putF ("rules" : Str) (V.ref ru) [] = ([("rules", .ref ru)] : List (Str × V)) from rfl]
    have I1 := I0.self (ob := .ins Z dx [("rules", .ref ru)]) ⟨_, _, _, hS⟩
    have h1 : upd H S (.ins Z dx [("rules", .ref ru)]) S = some (.ins Z dx [("rules", .ref ru)]) := upd_same
    generalize upd H S (.ins Z dx [("rules", .ref ru)]) = H1 at I1 h1 ⊢
    clear I0
    -- words
    refine ⟨_, rfl, ru, rfl, ⟨_, .of (I1.old _ _ hru (neS hru))⟩, fun L1 hL1 => ?_⟩
    refine lc_list (K := K) (a := ru) (xs := us) (fun j HX => ∃ vs : List V, HX L1 = some (.lst vs) ∧ Paired (WoV K H) vs ((rules.map (·.2.1)).take j) ∧ Same H1 HX) ⟨[], upd_same, .nil, Same.new hL1⟩ (fun j HX _ q => ?_) ?_ ?_
    · obtain ⟨_, _, _, q⟩ := q
      exact .of (q _ _ (I1.old _ _ hru (neS hru)))
    · rintro j x HX hx ⟨vs, hvs, pv, sX⟩
      obtain ⟨rr, hrr, b, pp, qq, rfl, hb, hp, hq⟩ := paired_at pru hx
      have lv := paired_len pv
      rw [List.length_take, List.length_map] at lv
      refine ⟨b, _, rfl, Same.tup sX (I1.tup _ _ hb), rfl, _, _, rfl, _, _, rfl, _, _, rfl, rfl, rfl, yes_in ⟨_, rfl, vs, hvs, by rw [sizeLine_eq]; omega, vs ++ [.ref pp], upd_same, ?_, Same.free2 sX hL1⟩⟩
      rw [List.take_add_one, List.getElem?_map, hrr, Option.map_some, Option.toList_some]
      exact Paired.snoc2 pv ⟨pp, rfl, hp⟩
    rintro HX ⟨vs, hvs, pv, sX⟩
    have lus : us.length = rules.length := Paired.length pru
    have lgs : gs.length = goals.length := Paired.length pgo
    rw [List.take_of_length_le (by rw [List.length_map]; omega)] at pv
    have lvs := paired_len pv
    rw [List.length_map] at lvs
    have I2 := I1.same sX
    have h2 := sX _ _ h1
    refine ⟨_, rfl, L1, go, vs, gs, rfl, rfl, hvs, I2.old _ _ hgo (neS hgo), by rw [sizeLine_eq]; omega, fun wo hwo => ?_⟩
    have J3 := I2.add (o := .lst (vs ++ gs)) hwo ⟨_, _, _, h2⟩ (I2.free hwo ⟨_, h2⟩)
    have j3 := Same.new (o := .lst (vs ++ gs)) hwo _ _ h2
    have pwo : Paired (WoV K H) (vs ++ gs) (rules.map (·.2.1) ++ goals) := paired_app pv pgo
    refine ⟨_, rfl, S, Z, dx, _, rfl, j3, T.cl, T.nWo, by show 1 < 1000; decide, ?_⟩
    rw [show L2.putF ("words" : Str) (V.ref wo) ([("rules", .ref ru)] : List (Str × V)) = ([("rules", .ref ru), ("words", .ref wo)] : List (Str × V)) from rfl]
    have I3 := J3.self (ob := .ins Z dx ([("rules", .ref ru), ("words", .ref wo)] : List (Str × V))) ⟨_, _, _, j3⟩
    have h3 : upd (upd HX wo (.lst (vs ++ gs))) S (.ins Z dx ([("rules", .ref ru), ("words", .ref wo)] : List (Str × V))) S = some (.ins Z dx ([("rules", .ref ru), ("words", .ref wo)] : List (Str × V))) := upd_same
    generalize upd (upd HX wo (.lst (vs ++ gs))) S (.ins Z dx ([("rules", .ref ru), ("words", .ref wo)] : List (Str × V))) = H3 at I3 h3 ⊢
    clear J3 j3 I2 h2 I1 h1 hvs sX hL1 hwo
    refine ⟨_, rfl, S, Z, dx, _, rfl, h3, T.cl, T.nSt, by show 2 < 1000; decide, ?_⟩
    have J4 := I3
    have j4 := h3
    rw [show L2.putF ("states" : Str) (V.int 1) ([("rules", .ref ru), ("words", .ref wo)] : List (Str × V)) = ([("rules", .ref ru), ("words", .ref wo), ("states", natV 1)] : List (Str × V)) from rfl]
    have I4 := J4.self (ob := .ins Z dx ([("rules", .ref ru), ("words", .ref wo), ("states", natV 1)] : List (Str × V))) ⟨_, _, _, j4⟩
    have h4 : upd H3 S (.ins Z dx ([("rules", .ref ru), ("words", .ref wo), ("states", natV 1)] : List (Str × V))) S = some (.ins Z dx ([("rules", .ref ru), ("words", .ref wo), ("states", natV 1)] : List (Str × V))) := upd_same
    generalize upd H3 S (.ins Z dx ([("rules", .ref ru), ("words", .ref wo), ("states", natV 1)] : List (Str × V))) = H4 at I4 h4 ⊢
    clear J4 j4 I3 h3
    refine fun co hco => ⟨_, rfl, S, Z, dx, _, rfl, Same.new hco _ _ h4, T.cl, T.nCo, by show 3 < 1000; decide, ?_⟩
    have J5 := I4.add (o := dF edgeF w co []) hco ⟨_, _, _, h4⟩ (I4.free hco ⟨_, h4⟩)
    have j5 := Same.new (o := dF edgeF w co []) hco _ _ h4
    rw [show L2.putF ("costs" : Str) (V.ref co) ([("rules", .ref ru), ("words", .ref wo), ("states", natV 1)] : List (Str × V)) = ([("rules", .ref ru), ("words", .ref wo), ("states", natV 1), ("costs", .ref co)] : List (Str × V)) from rfl]
    have I5 := J5.self (ob := .ins Z dx ([("rules", .ref ru), ("words", .ref wo), ("states", natV 1), ("costs", .ref co)] : List (Str × V))) ⟨_, _, _, j5⟩
    have h5 : upd (upd H4 co (dF edgeF w co [])) S (.ins Z dx ([("rules", .ref ru), ("words", .ref wo), ("states", natV 1), ("costs", .ref co)] : List (Str × V))) S = some (.ins Z dx ([("rules", .ref ru), ("words", .ref wo), ("states", natV 1), ("costs", .ref co)] : List (Str × V))) := upd_same
    generalize upd (upd H4 co (dF edgeF w co [])) S (.ins Z dx ([("rules", .ref ru), ("words", .ref wo), ("states", natV 1), ("costs", .ref co)] : List (Str × V))) = H5 at I5 h5 ⊢
    clear J5 j5 I4 h4 hco
    refine fun ma hma => ⟨_, rfl, S, Z, dx, _, rfl, Same.new hma _ _ h5, T.cl, T.nMa, by show 4 < 1000; decide, ?_⟩
    have J6 := I5.add (o := dF edgeF w ma []) hma ⟨_, _, _, h5⟩ (I5.free hma ⟨_, h5⟩)
    have j6 := Same.new (o := dF edgeF w ma []) hma _ _ h5
    rw [show L2.putF ("makers" : Str) (V.ref ma) ([("rules", .ref ru), ("words", .ref wo), ("states", natV 1), ("costs", .ref co)] : List (Str × V)) = ([("rules", .ref ru), ("words", .ref wo), ("states", natV 1), ("costs", .ref co), ("makers", .ref ma)] : List (Str × V)) from rfl]
    have I6 := J6.self (ob := .ins Z dx ([("rules", .ref ru), ("words", .ref wo), ("states", natV 1), ("costs", .ref co), ("makers", .ref ma)] : List (Str × V))) ⟨_, _, _, j6⟩
    have h6 : upd (upd H5 ma (dF edgeF w ma [])) S (.ins Z dx ([("rules", .ref ru), ("words", .ref wo), ("states", natV 1), ("costs", .ref co), ("makers", .ref ma)] : List (Str × V))) S = some (.ins Z dx ([("rules", .ref ru), ("words", .ref wo), ("states", natV 1), ("costs", .ref co), ("makers", .ref ma)] : List (Str × V))) := upd_same
    generalize upd (upd H5 ma (dF edgeF w ma [])) S (.ins Z dx ([("rules", .ref ru), ("words", .ref wo), ("states", natV 1), ("costs", .ref co), ("makers", .ref ma)] : List (Str × V))) = H6 at I6 h6 ⊢
    clear J6 j6 I5 h5 hma
    refine fun on hon => ⟨_, rfl, S, Z, dx, _, rfl, Same.new hon _ _ h6, T.cl, T.nOn, by show 5 < 1000; decide, ?_⟩
    have J7 := I6.add (o := dF siF w on []) hon ⟨_, _, _, h6⟩ (I6.free hon ⟨_, h6⟩)
    have j7 := Same.new (o := dF siF w on []) hon _ _ h6
    rw [show L2.putF ("onward" : Str) (V.ref on) ([("rules", .ref ru), ("words", .ref wo), ("states", natV 1), ("costs", .ref co), ("makers", .ref ma)] : List (Str × V)) = ([("rules", .ref ru), ("words", .ref wo), ("states", natV 1), ("costs", .ref co), ("makers", .ref ma), ("onward", .ref on)] : List (Str × V)) from rfl]
    have I7 := J7.self (ob := .ins Z dx ([("rules", .ref ru), ("words", .ref wo), ("states", natV 1), ("costs", .ref co), ("makers", .ref ma), ("onward", .ref on)] : List (Str × V))) ⟨_, _, _, j7⟩
    have h7 : upd (upd H6 on (dF siF w on [])) S (.ins Z dx ([("rules", .ref ru), ("words", .ref wo), ("states", natV 1), ("costs", .ref co), ("makers", .ref ma), ("onward", .ref on)] : List (Str × V))) S = some (.ins Z dx ([("rules", .ref ru), ("words", .ref wo), ("states", natV 1), ("costs", .ref co), ("makers", .ref ma), ("onward", .ref on)] : List (Str × V))) := upd_same
    generalize upd (upd H6 on (dF siF w on [])) S (.ins Z dx ([("rules", .ref ru), ("words", .ref wo), ("states", natV 1), ("costs", .ref co), ("makers", .ref ma), ("onward", .ref on)] : List (Str × V))) = H7 at I7 h7 ⊢
    clear J7 j7 I6 h6 hon
    refine fun se hse => ⟨_, rfl, S, Z, dx, _, rfl, Same.new hse _ _ h7, T.cl, T.nSe, by show 6 < 1000; decide, ?_⟩
    have J8 := I7.add (o := dF placeF w se []) hse ⟨_, _, _, h7⟩ (I7.free hse ⟨_, h7⟩)
    have j8 := Same.new (o := dF placeF w se []) hse _ _ h7
    rw [show L2.putF ("settled" : Str) (V.ref se) ([("rules", .ref ru), ("words", .ref wo), ("states", natV 1), ("costs", .ref co), ("makers", .ref ma), ("onward", .ref on)] : List (Str × V)) = ([("rules", .ref ru), ("words", .ref wo), ("states", natV 1), ("costs", .ref co), ("makers", .ref ma), ("onward", .ref on), ("settled", .ref se)] : List (Str × V)) from rfl]
    have I8 := J8.self (ob := .ins Z dx ([("rules", .ref ru), ("words", .ref wo), ("states", natV 1), ("costs", .ref co), ("makers", .ref ma), ("onward", .ref on), ("settled", .ref se)] : List (Str × V))) ⟨_, _, _, j8⟩
    have h8 : upd (upd H7 se (dF placeF w se [])) S (.ins Z dx ([("rules", .ref ru), ("words", .ref wo), ("states", natV 1), ("costs", .ref co), ("makers", .ref ma), ("onward", .ref on), ("settled", .ref se)] : List (Str × V))) S = some (.ins Z dx ([("rules", .ref ru), ("words", .ref wo), ("states", natV 1), ("costs", .ref co), ("makers", .ref ma), ("onward", .ref on), ("settled", .ref se)] : List (Str × V))) := upd_same
    generalize upd (upd H7 se (dF placeF w se [])) S (.ins Z dx ([("rules", .ref ru), ("words", .ref wo), ("states", natV 1), ("costs", .ref co), ("makers", .ref ma), ("onward", .ref on), ("settled", .ref se)] : List (Str × V))) = H8 at I8 h8 ⊢
    clear J8 j8 I7 h7 hse
    refine fun og hog => ⟨_, rfl, S, Z, dx, _, rfl, Same.new hog _ _ h8, T.cl, T.nOg, by show 7 < 1000; decide, ?_⟩
    have J9 := I8.add (o := dF placeF w og []) hog ⟨_, _, _, h8⟩ (I8.free hog ⟨_, h8⟩)
    have j9 := Same.new (o := dF placeF w og []) hog _ _ h8
    rw [show L2.putF ("origins" : Str) (V.ref og) ([("rules", .ref ru), ("words", .ref wo), ("states", natV 1), ("costs", .ref co), ("makers", .ref ma), ("onward", .ref on), ("settled", .ref se)] : List (Str × V)) = ([("rules", .ref ru), ("words", .ref wo), ("states", natV 1), ("costs", .ref co), ("makers", .ref ma), ("onward", .ref on), ("settled", .ref se), ("origins", .ref og)] : List (Str × V)) from rfl]
    have I9 := J9.self (ob := .ins Z dx ([("rules", .ref ru), ("words", .ref wo), ("states", natV 1), ("costs", .ref co), ("makers", .ref ma), ("onward", .ref on), ("settled", .ref se), ("origins", .ref og)] : List (Str × V))) ⟨_, _, _, j9⟩
    have h9 : upd (upd H8 og (dF placeF w og [])) S (.ins Z dx ([("rules", .ref ru), ("words", .ref wo), ("states", natV 1), ("costs", .ref co), ("makers", .ref ma), ("onward", .ref on), ("settled", .ref se), ("origins", .ref og)] : List (Str × V))) S = some (.ins Z dx ([("rules", .ref ru), ("words", .ref wo), ("states", natV 1), ("costs", .ref co), ("makers", .ref ma), ("onward", .ref on), ("settled", .ref se), ("origins", .ref og)] : List (Str × V))) := upd_same
    generalize upd (upd H8 og (dF placeF w og [])) S (.ins Z dx ([("rules", .ref ru), ("words", .ref wo), ("states", natV 1), ("costs", .ref co), ("makers", .ref ma), ("onward", .ref on), ("settled", .ref se), ("origins", .ref og)] : List (Str × V))) = H9 at I9 h9 ⊢
    clear J9 j9 I8 h8 hog
    refine fun vi hvi => ⟨_, rfl, S, Z, dx, _, rfl, Same.new hvi _ _ h9, T.cl, T.nVi, by show 8 < 1000; decide, ?_⟩
    have J10 := I9.add (o := dF siF w vi []) hvi ⟨_, _, _, h9⟩ (I9.free hvi ⟨_, h9⟩)
    have j10 := Same.new (o := dF siF w vi []) hvi _ _ h9
    rw [show L2.putF ("visitors" : Str) (V.ref vi) ([("rules", .ref ru), ("words", .ref wo), ("states", natV 1), ("costs", .ref co), ("makers", .ref ma), ("onward", .ref on), ("settled", .ref se), ("origins", .ref og)] : List (Str × V)) = ([("rules", .ref ru), ("words", .ref wo), ("states", natV 1), ("costs", .ref co), ("makers", .ref ma), ("onward", .ref on), ("settled", .ref se), ("origins", .ref og), ("visitors", .ref vi)] : List (Str × V)) from rfl]
    have I10 := J10.self (ob := .ins Z dx ([("rules", .ref ru), ("words", .ref wo), ("states", natV 1), ("costs", .ref co), ("makers", .ref ma), ("onward", .ref on), ("settled", .ref se), ("origins", .ref og), ("visitors", .ref vi)] : List (Str × V))) ⟨_, _, _, j10⟩
    have h10 : upd (upd H9 vi (dF siF w vi [])) S (.ins Z dx ([("rules", .ref ru), ("words", .ref wo), ("states", natV 1), ("costs", .ref co), ("makers", .ref ma), ("onward", .ref on), ("settled", .ref se), ("origins", .ref og), ("visitors", .ref vi)] : List (Str × V))) S = some (.ins Z dx ([("rules", .ref ru), ("words", .ref wo), ("states", natV 1), ("costs", .ref co), ("makers", .ref ma), ("onward", .ref on), ("settled", .ref se), ("origins", .ref og), ("visitors", .ref vi)] : List (Str × V))) := upd_same
    generalize upd (upd H9 vi (dF siF w vi [])) S (.ins Z dx ([("rules", .ref ru), ("words", .ref wo), ("states", natV 1), ("costs", .ref co), ("makers", .ref ma), ("onward", .ref on), ("settled", .ref se), ("origins", .ref og), ("visitors", .ref vi)] : List (Str × V))) = H10 at I10 h10 ⊢
    clear J10 j10 I9 h9 hvi
    -- waiting
    have hwo := I10.at_ (wo, .lst (vs ++ gs)) (by simp)
    refine fun wa hwa => ?_
    have s11 := Same.new (o := .dK []) hwa
    have lw : (vs ++ gs).length = (rules.map (·.2.1) ++ goals).length := Paired.length pwo
    have lb : (vs ++ gs).length ≤ 2000 := by rw [List.length_append]; omega
    refine ⟨_, rfl, S, Z, dx, _, _, rfl, s11 _ _ h10, T.cl, T.nWo, rfl, wo, _, rfl, .inl (.of (s11 _ _ hwo)), (((vs ++ gs).length : Nat) : Int), rfl, by omega, by omega, fun L0 hL0 => ?_⟩
    refine lc_it (walk_range (lo := 0) (n := (vs ++ gs).length)) (fun j HX => ∃ ts : List V, HX L0 = some (.lst ts) ∧ Paired (fun u x => WtV K HX x u) ts (((List.range (rules.map (·.2.1) ++ goals).length).map fun i => (((i, 0, 0), none, none) : Wt)).take j) ∧ Same (upd H10 wa (.dK [])) HX) ⟨[], upd_same, .nil, Same.new hL0⟩ (fun _ _ _ _ => trivial) ?_ ?_
    · rintro j x HX HY hj ⟨ts, hts, pt, sX⟩ ⟨rfl, rfl⟩
      have lt := paired_len pt
      rw [List.length_take, List.length_map, List.length_range] at lt
      refine ⟨rfl, yes_in ⟨_, rfl, by show 3 ≤ sizeLine; decide, fun T1 hT1 => ⟨by show 3 ≤ sizeLine; decide, fun T2 hT2 => ?_⟩⟩⟩
      dsimp only at hT2 ⊢
      rw [show (0 : Int) + (j : Int) = (j : Int) by omega] at hT2 ⊢
      have sA := Same.new (o := .tup (placeF.vs (j, 0, 0))) hT1
      have sB := Same.new (o := .tup [V.ref T1, .non, .non]) hT2
      have sAB := sA.trans sB
      have ht1 := Same.tup sB (.of (K := K) (upd_same (H := HY) (a := T1) (o := .tup (placeF.vs (j, 0, 0)))))
      refine ⟨ts, sAB _ _ hts, by rw [sizeLine_eq]; omega, ts ++ [.ref T2], upd_same, ?_, Same.free2 (sX.trans sAB) hL0⟩
      have hg : ((List.range (rules.map (·.2.1) ++ goals).length).map fun i => (((i, 0, 0), none, none) : Wt))[j]? = some ((j, 0, 0), none, none) := by
        rw [List.getElem?_map, List.getElem?_range (by omega)]
        rfl
      rw [List.take_add_one, hg, Option.toList_some]
      have tpL := fun b xs (q : SqT K _ b xs) => tup_updL (o := .lst (ts ++ [V.ref T2])) (sAB _ _ hts) q
      exact Paired.snoc2 (Paired.mapP pt fun _ _ q => WtV.mv (fun b xs q => tpL b xs (Same.tup sAB q)) q) (WtV.mv tpL ⟨T2, .ref T1, .non, .non, rfl, .of upd_same, ⟨T1, rfl, ht1⟩, rfl, rfl⟩)
    rintro HX ⟨ts, hts, pt, sX⟩
    rw [List.take_of_length_le (by rw [List.length_map, List.length_range]; omega)] at pt
    have wS : wa ≠ S := fun e => by rw [e, h10] at hwa; cases hwa
    have nL0 : H10 L0 = none := s11.free hL0
    have L0wa : L0 ≠ wa := fun e => by rw [e, upd_same] at hL0; cases hL0
    have n0 := I10.free hwa ⟨_, h10⟩
    have J11 := I10.put (s11.trans sX) nL0 hts ⟨_, _, _, h10⟩ (I10.free nL0 ⟨_, h10⟩)
    have hwX := sX _ _ (upd_same (H := H10) (a := wa) (o := .dK []))
    have hSX := (s11.trans sX) _ _ h10
    have J12 := J11.wr (kvs := [(natK 0, .ref L0)]) hwX n0 (fun q m => by
      rcases List.mem_cons.mp m with rfl | m
      · exact L0wa
      · exact fun e => by have := I10.at_ q m; rw [e, hwa] at this; cases this) wS
    have pt2 : Paired (fun u x => WtV K (upd HX wa (.dK [(natK 0, .ref L0)])) x u) ts _ := Paired.mapP pt fun _ _ => WtV.mv (dK_tup hwX)
    have j12 : (upd HX wa (.dK [(natK 0, .ref L0)])) S = some (.ins Z dx ([("rules", .ref ru), ("words", .ref wo), ("states", natV 1), ("costs", .ref co), ("makers", .ref ma), ("onward", .ref on), ("settled", .ref se), ("origins", .ref og), ("visitors", .ref vi)] : List (Str × V))) := by rw [upd_ne (Ne.symm wS)]; exact hSX
    refine ⟨hwX, [(natK 0, .ref L0)], rfl, by show 1 ≤ 15; decide, _, rfl, S, Z, dx, _, rfl, j12, T.cl, T.nWa, by show 9 < 1000; decide, ?_⟩
    rw [show mergeK [] [(natK 0, V.ref L0)] = [(natK 0, V.ref L0)] from rfl]
    rw [show L2.putF ("waiting" : Str) (V.ref wa) ([("rules", .ref ru), ("words", .ref wo), ("states", natV 1), ("costs", .ref co), ("makers", .ref ma), ("onward", .ref on), ("settled", .ref se), ("origins", .ref og), ("visitors", .ref vi)] : List (Str × V)) = seF ⟨ru, wo, co, ma, on, se, og, vi, wa⟩ 1 .no from rfl]
    have I13 := J12.self (ob := .ins Z dx (seF ⟨ru, wo, co, ma, on, se, og, vi, wa⟩ 1 .no)) ⟨_, _, _, j12⟩
    have h13 : upd (upd HX wa (.dK [(natK 0, .ref L0)])) S (.ins Z dx (seF ⟨ru, wo, co, ma, on, se, og, vi, wa⟩ 1 .no)) S = some (.ins Z dx (seF ⟨ru, wo, co, ma, on, se, og, vi, wa⟩ 1 .no)) := upd_same
    have pt3 : Paired (fun u x => WtV K (upd (upd HX wa (.dK [(natK 0, .ref L0)])) S (.ins Z dx (seF ⟨ru, wo, co, ma, on, se, og, vi, wa⟩ 1 .no))) x u) ts _ := Paired.mapP pt2 fun _ _ => WtV.mv fun b xs q => by
      rcases q with (q | ⟨ob, q⟩) | q
      · exact .inl (.inl (by rw [upd_ne (ne_of q j12 (fun z => nomatch z))]; exact q))
      · exact .inl (.inr ⟨ob, by rw [upd_ne (ne_of q j12 (fun z => nomatch z))]; exact q⟩)
      · exact .inr q
    generalize upd (upd HX wa (.dK [(natK 0, .ref L0)])) S (.ins Z dx (seF ⟨ru, wo, co, ma, on, se, og, vi, wa⟩ 1 .no)) = H13 at I13 h13 pt3 ⊢
    obtain ⟨ρ0, S0, r0⟩ := sea0 (A := ⟨ru, wo, co, ma, on, se, og, vi, wa⟩) I13 h13 hru (neS hru) pru pwo pt3
    have f0 : (∀ a o, H a = some o → a ≠ S → ρ0 a = none ∧ H13 a = some o) ∧ ∀ b xs, SqT K H b xs → SqT K H13 b xs := ⟨fun a o h n => ⟨r0 a o h n, I13.old a o h n⟩, I13.tup⟩
    clear r0 pt3 pt2 I13 J12 J11 j12 hSX hwX I10 h10 s11 sX pt hts hwo
    -- end
    cases e1 : addPath start (initS (rules.map (·.2.1) ++ goals)) with
    | none => rw [e1] at hR; cases hR
    | some x =>
    rw [e1] at hR
    cases e2 : basesO rules x.2 with
    | none =>
      have hR : (basesO rules x.2).bind _ = some r := hR
      rw [e2] at hR
      cases hR
    | some y =>
    have hR : (basesO rules x.2).bind (fun y => (settleN { rules := rules, words := rules.map (·.2.1) ++ goals, bases := y.1 } fu y.2).map fun R => ({ c := { rules := rules, words := rules.map (·.2.1) ++ goals, bases := y.1 }, fin := x.1, R := R } : SR)) = some r := hR
    rw [e2] at hR
    have hR : (settleN { rules := rules, words := rules.map (·.2.1) ++ goals, bases := y.1 } fu y.2).map (fun R => ({ c := { rules := rules, words := rules.map (·.2.1) ++ goals, bases := y.1 }, fin := x.1, R := R } : SR)) = some r := hR
    cases e3 : settleN { rules := rules, words := rules.map (·.2.1) ++ goals, bases := y.1 } fu y.2 with
    | none => rw [e3] at hR; cases hR
    | some Rf =>
    rw [e3] at hR
    cases hR
    generalize rules.map (·.2.1) ++ goals = words at S0 e1 e3 k
    refine ⟨fun σ H1 => σ = [some (.ref S), some (.ref ru), some (.ref st), some (.ref go), none, none, none, none] ∧ ∃ ρ1, SeaAt K w Z S ⟨ru, wo, co, ma, on, se, og, vi, wa⟩ (.fin x.1) rules words ρ1 x.2 H1 ∧ (∀ a o, H a = some o → a ≠ S → ρ1 a = none ∧ H1 a = some o) ∧ ∀ b xs, SqT K H b xs → SqT K H1 b xs, ?_, ?_⟩
    · refine ⟨_, rfl, S, dx, _, rfl, h13, seF_path, _, rfl, S, st, _, .no, rules, words, ρ0, _, start, x, rfl, S0, f0.2 _ _ hst, e1, fun ρ' H' S' o' => ?_⟩
      obtain ⟨dx2, me2⟩ := S'.me
      refine ⟨_, rfl, S, Z, dx2, _, rfl, me2, T.cl, T.nEn, seF_len, rfl, ρ', ?_⟩
      rw [show L2.putF ("end" : Str) (natV x.1) (seF ⟨ru, wo, co, ma, on, se, og, vi, wa⟩ x.2.states .no) = seF ⟨ru, wo, co, ma, on, se, og, vi, wa⟩ x.2.states (.fin x.1) from rfl]
      obtain ⟨S2, o2⟩ := S'.self (e2 := .fin x.1) x.2.states ⟨_, me2⟩ trivial
      exact ⟨S2, Out.fr f0 (o'.trans o2)⟩
    rintro σ HA ⟨rfl, ρA, SA, fA⟩
    -- bases
    refine ⟨fun σ H1 => (∃ y4 y5 y6 y7 : Option V, σ = [some (.ref S), some (.ref ru), some (.ref st), some (.ref go), y4, y5, y6, y7]) ∧ ∃ ba ρ1, SeaAt K w Z S ⟨ru, wo, co, ma, on, se, og, vi, wa⟩ (.full x.1 ba y.1) rules words ρ1 y.2 H1 ∧ (∀ a o, H a = some o → a ≠ S → ρ1 a = none ∧ H1 a = some o) ∧ ∀ b xs, SqT K H b xs → SqT K H1 b xs, ?_, ?_⟩
    · refine ⟨_, rfl, ru, rfl, ⟨_, .of (fA.1 _ _ hru (neS hru)).2⟩, fun ba hba => ?_⟩
      refine lc_list (K := K) (a := ru) (xs := us) (fun j HX => ∃ (bsj : List Nat) (ρX : Rho) (RX : SS) (yX : List Nat × SS), HX ba = some (.lst (bsj.map natV)) ∧ bsj.length = j ∧ ρX ba = none ∧ SeaAt K w Z S ⟨ru, wo, co, ma, on, se, og, vi, wa⟩ (.fin x.1) rules words ρX RX HX ∧ ((∀ a o, H a = some o → a ≠ S → ρX a = none ∧ HX a = some o) ∧ ∀ b xs, SqT K H b xs → SqT K HX b xs) ∧ basesO (rules.drop j) RX = some yX ∧ y = (bsj ++ yX.1, yX.2)) ⟨[], ρA, x.2, y, upd_same, rfl, SA.free hba, SA.same (Same.new hba), Out.fr fA (Out.same (Same.new hba)), e2, rfl⟩ (fun j HX _ q => ?_) ?_ ?_
      · obtain ⟨_, _, _, _, _, _, _, _, fX, _⟩ := q
        exact .of (fX.1 _ _ hru (neS hru)).2
      · rintro j z HX hx ⟨bsj, ρX, RX, yX, hbX, lb', rbX, SX, fX, bX, ey⟩
        obtain ⟨rr, hrr, b, pp, qq, rfl, hb, hp, hq⟩ := paired_at pru hx
        obtain ⟨x2, y2, b1, b2, rfl⟩ := bases_at hrr bX
        obtain ⟨dxX, meX⟩ := SX.me
        refine ⟨b, _, rfl, fX.2 _ _ hb, rfl, _, _, rfl, _, _, rfl, _, _, rfl, rfl, rfl, yes_in ?_⟩
        refine ⟨_, rfl, S, dxX, _, rfl, meX, seF_path, _, rfl, 1, rfl, -1, rfl, qq, _, rfl, fX.2 _ _ hq, fun cu HC sC hcu => ?_⟩
        rw [cut_last] at hcu
        have nHA : ∀ a o, HA a = some o → a ≠ ba := fun a o h e => by rw [e, hba] at h; cases h
        have n1 : ba ≠ ru := Ne.symm (nHA _ _ (fA.1 _ _ hru (neS hru)).2)
        have n2 : ba ≠ wo := by
          obtain ⟨_, h, _⟩ := SA.wo
          exact Ne.symm (nHA _ _ h)
        refine ⟨S, cu, _, _, rules, words, ρX, RX, rr.2.2.dropLast, x2, rfl, SX.same sC, hcu, b1, fun ρ' H' S' o' => ?_⟩
        have g := o'.out _ _ (sC _ _ hbX) rbX
        have lj := (List.getElem?_eq_some_iff.mp hrr).1
        have fr := Out.fr fX ((Out.same sC).trans o')
        refine ⟨bsj.map natV, g.2, by rw [List.length_map, lb', sizeLine_eq]; omega, bsj ++ [x2.1], ρ', x2.2, y2, by rw [upd_same, List.map_append]; rfl, by rw [List.length_append, lb']; rfl, g.1, S'.side g.2 g.1 n1 n2, ⟨fun a o h n => ⟨(fr.1 a o h n).1, ?_⟩, fun b xs q => tup_updL g.2 (fr.2 _ _ q)⟩, b2, by rw [ey, List.append_assoc]; rfl⟩
        rw [upd_ne (nHA _ _ (fA.1 _ _ h n).2)]
        exact (fr.1 a o h n).2
      rintro HX ⟨bsj, ρX, RX, yX, hbX, lb', rbX, SX, fX, bX, ey⟩
      rw [lus, List.drop_length] at bX
      cases Option.some.inj bX
      rw [List.append_nil] at ey
      rw [ey]
      obtain ⟨dxX, meX⟩ := SX.me
      have nba : ba ≠ S := fun e => by rw [e, SX.rme] at rbX; cases rbX
      refine ⟨_, rfl, S, Z, dxX, _, rfl, meX, T.cl, T.nBa, seF_len, ⟨_, _, _, _, rfl⟩, ba, ρX, ?_⟩
      rw [show L2.putF ("bases" : Str) (V.ref ba) (seF ⟨ru, wo, co, ma, on, se, og, vi, wa⟩ RX.states (.fin x.1)) = seF ⟨ru, wo, co, ma, on, se, og, vi, wa⟩ RX.states (.full x.1 ba bsj) from rfl]
      obtain ⟨S2, o2⟩ := SX.self (e2 := .full x.1 ba bsj) RX.states ⟨_, meX⟩ ⟨rbX, by rw [upd_ne nba]; exact hbX⟩
      exact ⟨S2, Out.fr fX o2⟩
    rintro σ HB ⟨⟨y4, y5, y6, y7, rfl⟩, ba, ρB, SB, fB⟩
    obtain ⟨dxB, meB⟩ := SB.me
    refine ⟨_, rfl, S, dxB, _, rfl, meB, seF_all, S, _, x.1, ba, y.1, rules, words, ρB, y.2, Rf, fu, rfl, SB, rok, e3, fun ρ' H' S' o' => ?_⟩
    exact k _ ba ρ' H' rfl S' (Out.fr fB o').1 (Out.fr fB o').2
end
end SE
namespace SE
open PySem PySem.Spec PyProof.Rows L2
section
variable {P : Program} {w : World} {K : PySem.W.Frag} {mg : Str → Option Value} {base : Heap} {Z : Addr}
theorem seF_last {A : Adr} {n : Nat} : ∀ {e : ExS}, (seF A n e).lookup ("last_place" : Str) = none
  | .no => by rfl
  | .fin _ => by rfl
  | .full _ _ _ => by rfl
theorem seF_least {A : Adr} {n : Nat} : ∀ {e : ExS}, (seF A n e).lookup ("least" : Str) = none
  | .no => by rfl
  | .fin _ => by rfl
  | .full _ _ _ => by rfl
theorem seF_way {A : Adr} {n : Nat} : ∀ {e : ExS}, (seF A n e).lookup ("way" : Str) = none
  | .no => by rfl
  | .fin _ => by rfl
  | .full _ _ _ => by rfl
def optN : Option Nat → V
  | none => .non
  | some n => natV n
theorem paired_snoc {α β : Type} {F : α → β → Prop} : ∀ {l : List β} {us : List α} {e : β}, Paired F us (l ++ [e]) → ∃ us' u, us = us' ++ [u] ∧ Paired F us' l ∧ F u e
  | [], us, e, h => by
    cases h with
    | cons a t =>
      cases t
      exact ⟨[], _, rfl, .nil, a⟩
  | x :: l, us, e, h => by
    cases h with
    | cons a t =>
      obtain ⟨us', u, rfl, h1, h2⟩ := paired_snoc (l := l) t
      exact ⟨_ :: us', u, rfl, .cons a h1, h2⟩
theorem paired_pop {α β : Type} {F : α → β → Prop} {us : List α} {e : β} {t : List β} (h : Paired F us (e :: t).reverse) : ∃ us' u, us = us' ++ [u] ∧ Paired F us' t.reverse ∧ F u e := by
  rw [List.reverse_cons] at h
  exact paired_snoc h
theorem Same.lst {H H' : Hp} {l : Addr} {o : HO} (s : Same H H') (n : H l = none) : Same H (upd H' l o) := fun b u z => by
  rw [upd_ne (fun e => by rw [e, n] at z; cases z)]
  exact s _ _ z
/-! ### last_place, least -/
abbrev SeaF (K : PySem.W.Frag) (w : World) (Z S : Addr) (r : SR) (H : Hp) : Prop := ∃ A ba ρ, SeaAt K w Z S A (.full r.fin ba r.c.bases) r.c.rules r.c.words ρ r.R H
theorem SeaF.same {S : Addr} {r : SR} {H H' : Hp} (h : SeaF K w Z S r H) (s : Same H H') : SeaF K w Z S r H' := by
  obtain ⟨A, ba, ρ, q⟩ := h
  exact ⟨A, ba, ρ, q.same s⟩
def spLp (K : PySem.W.Frag) (w : World) (Z : Addr) : Sp := fun vs H Q _ => ∃ (S : Addr) (r : SR) (wd : Nat) (p : Place), vs = [.ref S, natV wd] ∧ SeaF K w Z S r H ∧ lastP r wd = some p ∧ ∀ b H', Same H H' → SqT K H' b (placeF.vs p) → Q (.ref b) H'
theorem scLp : FnScope ["self", "word"] ["self", "word"] (defScope sSeLast) := ⟨rfl, rfl, rfl, by decide +kernel, rfl, by decide +kernel, by decide +kernel⟩
theorem ok_lp {f : Addr} {fd : FuncData} (F : Fun K "last_place" "Search.last_place" sSeLast f fd) (T : TSea K Z) (B : Blt mg) : FnOk P w K mg base CX0 1 f fd ["self", "word"] (spLp K w Z) := by
  refine F.ok scLp (fun vs H Q E h => ?_) (fun cdv A out s H vs Q E hr h => ?_)
  · obtain ⟨S, _, _, _, rfl, _⟩ := h
    rfl
  · obtain ⟨S, r, wd, p, rfl, ⟨Ad, ba, ρ, hS⟩, hp, k⟩ := h
    refine ⟨_, (pss_one (ps_ret (pe_tup (pa_cons (pv 1) (pa_cons (pe_callB call_len_seq (by rfl) B.len PySem.boot_len (pa_cons (pe_ix ix_list (pe_fld (pv 0) rfl) (pv 1) (fun _ _ => rfl)) pa_nil)) (pa_cons (pe_fld (pv 0) rfl) pa_nil)))))), ?_⟩
    obtain ⟨dx, hme⟩ := hS.me
    obtain ⟨uw, hwo, pwo⟩ := hS.wo
    unfold lastP at hp
    cases e1 : r.c.words[wd]? with
    | none => rw [e1] at hp; cases hp
    | some ws =>
    rw [e1] at hp
    cases hp
    obtain ⟨u, hu, tb, rfl, t1⟩ := pair_rev pwo e1
    refine ⟨_, rfl, _, rfl, S, Z, dx, _, _, rfl, hme, T.cl, T.nWo, rfl, _, rfl, Ad.wo, uw, (wd : Int), _, rfl, rfl, .of hwo, at_of (j := wd) rfl hu, tb, _, rfl, .inr t1, _, rfl, S, Z, dx, _, _, rfl, hme, T.cl, T.nEn, rfl, by show 3 ≤ sizeLine; decide, fun U hU => ?_⟩
    rw [List.length_map]
    exact k U _ (Same.new hU) (.of upd_same)
def spLs (K : PySem.W.Frag) (w : World) (Z : Addr) : Sp := fun vs H Q _ => ∃ (S : Addr) (r : SR) (wd : Nat), vs = [.ref S, natV wd] ∧ SeaF K w Z S r H ∧ (lastP r wd).isSome = true ∧ ∀ H', Same H H' → Q (optN (leastM r wd)) H'
theorem scLs : FnScope ["self", "word"] ["self", "word"] (defScope sSeLeast) := ⟨rfl, rfl, rfl, by decide +kernel, rfl, by decide +kernel, by decide +kernel⟩
theorem ok_ls {f : Addr} {fd : FuncData} (F : Fun K "least" "Search.least" sSeLeast f fd) (T : TSea K Z) (GLp : MethHas P w K mg base Z "last_place" 1 ["self", "word"] (spLp K w Z)) : FnOk P w K mg base CX0 2 f fd ["self", "word"] (spLs K w Z) := by
  refine F.ok scLs (fun vs H Q E h => ?_) (fun cdv A out s H vs Q E hr h => ?_)
  · obtain ⟨S, _, _, rfl, _⟩ := h
    rfl
  · obtain ⟨S, r, wd, rfl, hF, hp, k⟩ := h
    have hr1 : Room 1 _ := hr.mono (by decide)
    refine ⟨_, (pss_one (ps_ret (pe_get1F (F := placeF) (by have := hr.un; show (A.deeper _).units + 9 < cLine; omega) (pe_fld (pv 0) rfl) (pe_mH1 GLp (pv 0) T.cl hr1 (pa_cons (pv 1) pa_nil)) ⟨rfl, rfl, rfl, rfl⟩))), ?_⟩
    obtain ⟨Ad, ba, ρ, hS⟩ := id hF
    obtain ⟨dx, hme⟩ := hS.me
    obtain ⟨p, hp⟩ := Option.isSome_iff_exists.mp hp
    obtain ⟨rows, g1, g2, _, g3, g4⟩ := hS.se.look
    refine ⟨_, rfl, S, Z, dx, _, _, rfl, hme, T.cl, T.nSe, rfl, Ad.se, rows, rfl, .of g1, _, rfl, S, dx, _, rfl, hme, seF_last, _, rfl, S, r, wd, p, rfl, hF, hp, fun b H1 s1 hb => ?_⟩
    refine ⟨p, .of (s1 _ _ g1), g2.mono fun _ _ => Same.tup s1, ⟨b, rfl, hb⟩, ?_⟩
    have e : (atF p rows).getD .non = optN (leastM r wd) := by
      have el : leastM r wd = lookA p r.R.settled := by
        unfold leastM
        rw [hp]
        rfl
      rw [el]
      cases q : lookA p r.R.settled with
      | none =>
        rw [g4 _ q]
        rfl
      | some a =>
        obtain ⟨v, hv, rfl⟩ := g3 _ _ q
        rw [hv]
        rfl
    rw [e]
    exact k _ s1
/-! ### way -/
def spWy (K : PySem.W.Frag) (w : World) (Z : Addr) : Sp := fun vs H Q _ => ∃ (S pb : Addr) (r : SR) (pl : Place) (fu : Nat) (es : List Edge), vs = [.ref S, .ref pb] ∧ SeaF K w Z S r H ∧ SqT K H pb (placeF.vs pl) ∧ wayO r.R.origins fu pl = some es ∧ es.length ≤ capA ∧
  ∀ l us H', Same H H' → H l = none → H' l = some (.lst us) → Paired (fun u e => KE' K H' e u) us es → Q (.ref l) H'
abbrev nWy : List Str := ["self", "place", "edges", "before", "edge"]
theorem scWy : FnScope nWy ["self", "place"] (defScope sSeWay) := ⟨rfl, rfl, rfl, by decide +kernel, rfl, by decide +kernel, by decide +kernel⟩
theorem ok_wy {f : Addr} {fd : FuncData} (F : Fun K "way" "Search.way" sSeWay f fd) (T : TSea K Z) : FnOk P w K mg base CX0 1 f fd ["self", "place"] (spWy K w Z) := by
  refine F.ok scWy (fun vs H Q E h => ?_) (fun cdv A out s H vs Q E hr h => ?_)
  · obtain ⟨S, pb, _, _, _, _, rfl, _⟩ := h
    rfl
  · obtain ⟨S, pb, r, pl, fu, es, rfl, ⟨Ad, ba, ρ, hS⟩, hpb, hw, les, k⟩ := h
    refine ⟨_, (pss_cons (ps_set (i := 2) scWy.nd rfl (.inl rfl) (pe_lst pa_nil))
      (pss_cons (ps_asg (pe_getF (F := placeF) (by have := hr.un; show (A.deeper _).units + 9 < cLine; omega) (pe_fld (pv 0) rfl) (pv 1) (fun _ _ => rfl)) (pg_tup (by rfl) (pgs_cons (pg_name (i := 3) scWy.nd rfl (.inl rfl)) (pgs_cons (pg_name (i := 4) scWy.nd rfl (.inl rfl)) pgs_nil))))
      (pss_cons (ps_while PassesOwn.never (pt_cmpR op_notN (pv 4) pe_non (nomark _)) (pss_cons (ps_expr (pe_bm PySem.F.plainAttrs_list PySem.F.slot_list_append PySem.F.type_list_append mt_append (pv 2) (pa_cons (pv 4) pa_nil)))
      (pss_one (ps_asg (pe_getF (F := placeF) (by have := hr.un; show (A.deeper _).units + 9 < cLine; omega) (pe_fld (pv 0) rfl) (pv 3) (fun _ _ => rfl)) (pg_tup (by rfl) (pgs_cons (pg_name (i := 3) scWy.nd rfl (.inl rfl)) (pgs_cons (pg_name (i := 4) scWy.nd rfl (.inl rfl)) pgs_nil)))))))
      (pss_one (ps_ret (pv 2)))))), ?_⟩
    refine ⟨by show 0 ≤ sizeLine; decide, fun l hl => ?_⟩
    have sl := Same.new (o := .lst []) hl
    have S1 := hS.same sl
    obtain ⟨dx, hme⟩ := hS.me
    unfold wayO at hw
    cases e1 : lookA pl r.R.origins with
    | none => rw [e1] at hw; cases hw
    | some o =>
    rw [e1] at hw
    have hw : contO r.R.origins fu o = some es := hw
    obtain ⟨rows, g1, g2, _, g3, _⟩ := S1.og.look
    obtain ⟨v, hv, b, x, y, rfl, hb, hx, hy⟩ := g3 _ _ e1
    refine ⟨_, rfl, S, Z, dx, _, _, rfl, sl _ _ hme, T.cl, T.nOg, rfl, _, rfl, Ad.og, rows, pl, _, rfl, .of g1, g2, ⟨pb, rfl, Same.tup sl hpb⟩, hv, b, _, rfl, hb, rfl, _, _, rfl, _, _, rfl, rfl, ?_⟩
    refine ⟨fun m σ HX => ∃ (x y : V) (o : Org) (us : List V) (done rest : List Edge), σ = [some (.ref S), some (.ref pb), some (.ref l), some x, some y] ∧ Same H HX ∧ HX l = some (.lst us) ∧ Paired (fun u e => KE' K HX e u) us done ∧ OpV (KP K HX) o.1 x ∧ OpV (KE' K HX) o.2 y ∧ contO r.R.origins m o = some rest ∧ es = done ++ rest, ⟨fu, x, y, o, [], [], es, rfl, sl, upd_same, .nil, hx, hy, hw, rfl⟩, ?_⟩
    rintro m σ HX ⟨x, y, o, us, done, rest, rfl, sX, hlX, pX, hx, hy, hc, ee⟩
    obtain ⟨o1, o2⟩ := o
    cases o2 with
    | none =>
      have hy : y = .non := hy
      have er : rest = [] := by
        cases m <;> exact (Option.some.inj hc).symm
      rw [hy]
      refine ⟨_, rfl, rfl, _, rfl, iteF ⟨_, rfl, ?_⟩⟩
      rw [er, List.append_nil] at ee
      exact k l us HX sX hl hlX (ee ▸ pX)
    | some e =>
      obtain ⟨be, rfl, hbe⟩ := hy
      cases m with
      | zero => cases o1 <;> cases hc
      | succ m =>
      cases o1 with
      | none => cases hc
      | some b1 =>
      obtain ⟨bp, rfl, hbp⟩ := hx
      have hc : (lookA b1 r.R.origins).bind (fun o => (contO r.R.origins m o).map (e :: ·)) = some rest := hc
      cases e2 : lookA b1 r.R.origins with
      | none => rw [e2] at hc; cases hc
      | some o =>
      rw [e2] at hc
      have hc : (contO r.R.origins m o).map (e :: ·) = some rest := hc
      cases e3 : contO r.R.origins m o with
      | none => rw [e3] at hc; cases hc
      | some rest' =>
      rw [e3] at hc
      cases hc
      have lu : us.length = done.length := Paired.length pX
      have lle : done.length + (e :: rest').length ≤ capA := by rw [← List.length_append, ← ee]; exact les
      have big : capA < sizeLine := by decide
      have lcons : (e :: rest').length = rest'.length + 1 := rfl
      refine ⟨_, rfl, rfl, _, rfl, iteT ⟨fun σ HY => ∃ (x y : V) (o : Org) (us : List V) (done rest : List Edge), σ = [some (.ref S), some (.ref pb), some (.ref l), some x, some y] ∧ Same H HY ∧ HY l = some (.lst us) ∧ Paired (fun u e => KE' K HY e u) us done ∧ OpV (KP K HY) o.1 x ∧ OpV (KE' K HY) o.2 y ∧ contO r.R.origins m o = some rest ∧ es = done ++ rest, fun σ' H' q => ⟨m, Nat.lt_succ_self _, q⟩, ?_⟩⟩
      refine ⟨_, rfl, .inl ⟨rfl, _, .inl (.inl hlX)⟩, _, rfl, l, us, .ref be, rfl, rfl, hlX, by omega, ?_⟩
      have sY : Same H (upd HX l (.lst (us ++ [.ref be]))) := Same.free2 sX hl
      have tp := fun b xs (q : SqT K HX b xs) => tup_updL (o := .lst (us ++ [V.ref be])) hlX q
      have SY := hS.same sY
      obtain ⟨rowsY, j1, j2, _, j3, _⟩ := SY.og.look
      obtain ⟨v', hv', b', x', y', rfl, hb', hx', hy'⟩ := j3 _ _ e2
      refine ⟨_, rfl, S, Z, dx, _, _, rfl, sY _ _ hme, T.cl, T.nOg, rfl, _, rfl, Ad.og, rowsY, b1, _, rfl, .of j1, j2, ⟨bp, rfl, tp _ _ hbp⟩, hv', b', _, rfl, hb', rfl, _, _, rfl, _, _, rfl, rfl, ?_⟩
      exact ⟨x', y', o, us ++ [.ref be], done ++ [e], rest', rfl, sY, upd_same, Paired.snoc2 (Paired.mapP pX fun _ _ => KE'.mv tp) ⟨be, rfl, tp _ _ hbe⟩, hx', hy', e3, by rw [ee, List.append_assoc]; rfl⟩
/-! ### names_to -/
def spNt (K : PySem.W.Frag) (w : World) (Z : Addr) : Sp := fun vs H Q _ => ∃ (S : Addr) (r : SR) (wd fu : Nat) (ns : List Str), vs = [.ref S, natV wd] ∧ SeaF K w Z S r H ∧ namesTo fu r wd = some ns ∧ ∀ l H', Same H H' → H l = none → H' l = some (.lst (ns.map V.str)) → Q (.ref l) H'
abbrev nNt : List Str := ["self", "word", "names", "edges", "step", "edge", "rule"]
theorem scNt : FnScope nNt ["self", "word"] (defScope sSeNames) := ⟨rfl, rfl, rfl, by decide +kernel, rfl, by decide +kernel, by decide +kernel⟩
theorem ok_nt {f : Addr} {fd : FuncData} (F : Fun K "names_to" "Search.names_to" sSeNames f fd) (T : TSea K Z) (GLp : MethHas P w K mg base Z "last_place" 1 ["self", "word"] (spLp K w Z)) (GLs : MethHas P w K mg base Z "least" 2 ["self", "word"] (spLs K w Z)) (GWy : MethHas P w K mg base Z "way" 1 ["self", "place"] (spWy K w Z)) (B : Blt mg) (mr : mg "range" = none) :
    FnOk P w K mg base CX0 3 f fd ["self", "word"] (spNt K w Z) := by
  refine F.ok scNt (fun vs H Q E h => ?_) (fun cdv A out s H vs Q E hr h => ?_)
  · obtain ⟨S, _, _, _, _, rfl, _⟩ := h
    rfl
  · obtain ⟨S, r, wd, fu, ns, rfl, ⟨Ad, ba, ρ, hS⟩, hn, k⟩ := h
    have hr1 : Room 1 _ := hr.mono (by decide)
    have hr2 : Room 2 _ := hr.mono (by decide)
    refine ⟨_, (pss_cons (ps_set (i := 2) scNt.nd rfl (.inl rfl) (pe_lst pa_nil))
      (pss_cons (ps_set (i := 3) scNt.nd rfl (.inl rfl) (pe_mH1 GWy (pv 0) T.cl hr1 (pa_cons (pe_mH1 GLp (pv 0) T.cl hr1 (pa_cons (pv 1) pa_nil)) pa_nil)))
      (pss_cons (ps_for PassesOwn.never rfl (pi_range1 (by rfl) mr (pa_cons (pe_mH1 GLs (pv 0) T.cl hr2 (pa_cons (pv 1) pa_nil)) pa_nil)) (pg_name (i := 4) scNt.nd rfl (.inl rfl)) (pss_cons (ps_set (i := 5) scNt.nd rfl (.inl rfl) (pe_bm0 PySem.F.plainAttrs_list PySem.F.slot_list_pop PySem.F.type_list_pop mt_pop (pv 3)))
      (Evl.pss_cut (ps_while PassesOwn.never (pt_cmp (pc_notinF (F := edgeF) (by have := hr.un; show (A.deeper _).units + 9 < cLine; omega) (pv 5) (pe_fld (pv 0) rfl)) (by rfl)) (pss_one (ps_set (i := 5) scNt.nd rfl (.inl rfl) (pe_bm0 PySem.F.plainAttrs_list PySem.F.slot_list_pop PySem.F.type_list_pop mt_pop (pv 3)))))
      (pss_cons (ps_set (i := 6) scNt.nd rfl (.inl rfl) (pe_getF (F := edgeF) (by have := hr.un; show (A.deeper _).units + 9 < cLine; omega) (pe_fld (pv 0) rfl) (pv 5) (fun _ _ => rfl)))
      (pss_cons (ps_expr (pe_bm PySem.F.plainAttrs_list PySem.F.slot_list_append PySem.F.type_list_append mt_append (pv 2) (pa_cons (pe_ix ix_tup (pe_ix ix_list (pe_fld (pv 0) rfl) (pv 6) (fun _ _ => rfl)) pe_int (fun _ _ => rfl)) pa_nil)))
      (pss_one (ps_aug (i := 3) scNt.nd rfl (.inl rfl) (pe_mH1 GWy (pv 0) T.cl hr1 (pa_cons (pe_tup (pa_cons (pv 6) (pa_cons (pe_callB call_len_seq (by rfl) B.len PySem.boot_len (pa_cons (pe_ix ix_list (pe_fld (pv 0) rfl) (pv 6) (fun _ _ => rfl)) pa_nil)) (pa_cons (pe_ix ix_tup (pv 5) pe_int (fun _ _ => rfl)) pa_nil)))) pa_nil)) iop_ext)))))))
      (pss_one (ps_ret (pe_revL (pv 2))))))), ?_⟩
    unfold namesTo at hn
    cases e1 : lastP r wd with
    | none => rw [e1] at hn; cases hn
    | some p =>
    rw [e1] at hn
    cases e2 : leastM r wd with
    | none => rw [e2] at hn; cases hn
    | some n =>
    rw [e2] at hn
    cases e3 : wayO r.R.origins fu p with
    | none =>
      have hn : (wayO r.R.origins fu p).bind _ = some ns := hn
      rw [e3] at hn
      cases hn
    | some ws =>
    have hn : (wayO r.R.origins fu p).bind (fun ws => if ws.length ≤ capA ∧ n ≤ capA then (namesM r.c r.R.makers r.R.origins fu n ws.reverse).map List.reverse else none) = some ns := hn
    rw [e3] at hn
    have hn : (if ws.length ≤ capA ∧ n ≤ capA then (namesM r.c r.R.makers r.R.origins fu n ws.reverse).map List.reverse else none) = some ns := hn
    by_cases cc : ws.length ≤ capA ∧ n ≤ capA
    rotate_left
    · rw [if_neg cc] at hn
      cases hn
    rw [if_pos cc] at hn
    cases e4 : namesM r.c r.R.makers r.R.origins fu n ws.reverse with
    | none => rw [e4] at hn; cases hn
    | some full =>
    rw [e4] at hn
    cases hn
    have big : capA < sizeLine := by decide
    have capv : capA = 4000 := rfl
    have hF : SeaF K w Z S r H := ⟨Ad, ba, ρ, hS⟩
    obtain ⟨dx, hme⟩ := hS.me
    refine ⟨by show 0 ≤ sizeLine; decide, fun l2 hl2 => ?_⟩
    have s0 : Same H (upd H l2 (.lst [])) := Same.new hl2
    have h2 : (upd H l2 (.lst [])) l2 = some (.lst []) := upd_same
    generalize upd H l2 (.lst []) = H0 at s0 h2 ⊢
    refine ⟨_, rfl, S, dx, _, rfl, s0 _ _ hme, seF_way, _, rfl, S, dx, _, rfl, s0 _ _ hme, seF_last, _, rfl, S, r, wd, p, rfl, hF.same s0, e1, fun b H1 s1 hb => ?_⟩
    have s01 := s0.trans s1
    refine ⟨S, b, r, p, fu, ws, rfl, hF.same s01, hb, e3, cc.1, fun l3 us H2 s2 n3 h3 p3 => ?_⟩
    have s02 := s01.trans s2
    have h22 := s2 _ _ (s1 _ _ h2)
    have nl3 : H l3 = none := s01.free n3
    have n23 : l2 ≠ l3 := fun e => by rw [← e, s1 _ _ h2] at n3; cases n3
    refine ⟨_, rfl, S, dx, _, rfl, s02 _ _ hme, seF_least, _, rfl, S, r, wd, rfl, hF.same s02, by rw [e1]; rfl, fun H3 s3 => ?_⟩
    rw [e2]
    have s03 := s02.trans s3
    have h23 := s3 _ _ h22
    have h33 := s3 _ _ h3
    have p33 : Paired (fun u e => KE' K H3 e u) us ws := Paired.mapP p3 fun _ _ => KE'.mv fun _ _ => Same.tup s3
    clear h22 h3 p3 h2 s01 s02 hb s1 s2 s3 s0 n3
    refine ⟨(n : Int), rfl, by omega, by have := cc.2; omega, for_range (lo := 0) (n := n) (fun j σ HX => ∃ (y4 y5 y6 : Option V) (done rest : List Str) (us : List V) (st : List Edge), σ = [some (.ref S), some (natV wd), some (.ref l2), some (.ref l3), y4, y5, y6] ∧ Same H HX ∧ HX l2 = some (.lst (done.map V.str)) ∧ done.length = j ∧ HX l3 = some (.lst us) ∧ Paired (fun u e => KE' K HX e u) us st.reverse ∧ st.length ≤ capA ∧ namesM r.c r.R.makers r.R.origins fu (n - j) st = some rest ∧ full = done ++ rest) ⟨_, _, _, [], full, us, ws.reverse, rfl, s03, h23, rfl, h33, by rw [List.reverse_reverse]; exact p33, by rw [List.length_reverse]; exact cc.1, by rw [Nat.sub_zero]; exact e4, rfl⟩ ?_ ?_⟩
    rotate_left
    · rintro σ HX ⟨y4, y5, y6, done, rest, us, st, rfl, sX, hX2, ld, hX3, pX, lst, hnm, ef⟩
      rw [Nat.sub_self] at hnm
      cases Option.some.inj hnm
      rw [List.append_nil] at ef
      refine ⟨_, rfl, l2, _, rfl, .of hX2, fun q hq => ?_⟩
      have sq := Same.new (o := .lst (done.map V.str).reverse) hq
      refine k q _ (Same.trans sX sq) (Same.free sX hq) ?_
      rw [upd_same, ef, List.map_reverse]
    rintro j σ HX hj ⟨y4, y5, y6, done, rest, us, st, rfl, sX, hX2, ld, hX3, pX, lst, hnm, ef⟩
    rw [show n - j = (n - (j + 1)) + 1 by omega] at hnm
    unfold namesM at hnm
    cases f1 : popTo r.R.makers st with
    | none => rw [f1] at hnm; cases hnm
    | some x =>
    rw [f1] at hnm
    obtain ⟨ed, ri, tl⟩ := x
    cases f2 : r.c.rules[ri]? with
    | none =>
      have hnm : (r.c.rules[ri]?).bind _ = some rest := hnm
      rw [f2] at hnm
      cases hnm
    | some ru =>
    cases f3 : r.c.words[ri]? with
    | none =>
      have hnm : (r.c.rules[ri]?).bind (fun ru => (r.c.words[ri]?).bind _) = some rest := hnm
      rw [f2, Option.bind_some, f3] at hnm
      cases hnm
    | some wr =>
    have hnm : (r.c.rules[ri]?).bind (fun ru => (r.c.words[ri]?).bind fun w => (wayO r.R.origins fu (ri, w.length, ed.2.2)).bind fun ws => if ws.length + tl.length ≤ capA then (namesM r.c r.R.makers r.R.origins fu (n - (j + 1)) (ws.reverse ++ tl)).map (ru.1 :: ·) else none) = some rest := hnm
    rw [f2, Option.bind_some, f3, Option.bind_some] at hnm
    cases f4 : wayO r.R.origins fu (ri, wr.length, ed.2.2) with
    | none => rw [f4] at hnm; cases hnm
    | some wy =>
    rw [f4, Option.bind_some] at hnm
    by_cases c2 : wy.length + tl.length ≤ capA
    rotate_left
    · rw [if_neg c2] at hnm
      cases hnm
    rw [if_pos c2] at hnm
    cases f5 : namesM r.c r.R.makers r.R.origins fu (n - (j + 1)) (wy.reverse ++ tl) with
    | none => rw [f5] at hnm; cases hnm
    | some rest' =>
    rw [f5] at hnm
    cases hnm
    clear hnm
    cases st with
    | nil => cases f1
    | cons e0 t0 =>
    obtain ⟨us', u0, rfl, pA, b0, rfl, hb0⟩ := paired_pop pX
    refine ⟨_, rfl, .inl ⟨rfl, _, .inl (.inl hX3)⟩, l3, us' ++ [.ref b0], .ref b0, rfl, rfl, hX3, (by simp), ?_⟩
    rw [List.dropLast_concat]
    have tA := fun b xs (q : SqT K HX b xs) => tup_updL (o := .lst us') hX3 q
    have sA : Same H (upd HX l3 (.lst us')) := Same.free2 sX nl3
    have hA2 : upd HX l3 (.lst us') l2 = some (.lst (done.map V.str)) := by rw [upd_ne n23]; exact hX2
    have hA3 : upd HX l3 (.lst us') l3 = some (.lst us') := upd_same
    have pA : Paired (fun u e => KE' K (upd HX l3 (.lst us')) e u) us' t0.reverse := Paired.mapP pA fun _ _ => KE'.mv tA
    have hb0 := tA _ _ hb0
    generalize upd HX l3 (.lst us') = HA at sA hA2 hA3 pA hb0 ⊢
    clear tA hX2 hX3 pX sX
    refine ⟨fun σ HY => ∃ (be : Addr) (usY : List V), σ = [some (.ref S), some (natV wd), some (.ref l2), some (.ref l3), some (.int (0 + (j : Int))), some (.ref be), y6] ∧ Same H HY ∧ HY l2 = some (.lst (done.map V.str)) ∧ HY l3 = some (.lst usY) ∧ Paired (fun u e => KE' K HY e u) usY tl.reverse ∧ SqT K HY be (edgeF.vs ed) ∧ lookA ed r.R.makers = some ri, ?_, ?_⟩
    · refine ⟨fun m σ HY => ∃ (be : Addr) (usY : List V) (e : Edge) (t : List Edge), m = t.length ∧ σ = [some (.ref S), some (natV wd), some (.ref l2), some (.ref l3), some (.int (0 + (j : Int))), some (.ref be), y6] ∧ Same H HY ∧ HY l2 = some (.lst (done.map V.str)) ∧ HY l3 = some (.lst usY) ∧ Paired (fun u e => KE' K HY e u) usY t.reverse ∧ SqT K HY be (edgeF.vs e) ∧ popTo r.R.makers (e :: t) = some (ed, ri, tl), ⟨t0.length, b0, us', e0, t0, rfl, rfl, sA, hA2, hA3, pA, hb0, f1⟩, ?_⟩
      rintro m σ HY ⟨be, usY, e, t, rfl, rfl, sY, hY2, hY3, pY, hbe, hp⟩
      have SY := hS.same sY
      obtain ⟨rowsY, j1, j2, _, j3, j4⟩ := SY.ma.look
      refine ⟨_, rfl, _, rfl, S, Z, dx, _, _, rfl, sY _ _ hme, T.cl, T.nMa, rfl, Ad.ma, rowsY, e, rfl, .of j1, j2, ⟨be, rfl, hbe⟩, ?_⟩
      unfold popTo at hp
      cases q : lookA e r.R.makers with
      | some r' =>
        rw [q] at hp
        cases hp
        obtain ⟨v, hv, _⟩ := j3 _ _ q
        rw [hv]
        exact ⟨_, rfl, iteF ⟨be, usY, rfl, sY, hY2, hY3, pY, hbe, q⟩⟩
      | none =>
        rw [q] at hp
        have hp : popTo r.R.makers t = some (ed, ri, tl) := hp
        rw [j4 _ q]
        cases t with
        | nil => cases hp
        | cons e1 t1 =>
        obtain ⟨us2, u1, rfl, pB, b1, rfl, hb1⟩ := paired_pop pY
        refine ⟨_, rfl, iteT ⟨fun σ HZ => ∃ (be : Addr) (usY : List V) (e : Edge), σ = [some (.ref S), some (natV wd), some (.ref l2), some (.ref l3), some (.int (0 + (j : Int))), some (.ref be), y6] ∧ Same H HZ ∧ HZ l2 = some (.lst (done.map V.str)) ∧ HZ l3 = some (.lst usY) ∧ Paired (fun u e => KE' K HZ e u) usY t1.reverse ∧ SqT K HZ be (edgeF.vs e) ∧ popTo r.R.makers (e :: t1) = some (ed, ri, tl), fun σ' H' q => ⟨t1.length, Nat.lt_succ_self _, ?_⟩, ?_⟩⟩
        · obtain ⟨be, usY, e, z⟩ := q
          exact ⟨be, usY, e, t1, rfl, z⟩
        refine ⟨_, rfl, .inl ⟨rfl, _, .inl (.inl hY3)⟩, l3, us2 ++ [.ref b1], .ref b1, rfl, rfl, hY3, (by simp), ?_⟩
        rw [List.dropLast_concat]
        have tB := fun b xs (q : SqT K HY b xs) => tup_updL (o := .lst us2) hY3 q
        exact ⟨b1, us2, e1, rfl, Same.free2 sY nl3, by rw [upd_ne n23]; exact hY2, upd_same, Paired.mapP pB fun _ _ => KE'.mv tB, tB _ _ hb1, hp⟩
    rintro σ HY ⟨be, usY, rfl, sY, hY2, hY3, pY, hbe, hlk⟩
    have SY := hS.same sY
    obtain ⟨rowsY, j1, j2, _, j3, _⟩ := SY.ma.look
    obtain ⟨v, hv, rfl⟩ := j3 _ _ hlk
    obtain ⟨usR, hru, pru⟩ := SY.ru
    obtain ⟨uR, huR, tb, tp, tq, rfl, t1, _, _⟩ := pair_rev pru f2
    refine ⟨_, rfl, S, Z, dx, _, _, rfl, sY _ _ hme, T.cl, T.nMa, rfl, _, rfl, Ad.ma, rowsY, ed, _, rfl, .of j1, j2, ⟨be, rfl, hbe⟩, hv, ?_⟩
    refine ⟨_, rfl, .inl ⟨rfl, _, .inl (.inl hY2)⟩, _, rfl, S, Z, dx, _, _, rfl, sY _ _ hme, T.cl, T.nRu, rfl, _, rfl, Ad.ru, usR, (ri : Int), _, rfl, rfl, .of hru, at_of (j := ri) rfl huR, tb, _, 0, .str ru.1, rfl, rfl, t1, rfl, l2, _, .str ru.1, rfl, rfl, hY2, by rw [List.length_map]; omega, ?_⟩
    have tC := fun b xs (q : SqT K HY b xs) => tup_updL (o := .lst (done.map V.str ++ [.str ru.1])) hY2 q
    have sC : Same H (upd HY l2 (.lst (done.map V.str ++ [.str ru.1]))) := Same.free2 sY hl2
    have hC2 : upd HY l2 (.lst (done.map V.str ++ [.str ru.1])) l2 = some (.lst ((done ++ [ru.1]).map V.str)) := by rw [upd_same, List.map_append]; rfl
    have hC3 : upd HY l2 (.lst (done.map V.str ++ [.str ru.1])) l3 = some (.lst usY) := by rw [upd_ne (Ne.symm n23)]; exact hY3
    have pC : Paired (fun u e => KE' K (upd HY l2 (.lst (done.map V.str ++ [.str ru.1]))) e u) usY tl.reverse := Paired.mapP pY fun _ _ => KE'.mv tC
    have hbC := tC _ _ hbe
    generalize upd HY l2 (.lst (done.map V.str ++ [.str ru.1])) = HC at sC hC2 hC3 pC hbC ⊢
    have SC := hS.same sC
    obtain ⟨uw, hwo, pwo⟩ := SC.wo
    obtain ⟨uW, huW, tw, rfl, tw1⟩ := pair_rev pwo f3
    refine ⟨_, rfl, _, rfl, S, dx, _, rfl, sC _ _ hme, seF_way, _, rfl, _, rfl, S, Z, dx, _, _, rfl, sC _ _ hme, T.cl, T.nWo, rfl, _, rfl, Ad.wo, uw, (ri : Int), _, rfl, rfl, .of hwo, at_of (j := ri) rfl huW, tw, _, rfl, .inr tw1, _, rfl, be, _, 2, natV ed.2.2, rfl, rfl, hbC, rfl, by show 3 ≤ sizeLine; decide, fun U hU => ?_⟩
    rw [List.length_map]
    have sU := Same.new (o := .tup (placeF.vs (ri, wr.length, ed.2.2))) hU
    refine ⟨S, U, r, (ri, wr.length, ed.2.2), fu, wy, rfl, hF.same (sC.trans sU), .of upd_same, f4, by omega, fun l4 us4 H4 s4 n4 h4 p4 => ?_⟩
    have s14 := sU.trans s4
    have lY : usY.length = tl.length := by rw [Paired.length pC, List.length_reverse]
    have l4' : us4.length = wy.length := Paired.length p4
    have hD3 := s14 _ _ hC3
    refine ⟨l3, l4, usY, us4, rfl, rfl, hD3, h4, by omega, ?_⟩
    have tD := fun b xs (q : SqT K H4 b xs) => tup_updL (o := .lst (usY ++ us4)) hD3 q
    refine ⟨_, _, _, done ++ [ru.1], rest', usY ++ us4, wy.reverse ++ tl, rfl, Same.free2 (sC.trans s14) nl3, by rw [upd_ne n23]; exact s14 _ _ hC2, by rw [List.length_append, ld]; rfl, upd_same, ?_, by rw [List.length_append, List.length_reverse]; exact c2, f5, by rw [ef, List.append_assoc]; rfl⟩
    rw [List.reverse_append, List.reverse_reverse]
    exact paired_app (Paired.mapP pC fun _ _ => KE'.mv fun b xs q => tD _ _ (Same.tup s14 q)) (Paired.mapP p4 fun _ _ => KE'.mv tD)
end
end SE
/-! min(list, key = own function, default = ..): the keys are data. -/
namespace SE
open PySem PySem.Spec PyProof.Rows L2 SeqAt
open PySem.W (alike dataLt rcLt_alike)
/-- an object of a built-in's own: it may turn, and be pinned as it stands -/
structure Mine (X : Cx) (pins : List (Addr × Obj)) (b : Addr) : Prop where
  l : b ≠ X.env.locals
  f : b ∉ X.fs
  a : b ∈ X.ex ∨ X.s_0.heap.objs.size ≤ b
  c : ∀ x c, X.env.cells.lookup x = some c → c ≠ b
  p : ∀ p ∈ X.pn ++ pins, p.1 ≠ b
section
variable {X : Cx} {pins : List (Addr × Obj)} {σ : L2.St} {H H' : Hp} {s : Shared} {b : Addr} {o : Obj} {h' : Heap} {t' : Nat}
theorem Mine.of (I : Inv X pins σ H s) (hb : s.heap.objs.size ≤ b) (hn : H b = none) : Mine X pins b := by
  obtain ⟨h0, h1, h2, h3, h4, h5⟩ := I.fpOk (H' := H) hb hn
  exact ⟨h1, h2, h3, h4, h5⟩
theorem repin (I : Inv X pins σ H s) (m : Mine X pins b) (hn : H b = none) (ho : s.heap.get? b = some o) (hc : ∀ v, o.data ≠ .cell v) : Inv X ((b, o) :: pins) σ H s :=
  I.pins_of fun q hq => by
    rcases List.mem_cons.mp hq with rfl | hq
    · exact ⟨ho, hn, m.l, m.f, hc⟩
    · exact I.pin q (List.mem_append_right _ hq)
theorem Mine.turn (m : Mine X pins b) (I : Inv X pins σ H s) (hn : H b = none) (k : ∀ c o, c ≠ b → s.heap.get? c = some o → h'.get? c = some o) : Inv X pins σ H { s with heap := h', toks := t' } :=
  I.turned k hn m.l m.a m.c m.p
/-- an own function called within a built-in -/
theorem call_in1 {k : Nat} {f : Addr} {fd : FuncData} {px : Str} {sp : Sp} {x : V} {u : Value} {Q : VK} {E : Value → Shared → Prop} (F : FnOk X.prog X.w X.K X.mg X.base CX0 k f fd [px] sp) (hb : Binds X.K fd [px] []) (hr : Room (k + 1) X.A) (I : Inv X pins σ H s) (r : RelV x u)
    (h : sp [x] H Q (fun _ _ _ => False)) : wpAny (model X.prog X.w) X.A.in1 (call (.ref f) [u]) (EP X pins σ Q) E s := by
  refine wpAny_call (codeAny_mono (F.run X.A.in1 X.stack s H ⟨[u], []⟩ [u] [x] _ _ hr.in1 I.env0.in1 (by simpa using hb s [u] I.kIn rfl) (.cons r .nil) h) fun r s2 hq => ?_)
  cases r with
  | error e => exact hq.elim
  | ok fl =>
    cases fl with
    | ret z => exact I.after hq
    | next => exact hq.elim
    | brk => exact hq.elim
    | cont => exact hq.elim
end
section
variable {K : PySem.W.Frag} {H H' : Hp}
mutual
theorem dpSame (s : Same H H') : ∀ (d : PyData) (v : V), Dp K H v d → Dp K H' v d
  | .none, _, h => by cases h; exact .non
  | .bool b, _, h => by cases h; exact .bl b
  | .int i, _, h => by cases h; exact .int i
  | .str x, _, h => by cases h; exact .str x
  | .list ds, _, h => by
    cases h with
    | lst a b => exact .lst (Same.seq s a) (dpsSame s ds _ b)
  | .tuple ds, _, h => by
    cases h with
    | tup a b => exact .tup (Same.tup s a) (dpsSame s ds _ b)
  | .dict kvs, _, h => by cases h
theorem dpsSame (s : Same H H') : ∀ (ds : List PyData) (vs : List V), DpAll K H vs ds → DpAll K H' vs ds
  | [], _, h => by cases h; exact .nil
  | d :: ds, _, h => by
    cases h with
    | cons a b => exact .cons (dpSame s d _ a) (dpsSame s ds _ b)
end
end
def seqO (us : Array Value) (c : Nat) : Obj := { cls := .type "list", dict := none, data := .seq us c, slots := #[] }
/-- what is asked of the keys of xs -/
structure Keys (K : PySem.W.Frag) (sp : Sp) (H0 : Hp) (xs : List V) (kd : Nat → PyData) : Prop where
  k : ∀ i x H1, xs[i]? = some x → Same H0 H1 → sp [x] H1 (fun y H2 => Same H1 H2 ∧ Dp K H2 y (kd i)) (fun _ _ _ => False)
  al : ∀ i j, i < xs.length → j < xs.length → alike (kd i) (kd j) = true
  nn : ∀ i, i < xs.length → kd i ≠ .none
  dp : ∀ i, i < xs.length → (kd i).depth ≤ 20
def ltK (kd : Nat → PyData) (i j : Nat) : Bool := dataLt (kd i) (kd j)
theorem argBest_le (bt : Nat → Nat → Bool) : ∀ k, argBest bt k ≤ k
  | 0 => Nat.le_refl _
  | k + 1 => by
    unfold argBest
    split
    · exact Nat.le_refl _
    · exact Nat.le_succ_of_le (argBest_le bt k)
section
variable {X : Cx} {k : Nat} {f : Addr} {fd : FuncData} {px : Str} {sp : Sp} {pins : List (Addr × Obj)} {σ : L2.St} {H0 : Hp} {a it S : Addr} {xs : List V} {kd : Nat → PyData} {Q : VK} {R : Result → Shared → Prop}
theorem mk_loop (FF : FnOk X.prog X.w X.K X.mg X.base CX0 k f fd [px] sp) (hb : Binds X.K fd [px] []) (hr : Room (k + 1) X.A) (hcalm : X.calm = true) (KY : Keys X.K sp H0 xs kd) (hl : SqL X.K H0 a xs) (mi : Mine X pins it) (mS : Mine X pins S) (nS : it ≠ S) (kw : List (Str × Value))
    (hq : ∀ x H', xs[argBest (ltK kd) (xs.length - 1)]? = some x → Same H0 H' → Q x H') (hR : ∀ v s', EP X pins σ Q v s' → R (.ok (.ret v)) s') :
    ∀ (m j : Nat) (s : Shared) (H : Hp) (vb kb : Value) (xb yb : V) (c : Nat), xs.length - (j + 1) = m → j + 1 ≤ xs.length → Inv X pins σ H s → Same H0 H → H it = none → H S = none → s.heap.IsListIter it a (j + 1) → s.heap.get? S = some (seqO #[vb, kb] c) →
    xs[argBest (ltK kd) j]? = some xb → RelV xb vb → RelV yb kb → Dp X.K H yb (kd (argBest (ltK kd) j)) → codeAny (model X.prog X.w) X.A (.builtin "min.loop" ⟨[.ref it, .ref f, .ref S], kw⟩) R s := by
  have hname : (toString "min" ++ toString ".loop" : String) = "min.loop" := by decide
  have nc : ∀ (us : Array Value) (c : Nat) (v : Option Value), (seqO us c).data ≠ .cell v := fun us c v z => by cases z
  intro m
  induction m with
  | zero =>
    intro j s H vb kb xb yb c hm hj I s0 ni nSn st hS hx rb ry hd
    have hin : j + 1 = xs.length := by omega
    obtain ⟨its, rv, pl, hz⟩ := I.list (Same.seq s0 hl)
    have lv := rv.length
    refine codeAny_builtin F.entry_min_loop ?_
    rw [Around.under_plainId F.plain_min_loop _]
    show wpAny _ X.A.in1 (seqItems? (.ref S) >>= _) _ _ s
    refine wpAny_bind (wpAny_seqItems hS rfl ?_)
    show wpAny _ X.A.in1 (tryCatch (pyNext (.ref it)) _ >>= _) _ _ s
    refine wpAny_bind (wpAny_tryCatch (wpAny_pyNext_list_end (I.ok.hd hcalm) st pl.isList (by simp; omega) fun h' eb => ?_))
    have hS' : h'.get? S = some (seqO #[vb, kb] c) := eb S _ (Ne.symm nS) hS
    have I1 : Inv X pins σ H { s with heap := h' } := mi.turn (t' := s.toks) I ni fun b o hb e => eb b o hb e
    show wpAny _ X.A.in1 (updateSeq S (fun _ => #[]) >>= _) _ _ _
    refine wpAny_bind ?_
    refine wpAny_updateSeq hS' rfl (wpAny_bind (wpAny_letGo (wpAny_pure ?_)))
    refine hR _ _ ⟨xb, H, mS.turn (s := { s with heap := h' }) (t' := s.toks) I1 nSn fun b o hb e => (Heap.get?_update_other _ _ (Ne.symm hb)).trans e, rb, hq xb H ?_ s0⟩
    rw [← hin]
    exact hx
  | succ m ih =>
    intro j s H vb kb xb yb c hm hj I s0 ni nSn st hS hx rb ry hd
    have hlt : j + 1 < xs.length := by omega
    obtain ⟨its, rv, pl, hz⟩ := I.list (Same.seq s0 hl)
    have hx1 : xs[j + 1]? = some xs[j + 1] := List.getElem?_eq_getElem hlt
    obtain ⟨u, hu, ru⟩ := rv.get hx1
    refine codeAny_builtin F.entry_min_loop ?_
    rw [Around.under_plainId F.plain_min_loop _]
    show wpAny _ X.A.in1 (seqItems? (.ref S) >>= _) _ _ s
    refine wpAny_bind (wpAny_seqItems hS rfl ?_)
    show wpAny _ X.A.in1 (tryCatch (pyNext (.ref it)) _ >>= _) _ _ s
    refine wpAny_bind (wpAny_tryCatch (wpAny_pyNext_list_item st pl.isList (x := u) (by simpa using hu) fun h' st' sb => ?_))
    have hS' : h'.get? S = some (seqO #[vb, kb] c) := (sb.2 S (Ne.symm nS)).trans hS
    have I1 : Inv X pins σ H { s with heap := h' } := mi.turn (t' := s.toks) I ni fun b o hb e => (sb.2 b hb).trans e
    obtain ⟨io, ie, ic, idt⟩ := id st'
    have I2 := repin I1 mS nSn hS' (nc _ _)
    have mi2 : Mine X ((S, seqO #[vb, kb] c) :: pins) it := ⟨mi.l, mi.f, mi.a, mi.c, fun q hq => by
      rcases List.mem_append.mp hq with z | z
      · exact mi.p q (List.mem_append_left _ z)
      · rcases List.mem_cons.mp z with rfl | z
        · exact Ne.symm nS
        · exact mi.p q (List.mem_append_right _ z)⟩
    have I3 := repin I2 mi2 ni ie (fun v z => by rw [idt] at z; cases z)
    show wpAny _ X.A.in1 (tryCatch (holding [u] (call (.ref f) [u])) _ >>= _) _ _ _
    refine wpAny_bind (wpAny_tryCatch (wpAny_holding (wpAny_mono (call_in1 FF hb hr I3 ru (KY.k (j + 1) _ H hx1 s0)) (fun kx s2 hh => ?_) fun _ _ z => z)))
    obtain ⟨yk, H2, I4, rk, s12, hdk⟩ := hh
    have s02 := s0.trans s12
    have ie2 := ClX.pin_at I4
    have ni2 := ClX.pin_un I4
    have I5 := ClX.unpin I4
    have hS2 := ClX.pin_at I5
    have nS2 := ClX.pin_un I5
    have I6 := ClX.unpin I5
    have st2 : s2.heap.IsListIter it a (j + 1 + 1) := ⟨io, ie2, ic, idt⟩
    have le := argBest_le (ltK kd) j
    have lt0 : argBest (ltK kd) j < xs.length := by omega
    obtain ⟨as1, r1⟩ := Dp.reads I6 (kd (j + 1)) yk kx hdk rk
    obtain ⟨as2, r2⟩ := Dp.reads I6 (kd (argBest (ltK kd) j)) yb kb (dpSame s12 _ _ hd) ry
    have cmp : RcLt X.A.in1 s2 kx kb (ltK kd (j + 1) (argBest (ltK kd) j)) := rcLt_alike _ _ X.A.in1 s2 kx kb as1 as2 r1 r2 (KY.al _ _ hlt lt0) (KY.nn _ hlt) (by
      have h1 := KY.dp _ hlt
      have h2 := hr.in1.units
      have : min (kd (j + 1)).depth (kd (argBest (ltK kd) j)).depth ≤ 20 := Nat.le_trans (Nat.min_le_left _ _) h1
      omega)
    show wpAny _ X.A.in1 (tryCatch (holding [u, kx] (richCompare .Lt kx kb >>= _)) _ >>= _) _ _ _
    refine wpAny_bind (wpAny_tryCatch (wpAny_holding (wpAny_bind (cmp X.prog X.w _ _ ?_))))
    refine wpAny_bind (wpAny_holding (wpAny_truthy_bool ?_))
    refine wpAny_bind (wpAny_letGo (wpAny_pure ?_))
    cases hbt : ltK kd (j + 1) (argBest (ltK kd) j) with
    | true =>
      simp only [if_true]
      have e1 : argBest (ltK kd) (j + 1) = j + 1 := by simp only [argBest, hbt, if_true]
      refine wpAny_bind ?_
      refine wpAny_updateSeq hS2 rfl (wpAny_bind (wpAny_letGo ?_))
      rw [hname]
      refine wpAny_pure ⟨plainId_quiet F.plain_min_loop _, ih (j + 1) _ H2 u kx xs[j + 1] yk _ (by omega) hlt (mS.turn (t' := s2.toks) I6 nS2 fun b o hb e => (Heap.get?_update_other _ _ (Ne.symm hb)).trans e) s02 ni2 nS2 (st2.at fun o e => (Heap.get?_update_other _ _ (Ne.symm nS)).trans e)
        (Heap.get?_update_self _ hS2 rfl) (by rw [e1]; exact hx1) ru rk (by rw [e1]; exact hdk)⟩
    | false =>
      simp only [Bool.false_eq_true, if_false]
      have e1 : argBest (ltK kd) (j + 1) = argBest (ltK kd) j := by simp only [argBest, hbt, Bool.false_eq_true, if_false]
      refine wpAny_bind (wpAny_letGo ?_)
      rw [hname]
      exact wpAny_pure ⟨plainId_quiet F.plain_min_loop _, ih (j + 1) _ H2 vb kb xb yb c (by omega) hlt I6 s02 ni2 nS2 st2 hS2 (by rw [e1]; exact hx) rb ry (by rw [e1]; exact dpSame s12 _ _ hd)⟩
/-- min(list, key = f, default = d) -/
def rMinK (K : PySem.W.Frag) (f : Addr) (sp : Sp) : List V → List V → Hp → VK → Prop := fun vs zs H Q => ∃ (a : Addr) (xs : List V) (d : V) (kd : Nat → PyData), vs = [.ref a] ∧ zs = [.ref f, d] ∧ SqL K H a xs ∧ Keys K sp H xs kd ∧ (xs = [] → ∀ H', Same H H' → Q d H') ∧
  (xs ≠ [] → ∀ x H', xs[argBest (ltK kd) (xs.length - 1)]? = some x → Same H H' → Q x H')
theorem call_minK (FF : FnOk X.prog X.w X.K X.mg X.base CX0 k f fd [px] sp) (hb : Binds X.K fd [px] []) (hr : Room (k + 1) X.A) (hcalm : X.calm = true) : CallRK X (.builtin "min") [Str.ofString "key", Str.ofString "default"] (rMinK X.K f sp) := by
  intro pins s σ H vs zs us ws Q I r1 r2 h
  obtain ⟨a, xs, d, kd, rfl, rfl, hl, KY, hq0, hq⟩ := h
  have hname : (toString "min" ++ toString ".loop" : String) = "min.loop" := by decide
  have nc : ∀ (us : Array Value) (c : Nat) (v : Option Value), (seqO us c).data ≠ .cell v := fun us c v z => by cases z
  obtain ⟨ua, rfl, ra⟩ : ∃ ua, us = [ua] ∧ RelV (.ref a) ua := by
    cases r1 with
    | cons p q =>
      cases q
      exact ⟨_, rfl, p⟩
  cases ra
  obtain ⟨uf, ud, rfl, rf, rd⟩ := vals2 r2
  cases rf
  show wpAny (model X.prog X.w) X.A (call (.builtin "min") [.ref a] [(Str.ofString "key", .ref f), (Str.ofString "default", ud)]) (EP X pins σ Q) X.xe s
  refine PyProof.Rows.kmk_tree F.kind_min F.plain_min F.entry_min (args_min_key_default _ _ _) ?_
  show wpAny _ X.A.in1 (Builtin.Builtins.bindParams "min" ["key", "default"] 0 ⟨[], [(Str.ofString "key", .ref f), (Str.ofString "default", ud)]⟩ >>= _) _ _ s
  refine wpAny_bind (wpAny_of_eq (show Builtin.Builtins.bindParams "min" ["key", "default"] 0 ⟨[], [(Str.ofString "key", .ref f), (Str.ofString "default", ud)]⟩ = pure [some (.ref f), some ud] from rfl) ?_)
  refine wpAny_bind (wpAny_pure ?_)
  obtain ⟨its, rv, pl, hz⟩ := I.list hl
  have lv := rv.length
  refine wpAny_bind (wpAny_pyIter_list pl.isList ?_)
  have ni : H s.heap.objs.size = none := I.hok.fresh (Nat.le_refl _)
  have I1 : Inv X pins σ H { s with heap := s.heap.push { cls := .type "list_iterator", data := .fields #[.ref a, .int 0 0] }, toks := s.toks } := I.kept fun b o e => Heap.get?_push_of_some _ e
  have mi : Mine X pins s.heap.objs.size := Mine.of I (Nat.le_refl _) ni
  have st : (s.heap.push { cls := .type "list_iterator", data := .fields #[.ref a, .int 0 0] }).IsListIter s.heap.objs.size a 0 := ⟨_, Heap.get?_push_size _ rfl, rfl, rfl⟩
  generalize hs1 : s.heap.push { cls := .type "list_iterator", data := .fields #[.ref a, .int 0 0] } = h1 at I1 st
  have z1 : s.heap.objs.size < h1.objs.size := by
    rw [← hs1, Heap.size_push]
    exact Nat.lt_succ_self _
  show wpAny _ _ (newList [] >>= _) _ _ _
  refine wpAny_bind (wpAny_newObj_type ?_)
  have nS : H h1.objs.size = none := I1.hok.fresh (Nat.le_refl _)
  have mS : Mine X pins h1.objs.size := Mine.of I1 (Nat.le_refl _) nS
  have I2 : Inv X pins σ H { s with heap := h1.push { cls := .type "list", data := .seq #[] 0 }, toks := s.toks } := I1.kept fun b o e => Heap.get?_push_of_some _ e
  have st2 : (h1.push { cls := .type "list", data := .seq #[] 0 }).IsListIter s.heap.objs.size a 0 := st.at fun o e => Heap.get?_push_of_some _ e
  have hS2 : (h1.push { cls := .type "list", data := .seq #[] 0 }).get? h1.objs.size = some (seqO #[] 0) := Heap.get?_push_size _ rfl
  have nn : s.heap.objs.size ≠ h1.objs.size := Nat.ne_of_lt z1
  rw [hname]
  refine wpAny_pure ⟨plainId_quiet F.plain_min_loop _, ?_⟩
  generalize h1.push { cls := .type "list", data := .seq #[] 0 } = h2 at I2 st2 hS2
  generalize s.heap.objs.size = it at *
  generalize h1.objs.size = S at *
  refine codeAny_builtin F.entry_min_loop ?_
  rw [Around.under_plainId F.plain_min_loop _]
  obtain ⟨its, rv, pl, hz⟩ := I2.list hl
  have lv := rv.length
  show wpAny _ X.A.in1 (seqItems? (.ref S) >>= _) _ _ _
  refine wpAny_bind (wpAny_seqItems hS2 rfl ?_)
  show wpAny _ X.A.in1 (tryCatch (pyNext (.ref it)) _ >>= _) _ _ _
  cases hxs : xs with
  | nil =>
    have l0 : its = [] := List.length_eq_zero_iff.mp (by rw [← lv, hxs]; rfl)
    refine wpAny_bind (wpAny_tryCatch (wpAny_pyNext_list_end (I.ok.hd hcalm) st2 pl.isList (by simp [l0]) fun h' eb => ?_))
    have I3 : Inv X pins σ H { s with heap := h', toks := s.toks } := mi.turn (s := { s with heap := h2, toks := s.toks }) (t' := s.toks) I2 ni fun b o hb e => eb b o hb e
    refine wpAny_bind (wpAny_rule (wpAny_pure ?_))
    exact ⟨d, H, I3, rd, hq0 hxs H (Same.refl H)⟩
  | cons x r =>
    have hlt : 0 < xs.length := by rw [hxs]; exact Nat.succ_pos _
    have hx1 : xs[0]? = some xs[0] := List.getElem?_eq_getElem hlt
    obtain ⟨u, hu, ru⟩ := rv.get hx1
    refine wpAny_bind (wpAny_tryCatch (wpAny_pyNext_list_item st2 pl.isList (x := u) (by simpa using hu) fun h' st' sb => ?_))
    have hS' : h'.get? S = some (seqO #[] 0) := (sb.2 S (Ne.symm nn)).trans hS2
    have I1 : Inv X pins σ H { s with heap := h', toks := s.toks } := mi.turn (s := { s with heap := h2, toks := s.toks }) (t' := s.toks) I2 ni fun b o hb e => (sb.2 b hb).trans e
    obtain ⟨io, ie, ic, idt⟩ := id st'
    have I3 := repin I1 mS nS hS' (nc _ _)
    have mi2 : Mine X ((S, seqO #[] 0) :: pins) it := ⟨mi.l, mi.f, mi.a, mi.c, fun q hq => by
      rcases List.mem_append.mp hq with z | z
      · exact mi.p q (List.mem_append_left _ z)
      · rcases List.mem_cons.mp z with rfl | z
        · exact Ne.symm nn
        · exact mi.p q (List.mem_append_right _ z)⟩
    have I4 := repin I3 mi2 ni ie (fun v z => by rw [idt] at z; cases z)
    show wpAny _ X.A.in1 (tryCatch (holding [u] (call (.ref f) [u])) _ >>= _) _ _ _
    refine wpAny_bind (wpAny_tryCatch (wpAny_holding (wpAny_mono (call_in1 FF hb hr I4 ru (KY.k 0 _ H hx1 (Same.refl H))) (fun kx s2 hh => ?_) fun _ _ z => z)))
    obtain ⟨yk, H2, I5, rk, s12, hdk⟩ := hh
    have ie2 := ClX.pin_at I5
    have ni2 := ClX.pin_un I5
    have I6 := ClX.unpin I5
    have hS3 := ClX.pin_at I6
    have nS2 := ClX.pin_un I6
    have I7 := ClX.unpin I6
    have st3 : s2.heap.IsListIter it a 1 := ⟨io, ie2, ic, idt⟩
    show wpAny _ X.A.in1 (updateSeq S (fun _ => #[u, kx]) >>= _) _ _ _
    refine wpAny_bind ?_
    refine wpAny_updateSeq hS3 rfl ?_
    rw [hname]
    refine wpAny_pure ⟨plainId_quiet F.plain_min_loop _, mk_loop FF hb hr hcalm KY hl mi mS nn _ (hq (by rw [hxs]; simp)) (fun v s' e => e) _ 0 _ H2 u kx xs[0] yk _ rfl hlt (mS.turn (t' := s2.toks) I7 nS2 fun b o hb e => (Heap.get?_update_other _ _ (Ne.symm hb)).trans e) s12 ni2 nS2 (st3.at fun o e => (Heap.get?_update_other _ _ (Ne.symm nn)).trans e)
      (Heap.get?_update_self _ hS3 rfl) hx1 ru rk hdk⟩
end
end SE
/-! sorted(list, key = own function), the keys are data; sorted(list of data). -/
namespace SE
open PySem PySem.Spec PyProof.Rows L2 SeqAt
open PySem.W (alike dataLt AllAlike Sortable dataLe KeyedOut)
/-- the heap without the object at a -/
def lessO (h : Heap) (a : Addr) : Heap := h.update a fun _ => { cls := .none, data := .freed }
theorem lessO_at (h : Heap) (a : Addr) : (lessO h a).get? a = none := by
  unfold lessO Heap.update Heap.get?
  by_cases l : a < h.objs.size
  · simp [l, Array.getElem_modify]
  · simp [l]
theorem lessO_ne {h : Heap} {a b : Addr} (n : b ≠ a) : (lessO h a).get? b = h.get? b := Heap.get?_update_ne _ _ _ _ n
section
variable {X : Cx} {pins : List (Addr × Obj)} {σ : L2.St} {H H' : Hp} {s : Shared} {b : Addr} {o : Obj} {h' : Heap} {t' : Nat}
theorem Mine.fp (m : Mine X pins b) (hn : H b = none) : FpOk X pins H b := ⟨hn, m.l, m.f, m.a, m.c, m.p⟩
theorem call_in2 {k : Nat} {f : Addr} {fd : FuncData} {px : Str} {sp : Sp} {x : V} {u : Value} {Q : VK} {E : Value → Shared → Prop} (F : FnOk X.prog X.w X.K X.mg X.base CX0 k f fd [px] sp) (hb : Binds X.K fd [px] []) (hr : Room (k + 2) X.A) (I : Inv X pins σ H s) (r : RelV x u)
    (h : sp [x] H Q (fun _ _ _ => False)) : wpAny (model X.prog X.w) X.A.in1.in1 (call (.ref f) [u]) (EP X pins σ Q) E s := by
  refine wpAny_call (codeAny_mono (F.run X.A.in1.in1 X.stack s H ⟨[u], []⟩ [u] [x] _ _ hr.in1.in1 I.env0.in1.in1 (by simpa using hb s [u] I.kIn rfl) (.cons r .nil) h) fun r s2 hq => ?_)
  cases r with
  | error e => exact hq.elim
  | ok fl =>
    cases fl with
    | ret z => exact I.after hq
    | next => exact hq.elim
    | brk => exact hq.elim
    | cont => exact hq.elim
end
def sortedI (xs : List V) (kd : Nat → PyData) : List V := ((List.range xs.length).mergeSort (dataLe false kd)).map fun i => xs.getD i .non
theorem vals_each {xs : List V} {us : List Value} (r : Vals xs us) : PySem.W.EachIs (fun v i => ∃ x, xs[i]? = some x ∧ RelV x v) us (List.range xs.length) := by
  refine PySem.W.EachIs.of_zip (by rw [List.length_range, r.length]) ?_
  rintro ⟨v, i⟩ m
  obtain ⟨j, hj⟩ := List.mem_iff_getElem?.mp m
  rw [List.getElem?_zip_eq_some] at hj
  obtain ⟨h1, h2⟩ := hj
  have lt : j < xs.length := by
    have := (List.getElem?_eq_some_iff.mp h1).1
    rw [r.length]
    exact this
  rw [List.getElem?_range lt] at h2
  obtain rfl : j = i := Option.some.inj h2
  obtain ⟨u, hu, ru⟩ := r.get (List.getElem?_eq_getElem lt)
  rw [h1] at hu
  cases hu
  exact ⟨_, List.getElem?_eq_getElem lt, ru⟩
theorem each_vals {xs : List V} : ∀ {out : List Value} {js : List Nat}, PySem.W.EachIs (fun v i => ∃ x, xs[i]? = some x ∧ RelV x v) out js → Vals (js.map fun i => xs.getD i .non) out
  | _, _, .nil => .nil
  | _, _, .cons ⟨x, h1, h2⟩ t => .cons (show L2.RelV (xs.getD _ V.non) _ by rw [List.getD_eq_getElem?_getD, h1]; exact h2) (each_vals t)
section
variable {X : Cx} {k : Nat} {f : Addr} {fd : FuncData} {px : Str} {sp : Sp} {pins : List (Addr × Obj)} {σ : L2.St} {H0 : Hp} {a kS : Addr} {xs : List V} {kd : Nat → PyData} {Q : VK}
/-- the keys so far -/
def KeysAt (K : PySem.W.Frag) (H : Hp) (kd : Nat → PyData) (ys : List V) : Prop := ∀ (j : Nat) y, ys[j]? = some y → Dp K H y (kd j)
theorem KeysAt.snoc {K : PySem.W.Frag} {H : Hp} {ys : List V} {y : V} (h : KeysAt K H kd ys) (d : Dp K H y (kd ys.length)) : KeysAt K H kd (ys ++ [y]) := fun j z e => by
  rcases Nat.lt_or_ge j ys.length with l | l
  · rw [List.getElem?_append_left l] at e
    exact h j z e
  · rw [List.getElem?_append_right l] at e
    have e0 : j - ys.length = 0 := by
      have := (List.getElem?_eq_some_iff.mp e).1
      simp at this
      omega
    have ej : j = ys.length := by omega
    rw [e0] at e
    obtain rfl : y = z := Option.some.inj e
    rw [ej]
    exact d
theorem KeysAt.mono {K : PySem.W.Frag} {H H' : Hp} {ys : List V} (h : KeysAt K H kd ys) (s : Same H H') : KeysAt K H' kd ys := fun j y e => dpSame s _ _ (h j y e)
theorem vals_snoc {ys : List V} {us : List Value} {y : V} {u : Value} (r : Vals ys us) (q : RelV y u) : Vals (ys ++ [y]) (us ++ [u]) := by
  induction r with
  | nil => exact .cons q .nil
  | cons a b ih => exact .cons a ih
theorem keys_read {s : Shared} {H : Hp} {ys : List V} {us : List Value} {n : Nat} (I : Inv X pins σ H s) (r : Vals ys us) (ka : KeysAt X.K H kd ys) (hn : ys.length = n) : PySem.W.EachIs (fun v d => ∃ as, Reads s.heap v d as) us ((List.range n).map kd) := by
  refine PySem.W.EachIs.of_zip (by rw [List.length_map, List.length_range, ← hn, r.length]) ?_
  rintro ⟨v, d⟩ m
  obtain ⟨j, hj⟩ := List.mem_iff_getElem?.mp m
  rw [List.getElem?_zip_eq_some] at hj
  obtain ⟨h1, h2⟩ := hj
  have lt : j < ys.length := by
    have := (List.getElem?_eq_some_iff.mp h1).1
    rw [r.length]
    exact this
  rw [List.getElem?_map, List.getElem?_range (by omega)] at h2
  obtain rfl : kd j = d := Option.some.inj h2
  obtain ⟨u, hu, ru⟩ := r.get (List.getElem?_eq_getElem lt)
  rw [h1] at hu
  cases hu
  exact Dp.reads I (kd j) _ _ (ka j _ (List.getElem?_eq_getElem lt)) ru
theorem sk_rest {vs : List Value} {e1 : Nat} {s : Shared} {E : Value → Shared → Prop} {P : PySem.Fin → Shared → Prop} (FF : FnOk X.prog X.w X.K X.mg X.base CX0 k f fd [px] sp) (hb : Binds X.K fd [px] []) (hr : Room (k + 2) X.A) (KY : Keys X.K sp H0 xs kd) (hal : AllAlike ((List.range xs.length).map kd)) (hsk : Sortable ((List.range xs.length).map kd))
    (I : Inv X pins σ H0 s) (rv : Vals xs vs) (hz : xs.length ≤ sizeLine) (ma : Mine X pins a) (mS : Mine X pins kS) (hne : kS ≠ a) (na : H0 a = none) (nS : H0 kS = none) (at_a : s.heap.get? a = some (seqO #[] e1)) (at_S : s.heap.get? kS = some (seqO #[] 0))
    (hq : ∀ s' H', Inv X pins σ H' s' → Same H0 H' → H' a = some (.lst (sortedI xs kd)) → (∃ H1, Same H0 H1 ∧ H1 a = none ∧ H' = upd H1 a (.lst (sortedI xs kd))) → P (.done (.ret .none)) s') :
    wpAny (model X.prog X.w) X.A.in1.in1 (ksk_rest a (.ref f) false vs.toArray e1 (.ref kS)) P E s := by
  have nc : ∀ (us : Array Value) (c : Nat) (v : Option Value), (seqO us c).data ≠ .cell v := fun us c v z => by cases z
  have lv := rv.length
  unfold ksk_rest
  refine wpAny_bind (wpAny_rule ?_)
  first
    | rw [List.forIn_toArray]
    | (rw [← Array.forIn_toList]; simp only [List.toList_toArray])
  refine wpAny_bind (ksk_fold (fun i s' => ∃ H ys kA e, Inv X pins σ H s' ∧ Same H0 H ∧ H a = none ∧ H kS = none ∧ s'.heap.get? kS = some (seqO kA e) ∧ s'.heap.get? a = some (seqO #[] e1) ∧ Vals ys kA.toList ∧ ys.length = i ∧ KeysAt X.K H kd ys) vs 0 s
    ⟨H0, [], #[], 0, I, Same.refl H0, na, nS, at_S, at_a, .nil, rfl, fun j y e => by simp at e⟩ ?_ ?_)
  · rintro j v s' hv ⟨H, ys, kA, e, I, s0, na, nS, at_S, at_a, ry, hl, ka⟩
    have hj : j < xs.length := by
      rw [lv]
      exact (List.getElem?_eq_some_iff.mp hv).1
    obtain ⟨u, hu, ru⟩ := rv.get (List.getElem?_eq_getElem hj)
    rw [hv] at hu
    cases hu
    have kz : kA.size ≤ sizeLine := by
      have z : ys.length = kA.toList.length := Paired.length ry
      rw [Array.length_toList (xs := kA)] at z
      rw [← z, hl, Nat.zero_add]
      omega
    have I2 := repin I mS nS at_S (nc _ _)
    have ma2 : Mine X ((kS, seqO kA e) :: pins) a := ⟨ma.l, ma.f, ma.a, ma.c, fun q hq => by
      rcases List.mem_append.mp hq with z | z
      · exact ma.p q (List.mem_append_left _ z)
      · rcases List.mem_cons.mp z with rfl | z
        · exact hne
        · exact ma.p q (List.mem_append_right _ z)⟩
    have I3 := repin I2 ma2 na at_a (nc _ _)
    refine wpAny_bind (wpAny_attempt (wpAny_mono (call_in2 FF hb hr I3 ru (KY.k j _ H (List.getElem?_eq_getElem hj) s0)) (fun kx s2 hh => ?_) fun _ _ z => z))
    obtain ⟨yk, H2, I4, rk, s12, hdk⟩ := hh
    have at_a2 := ClX.pin_at I4
    have na2 := ClX.pin_un I4
    have I5 := ClX.unpin I4
    have at_S2 := ClX.pin_at I5
    have nS2 := ClX.pin_un I5
    have I6 := ClX.unpin I5
    dsimp only
    refine wpAny_bind (listUpdate_at at_S2 rfl ?_ kz (by rw [Array.size_push]; omega))
    refine wpAny_pure ⟨rfl, H2, ys ++ [yk], kA.push kx, _, mS.turn (t' := s2.toks) I6 nS2 fun b o hb e => (Heap.get?_update_other _ _ (Ne.symm hb)).trans e, s0.trans s12, na2, nS2, Heap.get?_update_self _ at_S2 rfl, (Heap.get?_update_other _ _ hne).trans at_a2, ?_, by rw [List.length_append, hl]; simp, ?_⟩
    · rw [Array.toList_push]
      exact vals_snoc ry rk
    · refine (ka.mono s12).snoc ?_
      rw [hl, Nat.zero_add]
      exact hdk
  · rintro s' ⟨H, ys, kA, e, I, s0, na, nS, at_S, at_a, ry, hl, ka⟩
    rw [Nat.zero_add, ← lv] at hl
    refine wpAny_bind (listItems_at at_S rfl ?_)
    have hk := keys_read I ry ka hl
    have hu : ∀ d ∈ (List.range xs.length).map kd, X.A.in1.in1.units + d.depth < cLine := fun d m => by
      obtain ⟨i, m2, rfl⟩ := List.mem_map.mp m
      have h1 := KY.dp i (List.mem_range.mp m2)
      have h2 := hr.in1.in1.units
      omega
    have kAl : kA.size = vs.length := by
      have z : ys.length = kA.toList.length := Paired.length ry
      rw [Array.length_toList (xs := kA)] at z
      omega
    refine PySem.W.keyH_end (κ := PySem.W.dataKind s'.heap ((List.range xs.length).map kd)) (h₁ := lessO s'.heap kS) (vs := vs) (fun b o hb q => ?_) (lessO_at _ _) at_S at_a hne (PySem.W.SortsAt.data hk hal hsk hu) kAl (by rw [← lv]; exact hz) fun h3 tk3 c k3 n3 => ?_
    · by_cases e : b = kS
      · rw [e, lessO_at] at q
        cases q
      · rw [lessO_ne e] at q
        exact q
    · have out := PySem.W.keyedOut_each kd (rev := false) ⟨s'.heap, kA.toList, hal, rfl, hk⟩ (vals_each rv)
      have outV := each_vals out
      have I2 : Inv X pins σ H { s' with heap := h3, toks := tk3 } := I.turnedL (t' := tk3) (ch := [a, kS]) (fun b o hb q => k3 b o (fun z => hb (by simp [z])) (by rw [lessO_ne (fun z => hb (by simp [z]))]; exact q)) fun b hb => by
        rcases List.mem_cons.mp hb with rfl | hb
        · exact ma.fp na
        · obtain rfl : b = kS := by simpa using hb
          exact mS.fp nS
      have l2 : (sortedI xs kd).length = xs.length := by
        unfold sortedI
        rw [List.length_map, List.length_mergeSort, List.length_range]
      have I3 : Inv X pins σ (upd H a (.lst (sortedI xs kd))) { s' with heap := h3, toks := tk3 } := I2.take (t' := tk3) (fun b o _ e => e) (ma.fp na) ⟨by rw [l2]; exact hz, _, _, outV, n3⟩
      exact hq _ _ I3 (s0.trans (Same.new na)) upd_same ⟨H, s0, na, rfl⟩
/-- sorted(list, key = f) -/
def rSortK (K : PySem.W.Frag) (f : Addr) (sp : Sp) : List V → List V → Hp → VK → Prop := fun vs zs H Q => ∃ (l : Addr) (xs : List V) (kd : Nat → PyData), vs = [.ref l] ∧ zs = [.ref f] ∧ SqL K H l xs ∧ Keys K sp H xs kd ∧ AllAlike ((List.range xs.length).map kd) ∧ Sortable ((List.range xs.length).map kd) ∧
  ∀ H1 p, Same H H1 → H1 p = none → Q (.ref p) (upd H1 p (.lst (sortedI xs kd)))
theorem call_sortK (FF : FnOk X.prog X.w X.K X.mg X.base CX0 k f fd [px] sp) (hb : Binds X.K fd [px] []) (hr : Room (k + 2) X.A) : CallRK X (.builtin "sorted") [Str.ofString "key"] (rSortK X.K f sp) := by
  intro pins s σ H vs zs us ws Q I r1 r2 h
  obtain ⟨l, xs, kd, rfl, rfl, hl, KY, hal, hsk, hq⟩ := h
  obtain ⟨ul, rfl, rl⟩ : ∃ ul, us = [ul] ∧ RelV (.ref l) ul := by
    cases r1 with
    | cons p q =>
      cases q
      exact ⟨_, rfl, p⟩
  cases rl
  obtain ⟨uf, rfl, rf⟩ : ∃ uf, ws = [uf] ∧ RelV (.ref f) uf := by
    cases r2 with
    | cons p q =>
      cases q
      exact ⟨_, rfl, p⟩
  cases rf
  show wpAny (model X.prog X.w) X.A (call (.builtin "sorted") [.ref l] [(Str.ofString "key", .ref f)]) (EP X pins σ Q) X.xe s
  obtain ⟨its, rv, pl, hz⟩ := I.list hl
  have lv := rv.length
  have hzi : its.length ≤ sizeLine := by omega
  refine PySem.W.sorted_of_sort pl.isList hzi (ksk_s1 _ _) (fun _ => ksk_l1 _ _) fun E' => ?_
  rw [ksk_t1]
  unfold ksk_tree
  have at1 := PySem.W.copyHeap_at s.heap its
  obtain ⟨e1, at2⟩ : ∃ e1, ((PySem.W.copyHeap s.heap its).update (s.heap.objs.size + 1) (Obj.mapSeq fun _ => (#[] : Array Value))).get? (s.heap.objs.size + 1) = some (seqObj "list" #[] e1) := ⟨_, get?_update_seq at1 fun _ => #[]⟩
  refine wpAny_bind (listItems_at at1 rfl ?_)
  refine wpAny_bind (listUpdate_at at1 rfl ?_ (by rw [List.size_toArray]; exact hzi) (Nat.zero_le _))
  refine wpAny_bind (seqEpoch_at at2 rfl ?_)
  refine wpAny_bind (wpAny_newTuple ?_ (by show its.length ≤ _; exact hzi))
  refine wpAny_bind (wpAny_newList ?_ (Nat.zero_le _))
  refine wpAny_holding ?_
  have I1 : Inv X pins σ H { s with heap := PySem.W.sortingHeap (PySem.W.copyHeap s.heap its) (s.heap.objs.size + 1) its } := I.kept (t' := s.toks) fun b o e => PySem.W.sorting_copy_old e
  have na : H (s.heap.objs.size + 1) = none := I.hok.fresh (Nat.le_succ _)
  generalize hS : (((PySem.W.copyHeap s.heap its).update (s.heap.objs.size + 1) (Obj.mapSeq fun _ => (#[] : Array Value))).push { cls := .type "tuple", data := .seq its.toArray }).objs.size = kS
  have big : s.heap.objs.size + 1 < kS := by
    have h1 := Heap.lt_size at1
    rw [← hS, size_push', Heap.size_update]
    exact Nat.lt_succ_of_lt h1
  have nS : H kS = none := I.hok.fresh (by omega)
  have at_S : (PySem.W.sortingHeap (PySem.W.copyHeap s.heap its) (s.heap.objs.size + 1) its).get? kS = some (seqO #[] 0) := by
    rw [← hS]
    exact Heap.get?_push_size _ rfl
  have at_a : (PySem.W.sortingHeap (PySem.W.copyHeap s.heap its) (s.heap.objs.size + 1) its).get? (s.heap.objs.size + 1) = some (seqO #[] e1) := Heap.get?_push_of_some _ (Heap.get?_push_of_some _ at2)
  refine sk_rest (s := { s with heap := PySem.W.sortingHeap (PySem.W.copyHeap s.heap its) (s.heap.objs.size + 1) its }) FF hb hr KY hal hsk I1 rv hz (Mine.of I (Nat.le_succ _) na) (Mine.of I (Nat.le_of_lt (Nat.lt_of_succ_lt big)) nS) (Nat.ne_of_gt big) na nS at_a at_S fun s' H' I' _ _ ⟨H1, s1, n1, eH⟩ => ⟨rfl, ?_⟩
  rw [eH] at I'
  exact ⟨.ref (s.heap.objs.size + 1), _, I', rfl, hq H1 _ s1 n1⟩
/-- sorted(list of data) -/
def rSortD (K : PySem.W.Frag) : List V → Hp → VK → Prop := fun vs H Q => ∃ (l : Addr) (xs : List V) (kd : Nat → PyData), vs = [.ref l] ∧ SqL K H l xs ∧ (∀ (i : Nat) x, xs[i]? = some x → Dp K H x (kd i)) ∧ AllAlike ((List.range xs.length).map kd) ∧ Sortable ((List.range xs.length).map kd) ∧ (∀ i, i < xs.length → (kd i).depth ≤ 20) ∧
  ∀ p, H p = none → Q (.ref p) (upd H p (.lst (sortedI xs kd)))
theorem call_sortD (hu : X.A.units + 30 < cLine) : CallR X (.builtin "sorted") (rSortD X.K) := by
  intro pins s σ H vs us Q I r h
  obtain ⟨l, xs, kd, rfl, hl, hd, hal, hsk, hdp, hq⟩ := h
  obtain ⟨ul, rfl, rl⟩ := vals1 r
  cases rl
  obtain ⟨its, rv, pl, hz⟩ := I.list hl
  have lv := rv.length
  refine PySem.W.sorted_data (enc := kd) (bs := List.range xs.length) pl.isList (vals_each rv) (keys_read I rv (fun j y e => hd j y e) rfl |> PySem.W.each_of_map kd) hal hsk (by rw [List.length_range]; exact hz) (fun i m => ?_) fun out l2 eo => ?_
  · have := hdp i (List.mem_range.mp m)
    omega
  · obtain ⟨c, hc⟩ := sortedAll_at s.heap its out.toArray
    have na : H (s.heap.objs.size + 1) = none := I.hok.fresh (Nat.le_succ _)
    have l3 : (sortedI xs kd).length = xs.length := by
      unfold sortedI
      rw [List.length_map, List.length_mergeSort, List.length_range]
    have I2 : Inv X pins σ (upd H (s.heap.objs.size + 1) (.lst (sortedI xs kd))) { s with heap := sortedAll s.heap its out.toArray } := I.laid (t' := s.toks) (fun b o e => sortedAll_old e) (Nat.le_succ _) ⟨by rw [l3]; exact hz, _, _, each_vals eo, hc⟩
    exact ⟨.ref (s.heap.objs.size + 1), _, I2, rfl, hq _ na⟩
end
end SE
namespace SE
open PySem PySem.Spec PyProof.Rows L2
open PySem.W (alike alikeAll AllAlike Sortable dataLe)
/-! ### table -/
theorem sortedI_perm (xs : List V) (kd : Nat → PyData) : (sortedI xs kd).Perm xs := by
  unfold sortedI
  refine ((List.mergeSort_perm _ _).map _).trans (.of_eq ?_)
  refine List.ext_getElem? fun i => ?_
  rw [List.getElem?_map]
  by_cases h : i < xs.length
  · rw [List.getElem?_range h, List.getElem?_eq_getElem h]
    show some (xs.getD i .non) = _
    rw [List.getD_eq_getElem?_getD, List.getElem?_eq_getElem h]
    rfl
  · rw [List.getElem?_eq_none (by rw [List.length_range]; omega), List.getElem?_eq_none (by omega)]
    rfl
theorem paired_perm {α β : Type} {F : α → β → Prop} {us us' : List α} (p : us'.Perm us) : ∀ {es : List β}, Paired F us es → ∃ es', Paired F us' es' ∧ es'.Perm es := by
  induction p with
  | nil => exact fun h => by cases h; exact ⟨[], .nil, .nil⟩
  | cons x q ih =>
    intro es h
    cases h with
    | cons a t =>
      obtain ⟨es', h1, h2⟩ := ih t
      exact ⟨_ :: es', .cons a h1, h2.cons _⟩
  | swap x y l =>
    intro es h
    cases h with
    | cons a t =>
      cases t with
      | cons b t => exact ⟨_, .cons b (.cons a t), .swap _ _ _⟩
  | trans q1 q2 ih1 ih2 =>
    intro es h
    obtain ⟨e1, h1, h2⟩ := ih2 h
    obtain ⟨e2, h3, h4⟩ := ih1 h1
    exact ⟨e2, h3, h4.trans h2⟩
theorem perm_map {α β : Type} {f : α → β} {l : List β} {xs : List α} (p : l.Perm (xs.map f)) : ∃ ys : List α, l = ys.map f ∧ ys.Perm xs := by
  have h : Paired (fun b a => b = f a) (xs.map f) xs := by
    induction xs generalizing l with
    | nil => exact .nil
    | cons x xs ih => exact .cons rfl (ih (l := xs.map f) (.refl _))
  obtain ⟨ys, h1, h2⟩ := paired_perm p h
  refine ⟨ys, ?_, h2⟩
  clear h2 p h
  induction h1 with
  | nil => rfl
  | cons a t ih => rw [List.map_cons, ← ih, a]
def kdE (es : List Edge) (i : Nat) : PyData := .tuple [.int (es.getD i (0, some "", 0)).1, .str ((es.getD i (0, some "", 0)).2.1.getD ""), .int (es.getD i (0, some "", 0)).2.2]
theorem walk_keysF {κ : Type} [DecidableEq κ] {F : KF κ} {w : World} {d : Addr} {o : Obj} {rows : List (RowF κ)} : Walk (ItKF F w d o rows) rows.length (fun H => H d = some (.frz o (dF F w d rows))) (fun i H x H' => H' = H ∧ ∃ r, rows[i]? = some r ∧ x = .ref r.2.1) :=
  ⟨fun _ _ hi q => ⟨q, hi⟩, fun _ q => ⟨q, Nat.le_refl _⟩, fun _ _ _ _ _ _ y => y⟩
/-- the edges with an item, the targets of those without -/
def edgesM (R : SS) : List Edge := (R.costs.map (·.1)).filter fun e => decide (e.2.1 ≠ none)
def skipsM (R : SS) : List Nat := ((R.costs.map (·.1)).filter fun e => decide (e.2.1 = none)).map (·.2.2)
/-- the table at t -/
def TabAt (K : PySem.W.Frag) (H : Hp) (t : Addr) (r : SR) : Prop := ∃ (E S N : Addr) (us : List V) (es : List Edge) (ks : List Nat), SqT K H t [.ref E, .ref S, .ref N] ∧ H E = some (.lst us) ∧ Paired (fun u e => KE' K H e u) us es ∧ es.Perm (edgesM r.R) ∧ H S = some (.lst (ks.map natV)) ∧ ks.Perm (skipsM r.R) ∧ H N = some (.lst [natV r.fin])
section
variable {P : Program} {w : World} {K : PySem.W.Frag} {mg : Str → Option Value} {base : Heap} {Z : Addr}
def spTb (K : PySem.W.Frag) (w : World) (Z : Addr) : Sp := fun vs H Q _ => ∃ (S : Addr) (r : SR), vs = [.ref S] ∧ SeaF K w Z S r H ∧ r.R.costs.length ≤ capA ∧ ∀ t H', Same H H' → TabAt K H' t r → Q (.ref t) H'
abbrev nTb : List Str := ["self", "edges", "skips", "edge"]
theorem scTb : FnScope nTb ["self"] (defScope sSeTable) := ⟨rfl, rfl, rfl, by decide +kernel, rfl, by decide +kernel, by decide +kernel⟩
theorem ok_tb {f : Addr} {fd : FuncData} (F : Fun K "table" "Search.table" sSeTable f fd) (T : TSea K Z) (ms : mg "sorted" = none) : FnOk P w K mg base CX0 1 f fd ["self"] (spTb K w Z) := by
  refine F.ok scTb (fun vs H Q E h => ?_) (fun cdv A out s H vs Q E hr h => ?_)
  · obtain ⟨S, _, rfl, _⟩ := h
    rfl
  · obtain ⟨S, r, rfl, ⟨Ad, ba, ρ, hS⟩, lc, k⟩ := h
    refine ⟨_, (Evl.pss_cut (ps_lock (ps_setLc (i := 1) (own := [("edge", 3)]) (g := gName 3) (tt := tTest (tOp (fun x y H Q => y = V.non ∧ Q (V.bl !decide (x = V.non)) H) (tOp (rIxT K) (tVar 3) (tC (.int 1))) (tC .non))) (te := tVar 3) rfl scTb.nd rfl rfl (sw_true rfl rfl rfl (by decide +kernel)) (pi_keysF (F := edgeF) (pe_fld (pv 0) rfl)) (blkOk_by (own := [("edge", 3)]) (N := nTb) (sc := defScope sSeTable) (by decide +kernel)) (fun _ _ _ _ _ => (pg_name (i := 3) scTb.nd rfl (.inl rfl))) (fun _ _ _ _ _ => (pts_one (pt_cmpR op_notN (pe_ix ix_tup (pv 3) pe_int (fun _ _ => rfl)) pe_non (nomark _)))) (fun _ _ _ _ _ => (pv 3))))
      (Evl.pss_cut (ps_lock (ps_setLc (i := 2) (own := [("edge", 3)]) (g := gName 3) (tt := tTest (tOp (fun x y H Q => y = V.non ∧ Q (V.bl (decide (x = V.non))) H) (tOp (rIxT K) (tVar 3) (tC (.int 1))) (tC .non))) (te := tOp (rIxT K) (tVar 3) (tC (.int 2))) rfl scTb.nd rfl rfl (sw_true rfl rfl rfl (by decide +kernel)) (pi_keysF (F := edgeF) (pe_fld (pv 0) rfl)) (blkOk_by (own := [("edge", 3)]) (N := nTb) (sc := defScope sSeTable) (by decide +kernel)) (fun _ _ _ _ _ => (pg_name (i := 3) scTb.nd rfl (.inl rfl))) (fun _ _ _ _ _ => (pts_one (pt_cmpR op_isN (pe_ix ix_tup (pv 3) pe_int (fun _ _ => rfl)) pe_non (nomark _)))) (fun _ _ _ _ _ => (pe_ix ix_tup (pv 3) pe_int (fun _ _ => rfl)))))
      (pss_one (ps_ret (pe_tup (pa_cons (pe_callB (call_sortD (by have := hr.units; show (A.deeper _).units + 30 < cLine; omega)) (by rfl) ms (by decide +kernel) (pa_cons (pv 1) pa_nil)) (pa_cons (pe_callB (call_sortD (by have := hr.units; show (A.deeper _).units + 30 < cLine; omega)) (by rfl) ms (by decide +kernel) (pa_cons (pv 2) pa_nil)) (pa_cons (pe_lst (pa_cons (pe_fld (pv 0) rfl) pa_nil)) pa_nil)))))))), ?_⟩
    obtain ⟨dx, hme⟩ := hS.me
    have back : ∀ (rows : List (RowF Edge)) (od : Obj) (HX : Hp), H Ad.co = some (dF edgeF w Ad.co rows) → Same (upd H Ad.co (.frz od (dF edgeF w Ad.co rows))) HX → Same H (upd HX Ad.co (dF edgeF w Ad.co rows)) := fun rows od HX g s b o e => by
      by_cases c : b = Ad.co
      · rw [c, upd_same]
        rw [c, g] at e
        exact e
      · rw [upd_ne c]
        exact s b o (by rw [upd_ne c]; exact e)
    refine ⟨fun σ H1 => ∃ (E : Addr) (us : List V) (y3 : Option V), σ = [some (.ref S), some (.ref E), none, y3] ∧ Same H H1 ∧ H1 E = some (.lst us) ∧ Paired (fun u e => KE' K H1 e u) us (edgesM r.R), ?_, ?_⟩
    · obtain ⟨rows, g1, g2, g3⟩ := hS.co
      refine ⟨Ad.co, _, g1, True.intro, fun od => ?_⟩
      have hmd : upd H Ad.co (.frz od (dF edgeF w Ad.co rows)) S = some (.ins Z dx (seF Ad r.R.states (.full r.fin ba r.c.bases))) := by
        rw [upd_ne (fun e => by rw [e, g1] at hme; cases hme)]
        exact hme
      refine ⟨_, rfl, S, Z, dx, _, _, rfl, hmd, T.cl, T.nCo, rfl, Ad.co, od, rows, rfl, upd_same, fun D hD => ?_⟩
      have lr := DV.len (val := fun _ n v => v = natV n) g3
      refine lc_it walk_keysF (fun j HX => ∃ us : List V, HX D = some (.lst us) ∧ us.length ≤ j ∧ Paired (fun u e => KE' K H e u) us (((r.R.costs.take j).map (·.1)).filter fun e => decide (e.2.1 ≠ none)) ∧ Same (upd H Ad.co (.frz od (dF edgeF w Ad.co rows))) HX) ⟨[], upd_same, Nat.le_refl _, .nil, Same.new hD⟩ (fun j HX _ q => ?_) ?_ ?_
      · obtain ⟨_, _, _, _, q⟩ := q
        exact q _ _ upd_same
      · rintro j x HX HY hj ⟨us, hus, lus, pus, sX⟩ ⟨rfl, rr, hrr, rfl⟩
        obtain ⟨p, hp, ep, _⟩ := paired_at g3 hrr
        have kt := g2.keys rr (List.mem_of_getElem? hrr)
        rw [ep] at kt
        have kX : SqT K HY rr.2.1 (edgeF.vs p.1) := Same.tup sX (dF_tup g1 _ _ kt)
        have et : (((r.R.costs.take (j + 1)).map (·.1)).filter fun e => decide (e.2.1 ≠ none)) = (((r.R.costs.take j).map (·.1)).filter fun e => decide (e.2.1 ≠ none)) ++ (if p.1.2.1 ≠ none then [p.1] else []) := by
          rw [List.take_add_one, hp, Option.toList_some, List.map_append, List.filter_append]
          congr 1
          by_cases c : p.1.2.1 = none <;> simp [c]
        rw [et]
        refine ⟨rfl, _, rfl, rr.2.1, _, 1, optV p.1.2.1, rfl, rfl, kX, rfl, rfl, _, rfl, ?_⟩
        cases c : p.1.2.1 with
        | none =>
          refine iteF ?_
          rw [if_neg (fun z => z rfl), List.append_nil]
          exact ⟨us, hus, by omega, pus, sX⟩
        | some z =>
          rw [show (if (some z : Option Str) ≠ none then [p.1] else ([] : List Edge)) = [p.1] from if_pos (by simp)]
          refine iteT ⟨_, rfl, us, hus, by rw [sizeLine_eq]; have := lc; have : capA = 4000 := rfl; omega, us ++ [.ref rr.2.1], upd_same, by rw [List.length_append]; show us.length + 1 ≤ j + 1; omega, Paired.snoc2 pus ⟨_, rfl, kt⟩, Same.free2 sX hD⟩
      rintro HX ⟨us, hus, lus, pus, sX⟩
      rw [lr, List.take_length] at pus
      have sb := back rows od HX g1 sX
      refine ⟨sX _ _ upd_same, D, us, _, rfl, sb, ?_, Paired.mapP pus fun _ _ => KE'.mv fun _ _ => Same.tup sb⟩
      rw [upd_ne (fun e => by rw [e, sX _ _ upd_same] at hus; cases hus)]
      exact hus
    rintro σ H1 ⟨E1, us1, y3, rfl, s1, hE1, pE1⟩
    refine ⟨fun σ H2 => ∃ (E2 : Addr) (y3 : Option V), σ = [some (.ref S), some (.ref E1), some (.ref E2), y3] ∧ Same H1 H2 ∧ H2 E2 = some (.lst ((skipsM r.R).map natV)), ?_, ?_⟩
    · have hS1 := hS.same s1
      obtain ⟨rows, g1, g2, g3⟩ := hS1.co
      refine ⟨Ad.co, _, g1, True.intro, fun od => ?_⟩
      have hmd : upd H1 Ad.co (.frz od (dF edgeF w Ad.co rows)) S = some (.ins Z dx (seF Ad r.R.states (.full r.fin ba r.c.bases))) := by
        rw [upd_ne (fun e => by rw [e] at hme; rw [s1 _ _ hme] at g1; cases g1)]
        exact s1 _ _ hme
      refine ⟨_, rfl, S, Z, dx, _, _, rfl, hmd, T.cl, T.nCo, rfl, Ad.co, od, rows, rfl, upd_same, fun D hD => ?_⟩
      have lr := DV.len (val := fun _ n v => v = natV n) g3
      refine lc_it walk_keysF (fun j HX => ∃ ks : List Nat, HX D = some (.lst (ks.map natV)) ∧ ks.length ≤ j ∧ ks = (((r.R.costs.take j).map (·.1)).filter fun e => decide (e.2.1 = none)).map (·.2.2) ∧ Same (upd H1 Ad.co (.frz od (dF edgeF w Ad.co rows))) HX) ⟨[], upd_same, Nat.le_refl _, rfl, Same.new hD⟩ (fun j HX _ q => ?_) ?_ ?_
      · obtain ⟨_, _, _, _, q⟩ := q
        exact q _ _ upd_same
      · rintro j x HX HY hj ⟨ks, hus, lus, pus, sX⟩ ⟨rfl, rr, hrr, rfl⟩
        obtain ⟨p, hp, ep, _⟩ := paired_at g3 hrr
        have kt := g2.keys rr (List.mem_of_getElem? hrr)
        rw [ep] at kt
        have kX : SqT K HY rr.2.1 (edgeF.vs p.1) := Same.tup sX (dF_tup g1 _ _ kt)
        have et : (((r.R.costs.take (j + 1)).map (·.1)).filter fun e => decide (e.2.1 = none)).map (·.2.2) = ks ++ (if p.1.2.1 = none then [p.1.2.2] else []) := by
          rw [List.take_add_one, hp, Option.toList_some, List.map_append, List.filter_append, List.map_append, ← pus]
          congr 1
          by_cases c : p.1.2.1 = none <;> simp [c]
        rw [et]
        refine ⟨rfl, _, rfl, rr.2.1, _, 1, optV p.1.2.1, rfl, rfl, kX, rfl, rfl, _, rfl, ?_⟩
        cases c : p.1.2.1 with
        | some z =>
          refine iteF ?_
          rw [if_neg (fun z => by cases z), List.append_nil]
          exact ⟨ks, hus, by omega, rfl, sX⟩
        | none =>
          rw [show (if (none : Option Str) = none then [p.1.2.2] else ([] : List Nat)) = [p.1.2.2] from if_pos rfl]
          refine iteT ⟨_, rfl, rr.2.1, _, 2, natV p.1.2.2, rfl, rfl, kX, rfl, ks.map natV, hus, by rw [List.length_map, sizeLine_eq]; have := lc; have : capA = 4000 := rfl; omega, ks ++ [p.1.2.2], by rw [upd_same, List.map_append]; rfl, by rw [List.length_append]; show ks.length + 1 ≤ j + 1; omega, rfl, Same.free2 sX hD⟩
      rintro HX ⟨ks, hus, lus, pus, sX⟩
      rw [lr, List.take_length] at pus
      have sb : Same H1 (upd HX Ad.co (dF edgeF w Ad.co rows)) := fun b o e => by
        by_cases c : b = Ad.co
        · rw [c, upd_same]
          rw [c, g1] at e
          exact e
        · rw [upd_ne c]
          exact sX b o (by rw [upd_ne c]; exact e)
      refine ⟨sX _ _ upd_same, D, _, rfl, sb, ?_⟩
      rw [upd_ne (fun e => by rw [e, sX _ _ upd_same] at hus; cases hus), hus, pus]
      rfl
    rintro σ H2 ⟨E2, y3, rfl, s2, hE2⟩
    have s12 := s1.trans s2
    have cv : capA = 4000 := rfl
    have le1 : us1.length = (edgesM r.R).length := Paired.length pE1
    refine ⟨_, rfl, E1, us1, kdE (edgesM r.R), rfl, .of (s2 _ _ hE1), fun i x hx => ?_, AllAlike.of fun _ _ => rfl, Sortable.tuples fun _ => ⟨_, _, rfl⟩, fun i _ => (by show 1 ≤ 20; decide), fun p1 hp1 => ?_⟩
    · obtain ⟨e, he, b, rfl, hb⟩ := paired_at pE1 hx
      have hb := Same.tup s2 hb
      have m := (List.mem_filter.mp (show e ∈ (r.R.costs.map (·.1)).filter fun e => decide (e.2.1 ≠ none) from List.mem_of_getElem? he)).2
      unfold kdE
      rw [List.getD_eq_getElem?_getD, he]
      obtain ⟨e1, e2, e3⟩ := e
      cases e2 with
      | none => simp at m
      | some z => exact .tup hb (.cons (.int _) (.cons (.str _) (.cons (.int _) .nil)))
    have sp1 := Same.new (o := .lst (sortedI us1 (kdE (edgesM r.R)))) hp1
    refine ⟨_, rfl, E2, _, fun i => .int (((skipsM r.R).getD i 0 : Nat) : Int), rfl, .of (sp1 _ _ hE2), fun i x hx => ?_, AllAlike.of fun _ _ => rfl, Sortable.others fun b => ⟨fun e => (by cases e), fun xs e => (by cases e)⟩, fun i _ => (by show 0 ≤ 20; decide), fun p2 hp2 => ?_⟩
    · rw [List.getElem?_map] at hx
      obtain ⟨q, hq, rfl⟩ := Option.map_eq_some_iff.mp hx
      dsimp only
      rw [List.getD_eq_getElem?_getD, hq]
      exact .int _
    have sp2 := Same.new (o := .lst (sortedI ((skipsM r.R).map natV) fun i => .int (((skipsM r.R).getD i 0 : Nat) : Int))) hp2
    have sq := (s12.trans sp1).trans sp2
    refine ⟨_, rfl, S, Z, dx, _, _, rfl, sq _ _ hme, T.cl, T.nEn, rfl, by show 1 ≤ sizeLine; decide, fun p3 hp3 => ⟨by show 3 ≤ sizeLine; decide, fun t ht => ?_⟩⟩
    have sp3 := Same.new (o := .lst [natV r.fin]) hp3
    have st := Same.new (o := .tup [.ref p1, .ref p2, .ref p3]) ht
    have sA := (sq.trans sp3).trans st
    obtain ⟨es', h1, h2⟩ := paired_perm (sortedI_perm us1 (kdE (edgesM r.R))) pE1
    obtain ⟨ks, h3, h4⟩ := perm_map (sortedI_perm ((skipsM r.R).map natV) fun i => .int (((skipsM r.R).getD i 0 : Nat) : Int))
    exact k t _ sA ⟨p1, p2, p3, _, es', ks, .of upd_same, st _ _ (sp3 _ _ (sp2 _ _ upd_same)), Paired.mapP h1 fun _ _ => KE'.mv fun _ _ => Same.tup (((s2.trans sp1).trans sp2).trans (sp3.trans st)), h2, by rw [← h3]; exact st _ _ (sp3 _ _ upd_same), h4, st _ _ upd_same⟩
end
end SE
/-! Plain data in which empty dicts may stand: its kinds, ==, in, and repr of every kind. -/
namespace SE
open PySem PySem.Spec PyProof.Rows L2
mutual
inductive DpX (K : PySem.W.Frag) (H : Hp) : V → PyData → Prop
  | non : DpX K H .non .none
  | bl (b : Bool) : DpX K H (.bl b) (.bool b)
  | int (i : Int) : DpX K H (.int i) (.int i)
  | str (x : Str) : DpX K H (.str x) (.str x)
  | lst {a : Addr} {xs : List V} {ds : List PyData} : SqL K H a xs → DpXs K H xs ds → DpX K H (.ref a) (.list ds)
  | tup {a : Addr} {xs : List V} {ds : List PyData} : SqT K H a xs → DpXs K H xs ds → DpX K H (.ref a) (.tuple ds)
  | emp {a : Addr} : H a = some (.dK []) → DpX K H (.ref a) (.dict [])
inductive DpXs (K : PySem.W.Frag) (H : Hp) : List V → List PyData → Prop
  | nil : DpXs K H [] []
  | cons {v : V} {vs : List V} {d : PyData} {ds : List PyData} : DpX K H v d → DpXs K H vs ds → DpXs K H (v :: vs) (d :: ds)
end
section
variable {K : PySem.W.Frag} {H H' : Hp}
mutual
theorem DpX.same (s : Same H H') : ∀ (d : PyData) (v : V), DpX K H v d → DpX K H' v d
  | .none, _, h => by cases h; exact .non
  | .bool b, _, h => by cases h; exact .bl b
  | .int i, _, h => by cases h; exact .int i
  | .str x, _, h => by cases h; exact .str x
  | .list ds, _, h => by
    cases h with
    | lst a b => exact .lst (Same.seq s a) (DpXs.same s ds _ b)
  | .tuple ds, _, h => by
    cases h with
    | tup a b => exact .tup (Same.tup s a) (DpXs.same s ds _ b)
  | .dict kvs, _, h => by
    cases h with
    | emp a => exact .emp (s _ _ a)
theorem DpXs.same (s : Same H H') : ∀ (ds : List PyData) (vs : List V), DpXs K H vs ds → DpXs K H' vs ds
  | [], _, h => by cases h; exact .nil
  | d :: ds, _, h => by
    cases h with
    | cons a b => exact .cons (DpX.same s d _ a) (DpXs.same s ds _ b)
end
theorem DpXs.at : ∀ {vs : List V} {ds : List PyData} {i : Nat} {v : V}, DpXs K H vs ds → vs[i]? = some v → ∃ d, ds[i]? = some d ∧ DpX K H v d
  | _, _, 0, v, .cons a b, h => by cases h; exact ⟨_, rfl, a⟩
  | _, _, i + 1, v, .cons a b, h => by
    obtain ⟨d, h1, h2⟩ := DpXs.at b h
    exact ⟨d, h1, h2⟩
theorem DpXs.len : ∀ {vs : List V} {ds : List PyData}, DpXs K H vs ds → vs.length = ds.length
  | _, _, .nil => rfl
  | _, _, .cons a b => by rw [List.length_cons, List.length_cons, DpXs.len b]
end
section
variable {X : Cx} {pins : List (Addr × Obj)} {σ : L2.St} {H : Hp} {s : Shared}
theorem emp_obj (I : Inv X pins σ H s) {a : Addr} (e : H a = some (.dK [])) : (a == sysModules) = false ∧ ∃ o n, s.heap.get? a = some o ∧ o.cls = .type "dict" ∧ o.data = .dict #[] n := by
  obtain ⟨_, hd, vs, rel, o, es, ep, h1, h2, h3, h4, h5, h6⟩ := dk_of I.hok e
  cases rel
  have : es = #[] := by
    have q : es.toList = [] := by
      cases hq : es.toList with
      | nil => rfl
      | cons x r => rw [hq] at h5; cases h5
    exact Array.toList_eq_nil_iff.mp q
  subst this
  exact ⟨hd, o, ep, h1, h2.1, h3⟩
mutual
theorem DpX.reads (I : Inv X pins σ H s) : ∀ (d : PyData) (v : V) (u : Value), DpX X.K H v d → RelV v u → ∃ as, Reads s.heap u d as
  | .none, _, _, h, r => by
    cases h
    cases r
    exact ⟨_, Reads.none⟩
  | .bool b, _, _, h, r => by
    cases h
    cases r
    exact ⟨_, Reads.bool b⟩
  | .int i, _, _, h, r => by
    cases h
    obtain ⟨t, rfl⟩ := r
    exact ⟨_, Reads.int i t⟩
  | .str x, _, _, h, r => by
    cases h
    obtain ⟨t, rfl⟩ := r
    exact ⟨_, Reads.str x t⟩
  | .list ds, _, _, h, r => by
    cases h with
    | lst hs ha =>
      cases r
      obtain ⟨its, rv, ⟨o, n, ho, hc, _, hd⟩, _⟩ := I.list hs
      obtain ⟨as, hr⟩ := DpXs.reads I ds _ its ha rv
      exact ⟨_, Reads.list ho hc hd hr⟩
  | .tuple ds, _, _, h, r => by
    cases h with
    | tup hs ha =>
      cases r
      obtain ⟨its, rv, ⟨o, ho, hc, n, hd⟩, _⟩ := I.tuple hs
      obtain ⟨as, hr⟩ := DpXs.reads I ds _ its ha rv
      exact ⟨_, Reads.tuple ho hc hd hr⟩
  | .dict _, _, _, h, r => by
    cases h with
    | emp e =>
      cases r
      obtain ⟨_, o, n, h1, h2, h3⟩ := emp_obj I e
      exact ⟨_, Reads.dict (kvs := []) h1 h2 h3 .nil .nil⟩
theorem DpXs.reads (I : Inv X pins σ H s) : ∀ (ds : List PyData) (vs : List V) (us : List Value), DpXs X.K H vs ds → Vals vs us → ∃ as, ReadsAll s.heap us ds as
  | [], _, _, h, r => by
    cases h
    cases r
    exact ⟨_, ReadsAll.nil⟩
  | d :: ds, _, _, h, r => by
    cases h with
    | cons h1 h2 =>
      cases r with
      | cons r1 r2 =>
        obtain ⟨as, q1⟩ := DpX.reads I d _ _ h1 r1
        obtain ⟨bs, q2⟩ := DpXs.reads I ds _ _ h2 r2
        exact ⟨_, ReadsAll.cons q1 q2⟩
end
mutual
theorem DpX.reprK (I : Inv X pins σ H s) : ∀ (d : PyData) (v : V) (u : Value), DpX X.K H v d → RelV v u → d.showable = true → d.shown.length ≤ sizeLine → ∃ bs, ReadAtMost s.heap d.depth bs ∧ ReprK X.prog X.w bs s.heap d.depth u d.shown
  | .none, _, _, h, r, _, _ => by
    cases h
    cases r
    exact ⟨[], (fun _ h => nomatch h), by simp only [PyData.shown]; exact .of_is ReprIs.none _ _ _⟩
  | .bool b, _, _, h, r, _, _ => by
    cases h
    cases r
    exact ⟨[], (fun _ h => nomatch h), by simp only [PyData.shown]; exact .of_is (ReprIs.bool b) _ _ _⟩
  | .int i, _, _, h, r, hs, _ => by
    cases h
    obtain ⟨t, rfl⟩ := r
    exact ⟨[], (fun _ h => nomatch h), by simp only [PyData.shown]; exact .of_is (ReprIs.int t (by simpa [PyData.showable] using hs)) _ _ _⟩
  | .str x, _, _, h, r, _, hz => by
    cases h
    obtain ⟨t, rfl⟩ := r
    exact ⟨[], (fun _ h => nomatch h), by simp only [PyData.shown]; exact .of_is (ReprIs.str x t (by simpa only [PyData.shown] using hz)) _ _ _⟩
  | .list ds, _, _, h, r, hs, hz => by
    cases h with
    | @lst a xs _ hs' ha =>
      cases r
      obtain ⟨its, rv, ⟨o, n, ho, hc, _, hd⟩, _⟩ := I.list hs'
      obtain ⟨as, hr⟩ := DpXs.reads I ds _ its ha rv
      have hz' : (listText (PyData.shownAll ds)).length ≤ sizeLine := by simpa only [PyData.shown] using hz
      obtain ⟨bs, hb, hk⟩ := DpXs.reprK I ds _ its ha rv (by simpa [PyData.showable] using hs) (fun t ht => Nat.le_trans (listText_mem_le ht) hz')
      have rr : Reads s.heap (.ref a) (.list ds) _ := .list ho hc hd hr
      have hna : a ∉ bs := not_mem_of_deeper rr (by simp only [PyData.depth]; omega) hb
      refine ⟨a :: bs, ReadAtMost.cons rr (by simp only [PyData.depth]; omega) hb, ?_⟩
      simp only [PyData.depth, PyData.shown]
      cases its with
      | nil =>
        cases hr
        simp only [PyData.shownAll, listText_nil]
        exact ReprK.listEmpty ho hc hd
      | cons x l => exact ReprK.list ho hc hd hna (by simpa using hk.length_eq) (fun i y e => hk.item i y (by simpa using e))
  | .tuple ds, _, _, h, r, hs, hz => by
    cases h with
    | @tup a xs _ hs' ha =>
      cases r
      obtain ⟨its, rv, ⟨o, ho, hc, n, hd⟩, _⟩ := I.tuple hs'
      obtain ⟨as, hr⟩ := DpXs.reads I ds _ its ha rv
      have hz' : (tupleText (PyData.shownAll ds)).length ≤ sizeLine := by simpa only [PyData.shown] using hz
      obtain ⟨bs, hb, hk⟩ := DpXs.reprK I ds _ its ha rv (by simpa [PyData.showable] using hs) (fun t ht => Nat.le_trans (tupleText_mem_le ht) hz')
      have rr : Reads s.heap (.ref a) (.tuple ds) _ := .tuple ho hc hd hr
      have hna : a ∉ bs := not_mem_of_deeper rr (by simp only [PyData.depth]; omega) hb
      refine ⟨a :: bs, ReadAtMost.cons rr (by simp only [PyData.depth]; omega) hb, ?_⟩
      simp only [PyData.depth, PyData.shown]
      exact ReprK.tuple ho hc hd hna hk
  | .dict _, _, _, h, r, _, hz => by
    cases h with
    | @emp a e =>
      cases r
      obtain ⟨hsys, o, n, h1, h2, h3⟩ := emp_obj I e
      have rr : Reads s.heap (.ref a) (.dict []) _ := .dict (kvs := []) h1 h2 h3 .nil .nil
      have h0 : ReadAtMost s.heap 0 [] := fun _ h => nomatch h
      refine ⟨[a], ReadAtMost.cons rr (by simp only [PyData.depth]; omega) h0, ?_⟩
      simp only [PyData.depth, PyData.shown, PyData.depthKv, PyData.shownKv]
      exact ReprK.dict h1 h2 h3 hsys (by simp) .nil
theorem DpXs.reprK (I : Inv X pins σ H s) : ∀ (ds : List PyData) (vs : List V) (us : List Value), DpXs X.K H vs ds → Vals vs us → PyData.showableAll ds = true → (∀ t ∈ PyData.shownAll ds, t.length ≤ sizeLine) →
    ∃ bs, ReadAtMost s.heap (PyData.depthAll ds) bs ∧ ReprAllK X.prog X.w bs s.heap (PyData.depthAll ds) us (PyData.shownAll ds)
  | [], _, _, h, r, _, _ => by
    cases h
    cases r
    exact ⟨[], (fun _ h => nomatch h), by simp only [PyData.shownAll]; exact .nil⟩
  | d :: ds, _, _, h, r, hs, hz => by
    cases h with
    | cons h1 h2 =>
      cases r with
      | cons r1 r2 =>
        have hs' : d.showable = true ∧ PyData.showableAll ds = true := by simpa [PyData.showableAll] using hs
        obtain ⟨b1, hb1, k1⟩ := DpX.reprK I d _ _ h1 r1 hs'.1 (hz _ (by simp only [PyData.shownAll]; exact List.mem_cons_self ..))
        obtain ⟨b2, hb2, k2⟩ := DpXs.reprK I ds _ _ h2 r2 hs'.2 (fun t ht => hz t (by simp only [PyData.shownAll]; exact List.mem_cons_of_mem _ ht))
        refine ⟨b1 ++ b2, ?_, ?_⟩
        · intro b hm
          simp only [PyData.depthAll]
          rcases List.mem_append.mp hm with hm | hm
          · obtain ⟨d', as', r', hd'⟩ := hb1 b hm
            exact ⟨d', as', r', Nat.le_trans hd' (Nat.le_max_left _ _)⟩
          · obtain ⟨d', as', r', hd'⟩ := hb2 b hm
            exact ⟨d', as', r', Nat.le_trans hd' (Nat.le_max_right _ _)⟩
        · simp only [PyData.depthAll, PyData.shownAll]
          exact .cons ((k1.more fun b hb => List.mem_append_left _ hb).level_le (Nat.le_max_left _ _)) (k2.more_le (fun b hb => List.mem_append_right _ hb) (Nat.le_max_right _ _))
end
end
section
variable {X : Cx}
def rEqX (K : PySem.W.Frag) : R2 := fun x y H Q => ∃ d e, DpX K H x d ∧ DpX K H y e ∧ SeqAt.shaped d = true ∧ SeqAt.shaped e = true ∧ Q (.bl (PyData.eqv d e)) H
def rNeX (K : PySem.W.Frag) : R2 := fun x y H Q => ∃ d e, DpX K H x d ∧ DpX K H y e ∧ SeqAt.shaped d = true ∧ SeqAt.shaped e = true ∧ Q (.bl (!PyData.eqv d e)) H
def rInX (K : PySem.W.Frag) : R2 := fun x y H Q => ∃ d ds, DpX K H x d ∧ DpX K H y (.list ds) ∧ SeqAt.shaped d = true ∧ SeqAt.shaped (.list ds) = true ∧ Q (.bl (ds.any fun z => PyData.eqv z d)) H
theorem op_eqX (hu : X.A.units + 64 < cLine) : OpR X (compareOp .Eq) (rEqX X.K) := by
  intro pins s σ H x y v u Q I rx ry h
  obtain ⟨d, e, hd, he, sd, se, q⟩ := h
  obtain ⟨as, r1⟩ := DpX.reads I d x v hd rx
  obtain ⟨bs, r2⟩ := DpX.reads I e y u he ry
  exact SeqAt.compareEq_shaped r1 r2 sd se hu ⟨.bl _, H, I, rfl, q⟩
theorem op_neX (hu : X.A.units + 64 < cLine) : OpR X (compareOp .NotEq) (rNeX X.K) := by
  intro pins s σ H x y v u Q I rx ry h
  obtain ⟨d, e, hd, he, sd, se, q⟩ := h
  obtain ⟨as, r1⟩ := DpX.reads I d x v hd rx
  obtain ⟨bs, r2⟩ := DpX.reads I e y u he ry
  exact SeqAt.compareNe_shaped r1 r2 sd se hu ⟨.bl _, H, I, rfl, q⟩
theorem op_inX (hu : X.A.units + 65 < cLine) : OpR X (compareOp .In) (rInX X.K) := by
  intro pins s σ H x y v u Q I rx ry h
  obtain ⟨d, ds, hd, he, sd, se, q⟩ := h
  obtain ⟨as, r1⟩ := DpX.reads I d x v hd rx
  obtain ⟨bs, r2⟩ := DpX.reads I (.list ds) y u he ry
  exact SeqAt.in_list_reads r2 r1 (SeqAt.canLay_of_shaped se) (SeqAt.canLay_of_shaped sd) (room_in_shaped sd hu) ⟨.bl _, H, I, rfl, q⟩
/-- the kind of such data -/
def tyD : PyData → String
  | .none => "NoneType"
  | .bool _ => "bool"
  | .int _ => "int"
  | .str _ => "str"
  | .list _ => "list"
  | .tuple _ => "tuple"
  | .dict _ => "dict"
theorem DpX.ty {K : PySem.W.Frag} {H : Hp} {v : V} {d : PyData} (h : DpX K H v d) : TyX K H v (.type (tyD d)) := by
  cases h with
  | non => exact .base .non
  | bl b => exact .base (.bl b)
  | int i => exact .base (.int i)
  | str x => exact .base (.str x)
  | lst h _ =>
    rcases h with (h | ⟨o, h⟩) | ⟨o, its, n, h1, h2, _⟩
    · exact .base (.lst h)
    · exact .base (.frz h)
    · exact .kList h1 h2
  | tup h _ =>
    rcases h with (h | ⟨o, h⟩) | ⟨o, its, n, h1, h2, _⟩
    · exact .base (.tup h)
    · exact .fTuple h
    · exact .kTuple h1 h2
  | emp h => exact .base (.dK h)
def isStr : PyData → Bool
  | .str _ => true
  | _ => false
def isTup : PyData → Bool
  | .tuple _ => true
  | _ => false
def isLst : PyData → Bool
  | .list _ => true
  | _ => false
theorem kit_str {K : PySem.W.Frag} : ∀ d : PyData, PySem.W.kitOne K (.type (tyD d)) (.type "str") = some (isStr d)
  | .none => kit_ty (show kitB "NoneType" "str" = some false by decide +kernel)
  | .bool _ => kit_ty (show kitB "bool" "str" = some false by decide +kernel)
  | .int _ => kit_ty (show kitB "int" "str" = some false by decide +kernel)
  | .str _ => kit_ty (show kitB "str" "str" = some true by decide +kernel)
  | .list _ => kit_ty (show kitB "list" "str" = some false by decide +kernel)
  | .tuple _ => kit_ty (show kitB "tuple" "str" = some false by decide +kernel)
  | .dict _ => kit_ty (show kitB "dict" "str" = some false by decide +kernel)
theorem kit_tup {K : PySem.W.Frag} : ∀ d : PyData, PySem.W.kitOne K (.type (tyD d)) (.type "tuple") = some (isTup d)
  | .none => kit_ty (show kitB "NoneType" "tuple" = some false by decide +kernel)
  | .bool _ => kit_ty (show kitB "bool" "tuple" = some false by decide +kernel)
  | .int _ => kit_ty (show kitB "int" "tuple" = some false by decide +kernel)
  | .str _ => kit_ty (show kitB "str" "tuple" = some false by decide +kernel)
  | .list _ => kit_ty (show kitB "list" "tuple" = some false by decide +kernel)
  | .tuple _ => kit_ty (show kitB "tuple" "tuple" = some true by decide +kernel)
  | .dict _ => kit_ty (show kitB "dict" "tuple" = some false by decide +kernel)
theorem kit_lst {K : PySem.W.Frag} : ∀ d : PyData, PySem.W.kitOne K (.type (tyD d)) (.type "list") = some (isLst d)
  | .none => kit_ty (show kitB "NoneType" "list" = some false by decide +kernel)
  | .bool _ => kit_ty (show kitB "bool" "list" = some false by decide +kernel)
  | .int _ => kit_ty (show kitB "int" "list" = some false by decide +kernel)
  | .str _ => kit_ty (show kitB "str" "list" = some false by decide +kernel)
  | .list _ => kit_ty (show kitB "list" "list" = some true by decide +kernel)
  | .tuple _ => kit_ty (show kitB "tuple" "list" = some false by decide +kernel)
  | .dict _ => kit_ty (show kitB "dict" "list" = some false by decide +kernel)
/-- repr(x), x such data of any kind -/
def rRepX (K : PySem.W.Frag) : List V → Hp → VK → Prop := fun xs H Q => ∃ (x : V) (d : PyData), xs = [x] ∧ DpX K H x d ∧ d.showable = true ∧ d.depth ≤ 20 ∧ d.shown.length ≤ sizeLine ∧ Q (.str d.shown) H
theorem call_repX (hgu : X.A.guards = some []) (hu : X.A.units + 64 < cLine) : CallR X (.builtin "repr") (rRepX X.K) := by
  intro pins s σ H xs us Q I r h
  obtain ⟨x, d, rfl, hd, hs, hdep, hz, q⟩ := h
  cases r with
  | cons r1 r2 =>
    cases r2
    rename_i u
    cases hd with
    | non =>
      cases r1
      simp only [PyData.shown] at q
      exact PySem.P.repr_of_none ⟨.str _, H, I.tok _, ⟨_, rfl⟩, q⟩
    | bl b =>
      cases r1
      simp only [PyData.shown] at q
      exact PySem.P.repr_of_bool ⟨.str _, H, I.tok _, ⟨_, rfl⟩, q⟩
    | int i =>
      obtain ⟨t, rfl⟩ := r1
      simp only [PyData.shown] at q
      exact PySem.P.repr_of_int (by simpa [PyData.showable] using hs) ⟨.str _, H, I.tok _, ⟨_, rfl⟩, q⟩
    | str z =>
      obtain ⟨t, rfl⟩ := r1
      simp only [PyData.shown] at q hz
      exact PySem.P.repr_of_str ⟨.str _, H, I.tok _, ⟨_, rfl⟩, q⟩ hz
    | @lst a xs ds hs' ha =>
      cases r1
      obtain ⟨its, rv, ⟨o, n, ho, hc, _, hdd⟩, _⟩ := I.list hs'
      obtain ⟨as, hr⟩ := DpXs.reads I ds _ its ha rv
      have hz' : (listText (PyData.shownAll ds)).length ≤ sizeLine := by simpa only [PyData.shown] using hz
      obtain ⟨bs, hb, hk⟩ := DpXs.reprK I ds _ its ha rv (by simpa [PyData.showable] using hs) (fun t ht => Nat.le_trans (listText_mem_le ht) hz')
      have rr : Reads s.heap (.ref a) (.list ds) _ := .list ho hc hdd hr
      have hna : a ∉ bs := not_mem_of_deeper rr (by simp only [PyData.depth]; omega) hb
      simp only [PyData.depth] at hdep
      simp only [PyData.shown] at q
      refine call_repr_slot (T := "list") (by omega) ⟨o, ho, hc⟩ PySem.F.slot_list_repr.toG ?_
      cases its with
      | nil =>
        cases hr
        simp only [PyData.shownAll, listText_nil] at q
        exact call_list_repr_empty ⟨o, ho, hc⟩ ho hdd ⟨_, _, rfl, .str _, H, I.tok _, ⟨_, rfl⟩, q⟩
      | cons y l =>
        exact call_list_reprK ho hc hdd hna (by simpa using hk.length_eq) (fun i y e => hk.item i y (by simpa using e)) (A := X.A.in1) hgu (fun b _ => Clear.nil b) (by show X.A.units + 1 + _ < cLine; omega) (fun _ _ z => z) (fun h' u tk keep => ⟨_, _, rfl, .str _, H, I.kept (t' := tk) keep, ⟨_, rfl⟩, q⟩) hz'
    | @tup a xs ds hs' ha =>
      cases r1
      obtain ⟨its, rv, ⟨o, ho, hc, n, hdd⟩, _⟩ := I.tuple hs'
      obtain ⟨as, hr⟩ := DpXs.reads I ds _ its ha rv
      have hz' : (tupleText (PyData.shownAll ds)).length ≤ sizeLine := by simpa only [PyData.shown] using hz
      obtain ⟨bs, hb, hk⟩ := DpXs.reprK I ds _ its ha rv (by simpa [PyData.showable] using hs) (fun t ht => Nat.le_trans (tupleText_mem_le ht) hz')
      have rr : Reads s.heap (.ref a) (.tuple ds) _ := .tuple ho hc hdd hr
      have hna : a ∉ bs := not_mem_of_deeper rr (by simp only [PyData.depth]; omega) hb
      simp only [PyData.depth] at hdep
      simp only [PyData.shown] at q
      refine call_repr_slot (T := "tuple") (by omega) ⟨o, ho, hc⟩ PySem.F.slot_tuple_repr ?_
      exact call_tuple_reprK ho hc hdd hna hk (A := X.A.in1) hgu (fun b _ => Clear.nil b) (by show X.A.units + 1 + _ < cLine; omega) (fun _ _ z => z) (fun h' u tk keep => ⟨_, _, rfl, .str _, H, I.kept (t' := tk) keep, ⟨_, rfl⟩, q⟩) hz'
    | @emp a e =>
      cases r1
      obtain ⟨hsys, o, n, h1, h2, h3⟩ := emp_obj I e
      have hz' : (dictText []).length ≤ sizeLine := by simpa only [PyData.shown, PyData.shownKv] using hz
      simp only [PyData.shown, PyData.shownKv] at q
      refine call_repr_slot (T := "dict") (by omega) ⟨o, h1, h2⟩ PySem.F.slot_dict_repr ?_
      exact call_dict_reprK (as := []) (d := 0) h1 h2 h3 hsys (by simp) .nil (A := X.A.in1) hgu (fun b _ => Clear.nil b) (by show X.A.units + 1 + _ < cLine; omega) (fun _ _ z => z) (fun h' u tk keep => ⟨_, _, rfl, .str _, H, I.kept (t' := tk) keep, ⟨_, rfl⟩, q⟩) hz'
end
end SE
/-! Exceptions of own classes below ValueError, each with one field. -/
namespace SE
open PySem PySem.Spec PyProof.Rows L2
section
variable {P : Program} {w : World} {K : PySem.W.Frag} {mg : Str → Option Value} {base : Heap}
/-- a def that may raise keeps the promise sp -/
def HasX (P : Program) (w : World) (K : PySem.W.Frag) (mg : Str → Option Value) (base : Heap) (x : Str) (k : Nat) (ps : List Str) (dvs : List V) (sp : Sp) : Prop :=
  ∃ f fd ds, FnOk P w K mg base (L2.CX P w) k f fd ps sp ∧ mg x = some (.ref f) ∧ PySem.W.keepIn K (.ref f) = true ∧ Binds K fd ps ds ∧ Vals dvs ds ∧ ∃ st, Fun K x x st f fd
abbrev BxX (P : Program) (w : World) (K : PySem.W.Frag) (mg : Str → Option Value) (base : Heap) (N : List Str) (x : Str) (st : Stmt) (f : Addr) (cv : Value) (A : Around) (out : List Env) (s : Shared) (H : Hp) (E : XK) : Cx :=
  cxOf (L2.CX P w) P w K mg base N x (defScope st) f cv A out s H E
theorem hasX_of {x : Str} {st : Stmt} {N ps : List Str} {k : Nat} {sp : Sp} (D : Def K mg x st) (S : FnScope N ps (defScope st))
    (hb : ∀ (kV doc pm : Value) (an : Option Addr) (cv ct : Value) (us : List Value), us.length = ps.length → bindArgs (PySem.W.fnOf x x (defArgs st) (defBody st) (defScope st) .none kV doc pm an cv ct) ⟨us, []⟩ = pure (ps.zip us))
    (len : ∀ xs H Q E, sp xs H Q E → xs.length = ps.length)
    (hbd : ∀ (f : Addr) (cv : Value) (A : Around) (out : List Env) (s : Shared) (H : Hp) (xs : List V) (Q : VK) (E : XK), Room k (A.deeper (envOfC x (defScope st) s.heap.objs.size f cv)) → sp xs H Q E →
      ∃ t, PSs (BxX P w K mg base N x st f cv A out s H E) (defBody st) t ∧ t { nx := fun _ H2 => Q .non H2, rt := Q } (start N xs) H) : HasX P w K mg base x (k + 1) ps [] sp := by
  obtain ⟨f, fd, F, hm⟩ := D
  exact ⟨f, fd, [], F.okX S len fun cv A out s H xs Q E hr h => hbd f cv A out s H xs Q E hr h, hm, F.kp, F.binds hb, .nil, st, F⟩
/-- what stands in a def that may raise: its own way out -/
theorem tkX {N : List Str} {x : Str} {st : Stmt} {f : Addr} {cv : Value} {A : Around} {out : List Env} {s : Shared} {H : Hp} {E : XK} : Takes (BxX P w K mg base N x st f cv A out s H E) (fun cls d _ H => E cls d H) := takes_of rfl rfl rfl rfl
end
section
variable {X : Cx} {k : Nat} {ps : List Str} {sp : Sp} {x : Str} {p pos : Pos} {e : Expr} {es : List Expr} {t : TA} {dvs : List V} {E : XK} {W : WX}
/-- a call whose exceptions leave the def that calls -/
theorem pe_hasX (h : HasX X.prog X.w X.K X.mg X.base x k ps dvs sp) (hr : Room k X.A) (tk : Takes X (fun cls d _ H => E cls d H)) (ha : PA X (e :: es) t) (hg : Gl X x := by rfl) (hdb : (x == ("__debug__" : Str)) = false := by decide)
    (he : starEach (e :: es) X.env = (false, eval e X.env) :: starEach es X.env := by rfl) (hpl : (backTo pos (starEach es X.env)).any (·.1) = false := by rfl) : PE X (.Call (.Name x p) (e :: es) [] pos) (tCall sp dvs E t) := by
  obtain ⟨f, fd, ds, F, hm, hk, hb, hd, _⟩ := h
  exact pe_call F hr hg hm hk hb hd (passes_call tk fun _ _ _ _ z => z) ha hdb he hpl
/-- a call within a try -/
theorem pe_hasS (h : HasX X.prog X.w X.K X.mg X.base x k ps [] sp) (hr : Room k X.A) (tk : Takes X W) (ha : PA X (e :: es) t) (hg : Gl X x := by rfl) (hdb : (x == ("__debug__" : Str)) = false := by decide)
    (he : starEach (e :: es) X.env = (false, eval e X.env) :: starEach es X.env := by rfl) (hpl : (backTo pos (starEach es X.env)).any (·.1) = false := by rfl) : PE X (.Call (.Name x p) (e :: es) [] pos) (tCallS sp (WE W) t) := by
  obtain ⟨f, fd, ds, F, hm, hk, hb, hd, _⟩ := h
  cases hd
  exact pe_callS F hr hg hm hk hb (fun σ => passAt tk σ) ha hdb he hpl
end
/-! ### a class of exceptions -/
def spXI (K : PySem.W.Frag) (C : Addr) (f : Str) : Sp := fun xs H Q _ => ∃ (a : Addr) (v : V), xs = [.ref a, v] ∧ H a = some (exo a C none) ∧ ∀ dx, H dx = none → dx ≠ a → Q .non (upd (upd H dx (exd dx [(f, v)])) a (exo a C (some dx)))
/-- what the written part says of the class at C, whose __init__ sets the field f -/
structure XcC (P : Program) (w : World) (K : PySem.W.Frag) (mg : Str → Option Value) (base : Heap) (x f : Str) (C : Addr) : Prop where
  oex : OexC K C
  gC : mg x = some (.ref C)
  init : ∃ fI fd, PySem.W.findIn K (.ref C) "__init__" = some (some (.ref fI)) ∧ PySem.W.typeIn K (.ref fI) = some (.type "function") ∧ FnOk P w K mg base CX0 1 fI fd ["self", f] (spXI K C f) ∧ Binds K fd ["self", f] []
  xf : XfC K C
  noF : PySem.W.findIn K (.ref C) f = some none
  ha : PySem.W.findIn K (.ref C) "__class__" = some (some (.builtin "object.__class__"))
  hn : PySem.W.specialIn K (.builtin "object.__class__") "__get__" = some (some (.builtin "getset_descriptor.__get__"))
  ht : PySem.W.takesIn K (.builtin "object.__class__") = some true
  hm : PySem.W.mroIn K C (.type "object") = some true
  te : PySem.W.exmOne K (.ref C) (.ref C) = some true
/-- __init__ -/
theorem init_ok {P : Program} {w : World} {K : PySem.W.Frag} {mg : Str → Option Value} {base : Heap} {q f : Str} {C : Addr} {st : Stmt} {fI : Addr} {fd : FuncData} {p1 p2 p3 p4 : Pos} (F : Fun K "__init__" q st fI fd) (S : FnScope ["self", f] ["self", f] (defScope st)) (T : OexC K C) (noF : PySem.W.findIn K (.ref C) f = some none)
    (hb : defBody st = [.Assign [.Attribute (.Name "self" p1) f p2] (.Name f p3) p4])
    (v0 : Vis (defScope st) "self") (v1 : Vis (defScope st) f) (hdb : (f == ("__debug__" : Str)) = false) (hcd : (f == ("__classdict__" : Str)) = false) : FnOk P w K mg base CX0 1 fI fd ["self", f] (spXI K C f) := by
  refine F.ok S (fun xs H Q E h => ?_) (fun cv A out s H xs Q E hr h => ?_)
  · obtain ⟨a, v, rfl, _⟩ := h
    rfl
  · obtain ⟨a, v, rfl, ha, k⟩ := h
    rw [hb]
    refine ⟨_, pss_one (ps_ost (pe_var (i := 0) rfl v0) (pe_var (i := 1) rfl v1 (hd := hdb) (hcd := hcd))), ?_⟩
    exact ⟨_, rfl, _, rfl, a, C, rfl, T, noF, .inl ⟨ha, fun dx nd ne => k dx nd ne⟩⟩
section
variable {X : Cx} {C : Addr} {x f : Str}
theorem mk_heap {H1 : Hp} {a d C : Addr} {f : Str} {v : V} (na : H1 a = none) (nd : d ≠ a) : upd (del (upd (upd (upd H1 a (exo a C none)) d (exd d [(f, v)])) a (exo a C (some d))) a) d (.xd [(f, v)]) = upd H1 d (.xd [(f, v)]) := by
  funext b
  by_cases e : b = d
  · subst e
    rw [upd_same, upd_same]
  · rw [upd_ne e, upd_ne e]
    by_cases e2 : b = a
    · subst e2
      rw [del_same, na]
    · rw [del_ne e2, upd_ne e2, upd_ne e, upd_ne e2]
theorem mk_red {K : PySem.W.Frag} {H1 : Hp} {v : V} {Q : XK} (h : ∀ d, H1 d = none → Q (.ref C) (some d) (upd H1 d (.xd [(f, v)]))) :
    ([v] : List V).length ≤ 1000 ∧ ∀ a, H1 a = none → spXI K C f (.ref a :: ([v] ++ [])) (upd H1 a (exo a C none))
      (fun u H2 => u = .non ∧ ∃ (d : Addr) (fs : List (Str × V)), H2 a = some (exo a C (some d)) ∧ H2 d = some (exd d fs) ∧ H1 d = none ∧ Q (.ref C) (some d) (upd (del H2 a) d (.xd fs))) (fun _ _ _ => False) := by
  refine ⟨(by decide : 1 ≤ 1000), fun a na => ⟨a, v, rfl, upd_same, fun d nd ne => ⟨rfl, d, [(f, v)], upd_same, ?_, ?_, ?_⟩⟩⟩
  · rw [upd_ne ne]
    exact upd_same
  · rw [upd_ne ne] at nd
    exact nd
  · rw [mk_heap na ne]
    rw [upd_ne ne] at nd
    exact h d nd
/-- C(e): behind the argument mk_red -/
theorem pmk_x {e : Expr} {ta : TA} {p pos : Pos} (T : XcC X.prog X.w X.K X.mg X.base x f C) (hr : Room 2 X.A) (ha : PA X [e] ta) (hg : Gl X x := by rfl)
    (hdb : (x == ("__debug__" : Str)) = false := by decide) (he : starEach (e :: []) X.env = (false, eval e X.env) :: starEach [] X.env := by rfl) (hpl : (backTo pos (starEach [] X.env)).any (·.1) = false := by rfl) :
    PMk X (.Call (.Name x p) [e] [] pos) (tMkO C (spXI X.K C f) [] ta) := by
  obtain ⟨fI, fd, i1, i2, i3, i4⟩ := T.init
  exact pmk_oex (CX := CX0) T.oex i1 i2 i3 hr i4 .nil pass0 hg T.gC ha hdb he hpl
theorem ps_raiseX {W : WX} {e : Expr} {ta : TA} {p pos pos2 : Pos} (hc : X.calm = true) (T : XcC X.prog X.w X.K X.mg X.base x f C) (hr : Room 2 X.A) (tk : Takes X W) (ha : PA X [e] ta) (hg : Gl X x := by rfl)
    (hdb : (x == ("__debug__" : Str)) = false := by decide) (he : starEach (e :: []) X.env = (false, eval e X.env) :: starEach [] X.env := by rfl) (hpl : (backTo pos (starEach [] X.env)).any (·.1) = false := by rfl) :
    PS X (.Raise (some (.Call (.Name x p) [e] [] pos)) none pos2) (fun _ σ H => tMkO C (spXI X.K C f) [] ta σ H fun cls d H' => W cls d σ H') := ps_raise hc tk (pmk_x T hr ha hg hdb he hpl)
/-- isinstance(e, c), e the exception that the suite holds -/
def rIsX (K : PySem.W.Frag) (C a : Addr) (cls : Value) (d : Option Addr) : List V → Hp → VK → Prop := fun xs H Q => ∃ (c : V) (cv : Value) (b : Bool) (dd : Addr) (fs : List (Str × V)), xs = [.ref a, c] ∧ cls = .ref C ∧ (∀ u, RelV c u → u = cv) ∧ PySem.W.kitOne K (.ref C) cv = some b ∧ d = some dd ∧ H dd = some (.xd fs) ∧ Q (.bl b) H
theorem call_isX {a : Addr} {oe : Obj} {cls : Value} {d : Option Addr} {pn : List (Addr × Obj)} (T : XcC X.prog X.w X.K X.mg X.base x f C) (hz : Zc cls d oe) (hf : ∃ vs, oe.data = .fields vs) : CallR (X.suite a ((a, oe) :: pn)) (.builtin "isinstance") (rIsX X.K C a cls d) := by
  intro pins s σ H xs us Q I r h
  obtain ⟨c, cv, b, dd, fs, rfl, rfl, hcv, e, rfl, hH, q⟩ := h
  cases r with
  | cons rx rr =>
    cases rr with
    | cons rt rr =>
      cases rr
      cases rx
      have ec := hcv _ rt
      subst ec
      obtain ⟨hget, _⟩ := I.pin (a, oe) (List.mem_append.mpr (.inl List.mem_cons_self))
      obtain ⟨vs, hv⟩ := hf
      have hx : ObjOk X.prog X.w H s.heap dd (.xd fs) := I.hok dd _ hH
      obtain ⟨mA, hns, hr⟩ := hx
      obtain ⟨od, ho, hl⟩ := lookIn_ns hns
      have J : PySem.W.InstAt s.heap a oe C (some od) := ⟨hget, hz.1, by unfold PySem.W.notCls; rw [hv] <;> rfl, by rw [hz.2]; exact ho⟩
      have hcl : (PySem.W.clsIn X.K C).isSome = true := by
        obtain ⟨cd, hc, _⟩ := PySem.W.any_some T.xf.hdC
        rw [hc]
        rfl
      exact PySem.W.kia_one (PySem.W.kitx_exc hcl T.xf.ga T.xf.gg T.xf.exC T.ha T.hn T.ht T.hm) I.kIn J e (fun z => nomatch z) fun tk => ⟨.bl b, H, I.kept (t' := tk) fun _ _ z => z, rfl, q⟩
end
end SE
/-! Small data with great ints; its kinds; len(set(ints)) with duplicates. -/
namespace SE
open PySem PySem.Spec PyProof.Rows L2
/-- a text of signs -/
def okA (x : Str) : Bool := x.cps.toList.all fun c => decide (c < 0x110000)
theorem okA_app {a b : Str} (ha : okA a = true) (hb : okA b = true) : okA (a ++ b) = true := by
  show ((a.cps ++ b.cps).toList.all fun c => decide (c < 0x110000)) = true
  rw [Array.toList_append, List.all_append, Bool.and_eq_true]
  exact ⟨ha, hb⟩
theorem okA_from : ∀ (ts : List Str) (k : Nat) (acc : Str), okA acc = true → (∀ t ∈ ts, okA t = true) → okA (textFrom k acc ts) = true
  | [], k, acc, h, _ => h
  | t :: r, k, acc, h, hs => by
    refine okA_from r (k + 1) _ (okA_app (okA_app h ?_) (hs t List.mem_cons_self)) fun x m => hs x (List.mem_cons_of_mem _ m)
    split <;> decide +kernel
theorem okA_list {ts : List Str} (h : ∀ t ∈ ts, okA t = true) : okA (listText ts) = true := okA_app (okA_from ts 0 "[" (by decide +kernel) h) (by decide +kernel)
theorem okA_join : ∀ (ts : List Str), (∀ t ∈ ts, okA t = true) → okA (Str.join ", " ts) = true
  | [], _ => by decide +kernel
  | [x], h => h x List.mem_cons_self
  | x :: y :: r, h => okA_app (okA_app (h x List.mem_cons_self) (by decide +kernel)) (okA_join (y :: r) fun t m => h t (List.mem_cons_of_mem _ m))
theorem okA_tuple {ts : List Str} (h : ∀ t ∈ ts, okA t = true) : okA (tupleText ts) = true := by
  refine okA_app (okA_app (by decide +kernel) (okA_join ts h)) ?_
  split <;> decide +kernel
structure SD (k B : Nat) (d : PyData) : Prop where
  dep : d.depth ≤ k
  sh : d.showable = true
  lf : d.leavesShort 45 = true
  wt : d.weight ≤ B
  so : okA d.shown = true
theorem SD.mono {k j B C : Nat} {d : PyData} (h : SD k B d) (hk : k ≤ j) (hB : B ≤ C) : SD j C d := ⟨Nat.le_trans h.dep hk, h.sh, h.lf, Nat.le_trans h.wt hB, h.so⟩
theorem sd_all {k B : Nat} : ∀ {ds : List PyData}, (∀ d ∈ ds, SD k B d) → PyData.depthAll ds ≤ k ∧ PyData.showableAll ds = true ∧ PyData.leavesShortAll 45 ds = true ∧ PyData.weightAll ds ≤ ds.length * (B + 1) ∧ ∀ t ∈ PyData.shownAll ds, okA t = true
  | [], _ => by
    refine ⟨?_, ?_, ?_, ?_, fun t m => by cases m⟩
    · simp only [PyData.depthAll]
      exact Nat.zero_le _
    · simp only [PyData.showableAll]
    · simp only [PyData.leavesShortAll]
    · simp only [PyData.weightAll]
      exact Nat.zero_le _
  | d :: ds, h => by
    obtain ⟨a2, a3, a5, a6, a7⟩ := sd_all (ds := ds) fun x hx => h x (List.mem_cons_of_mem _ hx)
    have q := h d List.mem_cons_self
    refine ⟨?_, ?_, ?_, ?_, fun t m => ?_⟩
    · simp only [PyData.depthAll]
      exact Nat.max_le.mpr ⟨q.dep, a2⟩
    · simp only [PyData.showableAll, q.sh, a3, Bool.and_self]
    · simp only [PyData.leavesShortAll, q.lf, a5, Bool.and_self]
    · simp only [PyData.weightAll, List.length_cons]
      have := q.wt
      rw [Nat.add_mul]
      omega
    · rcases List.mem_cons.mp (show t ∈ d.shown :: PyData.shownAll ds from m) with e | e
      · rw [e]; exact q.so
      · exact a7 t e
theorem sd_list {k B : Nat} {ds : List PyData} (h : ∀ d ∈ ds, SD k B d) : SD (k + 1) (ds.length * (B + 1)) (.list ds) := by
  obtain ⟨a2, a3, a5, a6, a7⟩ := sd_all h
  exact ⟨by simp only [PyData.depth]; omega, by simp only [PyData.showable]; exact a3, by simp only [PyData.leavesShort]; exact a5, by simp only [PyData.weight]; exact a6, by simp only [PyData.shown]; exact okA_list a7⟩
theorem sd_tuple {k B : Nat} {ds : List PyData} (h : ∀ d ∈ ds, SD k B d) : SD (k + 1) (ds.length * (B + 1)) (.tuple ds) := by
  obtain ⟨a2, a3, a5, a6, a7⟩ := sd_all h
  exact ⟨by simp only [PyData.depth]; omega, by simp only [PyData.showable]; exact a3, by simp only [PyData.leavesShort]; exact a5, by simp only [PyData.weight]; exact a6, by simp only [PyData.shown]; exact okA_tuple a7⟩
theorem SD.shown {k B : Nat} {d : PyData} (h : SD k B d) (hB : B ≤ 300000) : d.shown.length ≤ sizeLine := by
  have q := PyData.shown_le 45 (by decide) d h.lf
  have := h.wt
  have m : (45 + 2) * d.weight ≤ 47 * 300000 := Nat.mul_le_mul (by decide) (by omega)
  rw [sizeLine_eq]
  omega
/-! ### kinds -/
def isInt : PyData → Bool
  | .int _ | .bool _ => true
  | _ => false
def isBoo : PyData → Bool
  | .bool _ => true
  | _ => false
theorem kit_int {K : PySem.W.Frag} : ∀ d : PyData, PySem.W.kitOne K (.type (tyD d)) (.type "int") = some (isInt d)
  | .none => kit_ty (show kitB "NoneType" "int" = some false by decide +kernel)
  | .bool _ => kit_ty (show kitB "bool" "int" = some true by decide +kernel)
  | .int _ => kit_ty (show kitB "int" "int" = some true by decide +kernel)
  | .str _ => kit_ty (show kitB "str" "int" = some false by decide +kernel)
  | .list _ => kit_ty (show kitB "list" "int" = some false by decide +kernel)
  | .tuple _ => kit_ty (show kitB "tuple" "int" = some false by decide +kernel)
  | .dict _ => kit_ty (show kitB "dict" "int" = some false by decide +kernel)
theorem kit_boo {K : PySem.W.Frag} : ∀ d : PyData, PySem.W.kitOne K (.type (tyD d)) (.type "bool") = some (isBoo d)
  | .none => kit_ty (show kitB "NoneType" "bool" = some false by decide +kernel)
  | .bool _ => kit_ty (show kitB "bool" "bool" = some true by decide +kernel)
  | .int _ => kit_ty (show kitB "int" "bool" = some false by decide +kernel)
  | .str _ => kit_ty (show kitB "str" "bool" = some false by decide +kernel)
  | .list _ => kit_ty (show kitB "list" "bool" = some false by decide +kernel)
  | .tuple _ => kit_ty (show kitB "tuple" "bool" = some false by decide +kernel)
  | .dict _ => kit_ty (show kitB "dict" "bool" = some false by decide +kernel)
/-! ### len(set(xs)) of ints -/
theorem firstMet_len (f : Nat → Int) : ∀ i, (PyProof.Rows.firstMet f i).length ≤ i
  | 0 => Nat.le_refl _
  | i + 1 => by
    have ih := firstMet_len f i
    rw [PyProof.Rows.firstMet_succ]
    unfold PyProof.Rows.step_dedup
    split
    · omega
    · rw [List.length_append, List.length_singleton]
      omega
theorem firstMet_mem (f : Nat → Int) : ∀ i j, j < i → f j ∈ PyProof.Rows.firstMet f i
  | 0, j, h => absurd h (Nat.not_lt_zero _)
  | i + 1, j, h => by
    rw [PyProof.Rows.firstMet_succ]
    unfold PyProof.Rows.step_dedup
    by_cases e : j = i
    · subst e
      split
      · rename_i q
        obtain ⟨x, mx, ex⟩ := List.any_eq_true.mp q
        rw [← beq_iff_eq.mp ex]
        exact mx
      · exact List.mem_append.mpr (.inr (List.mem_singleton.mpr rfl))
    · have ih := firstMet_mem f i j (by omega)
      split
      · exact ih
      · exact List.mem_append.mpr (.inl ih)
theorem firstMet_full (f : Nat → Int) : ∀ i, (PyProof.Rows.firstMet f i).length = i → ∀ a b, a < b → b < i → f a ≠ f b
  | 0, _, _, _, _, h => absurd h (Nat.not_lt_zero _)
  | i + 1, hl, a, b, hab, hb => by
    have l1 := firstMet_len f i
    rw [PyProof.Rows.firstMet_succ] at hl
    unfold PyProof.Rows.step_dedup at hl
    by_cases q : (PyProof.Rows.firstMet f i).any (· == f i) = true
    · rw [if_pos q] at hl
      omega
    · rw [if_neg q, List.length_append, List.length_singleton] at hl
      have ih := firstMet_full f i (by omega)
      by_cases e : b = i
      · subst e
        intro z
        exact q (List.any_eq_true.mpr ⟨f a, firstMet_mem f b a hab, by rw [z]; exact beq_self_eq_true _⟩)
      · exact ih a b hab (by omega)
theorem firstMet_iff (ns : List Int) : (PyProof.Rows.firstMet (fun i => ns.getD i 0) ns.length).length = ns.length ↔ ns.Nodup := by
  constructor
  · intro h
    rw [List.nodup_iff_pairwise_ne, List.pairwise_iff_getElem]
    intro i j hi hj hij
    have q := firstMet_full _ _ h i j hij hj
    rw [List.getD_eq_getElem?_getD, List.getD_eq_getElem?_getD, List.getElem?_eq_getElem hi, List.getElem?_eq_getElem hj] at q
    exact q
  · intro h
    rw [RZ.firstMet_nodup h ns.length (Nat.le_refl _), List.take_length]
def tLenSetJ (K : PySem.W.Frag) (ta : TE) : TE := fun σ H Q => ta σ H fun x H1 => ∃ (l : Addr) (ns : List Int), x = .ref l ∧ SqL K H1 l (ns.map V.int) ∧ ns.length ≤ 4000 ∧ ∀ m : Nat, (m = ns.length ↔ ns.Nodup) → Q (.int (m : Nat)) H1
theorem pe_lenSetJ {X : Cx} {a : Expr} {ta : TE} {p p2 q pos : Pos} (hg : Gl X "len") (hm : X.mg "len" = none) (hg2 : Gl X "set") (hm2 : X.mg "set" = none) (ha : PE X a ta) (hc : X.calm = true := by rfl)
    (na : starEach [a] X.env = (false, eval a X.env) :: starEach [] X.env := by rfl) : PE X (.Call (.Name "len" p) [.Call (.Name "set" p2) [a] [] q] [] pos) (tLenSetJ X.K ta) := by
  constructor
  intro pins s σ H Q I h
  refine Call_ (ld_blt I hg hm boot_len (PyProof.Rows.callWith_builtin1 (PyProof.Rows.args_cons (Call_ (ld_blt I hg2 hm2 boot_set ?_)) rfl) rfl rfl))
  refine PyProof.Rows.callWith_type1 (PyProof.Rows.args_cons (thn (ha.run pins s σ H _ I h) fun v s1 hh => PyProof.Rows.args_nil ?_) na) na rfl
  obtain ⟨x, H1, I1, r1, l, ns, rfl, hq, hl, q1⟩ := hh
  cases r1
  obtain ⟨its, r, pl, hz⟩ := I1.list hq
  have sz : its.toArray.size = ns.length := by rw [List.size_toArray, ← r.length, List.length_map]
  refine call_set_list (I1.ok.hd hc) pl.isList (by simpa using RZ.intsAre_vals r) (by rw [sz]; unfold scanBound; omega) fun h2 tk hS keep => PyProof.Rows.args_nil ?_
  rw [sz] at hS
  have l2 := firstMet_len (fun i => ns.getD i 0) ns.length
  obtain ⟨o, es, ep, tb, ho, hx, dd, _, _, _, hf, hn⟩ := hS
  have J : Inv X pins σ H1 { s1 with heap := h2, toks := tk } := I1.kept fun b u e => keep b u (Heap.lt_size e) e
  exact call_len_set ho hx dd hf (by rw [hn]; omega) ⟨.int ((PyProof.Rows.firstMet (fun i => ns.getD i 0) ns.length).length : Nat), H1, J.tok _, ⟨_, by rw [hn]⟩, q1 _ (firstMet_iff ns)⟩
end SE
namespace SE
open PySem PySem.Spec PyProof.Rows L2
theorem iteB {c : Bool} {A B : Prop} (ht : c = true → A) (hf : c = false → B) : if c = true then A else B := by
  cases c with
  | true => exact iteT (ht rfl)
  | false => exact iteF (hf rfl)
/-! ### what the checks of arrange answer, for any data -/
def whD : PyData → Bool
  | .int _ => true
  | _ => false
def betD (lo hi : Int) : PyData → Bool
  | .int i => decide (lo ≤ i) && decide (i ≤ hi)
  | _ => false
section
variable {P : Program} {w : World} {K : PySem.W.Frag} {mg : Str → Option Value} {base : Heap}
def spWh2 (K : PySem.W.Frag) : Sp := fun xs H Q _ => ∃ (v : V) (d : PyData), xs = [v] ∧ DpX K H v d ∧ Q (.bl (whD d)) H
theorem scWh2 : FnScope ["value"] ["value"] (defScope sIsWhole) := ⟨rfl, rfl, rfl, by decide +kernel, rfl, by decide +kernel, by decide +kernel⟩
theorem has_whole2 (D : Def K mg "is_whole" sIsWhole) (mis : mg "isinstance" = none) (mi : mg "int" = none) (mb : mg "bool" = none) : Has P w K mg base "is_whole" 1 ["value"] [] (spWh2 K) := by
  refine has_of D scWh2 (fun _ _ _ _ _ _ us hl => match us, hl with | [_], _ => rfl) (fun xs H Q E h => ?_) (fun f cv A out s H xs Q E hr h => ?_)
  · obtain ⟨v, d, rfl, _⟩ := h
    rfl
  · obtain ⟨v, d, rfl, hd, k⟩ := h
    refine ⟨_, pss_one (ps_ret (pe_and (pe_callB call_isi (by rfl) mis (by decide +kernel) (pa_cons (pv 0) (pa_cons (pe_bltn (v := .ty "int") (by rfl) mi (by decide +kernel) rfl) pa_nil)))
      (pe_one (pe_not (pe_callB call_isi (by rfl) mis (by decide +kernel) (pa_cons (pv 0) (pa_cons (pe_bltn (v := .ty "bool") (by rfl) mb (by decide +kernel) rfl) pa_nil))))))), ?_⟩
    refine ⟨_, rfl, _, .ty "int", .type (tyD d), .type "int", isInt d, rfl, .ty _, hd.ty, kit_int d, isInt d, rfl, ?_⟩
    refine iteB (fun e => ?_) (fun e => ?_)
    · refine ⟨_, rfl, _, .ty "bool", .type (tyD d), .type "bool", isBoo d, rfl, .ty _, hd.ty, kit_boo d, isBoo d, rfl, ?_⟩
      cases d with
      | int i => exact k
      | bool b => exact k
      | none => cases e
      | str _ => cases e
      | list _ => cases e
      | tuple _ => cases e
      | dict _ => cases e
    · cases d with
      | int i => cases e
      | bool b => cases e
      | none => exact k
      | str _ => exact k
      | list _ => exact k
      | tuple _ => exact k
      | dict _ => exact k
def spBe2 (K : PySem.W.Frag) : Sp := fun xs H Q _ => ∃ (v : V) (d : PyData) (lo hi : Int), xs = [v, .int lo, .int hi] ∧ DpX K H v d ∧ Q (.bl (betD lo hi d)) H
theorem scBet : FnScope ["value", "least", "most"] ["value", "least", "most"] (defScope sIsBetween) := ⟨rfl, rfl, rfl, by decide +kernel, rfl, by decide +kernel, by decide +kernel⟩
theorem has_bet2 (D : Def K mg "is_between" sIsBetween) (G : Has P w K mg base "is_whole" 1 ["value"] [] (spWh2 K)) : Has P w K mg base "is_between" 2 ["value", "least", "most"] [] (spBe2 K) := by
  refine has_of D scBet (fun _ _ _ _ _ _ us hl => match us, hl with | [_, _, _], _ => rfl) (fun xs H Q E h => ?_) (fun f cv A out s H xs Q E hr h => ?_)
  · obtain ⟨v, d, lo, hi, rfl, _⟩ := h
    rfl
  · obtain ⟨v, d, lo, hi, rfl, hd, k⟩ := h
    refine ⟨_, pss_one (ps_ret (pe_and (pe_has G hr (pa_cons (pv 0) pa_nil)) (pe_one (pe_chain op_le op_le (pv 1) (pv 0) (pv 2))))), ?_⟩
    refine ⟨_, rfl, v, d, rfl, hd, whD d, rfl, ?_⟩
    cases hd with
    | int i =>
      refine iteT ⟨_, rfl, _, rfl, lo, i, rfl, rfl, decide (lo ≤ i), rfl, ?_⟩
      have k : Q (.bl (decide (lo ≤ i) && decide (i ≤ hi))) H := k
      refine iteB (fun e => ?_) (fun e => ?_)
      · rw [e, Bool.true_and] at k
        exact ⟨_, rfl, i, hi, rfl, rfl, k⟩
      · rw [e, Bool.false_and] at k
        exact k
    | non => exact iteF k
    | bl b => exact iteF k
    | str z => exact iteF k
    | lst _ _ => exact iteF k
    | tup _ _ => exact iteF k
    | emp _ => exact iteF k
end
end SE
/-! Classes and methods called by keyword where exceptions may come, also within a try. -/
namespace SE
open PySem PySem.Spec PyProof.Rows L2
section
variable {X : Cx} {CT : CXT} {k n : Nat} {f C : Addr} {fd : FuncData} {ps ks : List Str} {sp : Sp} {x m : Str} {p pos apos : Pos} {e o : Expr} {es : List Expr} {kws : List Keyword} {te : TE} {t tk : TA} {ex : L2.St → XK}
  {g : List Value → List Value → List Value} {gV : List V → List V → List V}
/-- a def called with some arguments by keyword; ex σ is what is wished of its exceptions -/
theorem run_kwS {pins : List (Addr × Obj)} {σ : L2.St} {H : Hp} {s : Shared} {Q : VK} {us ws : List Value} {vs zs : List V} (F : FnOk X.prog X.w X.K X.mg X.base CT k f fd ps sp) (room : Room k X.A) (bd : KBn X.K fd ps n ks g gV)
    (out : PassesAt CT X σ (ex σ)) (I : Inv X pins σ H s) (r1 : Vals vs us) (r2 : Vals zs ws) (l1 : vs.length = n) (l2 : zs.length = ks.length) (h : sp (gV vs zs) H Q (ex σ)) :
    wpAny (model X.prog X.w) X.A (call (.ref f) us (ks.zip ws)) (EP X pins σ Q) X.xe s := by
  have to := bd.to s us ws I.kIn (r1.length.symm.trans l1) (r2.length.symm.trans l2)
  have run := F.run X.A X.stack s H ⟨us, ks.zip ws⟩ (g us ws) (gV vs zs) Q (ex σ) room I.env0 to (bd.rel r1 r2) h
  refine wpAny_call (codeAny_mono run fun res s2 done => ?_)
  match res, done with
  | .error ev, done => exact out pins H s ev s2 I done
  | .ok (.ret u), done => exact I.after done
  | .ok .next, done => exact done.elim
  | .ok .brk, done => exact done.elim
  | .ok .cont, done => exact done.elim
/-- a class called with some arguments by keyword -/
theorem run_mkS {pins : List (Addr × Obj)} {σ : L2.St} {H : Hp} {s : Shared} {Q : VK} {us ws : List Value} {vs zs : List V} (M : Mk X.K C f) (F : FnOk X.prog X.w X.K X.mg X.base CT k f fd ps sp) (room : Room (k + 1) X.A) (bd : KBn X.K fd ps (n + 1) ks g gV)
    (out : PassesAt CT X σ (ex σ)) (I : Inv X pins σ H s) (r1 : Vals vs us) (r2 : Vals zs ws) (l1 : vs.length = n) (l2 : zs.length = ks.length)
    (h : ∀ b db, H b = none → H db = none → db ≠ b → sp (gV (.ref b :: vs) zs) (upd (upd H db (.own b)) b (.ins C db [])) (fun v H2 => v = .non ∧ Q (.ref b) H2) (ex σ)) :
    wpAny (model X.prog X.w) X.A (call (.ref C) us (ks.zip ws)) (EP X pins σ Q) X.xe s := by
  have new := h (s.heap.objs.size + 1) s.heap.objs.size (I.hok.fresh (Nat.le_succ _)) (I.hok.fresh (Nat.le_refl _)) (Nat.ne_of_lt (Nat.lt_succ_self _))
  have made := Inv.made (C := C) I
  have rs : Vals (V.ref (s.heap.objs.size + 1) :: vs) (Value.ref (s.heap.objs.size + 1) :: us) := .cons rfl r1
  have len : (Value.ref (s.heap.objs.size + 1) :: us).length = n + 1 := congrArg (· + 1) (r1.length.symm.trans l1)
  have to := bd.to _ (Value.ref (s.heap.objs.size + 1) :: us) ws made.kIn len (r2.length.symm.trans l2)
  have run := F.run _ X.stack _ _ ⟨Value.ref (s.heap.objs.size + 1) :: us, ks.zip ws⟩ (g (Value.ref (s.heap.objs.size + 1) :: us) ws) _ _ (ex σ) (room.make C us (ks.zip ws)) (made.env0.make C us (ks.zip ws)) to (bd.rel rs r2) new
  refine wpAny_call (make_map (f := f) I.kIn M.makes M.init (beq_iff_eq.mp M.fn) (codeAny_mono run fun res s2 done => ?_))
  match res, done with
  | .error ev, done => exact out pins _ _ ev s2 made done
  | .ok (.ret u), done =>
    obtain ⟨v, H2, I2, rel, ev, q⟩ := made.after done
    subst ev
    exact ⟨rel, V.ref (s.heap.objs.size + 1), H2, I2, rfl, q⟩
  | .ok .next, done => exact done.elim
  | .ok .brk, done => exact done.elim
  | .ok .cont, done => exact done.elim
/-- C(e, .., k = v, ..) -/
def tMkS (C : Addr) (n m : Nat) (sp : Sp) (gV : List V → List V → List V) (ex : L2.St → XK) (t tk : TA) : TE := fun σ H Q => t σ H fun vs H1 => tk σ H1 fun zs H2 => vs.length = n ∧ zs.length = m ∧
  ∀ b db, H2 b = none → H2 db = none → db ≠ b → sp (gV (.ref b :: vs) zs) (upd (upd H2 db (.own b)) b (.ins C db [])) (fun v H3 => v = .non ∧ Q (.ref b) H3) (ex σ)
theorem pe_mkS (M : Mk X.K C f) (F : FnOk X.prog X.w X.K X.mg X.base CT k f fd ps sp) (room : Room (k + 1) X.A) (hm : X.mg x = some (.ref C)) (bd : KBn X.K fd ps (n + 1) ks g gV) (out : ∀ σ, PassesAt CT X σ (ex σ)) (ha : PA X (e :: es) t) (hk : PK X kws tk)
    (hks : (backToKw pos (keywordEach kws X.env)).filterMap (·.1) = ks := by rfl) (hall : (backToKw pos (keywordEach kws X.env)).all (·.1.isSome) = true := by rfl) (hg : Gl X x := by rfl) (hd : (x == ("__debug__" : Str)) = false := by decide)
    (he : starEach (e :: es) X.env = (false, eval e X.env) :: starEach es X.env := by rfl) (hpl : ((backTo pos (starEach (e :: es) X.env)).any (·.1) || (backToKw pos (keywordEach kws X.env)).any (·.1.isNone)) = false := by rfl) :
    PE X (.Call (.Name x p) (e :: es) kws pos) (tMkS C n ks.length sp gV ex t tk) := by
  constructor
  intro pins s σ H Q I w
  refine wpAny_Call_Name_kw (ld_glob I hg hm ?_ hd)
  refine PySem.W.callWith_KW (h₀ := X.base) I.ok.mod.kin M.kp hall (thn (ha.run pos pins s σ H _ I w) fun us s1 z => ?_) hpl he
  obtain ⟨vs, H1, I1, r1, w1⟩ := z
  refine thn (hk.run pos pins s1 σ H1 _ I1 w1) fun ws s2 z => ?_
  obtain ⟨zs, H2, I2, r2, l1, l2, w2⟩ := z
  rw [hks]
  exact ⟨I2.kIn, run_mkS M F room bd (out σ) I2 r1 r2 l1 l2 w2⟩
/-- o.m(e, .., k = v, ..) -/
def tMethS (C : Addr) (m : Str) (n j : Nat) (sp : Sp) (gV : List V → List V → List V) (ex : L2.St → XK) (te : TE) (t tk : TA) : TE := fun σ H Q => te σ H fun y H1 => ∃ b db fs, y = .ref b ∧ H1 b = some (.ins C db fs) ∧ fs.lookup m = none ∧
  t σ H1 fun vs H2 => tk σ H2 fun zs H3 => vs.length = n ∧ zs.length = j ∧ sp (gV (.ref b :: vs) zs) H3 Q (ex σ)
theorem pe_methS {pl : Sem Bool} (ho : PE X o te) (c : Cls X.K C) (hm : Meth X.K C m f) (F : FnOk X.prog X.w X.K X.mg X.base CT k f fd ps sp) (room : Room k X.A) (bd : KBn X.K fd ps (n + 1) ks g gV) (out : ∀ σ, PassesAt CT X σ (ex σ)) (ha : PA X (e :: es) t) (hk : PK X kws tk)
    (hks : (backToKw pos (keywordEach kws X.env)).filterMap (·.1) = ks := by rfl) (hall : (backToKw pos (keywordEach kws X.env)).all (·.1.isSome) = true := by rfl)
    (he : starEach (e :: es) X.env = (false, eval e X.env) :: starEach es X.env := by rfl) (hpl : ((backTo pos (starEach (e :: es) X.env)).any (·.1) || (backToKw pos (keywordEach kws X.env)).any (·.1.isNone)) = false := by rfl)
    (hev : eval (.Call (.Attribute o m apos) (e :: es) kws pos) X.env = (do
      let ov ← eval o X.env
      standAt apos.atName
      let (f, first) ← holding [ov] (getMethod ov m pl)
      callWith pos f first (backTo pos (starEach (e :: es) X.env)) (backToKw pos (keywordEach kws X.env))) := by rfl) :
    PE X (.Call (.Attribute o m apos) (e :: es) kws pos) (tMethS C m n ks.length sp gV ex te t tk) := by
  constructor
  intro pins s σ H Q I w
  refine PySem.W.methodCall_KW (pl := pl) (thn (ho.run pins s σ H _ I w) fun u s1 z => ?_) hev
  obtain ⟨y, H1, I1, ry, b, db, fs, ey, hb, lk, w1⟩ := z
  subst ey
  obtain rfl : u = Value.ref b := ry
  refine getmeth_ok I1 hb c hm lk ?_
  refine PySem.W.callWith_KW (first := [.ref b]) (h₀ := X.base) I.ok.mod.kin hm.kp hall (thn (ha.run pos pins s1 σ H1 _ I1 w1) fun us s2 z => ?_) hpl he
  obtain ⟨vs, H2, I2, r1, w2⟩ := z
  refine thn (hk.run pos pins s2 σ H2 _ I2 w2) fun ws s3 z => ?_
  obtain ⟨zs, H3, I3, r2, l1, l2, w3⟩ := z
  rw [hks]
  exact ⟨I3.kIn, run_kwS (n := n + 1) (us := .ref b :: us) (vs := .ref b :: vs) F room bd (out σ) I3 (.cons rfl r1) r2 (congrArg (· + 1) l1) l2 w3⟩
/-! ### a static method of a class -/
/-- C.m is a staticmethod: its record at p, its def at f -/
structure SMet (K : PySem.W.Frag) (C : Addr) (mc : Value) (m : Str) (p f : Addr) : Prop where
  at_ : PySem.W.findCls K (.ref C) mc m = some (.get (.builtin "staticmethod.__get__") (.ref p) .none (.ref C))
  rc : ∃ rest, PySem.W.recIn K p "staticmethod" = some (.ref f :: rest)
  kp : PySem.W.keepIn K (.ref f) = true
/-- a def by its promise on positional values, exceptions as ex σ wishes -/
theorem run_rS {pins : List (Addr × Obj)} {σ : L2.St} {H : Hp} {s : Shared} {Q : VK} {us : List Value} {vs : List V} (F : FnR X.prog X.w X.K X.mg X.base CT k f sp) (room : Room k X.A) (out : PassesAt CT X σ (ex σ)) (I : Inv X pins σ H s) (r : Vals vs us) (h : sp vs H Q (ex σ)) :
    wpAny (model X.prog X.w) X.A (call (.ref f) us) (EP X pins σ Q) X.xe s := by
  refine wpAny_call (codeAny_mono (F X.A X.stack s H us vs Q (ex σ) room I.env0 r h) fun res s2 done => ?_)
  match res, done with
  | .error ev, done => exact out pins H s ev s2 I done
  | .ok (.ret u), done => exact I.after done
  | .ok .next, done => exact done.elim
  | .ok .brk, done => exact done.elim
  | .ok .cont, done => exact done.elim
/-- C.m(e, ..) of a staticmethod -/
def tSMeth (C : Addr) (sp : Sp) (ex : L2.St → XK) (te : TE) (t : TA) : TE := fun σ H Q => te σ H fun y H1 => y = .ref C ∧ t σ H1 fun vs H2 => sp vs H2 Q (ex σ)
theorem pe_smeth {pl : Sem Bool} {mc : Value} {q : Addr} (ho : PE X o te) (rd : ClX.CRead X.K C mc) (c : SMet X.K C mc m q f) (F : FnR X.prog X.w X.K X.mg X.base CT k f sp) (room : Room k X.A) (out : ∀ σ, PassesAt CT X σ (ex σ)) (ha : PA X (e :: es) t)
    (he : starEach (e :: es) X.env = (false, eval e X.env) :: starEach es X.env := by rfl) (hpl : (backTo pos (starEach es X.env)).any (·.1) = false := by rfl)
    (hev : eval (.Call (.Attribute o m apos) (e :: es) [] pos) X.env = (do
      let ov ← eval o X.env
      standAt apos.atName
      let (f, first) ← holding [ov] (getMethod ov m pl)
      callWith pos f first (backTo pos (starEach (e :: es) X.env)) (backToKw pos (keywordEach [] X.env))) := by rfl) :
    PE X (.Call (.Attribute o m apos) (e :: es) [] pos) (tSMeth C sp ex te t) := by
  constructor
  intro pins s σ H Q I w
  refine PySem.W.methodCall_KW (pl := pl) (thn (ho.run pins s σ H _ I w) fun u s1 z => ?_) hev
  obtain ⟨y, H1, I1, ry, ey, w1⟩ := z
  subst ey
  obtain rfl : u = Value.ref C := ry
  obtain ⟨rest, rec⟩ := c.rc
  refine PySem.W.method_cls I1.kIn rd.ga (PySem.W.cls_bind I1.kIn rd.rd c.at_ ?_)
  refine wpAny_call (PySem.W.sm_get (s := { s1 with toks := s1.toks + 1 }) I1.kIn rec (PySem.W.handed_on rfl ?_))
  have I2 : Inv X pins σ H1 { s1 with toks := s1.toks + 1 } := I1.tok _
  refine PySem.W.callWith_K (first := []) (h₀ := X.base) I.ok.mod.kin c.kp (thn (ha.run pos pins _ σ H1 _ I2 w1) fun us s3 z => ?_) he hpl
  obtain ⟨vs, H3, I3, r3, w3⟩ := z
  exact ⟨I3.kIn, run_rS F room (out σ) I3 r3 w3⟩
end
end SE
/-! Several clauses 'except C as e', all with the same name e. -/
namespace SE
open PySem PySem.Spec PyProof.Rows L2
abbrev Clause := Value × (Addr → Value → Option Addr → TS)
/-- the clauses' wishes: each passes on to the next what is not its own -/
def wAsL (K : PySem.W.Frag) (i : Nat) (out : WX) (D : Ends) : List Clause → WX
  | [] => out
  | (c, ts) :: more => wAs K c i ts (wAsL K i out D more) D
/-- each clause names its class and has its suite -/
inductive AsOk (X : Cx) (n : Str) : List ExceptHandler → List Clause → Prop
  | nil : AsOk X n [] []
  | cons {y : Str} {c : Value} {ts : Addr → Value → Option Addr → TS} {first : Stmt} {rest : List Stmt} {p1 p2 : Pos} {more : List ExceptHandler} {cl : List Clause} (name : Names X y c)
      (suite : ∀ (b : Addr) (ob : Obj) (cv : Value) (fld : Option Addr) (kept : List (Addr × Obj)),
        Zc cv fld ob → (∃ fs, ob.data = .fields fs) → PSs (X.suite b ((b, ob) :: kept)) (first :: rest) (ts b cv fld))
      (tail : AsOk X n more cl) :
      AsOk X n (.ExceptHandler (some (.Name y p1)) (some n) (first :: rest) p2 :: more) ((c, ts) :: cl)
section
variable {X : Cx} {n : Str} {i : Nat} {main : List Stmt} {top : ExceptHandler} {more : List ExceptHandler} {cl : List Clause} {at_ : Pos} {tm : WX → TS} {out : WX}
theorem ps_try_asL (e1 : X.stack = X.env :: X.outer) (e2 : X.env.frame = some X.env.locals) (nod : X.N.Nodup) (slot : X.N[i]? = some n) (lo : X.env.kindOf n = some .local) (up : Takes X out)
    (hm : ∀ (W : WX) (kept : List (Addr × Obj)) (x2 : Value → Shared → Prop),
      Takes (X.tr kept x2) W → PassesOwn (model X.prog X.w) X.A X.env x2 → PSs (X.tr kept x2) main (tm W))
    (ok : AsOk X n (top :: more) cl) : PS X (.Try main (top :: more) [] [] at_) (fun D σ H => tm (wAsL X.K i out D cl) D σ H) := by
  constructor
  intro pins s0 σ0 H0 D I0 w0
  have inv := I0.ok
  have frames : X.A.frames = some (X.env :: X.outer) := inv.frames.trans (by rw [e1])
  apply wpAny_Try_except
  have big := (hm (wAsL X.K i out D cl) (X.pn ++ pins)
    (fun ev t1 => wpAny (model X.prog X.w) X.A (noteFrame ev X.env)
      (fun _ t2 => wpAny (model X.prog X.w) X.A (setFlight ev none)
        (fun _ t3 => wpAny (model X.prog X.w) X.A
          (handleBy ev X.env (top :: more)) (SP X pins D) X.xe t3) X.xe t2) X.xe t1) ?takes PassesOwn.looking).run [] s0 σ0 H0 D (I0.toTry _) w0
  case takes =>
    rintro u t ⟨b, B, sB, pb, σ, H, cv, fld, rfl, Jt, nb, grow, sky, free, os, ag, wish⟩
    have J : Inv X pins σ H sB := Jt.ofTry inv
    rw [e1] at sky
    show wpAny (model X.prog X.w) X.A (noteFrame (.ref b) X.env) _ _ _
    refine Sky.land Zc.steady frames e2 sky (fun h5 land grow5 => ?_)
    have J5 : Inv X pins σ H { t with heap := h5 } := J.landed nb land.1 (grow.trans grow5) os ag
    obtain ⟨ob5, fs5, there5, zc5, data5⟩ := land.there
    have apart : b ∉ frs (X.env :: X.outer) := fun hin => by
      obtain ⟨_, o2, at2, no⟩ := land.2.2.1.mem hin
      rw [there5] at at2
      cases at2
      exact no _ data5
    have ne1 : b ≠ X.env.locals := fun e => apart (List.mem_filterMap.mpr ⟨X.env, List.mem_cons_self, by rw [e2, e]⟩)
    have ne2 : b ∉ X.fs := fun hin => by
      obtain ⟨v, hv, hq⟩ := List.mem_filterMap.mp hin
      exact apart (List.mem_filterMap.mpr ⟨v, List.mem_cons_of_mem _ hv, hq⟩)
    have S5 := J5.suite there5 data5 free ne1 ne2
    -- clause by clause
    suffices walk : ∀ {hs : List ExceptHandler} {cs : List Clause}, AsOk X n hs cs → wAsL X.K i out D cs cv fld σ H →
        wpAny (model X.prog X.w) X.A (handleBy (.ref b) X.env hs) (SP X pins D) X.xe { t with heap := h5 } from walk ok wish
    intro hs cs good
    induction good with
    | nil =>
      intro wish
      refine wpAny_handleBy_nil ?_
      obtain ⟨k1, k2, k3, o6, f6, T6, oT6, ts6, at6, z6, d6, first6, rest6⟩ := id land
      unfold PySem.passOn
      refine wpAny_bind (wpAny_field at6 d6 first6 ?_)
      rw [if_neg (show ¬ ((Value.ref T6 == Value.none) = true) from by simp)]
      have leave : wpAny (model X.prog X.w) X.A (setFlight (.ref b) X.env.frame)
          (fun _ t7 => wpAny (model X.prog X.w) X.A (throw (.ref b) : Sem Flow) (SP X pins D) X.xe t7) X.xe { t with heap := h5 } := by
        rw [e2]
        refine HandSPX.setFlight_upZ land fun h7 land7 grow7 => wpAny_throw (up _ _ ?_)
        refine ⟨b, B, sB, pins, σ, H, cv, fld, rfl, J, nb, (grow.trans grow5).trans grow7, .inr (.inr ?_), free, os, ag, wish⟩
        rw [e1]
        exact land7
      first
        | exact wpAny_bind (wpAny_pure (wpAny_bind leave))
        | exact wpAny_bind leave
    | @cons y c ts first rest p1 p2 more2 cl2 name suite tail ih =>
      intro wish
      obtain ⟨hit, match1, yes, no⟩ := wish
      refine wpAny_handleBy_cons (codeAny_handlers_test ?_) (fun q => by cases q)
      have kind : PySem.W.Looks (model X.prog X.w) h5 (typeOf (.ref b)) cv := fun A Q E s k q => by
        refine wpAny_typeOf_ref (k _ _ there5) ?_
        rw [zc5.1]
        exact q
      have found := PySem.W.exm_one (M := model X.prog X.w) J5.kIn kind match1
      have look : ∀ {Q E : Value → Shared → Prop}, Q c { t with heap := h5 } →
          wpAny (model X.prog X.w) (X.A.mark (some (.ref b))) (eval (.Name y p1) X.env) Q E { t with heap := h5 } := fun q => by
        obtain ⟨g1, g2, own | ⟨g3, g4, g5⟩⟩ := name
        · exact ld_glob (X := X.suite b ((b, ob5) :: (X.pn ++ pins))) S5 g1 own q g2
        · exact ld_blt (X := X.suite b ((b, ob5) :: (X.pn ++ pins))) S5 g1 g3 g4 q g5 g2
      refine look (found.here ?_)
      cases hit with
      | false => exact ih (no rfl)
      | true =>
        refine codeAny_handlers_suite_as (HandSPX.lands_againZ land fun h8 land8 grow8 => ?_)
        have J8 : Inv X pins σ H { t with heap := h8 } := J.landed nb land8.1 ((grow.trans grow5).trans grow8) os ag
        obtain ⟨ob8, fs8, there8, zc8, data8⟩ := land8.there
        have S8 := J8.suite there8 data8 free ne1 ne2
        refine store_ok (X := X.suite b ((b, ob8) :: (X.pn ++ pins))) (v := .ref b) S8 nod slot (.inl lo) rfl (fun t9 S9 => ?_) (.inr lo)
        have run := (suite b ob8 cv fld (X.pn ++ pins) zc8 ⟨_, data8⟩).run [] t9 _ H _ S9 (yes rfl b free)
        refine wpAny_mono run (fun fl tA done => ?_) (fun _ _ z => z.elim)
        have clear : ∀ {σA : L2.St} {HA : Hp} {Q : Shared → Prop}, Inv (X.suite b ((b, ob8) :: (X.pn ++ pins))) [] σA HA tA →
            (∀ tB, Inv X pins (σA.set i none) HA tB → Q tB) →
            wpAny (model X.prog X.w) X.A (do bindName X.env n .none; unbindBehindTheSuite X.env n p2) (fun _ tB => Q tB) X.xe tA :=
          fun SA goal => gone_ok (SA.unsuite inv) nod slot lo goal
        match fl, done with
        | .next, ⟨_, _, SA, q⟩ => exact clear SA fun tB JB => ⟨_, _, JB, q⟩
        | .brk, ⟨_, _, SA, q⟩ => exact clear SA fun tB JB => ⟨_, _, JB, q⟩
        | .cont, ⟨_, _, SA, q⟩ => exact clear SA fun tB JB => ⟨_, _, JB, q⟩
        | .ret u, ⟨_, _, _, SA, rel, q⟩ => exact clear SA fun tB JB => ⟨_, _, _, JB, rel, q⟩
  refine wpAny_mono big (fun fl t done => ?_) (fun _ _ z => z)
  match fl, done with
  | .next, ⟨_, _, J, q⟩ => exact wpAny_execs_nil ⟨_, _, J.ofTry inv, q⟩
  | .brk, ⟨_, _, J, q⟩ => exact ⟨_, _, J.ofTry inv, q⟩
  | .cont, ⟨_, _, J, q⟩ => exact ⟨_, _, J.ofTry inv, q⟩
  | .ret u, ⟨_, _, _, J, rel, q⟩ => exact ⟨_, _, _, J.ofTry inv, rel, q⟩
end
end SE
namespace SE
open PySem PySem.Spec PyProof.Rows L2
/-! ### what is refused -/
def bad (C : Addr) (H : Hp) (v : V) (E : XK) : Prop := ∀ (dd : Addr) (H' : Hp), Same H H' → H dd = none → H' dd = some (.xd [("value", v)]) → E (.ref C) (some dd) H'
theorem bad.go {C : Addr} {H H1 : Hp} {v : V} {E : XK} (h : bad C H v E) (s : Same H H1) : bad C H1 v E := fun dd H' s' n e => h dd H' (s.trans s') (s.free n) e
end SE
namespace SE
open PySem PySem.Spec PyProof.Rows L2
/-- a def that may raise, where it does not -/
theorem fnOk_calm {P : Program} {w : World} {K : PySem.W.Frag} {mg : Str → Option Value} {base : Heap} {k : Nat} {f : Addr} {fd : FuncData} {ps : List Str} {sp : Sp} (F : FnOk P w K mg base (L2.CX P w) k f fd ps sp) : FnOk P w K mg base CX0 k f fd ps (fun vs H Q _ => sp vs H Q E0) := by
  refine ⟨fun vs H Q E h => F.len vs H Q E0 h, fun A outer s H args us vs Q E hr e0 hb r h => codeAny_mono (F.run A outer s H args us vs Q E0 hr e0 hb r h) fun res s' q => ?_⟩
  cases res with
  | error e =>
    obtain ⟨_, _, _, _, _, _, _, _, _, _, _, _, z⟩ := q
    exact z
  | ok fl => cases fl <;> exact q
theorem HasX.calm {P : Program} {w : World} {K : PySem.W.Frag} {mg : Str → Option Value} {base : Heap} {x : Str} {k : Nat} {ps : List Str} {dvs : List V} {sp : Sp} (h : HasX P w K mg base x k ps dvs sp) : Has P w K mg base x k ps dvs (fun vs H Q _ => sp vs H Q E0) := by
  obtain ⟨f, fd, ds, F, rest⟩ := h
  exact ⟨f, fd, ds, fnOk_calm F, rest.1, rest.2.1, rest.2.2.1, rest.2.2.2.1, rest.2.2.2.2⟩
end SE
namespace SE
open PySem PySem.Spec PyProof.Rows L2
/-! ### blocks -/
abbrev Blk := List (Str × Eff)
def EntB (K : PySem.W.Frag) (C : Addr) (H : Hp) (kv : Key × V) (b : Str × Eff) : Prop := kv.1 = Sum.inr b.1 ∧ ∃ e, kv.2 = .ref e ∧ EffV K C H e b.2
abbrev BlkH (K : PySem.W.Frag) (C : Addr) (H : Hp) : List (Key × V) → Blk → Prop := Paired (EntB K C H)
def BlkD (K : PySem.W.Frag) (C : Addr) (H : Hp) (d : Addr) (bs : Blk) : Prop := ∃ kvs, H d = some (.dK kvs) ∧ BlkH K C H kvs bs
def smM (m : Nat) (xs ys : List Str) : Bool := decide (xs.length ≤ m) && decide (ys.length ≤ m)
def blkM : Eff → Bool
  | none => true
  | some (xs, ys, _) => smM 8 xs ys
structure BlkOk (bs : Blk) : Prop where
  l0 : 1 ≤ bs.length
  l1 : bs.length ≤ 8
  ok : ∀ b ∈ bs, Item b.1 ∧ blkM b.2 = true ∧ EffOk b.2
  nd : (bs.map (·.1)).Nodup
section
variable {K : PySem.W.Frag} {C : Addr} {H H' : Hp}
theorem BlkH.same {kvs : List (Key × V)} {bs : Blk} (h : BlkH K C H kvs bs) (s : Same H H') : BlkH K C H' kvs bs := Paired.mapP h fun _ _ q => ⟨q.1, q.2.elim fun t z => ⟨t, z.1, z.2.same s⟩⟩
theorem BlkD.same {d : Addr} {bs : Blk} (h : BlkD K C H d bs) (s : Same H H') : BlkD K C H' d bs := by
  obtain ⟨kvs, a, b⟩ := h
  exact ⟨kvs, s _ _ a, b.same s⟩
theorem BlkH.keys {kvs : List (Key × V)} {bs : Blk} (h : BlkH K C H kvs bs) : kvs.map (·.1) = (bs.map (·.1)).map Sum.inr := by
  induction h with
  | nil => rfl
  | cons a r ih => rw [List.map_cons, List.map_cons, List.map_cons, ih, a.1]
theorem EffV.mvD {d e : Addr} {x : HO} {o : Eff} (hd : (∃ kvs, H d = some (.dK kvs)) ∨ ∃ od kvs, H d = some (.frz od (.dK kvs))) (h : EffV K C H e o) : EffV K C (upd H d x) e o := by
  have n1 : ∀ {b dx fs}, H b = some (.ins C dx fs) → upd H d x b = some (.ins C dx fs) := fun {b dx fs} q => by
    rw [upd_ne]
    · exact q
    · intro e
      rw [e] at q
      rcases hd with ⟨_, hd⟩ | ⟨_, _, hd⟩ <;> rw [hd] at q <;> cases q
  have n2 : ∀ {b xs}, SqT K H b xs → SqT K (upd H d x) b xs := fun {b xs} q => by
    have ne : ∀ {o}, H b = some o → (∀ xs, o = .tup xs → True) → (∃ xs, o = .tup xs ∨ ∃ p, o = .frz p (.tup xs)) → upd H d x b = some o := fun {o} z _ w => by
      rw [upd_ne]
      · exact z
      · intro e
        rw [e] at z
        obtain ⟨xs, rfl | ⟨p, rfl⟩⟩ := w <;> rcases hd with ⟨_, hd⟩ | ⟨_, _, hd⟩ <;> rw [hd] at z <;> cases z
    rcases q with (q | ⟨p, q⟩) | q
    · exact .inl (.inl (ne q (fun _ _ => trivial) ⟨xs, .inl rfl⟩))
    · exact .inl (.inr ⟨p, ne q (fun _ _ => trivial) ⟨xs, .inr ⟨p, rfl⟩⟩⟩)
    · exact .inr q
  cases o with
  | none =>
    obtain ⟨dx, h1⟩ := NevAt.ex h
    exact ⟨dx, n1 h1⟩
  | some B =>
    obtain ⟨dx, u, v, h1, h2, h3⟩ := EffAt.ex h
    exact ⟨dx, u, v, n1 h1, n2 h2, n2 h3⟩
theorem BlkH.mvD {d : Addr} {x : HO} {kvs : List (Key × V)} {bs : Blk} (hd : (∃ kvs, H d = some (.dK kvs)) ∨ ∃ od kvs, H d = some (.frz od (.dK kvs))) (h : BlkH K C H kvs bs) : BlkH K C (upd H d x) kvs bs := Paired.mapP h fun _ _ q => ⟨q.1, q.2.elim fun t z => ⟨t, z.1, z.2.mvD hd⟩⟩
theorem mutDK {kvs : List (Key × V)} : Mut (some (.dK kvs)) := trivial
/-- a dict that was locked and is as before -/
theorem Same.back {H H1 H2 : Hp} {d : Addr} {o x : HO} (hd : H d = some o) (h1 : H1 = upd H d x) (s : Same H1 H2) : Same H (upd H2 d o) := fun b u e => by
  by_cases c : b = d
  · subst c
    rw [hd] at e
    cases e
    exact upd_same
  · rw [upd_ne c]
    exact s _ _ (by rw [h1, upd_ne c]; exact e)
theorem room_u {k : Nat} {A : Around} (hr : Room k A) : A.units + 1 < cLine := by
  have := hr.un
  omega
/-- what is no effect -/
def NoEff (K : PySem.W.Frag) (C : Addr) (H : Hp) (v : V) : Prop := ∃ d, DpX K H v d ∧ PySem.W.kitOne K (.type (tyD d)) (.ref C) = some false
end
section
variable {P : Program} {w : World} {K : PySem.W.Frag} {mg : Str → Option Value} {base : Heap} {C : Addr}
/-! ### has_at_most, is_block -/
def spHm (K : PySem.W.Frag) (C : Addr) : Sp := fun vs H Q _ => ∃ (e : Addr) (xs ys : List Str) (p : Int) (m : Nat), vs = [.ref e, natV m] ∧ EffAt K C H e xs ys p ∧ Q (.bl (smM m xs ys)) H
theorem scHm : FnScope ["effect", "many"] ["effect", "many"] (defScope sHasAtMost) := ⟨rfl, rfl, rfl, by decide +kernel, rfl, by decide +kernel, by decide +kernel⟩
theorem has_hm (D : Def K mg "has_at_most" sHasAtMost) (T : EC K mg C) (GP : PropHas P w K mg base C "pops" 1 (spPops K C)) (GQ : PropHas P w K mg base C "pushes" 1 (spPush K C)) (B : Blt mg) : Has P w K mg base "has_at_most" 3 ["effect", "many"] [] (spHm K C) := by
  refine has_of D scHm (fun _ _ _ _ _ _ us hl => match us, hl with | [_, _], _ => rfl) (fun xs H Q E h => ?_) (fun f cv A out s H xs Q E hr h => ?_)
  · obtain ⟨e, xs, ys, p, m, rfl, _⟩ := h
    rfl
  · obtain ⟨e, xs, ys, p, m, rfl, hE, k⟩ := h
    refine ⟨_, pss_one (ps_ret (pe_and (pe_cmpR op_le (pe_callB call_len_seq (by rfl) B.len PySem.boot_len (pa_cons (pe_propH GP (pv 0) T.cl hr) pa_nil)) (pv 1) (nomark _)) (pe_one (pe_cmpR op_le (pe_callB call_len_seq (by rfl) B.len PySem.boot_len (pa_cons (pe_propH GQ (pv 0) T.cl hr) pa_nil)) (pv 1) (nomark _))))), ?_⟩
    obtain ⟨dx, u0, v0, hi, t1, t2⟩ := hE.ex
    refine ⟨_, rfl, e, dx, _, rfl, hi, e, xs, ys, p, rfl, hE, fun u hu => ⟨u, _, rfl, .inr hu, _, rfl, _, _, rfl, rfl, decide (xs.length ≤ m), ?_, ?_⟩⟩
    · refine congrArg V.bl (decide_eq_decide.mpr ?_)
      rw [List.length_map]
      omega
    refine iteB (fun e1 => ?_) (fun e1 => ?_)
    · refine ⟨_, rfl, e, dx, _, rfl, hi, e, xs, ys, p, rfl, hE, fun u hu => ⟨u, _, rfl, .inr hu, _, rfl, _, _, rfl, rfl, ?_⟩⟩
      unfold smM at k
      rw [e1, Bool.true_and] at k
      have ek : Q (V.bl (decide (((ys.map V.str).length : Int) ≤ (m : Int)))) H := by
        rw [show decide (((ys.map V.str).length : Int) ≤ (m : Int)) = decide (ys.length ≤ m) from decide_eq_decide.mpr (by rw [List.length_map]; omega)]
        exact k
      exact ek
    · unfold smM at k
      rw [e1, Bool.false_and] at k
      exact k
def spIb (K : PySem.W.Frag) (C : Addr) : Sp := fun vs H Q _ => ∃ v, vs = [v] ∧ ((∃ e o, v = .ref e ∧ EffV K C H e o ∧ Q (.bl (blkM o)) H) ∨ (NoEff K C H v ∧ Q (.bl false) H))
theorem scIb : FnScope ["value"] ["value"] (defScope sIsBlock) := ⟨rfl, rfl, rfl, by decide +kernel, rfl, by decide +kernel, by decide +kernel⟩
theorem has_ib (D : Def K mg "is_block" sIsBlock) (T : EC K mg C) (TI : EI K C) (GI : PropHas P w K mg base C "is_never" 1 (spIsNev K C)) (GH : Has P w K mg base "has_at_most" 3 ["effect", "many"] [] (spHm K C)) (mc : ∃ t, mg "MOST_BLOCK_ITEMS" = some (.int 8 t)) (B : Blt mg) : Has P w K mg base "is_block" 4 ["value"] [] (spIb K C) := by
  obtain ⟨tm, hM⟩ := mc
  refine has_of D scIb (fun _ _ _ _ _ _ us hl => match us, hl with | [_], _ => rfl) (fun xs H Q E h => ?_) (fun f cv A out s H xs Q E hr h => ?_)
  · obtain ⟨v, rfl, _⟩ := h
    rfl
  · obtain ⟨v, rfl, h⟩ := h
    have hr2 : Room 2 _ := hr.mono (by decide)
    refine ⟨_, pss_one (ps_ret (pe_and (pe_callB call_isi (by rfl) B.isi (by decide +kernel) (pa_cons (pv 0) (pa_cons (pe_glob (v := .ref C) rfl T.mgE rfl) pa_nil)))
      (pe_one (pe_or (pe_propH GI (pv 0) T.cl hr2) (pe_one (pe_has GH hr (pa_cons (pv 0) (pa_cons (pe_glob (v := .int 8) rfl hM ⟨_, rfl⟩) pa_nil)))))))), ?_⟩
    rcases h with ⟨e, o, rfl, hE, k⟩ | ⟨⟨d, hd, hk⟩, k⟩
    · obtain ⟨dx, fs, hi⟩ := hE.ins
      refine ⟨_, rfl, _, .ref C, .ref C, .ref C, true, rfl, .own C, .base (.ins hi T.cl TI.ha TI.hn TI.ht TI.hm), TI.ki, true, rfl, iteT ?_⟩
      refine ⟨_, rfl, e, dx, fs, rfl, hi, e, rfl, ?_⟩
      cases o with
      | none => exact .inr ⟨hE, true, rfl, iteT k⟩
      | some b =>
        obtain ⟨xs, ys, p⟩ := b
        exact .inl ⟨xs, ys, p, hE, false, rfl, iteF ⟨_, rfl, e, xs, ys, p, 8, rfl, hE, k⟩⟩
    · exact ⟨_, rfl, _, .ref C, .type (tyD d), .ref C, false, rfl, .own C, hd.ty, hk, false, rfl, iteF k⟩
/-! ### are_blocks, check_blocks -/
def spAb (K : PySem.W.Frag) (C : Addr) : Sp := fun vs H Q _ => ∃ d, vs = [.ref d] ∧ ((∃ bs, BlkD K C H d bs ∧ BlkOk bs ∧ ∀ H', Same H H' → Q (.bl true) H') ∨ (H d = some (.dK []) ∧ Q (.bl false) H))
abbrev nAb : List Str := ["value", "name", "effect"]
theorem scAb : FnScope nAb ["value"] (defScope sAreBlocks) := ⟨rfl, rfl, rfl, by decide +kernel, rfl, by decide +kernel, by decide +kernel⟩
theorem has_ab (D : Def K mg "are_blocks" sAreBlocks) (GI : Has P w K mg base "is_item" 1 ["value"] [] spIsItem) (GB : Has P w K mg base "is_block" 4 ["value"] [] (spIb K C)) (mc : ∃ t, mg "MOST_BLOCKS" = some (.int 8 t)) (B : Blt mg) (md : mg "dict" = none) : Has P w K mg base "are_blocks" 5 ["value"] [] (spAb K C) := by
  obtain ⟨tm, hM⟩ := mc
  refine has_of D scAb (fun _ _ _ _ _ _ us hl => match us, hl with | [_], _ => rfl) (fun xs H Q E h => ?_) (fun f cv A out s H xs Q E hr h => ?_)
  · obtain ⟨d, rfl, _⟩ := h
    rfl
  · obtain ⟨d, rfl, h⟩ := h
    have hr1 : Room 1 _ := hr.mono (by decide)
    refine ⟨_, pss_cons (ps_if (PW.pt (pw_or (pt_not (pt_val (pe_callB call_isi (by rfl) B.isi (by decide +kernel) (pa_cons (pv 0) (pa_cons (pe_bltn (v := .ty "dict") (by rfl) md (by decide +kernel) rfl) pa_nil)))))
        (pw_or1 (pt_not (pt_chain op_le op_le pe_int (pe_callB call_lenD (by rfl) B.len PySem.boot_len (pa_cons (pv 0) pa_nil)) (pe_glob (v := .int 8) rfl hM ⟨_, rfl⟩)))))) (pss_one (ps_ret pe_bl)) pss_nil)
      (pss_one (ps_ret (pe_callB (cr_all rfl) (by rfl) B.all (by decide +kernel) (pa_cons
        (pe_lock (pe_lc (own := [("name", 1), ("effect", 2)]) (g := gTup K 2 (gCons (gName 1) (gCons (gName 2) gNil))) (tt := tYes) (te := tAndV (tCall spIsItem [] E0 (tCons (tVar 1) tNil)) (tCall (spIb K C) [] E0 (tCons (tVar 2) tNil))) rfl scAb.nd (pi_items (pv 0)) (blkOk_by (own := [("name", 1), ("effect", 2)]) (N := nAb) (sc := defScope sAreBlocks) (by decide +kernel))
          (fun _ _ _ _ _ => pg_tup (by rfl) (pgs_cons (pg_name (i := 1) scAb.nd rfl (.inl rfl)) (pgs_cons (pg_name (i := 2) scAb.nd rfl (.inl rfl)) pgs_nil))) (fun _ _ _ _ _ => pts_nil) (fun _ _ _ _ _ => pe_and (pe_has GI hr1 (pa_cons (pv 1) pa_nil)) (pe_one (pe_has GB hr (pa_cons (pv 2) pa_nil)))))) pa_nil)))), ?_⟩
    rcases h with ⟨bs, ⟨kvs, hd, hB⟩, ok, k⟩ | ⟨hd, k⟩
    · refine ⟨_, rfl, _, .ty "dict", .type "dict", .type "dict", true, rfl, .ty _, .base (.dK hd), kit_ty (by decide +kernel), true, rfl, iteF ?_⟩
      have ll := paired_len hB
      have p1 : (1 : Int) ≤ (kvs.length : Int) := by have := ok.l0; omega
      have p2 : (kvs.length : Int) ≤ 8 := by have := ok.l1; omega
      refine ⟨_, rfl, d, kvs, rfl, hd, 1, _, rfl, rfl, true, congrArg V.bl (decide_eq_true p1), iteT ⟨_, 8, rfl, rfl, true, congrArg V.bl (decide_eq_true p2), iteF ?_⟩⟩
      refine ⟨d, .dK kvs, hd, mutDK, fun od => ?_⟩
      have hF : upd H d (.frz od (.dK kvs)) d = some (.frz od (.dK kvs)) := upd_same
      have sF : BlkH K C (upd H d (.frz od (.dK kvs))) kvs bs := hB.mvD (.inl ⟨_, hd⟩)
      generalize eF : upd H d (.frz od (.dK kvs)) = HF at hF sF
      refine ⟨_, rfl, d, od, kvs, rfl, hF, fun DD hDD => lc_it walk_items (fun j H2 => H2 DD = some (.lst ((List.replicate j true).map V.bl)) ∧ Same HF H2) ⟨upd_same, Same.new hDD⟩ (fun j H2 _ q => q.2 _ _ hF) ?_ ?_⟩
      · rintro j x H2 H3 hj ⟨h2, s2⟩ ⟨T', pk, pv', rfl, nT, rfl, hk, hv⟩
        obtain ⟨kv, hkv⟩ : ∃ kv, kvs[j]? = some kv := ⟨_, List.getElem?_eq_getElem hj⟩
        dsimp only at hk hv
        rw [hkv] at hk hv
        obtain ⟨p, hp, e1, t, e2, hT⟩ := paired_at sF hkv
        have ek : pk = V.str p.1 := by
          have z : some (kV kv.1) = some pk := hk
          rw [e1] at z
          exact (Option.some.inj z).symm
        have ev : pv' = V.ref t := by
          have z : some kv.2 = some pv' := hv
          rw [e2] at z
          exact (Option.some.inj z).symm
        subst ek ev
        obtain ⟨q1, q2, q3⟩ := ok.ok p (List.mem_of_getElem? hp)
        have sT : Same H2 (upd H2 T' (.tup [.str p.1, .ref t])) := Same.new nT
        refine ⟨T', _, rfl, .of upd_same, rfl, _, _, rfl, _, _, rfl, rfl, rfl, yes_in ⟨_, rfl, p.1, rfl, q1, fun H4 s4 => ⟨true, rfl, iteT ?_⟩⟩⟩
        refine ⟨_, rfl, .ref t, rfl, .inl ⟨t, p.2, rfl, hT.same (s2.trans (sT.trans s4)), ?_⟩⟩
        have s25 := sT.trans s4
        rw [q2]
        refine ⟨_, s25 _ _ h2, ?_, by rw [upd_same, bl_snoc], Same.free2 (s2.trans s25) hDD⟩
        have := ok.l1
        rw [List.length_map, List.length_replicate, sizeLine_eq]
        omega
      · rintro H2 ⟨h2, s2⟩
        have hF2 := s2 _ _ hF
        have dD : DD ≠ d := fun q => by rw [q, hF2] at h2; cases h2
        refine ⟨hF2, DD, _, rfl, .of (by rw [upd_ne dD]; exact h2), ?_⟩
        rw [all_true]
        exact k _ (Same.back hd eF.symm s2)
    · refine ⟨_, rfl, _, .ty "dict", .type "dict", .type "dict", true, rfl, .ty _, .base (.dK hd), kit_ty (by decide +kernel), true, rfl, iteF ?_⟩
      exact ⟨_, rfl, d, _, rfl, hd, 1, _, rfl, rfl, false, rfl, iteF ⟨false, rfl, iteT k⟩⟩
def spCb (K : PySem.W.Frag) (C CB : Addr) : Sp := fun vs H Q E => ∃ d, vs = [.ref d] ∧ ((∃ bs, BlkD K C H d bs ∧ BlkOk bs ∧ ∀ H', Same H H' → Q .non H') ∨ (H d = some (.dK []) ∧ bad CB H (.ref d) E))
theorem scCb : FnScope ["blocks"] ["blocks"] (defScope sCheckBlocks) := ⟨rfl, rfl, rfl, by decide +kernel, rfl, by decide +kernel, by decide +kernel⟩
theorem hasX_cb {CB : Addr} (D : Def K mg "check_blocks" sCheckBlocks) (G : Has P w K mg base "are_blocks" 5 ["value"] [] (spAb K C)) (T : XcC P w K mg base "InvalidBlocks" "value" CB) : HasX P w K mg base "check_blocks" 6 ["blocks"] [] (spCb K C CB) := by
  refine hasX_of D scCb (fun _ _ _ _ _ _ us hl => match us, hl with | [_], _ => rfl) (fun xs H Q E h => ?_) (fun f cv A out s H xs Q E hr h => ?_)
  · obtain ⟨d, rfl, _⟩ := h
    rfl
  · obtain ⟨d, rfl, h⟩ := h
    have hr2 : Room 2 _ := hr.mono (by decide)
    refine ⟨_, pss_one (ps_if (pt_not (pt_val (pe_has G hr (pa_cons (pv 0) pa_nil)))) (pss_one (ps_raiseX rfl T hr2 tkX (pa_cons (pv 0) pa_nil))) pss_nil), ?_⟩
    rcases h with ⟨bs, hB, ok, k⟩ | ⟨hd, k⟩
    · exact ⟨_, rfl, d, rfl, .inl ⟨bs, hB, ok, fun H' s' => ⟨true, rfl, iteF (k _ s')⟩⟩⟩
    · exact ⟨_, rfl, d, rfl, .inr ⟨hd, false, rfl, iteT ⟨_, rfl, mk_red fun dd hdd => k dd _ (Same.new hdd) hdd upd_same⟩⟩⟩
/-! ### check_stack, check_search -/
def spCst (K : PySem.W.Frag) : Sp := fun vs H Q _ => ∃ (a : Addr) (zs : List Str), vs = [.ref a] ∧ SqT K H a (zs.map V.str) ∧ zs.length ≤ 30 ∧ (∀ z ∈ zs, Item z) ∧ ∀ H', Same H H' → Q .non H'
theorem scCst : FnScope ["stack"] ["stack"] (defScope sCheckStack) := ⟨rfl, rfl, rfl, by decide +kernel, rfl, by decide +kernel, by decide +kernel⟩
theorem has_cst (D : Def K mg "check_stack" sCheckStack) (G : Has P w K mg base "is_word" 2 ["value"] [] (spIsWord K)) (mc : ∃ t, mg "MOST_STACK_ITEMS" = some (.int 30 t)) (B : Blt mg) : Has P w K mg base "check_stack" 3 ["stack"] [] (spCst K) := by
  obtain ⟨tm, hM⟩ := mc
  refine has_of D scCst (fun _ _ _ _ _ _ us hl => match us, hl with | [_], _ => rfl) (fun xs H Q E h => ?_) (fun f cv A out s H xs Q E hr h => ?_)
  · obtain ⟨a, zs, rfl, _⟩ := h
    rfl
  · obtain ⟨a, zs, rfl, hT, hl, hI, k⟩ := h
    refine ⟨_, pss_one (ps_if (PW.pt (pw_or (pt_not (pt_val (pe_has G hr (pa_cons (pv 0) pa_nil)))) (pw_or1 (pt_cmpR op_gt (pe_callB call_len_seq (by rfl) B.len PySem.boot_len (pa_cons (pv 0) pa_nil)) (pe_glob (v := .int 30) rfl hM ⟨_, rfl⟩) (nomark _))))) pss_never pss_nil), ?_⟩
    refine ⟨_, rfl, a, zs, rfl, hT, by omega, hI, fun H1 s1 => ⟨true, rfl, iteF ⟨_, rfl, a, _, rfl, .inr (Same.tup s1 hT), _, 30, rfl, rfl, _, rfl, ?_⟩⟩⟩
    rw [show decide ((((zs.map V.str).length : Nat) : Int) > 30) = false from decide_eq_false (by rw [List.length_map]; omega)]
    exact iteF (k _ s1)
def spCse (K : PySem.W.Frag) (C : Addr) : Sp := fun vs H Q _ => ∃ (d a b : Addr) (bs : Blk) (zs ys : List Str), vs = [.ref d, .ref a, .ref b] ∧ BlkD K C H d bs ∧ BlkOk bs ∧ SqT K H a (zs.map V.str) ∧ zs.length ≤ 30 ∧ (∀ z ∈ zs, Item z) ∧ SqT K H b (ys.map V.str) ∧ ys.length ≤ 30 ∧ (∀ z ∈ ys, Item z) ∧ ∀ H', Same H H' → Q .non H'
theorem scCse : FnScope ["blocks", "start", "goal"] ["blocks", "start", "goal"] (defScope sCheckSearch) := ⟨rfl, rfl, rfl, by decide +kernel, rfl, by decide +kernel, by decide +kernel⟩
theorem has_cse {CB : Addr} (D : Def K mg "check_search" sCheckSearch) (GB : HasX P w K mg base "check_blocks" 6 ["blocks"] [] (spCb K C CB)) (GS : Has P w K mg base "check_stack" 3 ["stack"] [] (spCst K)) : Has P w K mg base "check_search" 7 ["blocks", "start", "goal"] [] (spCse K C) := by
  refine has_of D scCse (fun _ _ _ _ _ _ us hl => match us, hl with | [_, _, _], _ => rfl) (fun xs H Q E h => ?_) (fun f cv A out s H xs Q E hr h => ?_)
  · obtain ⟨d, a, b, bs, zs, ys, rfl, _⟩ := h
    rfl
  · obtain ⟨d, a, b, bs, zs, ys, rfl, hB, ok, hT, l1, i1, hU, l2, i2, k⟩ := h
    have hr3 : Room 3 _ := hr.mono (by decide)
    refine ⟨_, pss_cons (ps_expr (pe_has GB.calm hr (pa_cons (pv 0) pa_nil))) (pss_cons (ps_expr (pe_has GS hr3 (pa_cons (pv 1) pa_nil))) (pss_one (ps_expr (pe_has GS hr3 (pa_cons (pv 2) pa_nil))))), ?_⟩
    exact ⟨_, rfl, d, rfl, .inl ⟨bs, hB, ok, fun H1 s1 => ⟨_, rfl, a, zs, rfl, Same.tup s1 hT, l1, i1, fun H2 s2 => ⟨_, rfl, b, ys, rfl, Same.tup (s1.trans s2) hU, l2, i2, fun H3 s3 => k _ ((s1.trans s2).trans s3)⟩⟩⟩⟩
/-! ### rules_of -/
def ruleB (bs : Blk) (n : Str) : Option Rule := ((lookA n bs).bind id).map fun B => (n, B.1, B.2.1)
def rulesM (bs : Blk) (ns : List Str) : List Rule := ns.filterMap (ruleB bs)
def spRo (K : PySem.W.Frag) (C : Addr) : Sp := fun vs H Q _ => ∃ (d : Addr) (bs : Blk), vs = [.ref d] ∧ BlkD K C H d bs ∧ BlkOk bs ∧
  ∀ (l : Addr) (us : List V) (ns : List Str) (H' : Hp), Same H H' → H l = none → H' l = some (.lst us) → ns.Perm (bs.map (·.1)) → sortedS ns = true → Paired (RuV K H') us (rulesM bs ns) → Q (.ref l) H'
theorem scRo : FnScope ["blocks", "name"] ["blocks"] (defScope sRulesOf) := ⟨rfl, rfl, rfl, by decide +kernel, rfl, by decide +kernel, by decide +kernel⟩
theorem blk_get {d : Addr} {kvs : List (Key × V)} {bs : Blk} {n : Str} {H : Hp} (hd : H d = some (.dK kvs)) (h : BlkH K C H kvs bs) (m : n ∈ bs.map (·.1)) : ∃ e o, lookA n bs = some o ∧ DGet H d (.str n) (some (.ref e)) ∧ EffV K C H e o := by
  have q : ∀ {kvs : List (Key × V)} {bs : Blk}, BlkH K C H kvs bs → n ∈ bs.map (·.1) → ∃ e o, lookA n bs = some o ∧ valV kvs (Sum.inr n) = some (.ref e) ∧ EffV K C H e o := by
    intro kvs bs h
    induction h with
    | nil => intro m; cases m
    | @cons kv b kvs bs a r ih =>
      intro m
      obtain ⟨a1, e, a2, a3⟩ := a
      by_cases c : b.1 = n
      · exact ⟨e, b.2, by unfold lookA; rw [if_pos c], by rw [← c, ← a1, ← a2]; exact valV_pos rfl, a3⟩
      · obtain ⟨e2, o2, z1, z2, z3⟩ := ih (by
          rw [List.map_cons] at m
          exact (List.mem_cons.mp m).resolve_left (fun z => c z.symm))
        exact ⟨e2, o2, by unfold lookA; rw [if_neg c]; exact z1, by rw [valV_neg (fun z => c (Sum.inr.inj (a1.symm.trans z)))]; exact z2, z3⟩
  obtain ⟨e, o, z1, z2, z3⟩ := q h m
  exact ⟨e, o, z1, by rw [← z2]; exact DGet.k (k := Sum.inr n) hd, z3⟩
theorem has_ro (D : Def K mg "rules_of" sRulesOf) (T : EC K mg C) (GI : PropHas P w K mg base C "is_never" 1 (spIsNev K C)) (GP : PropHas P w K mg base C "pops" 1 (spPops K C)) (GQ : PropHas P w K mg base C "pushes" 1 (spPush K C)) (ms : mg "sorted" = none) : Has P w K mg base "rules_of" 3 ["blocks"] [] (spRo K C) := by
  refine has_of D scRo (fun _ _ _ _ _ _ us hl => match us, hl with | [_], _ => rfl) (fun xs H Q E h => ?_) (fun f cv A out s H xs Q E hr h => ?_)
  · obtain ⟨d, bs, rfl, _⟩ := h
    rfl
  · obtain ⟨d, bs, rfl, ⟨kvs, hd, hB⟩, ok, k⟩ := h
    have hu := room_u hr
    have hr2 : Room 2 _ := hr.mono (by decide)
    refine ⟨_, pss_one (ps_ret (pe_lc (own := [("name", 1)]) (g := gName 1) rfl scRo.nd (pi_list (pe_callB (call_sortedD rfl) (by rfl) ms (by decide +kernel) (pa_cons (pv 0) pa_nil))) (blkOk_by (own := [("name", 1)]) (N := ["blocks", "name"]) (sc := defScope sRulesOf) (by decide +kernel))
      (fun _ _ _ _ _ => pg_name (i := 1) scRo.nd rfl (.inl rfl)) (fun _ _ _ _ _ => pts_one (pt_not (pt_val (pe_propH GI (pe_dget hu (pv 0) (pv 1) (fun _ _ => rfl)) T.cl hr2))))
      (fun _ _ _ _ _ => pe_tup (pa_cons (pv 1) (pa_cons (pe_propH GP (pe_dget hu (pv 0) (pv 1) (fun _ _ => rfl)) T.cl hr2) (pa_cons (pe_propH GQ (pe_dget hu (pv 0) (pv 1) (fun _ _ => rfl)) T.cl hr2) pa_nil)))))), ?_⟩
    have ll := ok.l1
    refine ⟨_, rfl, d, kvs, bs.map (·.1), rfl, .inl hd, hB.keys, by rw [List.length_map]; omega, fun nm p hp hs hn => ?_⟩
    have nmd : nm.Nodup := hp.nodup_iff.mpr ok.nd
    have lnm : nm.length = bs.length := by rw [hp.length_eq, List.length_map]
    have sP : Same H (upd H p (.lst (nm.map V.str))) := Same.new hn
    have hpp : upd H p (.lst (nm.map V.str)) p = some (.lst (nm.map V.str)) := upd_same
    generalize upd H p (.lst (nm.map V.str)) = H3 at sP hpp ⊢
    refine ⟨p, rfl, ⟨_, .of hpp⟩, fun DD hDD => lc_list (K := K) (a := p) (xs := nm.map V.str) (fun j H4 => ∃ us, H4 DD = some (.lst us) ∧ Paired (RuV K H4) us (rulesM bs (nm.take j)) ∧ us.length ≤ j ∧ Same H3 H4) ⟨[], upd_same, .nil, Nat.le_refl _, Same.new hDD⟩ (fun j H4 _ ⟨_, _, _, _, q⟩ => .of (q _ _ hpp)) ?_ ?_⟩
    · rintro j x H4 hx ⟨us, h4, p4, lu, s4⟩
      rw [List.getElem?_map] at hx
      obtain ⟨n, he, rfl⟩ := Option.map_eq_some_iff.mp hx
      have jl := (List.getElem?_eq_some_iff.mp he).1
      have s34 := sP.trans s4
      have mn : n ∈ bs.map (·.1) := hp.mem_iff.mp (List.mem_of_getElem? he)
      obtain ⟨e, o, lo, dg, hE⟩ := blk_get (s34 _ _ hd) (hB.same s34) mn
      obtain ⟨dx, fs, hi⟩ := hE.ins
      have tk : rulesM bs (nm.take (j + 1)) = rulesM bs (nm.take j) ++ ((ruleB bs n).toList) := by
        rw [List.take_add_one, he]
        unfold rulesM
        rw [List.filterMap_append]
        exact congrArg _ (by cases h : ruleB bs n <;> simp [h])
      have er : ruleB bs n = o.map fun B => (n, B.1, B.2.1) := by
        unfold ruleB
        rw [lo]
        rfl
      rw [tk, er]
      cases o with
      | none =>
        refine ⟨rfl, _, rfl, _, rfl, d, .ref e, rfl, dg, e, dx, fs, rfl, hi, e, rfl, .inr ⟨hE, true, rfl, iteF ⟨us, h4, ?_, by omega, s4⟩⟩⟩
        show Paired (RuV K H4) us (rulesM bs (nm.take j) ++ [])
        rw [List.append_nil]
        exact p4
      | some B =>
        obtain ⟨xs, ys, pk⟩ := B
        refine ⟨rfl, _, rfl, _, rfl, d, .ref e, rfl, dg, e, dx, fs, rfl, hi, e, rfl, .inl ⟨xs, ys, pk, hE, false, rfl, iteT ?_⟩⟩
        refine ⟨_, rfl, _, rfl, _, rfl, d, .ref e, rfl, dg, e, dx, fs, rfl, hi, e, xs, ys, pk, rfl, hE, fun u hu => ?_⟩
        refine ⟨_, rfl, _, rfl, d, .ref e, rfl, dg, e, dx, fs, rfl, hi, e, xs, ys, pk, rfl, hE, fun v hv => ?_⟩
        refine ⟨(by show 3 ≤ sizeLine; decide), fun T' hT' => ?_⟩
        have sT : Same H4 (upd H4 T' (.tup [.str n, .ref u, .ref v])) := Same.new hT'
        have hTT : upd H4 T' (.tup [.str n, .ref u, .ref v]) T' = some (.tup [.str n, .ref u, .ref v]) := upd_same
        refine ⟨us, sT _ _ h4, Nat.lt_of_le_of_lt (show us.length ≤ 8 by omega) (by decide), us ++ [.ref T'], upd_same, ?_, by rw [List.length_append, List.length_singleton]; omega, Same.free2 (s4.trans sT) hDD⟩
        have tp : ∀ b xs, SqT K H4 b xs → SqT K (upd (upd H4 T' (.tup [.str n, .ref u, .ref v])) DD (.lst (us ++ [.ref T']))) b xs := fun b xs q => tup_updL (sT _ _ h4) (Same.tup sT q)
        refine Paired.snoc2 (Paired.mapP p4 fun _ _ q => ?_) ⟨T', u, v, rfl, tup_updL (sT _ _ h4) (.of hTT), tp _ _ hu, tp _ _ hv⟩
        obtain ⟨b, p, q, e1, q1, q2, q3⟩ := q
        exact ⟨b, p, q, e1, tp _ _ q1, tp _ _ q2, tp _ _ q3⟩
    rintro H4 ⟨us, h4, p4, lu, s4⟩
    rw [List.length_map, List.take_length] at p4
    exact k DD us nm H4 (sP.trans s4) (sP.free hDD) h4 hp hs p4
end
end SE
/-! f(e, .., k = v, ..), f a def of the text; (an expression)(e, .., k = v, ..), one of two defs. -/
namespace SE
open PySem PySem.Spec PyProof.Rows L2
section
variable {X : Cx} {CT : CXT} {k n : Nat} {f f0 f1 : Addr} {fd fd0 fd1 : FuncData} {ps ks : List Str} {sp : Sp} {x : Str} {p pos : Pos} {e fe : Expr} {es : List Expr} {kws : List Keyword} {te : TE} {t tk : TA} {ex : L2.St → XK}
  {g g0 g1 : List Value → List Value → List Value} {gV : List V → List V → List V}
def tKwS (n m : Nat) (sp : Sp) (gV : List V → List V → List V) (ex : L2.St → XK) (t tk : TA) : TE := fun σ H Q => t σ H fun vs H1 => tk σ H1 fun zs H2 => vs.length = n ∧ zs.length = m ∧ sp (gV vs zs) H2 Q (ex σ)
theorem pe_kwS (F : FnOk X.prog X.w X.K X.mg X.base CT k f fd ps sp) (room : Room k X.A) (hm : X.mg x = some (.ref f)) (kp : PySem.W.keepIn X.K (.ref f) = true) (bd : KBn X.K fd ps n ks g gV) (out : ∀ σ, PassesAt CT X σ (ex σ)) (ha : PA X (e :: es) t) (hk : PK X kws tk)
    (hks : (backToKw pos (keywordEach kws X.env)).filterMap (·.1) = ks := by rfl) (hall : (backToKw pos (keywordEach kws X.env)).all (·.1.isSome) = true := by rfl) (hg : Gl X x := by rfl) (hd : (x == ("__debug__" : Str)) = false := by decide)
    (he : starEach (e :: es) X.env = (false, eval e X.env) :: starEach es X.env := by rfl) (hpl : ((backTo pos (starEach (e :: es) X.env)).any (·.1) || (backToKw pos (keywordEach kws X.env)).any (·.1.isNone)) = false := by rfl) :
    PE X (.Call (.Name x p) (e :: es) kws pos) (tKwS n ks.length sp gV ex t tk) := by
  constructor
  intro pins s σ H Q I w
  refine wpAny_Call_Name_kw (ld_glob I hg hm ?_ hd)
  refine PySem.W.callWith_KW (h₀ := X.base) I.ok.mod.kin kp hall (thn (ha.run pos pins s σ H _ I w) fun us s1 z => ?_) hpl he
  obtain ⟨vs, H1, I1, r1, w1⟩ := z
  refine thn (hk.run pos pins s1 σ H1 _ I1 w1) fun ws s2 z => ?_
  obtain ⟨zs, H2, I2, r2, l1, l2, w2⟩ := z
  rw [hks]
  exact ⟨I2.kIn, run_kwS F room bd (out σ) I2 r1 r2 l1 l2 w2⟩
def tKwX (f0 f1 : Addr) (n m : Nat) (sp : Sp) (gV : List V → List V → List V) (ex : L2.St → XK) (te : TE) (t tk : TA) : TE := fun σ H Q => te σ H fun y H0 => (y = .ref f0 ∨ y = .ref f1) ∧ tKwS n m sp gV ex t tk σ H0 Q
theorem pe_kwX (hf : PE X fe te) (F0 : FnOk X.prog X.w X.K X.mg X.base CT k f0 fd0 ps sp) (F1 : FnOk X.prog X.w X.K X.mg X.base CT k f1 fd1 ps sp) (room : Room k X.A) (kp0 : PySem.W.keepIn X.K (.ref f0) = true) (kp1 : PySem.W.keepIn X.K (.ref f1) = true) (bd0 : KBn X.K fd0 ps n ks g0 gV) (bd1 : KBn X.K fd1 ps n ks g1 gV)
    (out : ∀ σ, PassesAt CT X σ (ex σ)) (ha : PA X (e :: es) t) (hk : PK X kws tk)
    (hev : eval (.Call fe (e :: es) kws pos) X.env = (do callWith pos (← eval fe X.env) [] (backTo pos (starEach (e :: es) X.env)) (backToKw pos (keywordEach kws X.env))) := by rfl)
    (hks : (backToKw pos (keywordEach kws X.env)).filterMap (·.1) = ks := by rfl) (hall : (backToKw pos (keywordEach kws X.env)).all (·.1.isSome) = true := by rfl)
    (he : starEach (e :: es) X.env = (false, eval e X.env) :: starEach es X.env := by rfl) (hpl : ((backTo pos (starEach (e :: es) X.env)).any (·.1) || (backToKw pos (keywordEach kws X.env)).any (·.1.isNone)) = false := by rfl) :
    PE X (.Call fe (e :: es) kws pos) (tKwX f0 f1 n ks.length sp gV ex te t tk) := by
  constructor
  intro pins s σ H Q I w
  rw [hev]
  refine wpAny_bind (thn (hf.run pins s σ H _ I w) fun u s0 z => ?_)
  obtain ⟨y, H0, I0, ry, hy, w0⟩ := z
  rcases hy with rfl | rfl
  · cases ry
    refine PySem.W.callWith_KW (h₀ := X.base) I0.ok.mod.kin kp0 hall (thn (ha.run pos pins s0 σ H0 _ I0 w0) fun us s1 z => ?_) hpl he
    obtain ⟨vs, H1, I1, r1, w1⟩ := z
    refine thn (hk.run pos pins s1 σ H1 _ I1 w1) fun ws s2 z => ?_
    obtain ⟨zs, H2, I2, r2, l1, l2, w2⟩ := z
    rw [hks]
    exact ⟨I2.kIn, run_kwS F0 room bd0 (out σ) I2 r1 r2 l1 l2 w2⟩
  · cases ry
    refine PySem.W.callWith_KW (h₀ := X.base) I0.ok.mod.kin kp1 hall (thn (ha.run pos pins s0 σ H0 _ I0 w0) fun us s1 z => ?_) hpl he
    obtain ⟨vs, H1, I1, r1, w1⟩ := z
    refine thn (hk.run pos pins s1 σ H1 _ I1 w1) fun ws s2 z => ?_
    obtain ⟨zs, H2, I2, r2, l1, l2, w2⟩ := z
    rw [hks]
    exact ⟨I2.kIn, run_kwS F1 room bd1 (out σ) I2 r1 r2 l1 l2 w2⟩
theorem pass0At {σ : L2.St} {E : XK} : PassesAt CX0 X σ E := fun _ _ _ _ _ _ h => h.elim
end
end SE
/-! Exceptions of own classes as values, below any built-in class, made by position or by keyword. -/
namespace PySem
namespace XV
open PySem.W PySem.Calls PyProof.Rows PySem.HandSPX
open Builtin Builtin.ObjectAttr
/-- what lies behind an own class: the maker and the built-in classes -/
structure Tail (newId : String) (bm : List Value) : Prop where
  maker : ∃ B initId bmB, ExcBaseFacts B newId initId bmB ∧ bm.contains (.type B) = true
  nA : bm.contains (.type "AttributeError") = false
  nN : bm.contains (.type "NameError") = false
  ob : bm.contains (.type "object") = true
  ps : ∀ self : Value, refuseLoop self "__setattr__" bm = pure ()
section
variable {M : Model} {A : Around} {E : Value → Shared → Prop} {h : Heap} {g : Array GenState} {d : Drawn} {t : Nat} {os : OsState}
variable {nm q : Str} {C N : Addr} {bs bm bmB : List Value} {hdct : Bool} {sn : List Str} {sub : List Value} {ab : Bool} {col : Option Bool} {dd : Option Addr} {k0 k1 k2 k3 k5 : Option Value} {B newId initId : String}
theorem chk_new (F : ExcBaseFacts B newId initId bmB) (hB : bm.contains (.type B) = true) {rest : List Value} {kw : List (Str × Value)} {Q : Unit → Shared → Prop}
    (hC : h.get? C = some (excClassObj nm q C N bs bm hdct sn sub ab col dd k0 k1 k2 k3 k5 newId)) (hq : Q () ⟨h, g, d, t, os⟩) : wpAny M A (checkBuiltinCall newId ⟨.ref C :: rest, kw⟩) Q E ⟨h, g, d, t, os⟩ := by
  have hcont : (Value.ref C :: bm).contains (.type B) = true := by rw [List.contains_cons, hB, Bool.or_true]
  have hstar := F.noStar
  simp only [checkBuiltinCall, F.newKind, F.newSplit, F.newRow]
  repeat (first | refine wpAny_loadPart_at hC ?_ | (refine wpAny_isSubtype_exc hC ?_; rw [hcont]) | refine wpAny_staticBase_exc hC ?_ | refine wpAny_madeBy_exc hC ?_ | simp only [bne_self_eq_false, Bool.false_eq_true, if_false] | wp_step)
  exact hq
theorem typ_call (hC : h.get? C = some (excClassObj nm q C N bs bm hdct sn sub ab col dd k0 k1 k2 k3 k5 newId)) : W.Looks M h (isInstance (.ref C) (.type "type")) true := by
  have L : W.Looks M h (typeOf (.ref C)) (.type "type") := (W.Looks.ld hC).andThen .now
  exact L.andThen (W.Looks.of_pure tc_sub)
theorem chk_call {rest : List Value} {kw : List (Str × Value)} {Q : Unit → Shared → Prop} (hC : h.get? C = some (excClassObj nm q C N bs bm hdct sn sub ab col dd k0 k1 k2 k3 k5 newId))
    (hq : Q () ⟨h, g, d, t, os⟩) : wpAny M A (checkBuiltinCall "type.__call__" ⟨.ref C :: rest, kw⟩) Q E ⟨h, g, d, t, os⟩ :=
  @W.check_slot M _ _ ⟨h, g, d, t, os⟩ "type.__call__" "type" "__call__" (.ref C) rest kw _ tc_kind tc_split (typ_call hC) (tc_args _ _ _) hq
end
section
variable {prog : Program} {w : World} {A : Around} {E : Value → Shared → Prop} {R : Result → Shared → Prop} {h : Heap} {g : Array GenState} {d : Drawn} {t : Nat} {os : OsState}
variable {nm q : Str} {C N : Addr} {bs bm : List Value} {hdct : Bool} {sn : List Str} {sub : List Value} {ab : Bool} {col : Option Bool} {dd : Option Addr} {k0 k1 k2 k3 k5 : Option Value} {newId : String}
theorem new_ex (T : Tail newId bm) {rest : List Value} {kw : List (Str × Value)} (hC : h.get? C = some (excClassObj nm q C N bs bm hdct sn sub ab col dd k0 k1 k2 k3 k5 newId))
    (hq : R (.ok (.ret (.ref (h.objs.size + 1)))) ⟨(h.push (W.kdv_tup rest)).push (excO C h.objs.size), g, d, t, os⟩) (hrest : rest.length ≤ sizeLine) :
    codeAny (model prog w) A (.builtin newId ⟨.ref C :: rest, kw⟩) R ⟨h, g, d, t, os⟩ := by
  obtain ⟨B, initId, bmB, F, hB⟩ := T.maker
  have hends := F.ends
  have hcB : (Value.ref C :: bm).contains (.type B) = true := by rw [List.contains_cons, hB, Bool.or_true]
  have hcA : (Value.ref C :: bm).contains (.type "AttributeError") = false := by rw [List.contains_cons, T.nA]; rfl
  have hcN : (Value.ref C :: bm).contains (.type "NameError") = false := by rw [List.contains_cons, T.nN]; rfl
  refine codeAny_builtinAt F.entry ?_
  unfold Builtin.«BaseException.__new__»
  refine wpAt_bind ?_
  show wpAt _ _ _ (stack >>= _) _ _ _
  refine wpAt_bind (wpAt_stack fun p below => wpAt_of_wpAny ?_)
  wp_walk
  refine wpAt_of_wpAny ?_
  rw [F.owner]
  repeat (first | with_reducible refine wpAny_madeHere_exc F.canon hC ?_ | with_reducible refine wpAny_loadPart_at hC ?_ | (with_reducible refine wpAny_isSubtype_exc hC ?_; first | rw [hcB] | rw [hcA] | rw [hcN]) | wp_step)
  show R _ _
  rw [Heap.size_push]
  exact hq
theorem tcall (T : Tail newId bm) {rest : List Value} {kw : List (Str × Value)} {fI : Addr} {Q : Fin → Shared → Prop} (hC : h.get? C = some (excClassObj nm q C N bs bm hdct sn sub ab col dd k0 k1 k2 k3 k5 newId))
    (hi : W.Looks (model prog w) h (typeLookup (.ref C) "__init__") (some (.ref fI))) (hb : ∀ self, W.Looks (model prog w) h (bindSpecial (.ref fI) self) (.ref fI, [self])) (hrest : rest.length ≤ sizeLine)
    (hq : codeAny (model prog w) A (.call (.ref fI) ⟨.ref (h.objs.size + 1) :: rest, kw⟩)
      (fun r s' => match r with | .ok (.ret v) => v = .none ∧ Q (.done (.ret (.ref (h.objs.size + 1)))) s' | .ok _ => False | .error e => E e s')
      ⟨(h.push (W.kdv_tup rest)).push (excO C h.objs.size), g, d, t, os⟩) :
    wpAny (model prog w) A (Builtin.«type.__call__» ⟨.ref C :: rest, kw⟩) Q E ⟨h, g, d, t, os⟩ := by
  obtain ⟨B, initId, bmB, F, hB⟩ := T.maker
  repeat (first | with_reducible refine wpAny_loadPart_at hC ?_ | with_reducible refine wpAny_madeBy_exc hC ?_ | wp_step)
  refine codeAny_call_builtin_code (Code.quiet_builtin _ F.quiet) (chk_new F hB hC ?_)
  refine new_ex T hC ?_ hrest
  show wpAny _ _ _ _ _ _
  have k : ∀ b o, h.get? b = some o → ((h.push (W.kdv_tup rest)).push (excO C h.objs.size)).get? b = some o := fun b o e => Heap.get?_push_of_some _ (Heap.get?_push_of_some _ e)
  have hC₁ := k _ _ hC
  have hget : ((h.push (W.kdv_tup rest)).push (excO C h.objs.size)).get? (h.objs.size + 1) = some (excO C h.objs.size) := by heap_get
  have hcC : (Value.ref C :: bm).contains (.ref C) = true := by simp
  have i1 := hi.keeps k
  have b1 := (hb (.ref (h.objs.size + 1))).keeps k
  unfold isInstance
  repeat (first | with_reducible refine wpAny_loadPart_at hget ?_ | (with_reducible refine wpAny_isSubtype_exc hC₁ ?_; rw [hcC]) | wp_step)
  show wpAny _ _ (typeLookup (.ref C) _) _ _ _
  refine i1.at ?_
  refine wpAny_holding (wpAny_bind (b1.at ?_))
  refine wpAny_bind (wpAny_call (codeAny_mono hq fun r s' z => ?_))
  rcases r with e | (v | _ | _ | _) <;> first | exact z | exact z.elim | skip
  obtain ⟨rfl, z⟩ := z
  first
    | exact wpAny_pure (wpAny_pure z)
    | (wp_walk; exact z)
theorem call_ex (T : Tail newId bm) {rest : List Value} {kw : List (Str × Value)} {fI : Addr} (hC : h.get? C = some (excClassObj nm q C N bs bm hdct sn sub ab col dd k0 k1 k2 k3 k5 newId))
    (hi : W.Looks (model prog w) h (typeLookup (.ref C) "__init__") (some (.ref fI))) (hb : ∀ self, W.Looks (model prog w) h (bindSpecial (.ref fI) self) (.ref fI, [self])) (hrest : rest.length ≤ sizeLine)
    (hq : codeAny (model prog w) (A.under (.builtin "type.__call__" ⟨.ref C :: rest, kw⟩)) (.call (.ref fI) ⟨.ref (h.objs.size + 1) :: rest, kw⟩) (W.InitBack (h.objs.size + 1) R)
      ⟨(h.push (W.kdv_tup rest)).push (excO C h.objs.size), g, d, t, os⟩) :
    codeAny (model prog w) A (.call (.ref C) ⟨rest, kw⟩) R ⟨h, g, d, t, os⟩ := by
  have f1 := tc_lookup
  have f2 := tc_bind (.ref C)
  have hTy : (⟨h, g, d, t, os⟩ : Shared).TypeIs (.ref C) "type" := ⟨_, hC, rfl⟩
  refine codeAny_of_tree ?_
  show wpAny _ _ (callAny (.ref C) _) _ _ _
  repeat (any_goals (first | assumption | with_reducible refine wpAny_loadPart_at hC ?_ | wp_step))
  refine ⟨rfl, ?_⟩
  refine codeAny_call_builtin_at (Code.quiet_builtin _ (by decide +kernel)) entry_typeCall (chk_call hC (tcall T hC hi hb hrest ?_))
  refine codeAny_mono hq fun r s' z => ?_
  rcases r with e | (v | _ | _ | _) <;> exact z
/-- self.name = v, the first one -/
theorem put_ex {K : W.Frag} {name : Str} {tk : Tok} {v : Value} {x C : Addr} {fv : Array Value} {cd : ClassData}
    (X : K.In h) (hx : h.get? x = some { cls := .ref C, data := .fields fv }) (hcd : W.clsIn K C = some cd) (ne : cd.mro.isEmpty = false) (hob : cd.mro.contains (.type "object") = true) (pass : ∀ self : Value, refuseLoop self "__setattr__" cd.mro = pure ()) (hh : cd.hasDict = true) (ha : W.findIn K (.ref C) name = some none)
    (hq : ∀ h' tk' dx, (∀ b o, b ≠ x → h.get? b = some o → h'.get? b = some o) → h.objs.size ≤ dx → dx ≠ x → h'.get? x = some { cls := .ref C, dict := some dx, data := .fields fv } →
      h'.Ns1 dx (fun y => if y = name then some v else none) → R (.ok (.ret .none)) ⟨h', g, d, tk', os⟩) :
    codeAny (model prog w) A (.call (.builtin "object.__setattr__") ⟨[.ref x, .str name tk, v], []⟩) R ⟨h, g, d, t, os⟩ := by
  have I : W.InstAt h x { cls := .ref C, data := .fields fv } C none := ⟨hx, rfl, rfl, trivial⟩
  have SF := F.store_object
  have hxs : x ≠ h.objs.size := Nat.ne_of_lt (Heap.lt_size hx)
  have sub : W.Looks (model prog w) h (isInstance (.ref x) (.type "object")) true := I.type.andThen (W.looks_mroIn X (by unfold W.mroIn; rw [hcd, Option.bind_some, if_neg (by rw [ne]; decide), hob]))
  refine codeAny_call_builtin SF.slot.plain SF.entry (@W.check_slot (model prog w) _ _ ⟨h, g, d, t, os⟩ "object.__setattr__" "object" "__setattr__" (.ref x) [.str name tk, v] [] _ SF.kind SF.split sub (SF.args (.ref x) (.str name tk) v) ?_)
  have hmr : W.Looks (model prog w) h (mroOf (.ref C)) cd.mro := (W.looks_clsIn X hcd).andThen .now
  have L3 : W.Looks (model prog w) h (storeTaker? none) none := .now
  have hcls : W.Looks (model prog w) h (classData C) cd := W.looks_clsIn X hcd
  rw [W.osa_eq, refuse_eq]
  refine wpAny_bind (wpAny_bind (I.type.at (wpAny_bind (hmr.at ?_))))
  rw [pass]
  refine wpAny_pure (wpAny_bind (I.type.at (wpAny_bind ((W.looks_findIn X ha).at (wpAny_bind (L3.at ?_))))))
  show wpAny _ _ (storeInOwnDict (.ref x) (.ref C) (.str name tk) name v false) _ _ _
  obtain ⟨nm, bs, mro, ns, qn, hd, sn, sb, ab, col, del⟩ := cd
  dsimp only at hh
  subst hh
  unfold storeInOwnDict ownDictForStores
  repeat (first | with_reducible refine store_in_new ?_ ?_ | with_reducible refine wpAny_loadPart_at hx ?_ | with_reducible refine hcls.at ?_ | wp_step)
  · exact ⟨_, #[], _, (Heap.get?_update_ne _ _ _ _ hxs.symm).trans (Heap.get?_push_at rfl rfl), rfl, fun e he => absurd he (by simp), fun _ => rfl⟩
  · intro h' tk' hn' hs
    have hx₁ : (h.push { cls := .type "dict", data := .dict #[] }).get? x = some { cls := .ref C, data := .fields fv } := Heap.get?_push_of_some _ hx
    refine hq h' tk' h.objs.size (fun b o hb ho => ?_) (Nat.le_refl _) hxs.symm ?_ hn'
    · exact (hs.2 b (Nat.ne_of_lt (Heap.lt_size ho))).trans ((Heap.get?_update_ne _ _ _ _ hb).trans (Heap.get?_push_of_some _ ho))
    · exact (hs.2 x hxs).trans (Heap.get?_update_self _ hx₁ rfl)
end
end XV
end PySem

namespace SE
open PySem PySem.Spec PyProof.Rows L2
/-- what the written part says of a class of exceptions -/
structure OexV (K : PySem.W.Frag) (C : Addr) : Prop where
  cls : ∃ nm q N bs bm sn sub ab col dd k0 k1 k2 k3 k5 newId, K.lookup C = some (excClassObj nm q C N bs bm true sn sub ab col dd k0 k1 k2 k3 k5 newId) ∧ XV.Tail newId bm
  sa : PySem.W.findIn K (.ref C) "__setattr__" = some (some (.builtin "object.__setattr__"))
  kC : PySem.W.keepIn K (.ref C) = true
theorem tail_VE {bm : List Value} (h : PySem.HandSPX.refsVE bm = true) : XV.Tail "ValueError.__new__" bm :=
  ⟨⟨_, _, _, F.excBase_ValueError, by rw [PySem.HandSPX.refsVE_contains _ _ h]; decide +kernel⟩, by rw [PySem.HandSPX.refsVE_contains _ _ h]; decide +kernel, by rw [PySem.HandSPX.refsVE_contains _ _ h]; decide +kernel,
    by rw [PySem.HandSPX.refsVE_contains _ _ h]; decide +kernel, fun self => PySem.HandSPX.refsVE_pass self _ h⟩
theorem tail_LE : XV.Tail "LookupError.__new__" [.type "LookupError", .type "Exception", .type "BaseException", .type "object"] := ⟨⟨_, _, _, F.excBase_LookupError, by decide +kernel⟩, by decide +kernel, by decide +kernel, by decide +kernel, fun self => F.store_LookupError.passes self⟩
theorem tail_RE : XV.Tail "RuntimeError.__new__" [.type "RuntimeError", .type "Exception", .type "BaseException", .type "object"] := ⟨⟨_, _, _, F.excBase_RuntimeError, by decide +kernel⟩, by decide +kernel, by decide +kernel, by decide +kernel, fun self => F.store_RuntimeError.passes self⟩
theorem tail_OE : XV.Tail "OverflowError.__new__" [.type "OverflowError", .type "ArithmeticError", .type "Exception", .type "BaseException", .type "object"] := ⟨⟨_, _, _, F.excBase_OverflowError, by decide +kernel⟩, by decide +kernel, by decide +kernel, by decide +kernel, fun self => F.store_OverflowError.passes self⟩
theorem tail_KE : XV.Tail "LookupError.__new__" [.type "KeyError", .type "LookupError", .type "Exception", .type "BaseException", .type "object"] := ⟨⟨_, _, _, F.excBase_LookupError, by decide +kernel⟩, by decide +kernel, by decide +kernel, by decide +kernel, fun self => by kernel_rfl⟩
section
variable {X : Cx} {pins : List (Addr × Obj)} {σ : L2.St} {H : Hp} {s : Shared} {a C dx : Addr} {f : Str} {y : V} {u : Value} {fs : List (Str × V)} {Q : Unit → Shared → Prop} {E : Value → Shared → Prop} {A : Around}
theorem ost_newV (T : OexV X.K C) (I : Inv X pins σ H s) (e : H a = some (exo a C none)) (hno : PySem.W.findIn X.K (.ref C) f = some none) (ry : RelV y u)
    (h : ∀ dx s', H dx = none → dx ≠ a → Inv X pins σ (upd (upd H dx (exd dx [(f, y)])) a (exo a C (some dx))) s' → Q () s') : wpAny (model X.prog X.w) A (setAttr (.ref a) f u) Q E s := by
  obtain ⟨nm, q, N, bs, bm, sn, sub, ab, col, dd, k0, k1, k2, k3, k5, newId, hC, hT⟩ := T.cls
  have hcl : PySem.W.clsIn X.K C = some { name := nm, bases := bs, mro := .ref C :: bm, ns := N, qualname := q, hasDict := true, slotNames := sn, subclasses := sub, abstract := ab, collection := col, hasDel := false } := by unfold PySem.W.clsIn; rw [hC] <;> rfl
  obtain ⟨t1, ho⟩ := exo_at I.hok e
  obtain ⟨hp, g, d, t, os⟩ := s
  refine PySem.W.set_plain I.kIn (ox := { cls := .ref C, dict := none, data := .fields #[.ref t1, .none, .none, .none, .bool false, .none] }) (od := none) ⟨ho, rfl, rfl, trivial⟩ T.sa ?_
  refine PySem.XV.put_ex I.kIn ho hcl rfl (by show List.contains (Value.ref C :: bm) _ = true; rw [List.contains_cons, hT.ob, Bool.or_true]) (fun self => by rw [refuseLoop_ref]; exact hT.ps self) rfl hno (fun h' tk' dx k dn dne hx hn => ?_)
  have hnd : H dx = none := I.hok.fresh dn
  have nd : ∀ {b : Addr} {o : Obj}, hp.get? b = some o → b ≠ dx := fun {b o} q => Nat.ne_of_lt (Nat.lt_of_lt_of_le (Heap.lt_size q) dn)
  have na : ∀ {b : Addr}, H b = none → b ≠ a := fun {b} n z => by
    rw [z, e] at n
    cases n
  have Un1 : Un X.fs [] H (upd (upd H dx (exd dx [(f, y)])) a (exo a C (some dx))) hp h' := {
    keep := fun b o q n _ _ => k b o (na n) q
    slot := fun b o q n _ _ => ⟨o.slots, k b o (na n) q⟩
    free := fun b o q n _ => by rw [upd_ne (na n), upd_ne (nd q)]; exact n
    there := fun b o q _ => by
      by_cases hb : b = a
      · exact ⟨_, by rw [hb]; exact hx⟩
      · exact ⟨o, k b o hb q⟩
    tups := fun b xs q => by rw [upd_ne (at_ne e q exo_tup), upd_ne (ne_of_none q hnd)]; exact q
    frzs := fun b o v q => by rw [upd_ne (at_ne e q exo_frz), upd_ne (ne_of_none q hnd)]; exact q
    tbls := fun b ps q => ⟨#[], by rw [upd_ne (at_ne e q exo_tbl), upd_ne (ne_of_none q hnd), q]; simp⟩ }
  refine h dx _ hnd dne (I.un (t' := tk') Un1 fun b o q => ?_)
  by_cases hb : b = a
  · subst hb
    rw [upd_same] at q
    cases q
    exact exo_ok hx
  · rw [upd_ne hb] at q
    by_cases hd : b = dx
    · subst hd
      rw [upd_same] at q
      cases q
      exact exd_ok hn (relO_put (fs := []) ry fun g => True.intro)
    · rw [upd_ne hd] at q
      exact (I.hok b o q).stay (fun c v hc z => k c v (by
          rcases hc with hc | hc
          · rw [hc]
            exact hb
          · exact at_ne e hc exo_own) z)
        (fun c hc => by rw [upd_ne (at_ne e hc exo_own), upd_ne (ne_of_none hc hnd)]; exact hc) (fun c xs hc => by rw [upd_ne (at_ne e hc exo_tup), upd_ne (ne_of_none hc hnd)]; exact hc)
def tOstV (K : PySem.W.Frag) (f : Str) (to te : TE) : TS := fun D σ H => te σ H fun y H1 => to σ H1 fun x H2 => ∃ a C : Addr, x = .ref a ∧ OexV K C ∧ PySem.W.findIn K (.ref C) f = some none ∧
  H2 a = some (exo a C none) ∧ ∀ dx, H2 dx = none → dx ≠ a → D.nx σ (upd (upd H2 dx (exd dx [(f, y)])) a (exo a C (some dx)))
theorem ps_ostV {o e : Expr} {to te : TE} {p' pos : Pos} (ho : PE X o to) (he : PE X e te) (hs : swapsWith e (some (.Attribute o f p')) pos.line X.env = pure false := by rfl) : PS X (.Assign [.Attribute o f p'] e pos) (tOstV X.K f to te) := by
  refine ⟨fun pins s σ H D I h => ?_⟩
  refine plainObj_wpAny_Assign_Attribute (thn (he.run pins s σ H _ I h) fun v s1 ⟨y, H1, I1, r1, q1⟩ => thn (ho.run pins s1 σ H1 _ I1 q1) fun u s2 ⟨x, H2, I2, r2, a, C, ex, T, hno, ea, q⟩ => ?_) hs
  subst ex
  obtain rfl : u = Value.ref a := r2
  exact ost_newV T I2 ea hno r1 fun dx s' n ne J => ⟨σ, _, J, q dx n ne⟩
end
theorem init_okV {P : Program} {w : World} {K : PySem.W.Frag} {mg : Str → Option Value} {base : Heap} {q f : Str} {C : Addr} {st : Stmt} {fI : Addr} {fd : FuncData} {p1 p2 p3 p4 : Pos} (F : Fun K "__init__" q st fI fd) (S : FnScope ["self", f] ["self", f] (defScope st)) (T : OexV K C) (noF : PySem.W.findIn K (.ref C) f = some none)
    (hb : defBody st = [.Assign [.Attribute (.Name "self" p1) f p2] (.Name f p3) p4])
    (v0 : Vis (defScope st) "self") (v1 : Vis (defScope st) f) (hdb : (f == ("__debug__" : Str)) = false) (hcd : (f == ("__classdict__" : Str)) = false) : FnOk P w K mg base CX0 1 fI fd ["self", f] (spXI K C f) := by
  refine F.ok S (fun xs H Q E h => ?_) (fun cv A out s H xs Q E hr h => ?_)
  · obtain ⟨a, v, rfl, _⟩ := h
    rfl
  · obtain ⟨a, v, rfl, ha, k⟩ := h
    rw [hb]
    refine ⟨_, pss_one (ps_ostV (pe_var (i := 0) rfl v0) (pe_var (i := 1) rfl v1 (hd := hdb) (hcd := hcd))), ?_⟩
    exact ⟨_, rfl, _, rfl, a, C, rfl, T, noF, ha, fun dx nd ne => k dx nd ne⟩
/-- the class x at C stands under its name; its __init__ (q) sets f; bm: what its mro holds behind it -/
structure XvC (P : Program) (w : World) (K : PySem.W.Frag) (mg : Str → Option Value) (base : Heap) (x q f : Str) (C : Addr) (bm : List Value) : Prop where
  oex : OexV K C
  gC : mg x = some (.ref C)
  init : ∃ (fI : Addr) (fd : FuncData) (st : Stmt), PySem.W.findIn K (.ref C) "__init__" = some (some (.ref fI)) ∧ PySem.W.typeIn K (.ref fI) = some (.type "function") ∧ FnOk P w K mg base CX0 1 fI fd ["self", f] (spXI K C f) ∧ (∃ g, KBn K fd ["self", f] 2 [] g (fun vs _ => vs)) ∧ (∃ g, KBn K fd ["self", f] 1 [f] g (fun vs zs => vs ++ zs)) ∧ Fun K "__init__" q st fI fd
  xf : XfC K C
  noF : PySem.W.findIn K (.ref C) f = some none
  ha : PySem.W.findIn K (.ref C) "__class__" = some (some (.builtin "object.__class__"))
  mr : ∃ cd, PySem.W.clsIn K C = some cd ∧ cd.mro = .ref C :: bm
  tC : PySem.W.typeIn K (.ref C) = some (.type "type")
theorem sub_mr {K : PySem.W.Frag} {C : Addr} {bm : List Value} (h : ∃ cd, PySem.W.clsIn K C = some cd ∧ cd.mro = .ref C :: bm) (b : Value) : PySem.W.subIn K (.ref C) b = some ((Value.ref C :: bm).contains b) := by
  obtain ⟨cd, h1, h2⟩ := h
  show PySem.W.mroIn K C b = _
  unfold PySem.W.mroIn
  rw [h1, Option.bind_some, h2]
  rfl
theorem xv_mk {P : Program} {w : World} {K : PySem.W.Frag} {mg : Str → Option Value} {base : Heap} {x q f : Str} {C : Addr} {st : Stmt} {fI : Addr} {fd : FuncData} {p1 p2 p3 p4 : Pos} {nm qn : Str} {N : Addr} {bs bm : List Value} {sn : List Str} {sub : List Value} {ab : Bool} {col : Option Bool} {dd : Option Addr} {k0 k1 k2 k3 k5 : Option Value} {newId : String}
    (gC : mg x = some (.ref C)) (xl : K.lookup C = some (excClassObj nm qn C N bs bm true sn sub ab col dd k0 k1 k2 k3 k5 newId)) (T : XV.Tail newId bm) (hB : bm.contains (.type "BaseException") = true)
    (sa : PySem.W.findIn K (.ref C) "__setattr__" = some (some (.builtin "object.__setattr__"))) (ga : PySem.W.findIn K (.ref C) "__getattribute__" = some (some (.builtin "BaseException.__getattribute__"))) (gg : PySem.W.findIn K (.ref C) "__getattr__" = some none)
    (nf : PySem.W.findIn K (.ref C) f = some none) (ii : PySem.W.findIn K (.ref C) "__init__" = some (some (.ref fI))) (ti : PySem.W.typeIn K (.ref fI) = some (.type "function")) (kC : PySem.W.keepIn K (.ref C) = true) (cc : PySem.W.findIn K (.ref C) "__class__" = some (some (.builtin "object.__class__")))
    (F : Fun K "__init__" q st fI fd) (S : FnScope ["self", f] ["self", f] (defScope st)) (hb : defBody st = [.Assign [.Attribute (.Name "self" p1) f p2] (.Name f p3) p4])
    (v0 : Vis (defScope st) "self") (v1 : Vis (defScope st) f) (hdb : (f == ("__debug__" : Str)) = false) (hcd : (f == ("__classdict__" : Str)) = false)
    (b1 : ∀ (kV doc pm : Value) (an : Option Addr) (cv ct : Value) (us ws : List Value), us.length = 2 → ws.length = ([] : List Str).length → bindArgs (PySem.W.fnOf "__init__" q (defArgs st) (defBody st) (defScope st) .none kV doc pm an cv ct) ⟨us, ([] : List Str).zip ws⟩ = pure (([("self" : Str), f] : List Str).zip us))
    (b2 : ∀ (kV doc pm : Value) (an : Option Addr) (cv ct : Value) (us ws : List Value), us.length = 1 → ws.length = [f].length → bindArgs (PySem.W.fnOf "__init__" q (defArgs st) (defBody st) (defScope st) .none kV doc pm an cv ct) ⟨us, [f].zip ws⟩ = pure (([("self" : Str), f] : List Str).zip (us ++ ws))) :
    XvC P w K mg base x q f C bm := by
  have hcl : PySem.W.clsIn K C = some { name := nm, bases := bs, mro := .ref C :: bm, ns := N, qualname := qn, hasDict := true, slotNames := sn, subclasses := sub, abstract := ab, collection := col, hasDel := false } := by unfold PySem.W.clsIn; rw [xl] <;> rfl
  have mr : ∃ cd, PySem.W.clsIn K C = some cd ∧ cd.mro = .ref C :: bm := ⟨_, hcl, rfl⟩
  have oe : OexV K C := ⟨⟨_, _, _, _, _, _, _, _, _, _, _, _, _, _, _, _, xl, T⟩, sa, kC⟩
  have hd : PySem.W.hasDictIn K C = true := by
    unfold PySem.W.hasDictIn
    rw [hcl]
    rfl
  refine ⟨oe, gC, ⟨fI, fd, st, ii, ti, init_okV F S oe nf hb v0 v1 hdb hcd, ⟨_, kb_all F 2 [] (fun us _ => us) (fun r _ => r) b1⟩, ⟨_, kb_all F 1 [f] (fun us ws => us ++ ws) (fun r z => r.append z) b2⟩, F⟩,
    ⟨ga, gg, ?_, hd⟩, nf, cc, mr, ?_⟩
  · rw [sub_mr mr, List.contains_cons, hB, Bool.or_true]
  · show (K.lookup C).map (·.cls) = _
    rw [xl]
    rfl
theorem XvC.ne {P : Program} {w : World} {K : PySem.W.Frag} {mg : Str → Option Value} {base : Heap} {x x2 q q2 f f2 : Str} {C C2 : Addr} {bm bm2 : List Value} (h : XvC P w K mg base x q f C bm) (h2 : XvC P w K mg base x2 q2 f2 C2 bm2) (hq : q ≠ q2) : C ≠ C2 := fun e => by
  subst e
  obtain ⟨fI, fd, st, i1, _, _, _, _, F⟩ := h.init
  obtain ⟨fI2, fd2, st2, i2, _, _, _, _, F2⟩ := h2.init
  rw [i1] at i2
  cases i2
  obtain ⟨_, _, _, _, _, _, _, _, _, _, l1, _⟩ := F.ex
  obtain ⟨_, _, _, _, _, _, _, _, _, _, l2, _⟩ := F2.ex
  obtain ⟨oc, od, kV, doc, pm, an, cv, ct, osl, e1, l1, _⟩ := F.ex
  obtain ⟨oc2, od2, kV2, doc2, pm2, an2, cv2, ct2, osl2, e2, l2, _⟩ := F2.ex
  rw [l1] at l2
  cases e1
  cases e2
  have := Option.some.inj l2
  injection this with _ _ z _
  injection z with z
  injection z with _ z
  exact hq z
/-- an exception of the class at C whose field f is v -/
def ExH (H : Hp) (C : Addr) (f : Str) (v : V) (a : Addr) : Prop := ∃ d, H a = some (exo a C (some d)) ∧ H d = some (exd d [(f, v)])
theorem ExH.same {H H' : Hp} {C : Addr} {f : Str} {v : V} {a : Addr} (s : Same H H') (h : ExH H C f v a) : ExH H' C f v a := by
  obtain ⟨d, h1, h2⟩ := h
  exact ⟨d, s _ _ h1, s _ _ h2⟩
section
variable {X : Cx} {pins : List (Addr × Obj)} {σ : L2.St} {H : Hp} {s : Shared} {C fI : Addr} {fd : FuncData} {f x : Str} {g : List Value → List Value → List Value} {gV : List V → List V → List V} {Q : VK} {n : Nat} {ks : List Str}
theorem run_mkV {us ws : List Value} {vs zs : List V} (T : OexV X.K C) (iC : PySem.W.findIn X.K (.ref C) "__init__" = some (some (.ref fI))) (tI : PySem.W.typeIn X.K (.ref fI) = some (.type "function"))
    (F : FnOk X.prog X.w X.K X.mg X.base CX0 1 fI fd ["self", f] (spXI X.K C f)) (room : Room 2 X.A) (bd : KBn X.K fd ["self", f] (n + 1) ks g gV) (I : Inv X pins σ H s) (r1 : Vals vs us) (r2 : Vals zs ws) (l1 : vs.length = n) (l2 : zs.length = ks.length) (hz : n ≤ 1000)
    (h : ∀ a, H a = none → spXI X.K C f (gV (.ref a :: vs) zs) (upd H a (exo a C none)) (fun v H2 => v = .non ∧ Q (.ref a) H2) E0) :
    wpAny (model X.prog X.w) X.A (call (.ref C) us (ks.zip ws)) (EP X pins σ Q) X.xe s := by
  obtain ⟨nm, q, N, bs, bm, sn, sub, ab, col, dd, k0, k1, k2, k3, k5, newId, hC, hT⟩ := T.cls
  obtain ⟨hp, gg, dr, tk, os⟩ := s
  have hsz : hp.objs.size ≤ hp.objs.size + 1 := Nat.le_succ _
  have hn : H (hp.objs.size + 1) = none := I.hok.fresh hsz
  have hq := h (hp.objs.size + 1) hn
  have kk : ∀ b o, hp.get? b = some o → ((hp.push (PySem.W.kdv_tup us)).push (PySem.HandSPX.excO C hp.objs.size)).get? b = some o := fun b o e => Heap.get?_push_of_some _ (Heap.get?_push_of_some _ e)
  have hget : ((hp.push (PySem.W.kdv_tup us)).push (PySem.HandSPX.excO C hp.objs.size)).get? (hp.objs.size + 1) = some (PySem.HandSPX.excO C hp.objs.size) := by heap_get
  have made : Inv X pins σ (upd H (hp.objs.size + 1) (exo (hp.objs.size + 1) C none)) ⟨(hp.push (PySem.W.kdv_tup us)).push (PySem.HandSPX.excO C hp.objs.size), gg, dr, tk, os⟩ :=
    I.laid (t' := tk) (a := hp.objs.size + 1) (o := exo (hp.objs.size + 1) C none) (h' := (hp.push (PySem.W.kdv_tup us)).push (PySem.HandSPX.excO C hp.objs.size)) kk hsz (exo_ok hget)
  have rs : Vals (V.ref (hp.objs.size + 1) :: vs) (Value.ref (hp.objs.size + 1) :: us) := .cons rfl r1
  have len : (Value.ref (hp.objs.size + 1) :: us).length = n + 1 := congrArg (· + 1) (r1.length.symm.trans l1)
  have to := bd.to _ (Value.ref (hp.objs.size + 1) :: us) ws made.kIn len (r2.length.symm.trans l2)
  have run := F.run _ X.stack _ _ ⟨Value.ref (hp.objs.size + 1) :: us, ks.zip ws⟩ (g (Value.ref (hp.objs.size + 1) :: us) ws) _ _ E0 (room.make C us (ks.zip ws)) (made.env0.make C us (ks.zip ws)) to (bd.rel rs r2) hq
  have hus : us.length ≤ sizeLine := by
    rw [← r1.length, l1, sizeLine_eq]
    omega
  refine wpAny_call (PySem.XV.call_ex hT (I.kIn _ _ hC) (PySem.W.looks_findIn I.kIn iC) (fun self => PySem.W.bind_fn I.kIn self tI) hus (codeAny_mono run fun res s2 done => ?_))
  match res, done with
  | .error ev, done => exact done.elim
  | .ok (.ret u), done =>
    obtain ⟨v, H2, I2, rel, ev, q⟩ := made.after done
    subst ev
    exact ⟨rel, V.ref (hp.objs.size + 1), H2, I2, rfl, q⟩
  | .ok .next, done => exact done.elim
  | .ok .brk, done => exact done.elim
  | .ok .cont, done => exact done.elim
/-- C(e), C(f = e): a new exception -/
def tMkV (C : Addr) (f : Str) (ta : TA) : TE := fun σ H Q => ta σ H fun vs H1 => ∃ v, vs = [v] ∧ ∀ a H2, H1 a = none → Same H1 H2 → ExH H2 C f v a → Q (.ref a) H2
theorem mk_sp {H1 : Hp} {a : Addr} {v : V} {Q : VK} (na : H1 a = none) (h : ∀ a H2, H1 a = none → Same H1 H2 → ExH H2 C f v a → Q (.ref a) H2) :
    spXI X.K C f [.ref a, v] (upd H1 a (exo a C none)) (fun v H2 => v = .non ∧ Q (.ref a) H2) E0 := by
  refine ⟨a, v, rfl, upd_same, fun dx nd ne => ⟨rfl, h a _ na (fun b o z => ?_) ⟨dx, upd_same, ?_⟩⟩⟩
  · rw [upd_ne ne] at nd
    have e1 : b ≠ a := fun e => by rw [e, na] at z; cases z
    have e2 : b ≠ dx := fun e => by rw [e, nd] at z; cases z
    rw [upd_ne e1, upd_ne e2, upd_ne e1]
    exact z
  · rw [upd_ne ne]
    exact upd_same
theorem pe_mkV1 {q0 : Str} {bm : List Value} {e : Expr} {ta : TA} {p pos : Pos} (T : XvC X.prog X.w X.K X.mg X.base x q0 f C bm) (room : Room 2 X.A) (ha : PA X [e] ta) (hg : Gl X x := by rfl)
    (hdb : (x == ("__debug__" : Str)) = false := by decide) (he : starEach (e :: []) X.env = (false, eval e X.env) :: starEach [] X.env := by rfl) (hpl : (backTo pos (starEach [] X.env)).any (·.1) = false := by rfl) :
    PE X (.Call (.Name x p) [e] [] pos) (tMkV C f ta) := by
  refine ⟨fun pins s σ H Q I w => ?_⟩
  obtain ⟨fI, fd, _, iC, tI, F, ⟨g, b1⟩, _⟩ := T.init
  refine wpAny_Call_Name_kw (ld_glob I hg T.gC ?_ hdb)
  refine PySem.W.callWith_K (h₀ := X.base) I.ok.mod.kin T.oex.kC (thn (ha.run pos pins s σ H _ I w) fun us s1 z => ?_) he hpl
  obtain ⟨vs, H1, I1, r1, v, ev, q⟩ := z
  subst ev
  exact ⟨I1.kIn, run_mkV (n := 1) (ks := []) (ws := []) (zs := []) T.oex iC tI F room b1 I1 r1 .nil rfl rfl (by omega) fun a na => mk_sp na q⟩
theorem pe_mkV2 {q0 : Str} {bm : List Value} {kws : List Keyword} {tk : TA} {p pos : Pos} (T : XvC X.prog X.w X.K X.mg X.base x q0 f C bm) (room : Room 2 X.A) (hkw : PK X kws tk) (hg : Gl X x := by rfl)
    (hks : (backToKw pos (keywordEach kws X.env)).filterMap (·.1) = [f] := by rfl) (hall : (backToKw pos (keywordEach kws X.env)).all (·.1.isSome) = true := by rfl)
    (hdb : (x == ("__debug__" : Str)) = false := by decide) (hpl : ((backTo pos (starEach [] X.env)).any (·.1) || (backToKw pos (keywordEach kws X.env)).any (·.1.isNone)) = false := by rfl) :
    PE X (.Call (.Name x p) [] kws pos) (tMkV C f tk) := by
  refine ⟨fun pins s σ H Q I w => ?_⟩
  obtain ⟨fI, fd, _, iC, tI, F, _, ⟨g, b2⟩, _⟩ := T.init
  apply wpAny_Call_Name_kw
  apply ld_glob I hg T.gC _ hdb
  refine PySem.W.callWith_KW0 (h₀ := X.base) I.ok.mod.kin T.oex.kC hall (thn (hkw.run pos pins s σ H _ I w) fun ws s2 hh => ?_) hpl
  obtain ⟨zs, H2, I2, rz, v, ev, q⟩ := hh
  subst ev
  refine ⟨I2.kIn, ?_⟩
  rw [hks]
  exact run_mkV (n := 0) (ks := [f]) (us := []) (vs := []) T.oex iC tI F room b2 I2 .nil rz rfl rfl (by omega) fun a na => mk_sp na q
/-- e.f -/
def tFldV (K : PySem.W.Frag) (n : Str) (te : TE) : TE := fun σ H Q => te σ H fun x H1 => ∃ a C v, x = .ref a ∧ XfC K C ∧ PySem.W.findIn K (.ref C) n = some none ∧ ExH H1 C n v a ∧ Q v H1
theorem inst_of {a C d : Addr} {n : Str} {v : V} (I : Inv X pins σ H s) (ea : H a = some (exo a C (some d))) (ed : H d = some (exd d [(n, v)])) :
    ∃ (oe od : Obj) (mA : Str → Option Value), PySem.W.InstAt s.heap a oe C (some od) ∧ (∀ y, PySem.W.lookIn y od = some (mA y)) ∧ ∀ g, RelO ([(n, v)].lookup g) (mA g) := by
  obtain ⟨t1, ho⟩ := exo_at I.hok ea
  obtain ⟨mA, hns, rel⟩ := exd_at I.hok ed
  obtain ⟨od, hd, hl⟩ := lookIn_ns hns
  exact ⟨_, od, mA, ⟨ho, rfl, rfl, hd⟩, hl, rel⟩
theorem pe_fldV {e : Expr} {te : TE} {pos : Pos} {n : Str} (he : PE X e te) (hb : attributeBase e n X.env (eval e X.env) = eval e X.env := by rfl) : PE X (.Attribute e n pos) (tFldV X.K n te) := by
  refine ⟨fun pins s σ H Q I h => ?_⟩
  refine attr_of hb (thn (he.run pins s σ H _ I h) fun u s1 hh => ?_)
  obtain ⟨x, H1, I1, rx, a, C, v, ex, T, hno, ⟨d, ea, ed⟩, q⟩ := hh
  subst ex
  obtain rfl : u = Value.ref a := rx
  obtain ⟨oe, od, mA, J, hl, hr⟩ := inst_of I1 ea ed
  have l : [(n, v)].lookup n = some v := by simp
  obtain ⟨u, hu, ru⟩ := RelO.some_of (v := v) (o := mA n) (by rw [← l]; exact hr n)
  exact HandSPX.exc_get I1.kIn J T.ga T.gg T.exC (PySem.W.findObj_own T.hdC hno rfl (by rw [hl, hu])) (handed_of ru) ⟨v, H1, I1.tok _, ru, q⟩
/-- isinstance(e, c) -/
def rIsV (K : PySem.W.Frag) : List V → Hp → VK → Prop := fun xs H Q => ∃ (a C : Addr) (n : Str) (v c : V) (cv : Value) (b : Bool), xs = [.ref a, c] ∧ ExH H C n v a ∧ XfC K C ∧ PySem.W.findIn K (.ref C) "__class__" = some (some (.builtin "object.__class__")) ∧
  PySem.W.specialIn K (.builtin "object.__class__") "__get__" = some (some (.builtin "getset_descriptor.__get__")) ∧ PySem.W.takesIn K (.builtin "object.__class__") = some true ∧ PySem.W.mroIn K C (.type "object") = some true ∧
  (∀ u, RelV c u → u = cv) ∧ PySem.W.kitOne K (.ref C) cv = some b ∧ Q (.bl b) H
theorem call_isV : CallR X (.builtin "isinstance") (rIsV X.K) := by
  intro pins s σ H xs us Q I r h
  obtain ⟨a, C, n, v, c, cv, b, rfl, ⟨d, ea, ed⟩, T, h1, h2, h3, h4, hcv, e, q⟩ := h
  cases r with
  | cons rx rr =>
    cases rr with
    | cons rt rr =>
      cases rr
      cases rx
      have ec := hcv _ rt
      subst ec
      obtain ⟨oe, od, mA, J, hl, hr⟩ := inst_of I ea ed
      have hcl : (PySem.W.clsIn X.K C).isSome = true := by
        obtain ⟨cd, hc, _⟩ := PySem.W.any_some T.hdC
        rw [hc]
        rfl
      exact PySem.W.kia_one (PySem.W.kitx_exc hcl T.ga T.gg T.exC h1 h2 h3 h4) I.kIn J e (fun z => nomatch z) fun tk => ⟨.bl b, H, I.kept (t' := tk) fun _ _ z => z, rfl, q⟩
end
end SE
/-! Raising exceptions of own classes below any built-in class; methods that may raise. -/
namespace SE
open PySem PySem.Spec PyProof.Rows L2
section
variable {X : Cx} {C : Addr} {x q0 f : Str} {bm : List Value}
/-- C(e), to be raised -/
theorem pmk_xv {e : Expr} {ta : TA} {p pos : Pos} (T : XvC X.prog X.w X.K X.mg X.base x q0 f C bm) (hr : Room 2 X.A) (ha : PA X [e] ta) (hg : Gl X x := by rfl)
    (hdb : (x == ("__debug__" : Str)) = false := by decide) (he : starEach (e :: []) X.env = (false, eval e X.env) :: starEach [] X.env := by rfl) (hpl : (backTo pos (starEach [] X.env)).any (·.1) = false := by rfl) :
    PMk X (.Call (.Name x p) [e] [] pos) (tMkO C (spXI X.K C f) [] ta) := by
  intro pins s σ H Q I h
  obtain ⟨fI, fd, _, iC, tI, F1, ⟨g, bd⟩, _⟩ := T.init
  obtain ⟨nm, q, N, bs, bm', sn, sub, ab, col, dd, k0, k1, k2, k3, k5, newId, hC, hT⟩ := T.oex.cls
  refine wpAny_Call_Name_kw (ld_glob I hg T.gC ?_ hdb)
  refine PySem.W.callWith_K (h₀ := X.base) I.ok.mod.kin T.oex.kC (thn (ha.run pos pins s σ H _ I h) fun us s1 ⟨vs, H1, I1, r1, hz, q1⟩ => ⟨I1.kIn, ?_⟩) he hpl
  show wpAny _ _ (call (.ref C) us) _ _ _
  obtain ⟨hp, gg, dr, tk, os⟩ := s1
  have hsz : hp.objs.size ≤ hp.objs.size + 1 := Nat.le_succ _
  have hn : H1 (hp.objs.size + 1) = none := I1.hok.fresh hsz
  have hq := q1 (hp.objs.size + 1) hn
  rw [List.append_nil] at hq
  have l1 : vs.length = 1 := by
    obtain ⟨a, v, e, _⟩ := hq
    have := congrArg List.length e
    simp at this
    exact this
  have kk : ∀ b o, hp.get? b = some o → ((hp.push (PySem.W.kdv_tup us)).push (PySem.HandSPX.excO C hp.objs.size)).get? b = some o := fun b o e => Heap.get?_push_of_some _ (Heap.get?_push_of_some _ e)
  have hget : ((hp.push (PySem.W.kdv_tup us)).push (PySem.HandSPX.excO C hp.objs.size)).get? (hp.objs.size + 1) = some (PySem.HandSPX.excO C hp.objs.size) := by heap_get
  have I2 : Inv X pins σ (upd H1 (hp.objs.size + 1) (exo (hp.objs.size + 1) C none)) ⟨(hp.push (PySem.W.kdv_tup us)).push (PySem.HandSPX.excO C hp.objs.size), gg, dr, tk, os⟩ :=
    I1.laid (t' := tk) (a := hp.objs.size + 1) (o := exo (hp.objs.size + 1) C none) (h' := (hp.push (PySem.W.kdv_tup us)).push (PySem.HandSPX.excO C hp.objs.size)) kk hsz (exo_ok hget)
  have r2 : Vals (V.ref (hp.objs.size + 1) :: vs) (Value.ref (hp.objs.size + 1) :: us) := .cons rfl r1
  have hus : us.length ≤ sizeLine := by
    rw [← Paired.length r1, sizeLine_eq]
    omega
  have to := bd.to _ (Value.ref (hp.objs.size + 1) :: us) [] I2.kIn (congrArg (· + 1) (r1.length.symm.trans l1)) rfl
  have run := F1.run _ X.stack _ _ ⟨Value.ref (hp.objs.size + 1) :: us, ([] : List Str).zip []⟩ (g (Value.ref (hp.objs.size + 1) :: us) []) _ _ E0 (hr.make C us (([] : List Str).zip [])) (I2.env0.make C us (([] : List Str).zip [])) to (bd.rel r2 .nil) hq
  refine wpAny_call (PySem.XV.call_ex hT (I1.kIn _ _ hC) (PySem.W.looks_findIn I1.kIn iC) (fun self => PySem.W.bind_fn I1.kIn self tI) hus (codeAny_mono run fun res s2 done => ?_))
  match res, done with
  | .error ev, done => exact done.elim
  | .ok (.ret u), done =>
    obtain ⟨v, H2, os2, bare2, un2, hok2, rv, ev, d, fs, ea, ed, hd1, q2⟩ := done
    subst ev
    obtain ⟨h2, g2, d2, t2, os'⟩ := s2
    exact ⟨rv, mk_end (raises_own T.xf.exC T.tC) I1 hsz kk un2 hok2 os2 bare2 ea ed hd1 q2⟩
  | .ok .next, done => exact done.elim
  | .ok .brk, done => exact done.elim
  | .ok .cont, done => exact done.elim
theorem ps_raiseV {W : WX} {e : Expr} {ta : TA} {p pos pos2 : Pos} (hc : X.calm = true) (T : XvC X.prog X.w X.K X.mg X.base x q0 f C bm) (hr : Room 2 X.A) (tk : Takes X W) (ha : PA X [e] ta) (hg : Gl X x := by rfl)
    (hdb : (x == ("__debug__" : Str)) = false := by decide) (he : starEach (e :: []) X.env = (false, eval e X.env) :: starEach [] X.env := by rfl) (hpl : (backTo pos (starEach [] X.env)).any (·.1) = false := by rfl) :
    PS X (.Raise (some (.Call (.Name x p) [e] [] pos)) none pos2) (fun _ σ H => tMkO C (spXI X.K C f) [] ta σ H fun cls d H' => W cls d σ H') := ps_raise hc tk (pmk_xv T hr ha hg hdb he hpl)
end
/-- a method that may raise -/
def MethHasX (P : Program) (w : World) (K : PySem.W.Frag) (mg : Str → Option Value) (base : Heap) (C : Addr) (m : Str) (k : Nat) (ps : List Str) (sp : Sp) : Prop := ∃ f fd, Meth K C m f ∧ FnOk P w K mg base (L2.CX P w) k f fd ps sp ∧ Binds K fd ps []
def tMethX (C : Addr) (m : Str) (sp : Sp) (ex : L2.St → XK) (ta : TE) (t : TA) : TE := fun σ H Q => ta σ H fun x H1 => ∃ a dx fs, x = .ref a ∧ H1 a = some (.ins C dx fs) ∧ fs.lookup m = none ∧
  t σ H1 fun vs H2 => sp (x :: vs) H2 Q (ex σ)
section
variable {X : Cx} {C : Addr} {m : Str} {k : Nat} {ps : List Str} {sp : Sp} {o e : Expr} {es : List Expr} {ta : TE} {t : TA} {ex : L2.St → XK} {apos pos : Pos} {pl : Sem Bool}
/-- o.m(e, ..), its exceptions as ex wishes: WE W in a try, fun _ => E in a def that may raise -/
theorem pe_mX (h : MethHasX X.prog X.w X.K X.mg X.base C m k ps sp) (out : ∀ σ, PassesAt (L2.CX X.prog X.w) X σ (ex σ)) (he : PE X o ta) (c : Cls X.K C) (hr : Room k X.A) (ha : PA X (e :: es) t)
    (hst : starEach (e :: es) X.env = (false, eval e X.env) :: starEach es X.env := by rfl) (hpl : (backTo pos (starEach es X.env)).any (·.1) = false := by rfl)
    (ht : eval (.Call (.Attribute o m apos) (e :: es) [] pos) X.env = (do
      let ov ← eval o X.env
      standAt apos.atName
      let (f, first) ← holding [ov] (getMethod ov m pl)
      callWith pos f first (backTo pos (starEach (e :: es) X.env)) (backToKw pos (keywordEach [] X.env))) := by rfl) : PE X (.Call (.Attribute o m apos) (e :: es) [] pos) (tMethX C m sp ex ta t) := by
  obtain ⟨f, fd, hm, F, hb⟩ := h
  refine ⟨fun pins s σ H Q I h => ?_⟩
  refine PySem.W.methodCall_KW (pl := pl) (thn (he.run pins s σ H _ I h) fun u s1 ⟨x, H1, I1, rx, a, dx, fs, ex, ea, l, q⟩ => ?_) ht
  subst ex
  obtain rfl : u = Value.ref a := rx
  refine getmeth_ok I1 ea c hm l ?_
  refine PySem.W.callWith_K (first := [.ref a]) (h₀ := X.base) I.ok.mod.kin hm.kp (thn (ha.run pos pins s1 σ H1 _ I1 q) fun us s2 ⟨vs, H2, I2, r, q2⟩ => ⟨I2.kIn, ?_⟩) hst hpl
  exact run_fnS (us := .ref a :: us) (vs := .ref a :: vs) F hr hb (out σ) I2 (.cons rfl r) q2
/-- o.m() -/
theorem pe_mX0 (h : MethHasX X.prog X.w X.K X.mg X.base C m k ps sp) (out : ∀ σ, PassesAt (L2.CX X.prog X.w) X σ (ex σ)) (he : PE X o ta) (c : Cls X.K C) (hr : Room k X.A)
    (ht : eval (.Call (.Attribute o m apos) [] [] pos) X.env = (do
      let ov ← eval o X.env
      standAt apos.atName
      let (f, first) ← holding [ov] (getMethod ov m pl)
      callWith pos f first (backTo pos (starEach [] X.env)) (backToKw pos (keywordEach [] X.env))) := by rfl) : PE X (.Call (.Attribute o m apos) [] [] pos) (tMethX C m sp ex ta tNil) := by
  obtain ⟨f, fd, hm, F, hb⟩ := h
  refine ⟨fun pins s σ H Q I h => ?_⟩
  refine PySem.W.methodCall_KW (pl := pl) (thn (he.run pins s σ H _ I h) fun u s1 ⟨x, H1, I1, rx, a, dx, fs, ex, ea, l, q⟩ => ?_) ht
  subst ex
  obtain rfl : u = Value.ref a := rx
  refine getmeth_ok I1 ea c hm l ?_
  exact PySem.W.callWith_K0 (first := [.ref a]) I1.kIn hm.kp (run_fnS (us := [.ref a]) (vs := [.ref a]) F hr hb (out σ) I1 (.cons rfl .nil) q)
end
end SE
namespace SE
open PySem PySem.Spec PyProof.Rows L2
/-! ### a search is made -/
theorem search_c {fu : Nat} {rules : List Rule} {start : List Str} {goals : List (List Str)} {r : SR} (h : searchM fu rules start goals = some r) : r.c.rules = rules ∧ r.c.words = rules.map (·.2.1) ++ goals := by
  unfold searchM at h
  obtain ⟨x, _, h⟩ := Option.bind_eq_some_iff.mp h
  obtain ⟨y, _, h⟩ := Option.bind_eq_some_iff.mp h
  obtain ⟨R, _, h⟩ := Option.map_eq_some_iff.mp h
  subst h
  exact ⟨rfl, rfl⟩
def tSea (K : PySem.W.Frag) (w : World) (Z : Addr) (t : TA) : TE := fun σ H Q => t σ H fun vs H1 => ∃ (ru st go : Addr) (us gs : List V) (rules : List Rule) (start : List Str) (goals : List (List Str)) (fu : Nat) (r : SR), vs = [.ref ru, .ref st, .ref go] ∧ H1 ru = some (.lst us) ∧ Paired (RuV K H1) us rules ∧ SqT K H1 st (start.map V.str) ∧ H1 go = some (.lst gs) ∧ Paired (WoV K H1) gs goals ∧
  rules.length ≤ 1000 ∧ goals.length ≤ 1000 ∧ (∀ ru ∈ rules, ∀ z ∈ ru.2.2, Item z) ∧ searchM fu rules start goals = some r ∧ ∀ S H', Same H1 H' → H1 S = none → SeaF K w Z S r H' → Q (.ref S) H'
section
variable {P : Program} {w : World} {K : PySem.W.Frag} {mg : Str → Option Value} {base : Heap} {C Z : Addr}
def SeaMk (P : Program) (w : World) (K : PySem.W.Frag) (mg : Str → Option Value) (base : Heap) (Z : Addr) : Prop := ∃ f fd, Mk K Z f ∧ FnOk P w K mg base CX0 6 f fd pSi (spSI K w Z) ∧ Binds K fd pSi []
theorem sea_imp {vs : List V} {H1 : Hp} {Q : VK} (h : ∃ (ru st go : Addr) (us gs : List V) (rules : List Rule) (start : List Str) (goals : List (List Str)) (fu : Nat) (r : SR), vs = [.ref ru, .ref st, .ref go] ∧ H1 ru = some (.lst us) ∧ Paired (RuV K H1) us rules ∧ SqT K H1 st (start.map V.str) ∧ H1 go = some (.lst gs) ∧ Paired (WoV K H1) gs goals ∧
    rules.length ≤ 1000 ∧ goals.length ≤ 1000 ∧ (∀ ru ∈ rules, ∀ z ∈ ru.2.2, Item z) ∧ searchM fu rules start goals = some r ∧ ∀ S H', Same H1 H' → H1 S = none → SeaF K w Z S r H' → Q (.ref S) H') : ∀ x dx, H1 x = none → H1 dx = none → dx ≠ x →
    spSI K w Z (.ref x :: (vs ++ [])) (upd (upd H1 dx (.own x)) x (.ins Z dx [])) (fun v H2 => v = .non ∧ Q (.ref x) H2) E0 := by
  intro x dx nx nd ne
  obtain ⟨ru, st, go, us, gs, rules, start, goals, fu, r, rfl, h1, h2, h3, h4, h5, l1, l2, hi, hs, k⟩ := h
  have s0 : Same H1 (upd (upd H1 dx (.own x)) x (.ins Z dx [])) := Same.made nx nd fun b o e _ => e
  refine ⟨x, ru, st, go, dx, us, gs, rules, start, goals, fu, r, rfl, upd_same, s0 _ _ h1, Paired.mapP h2 fun _ _ => RuV.mv fun _ _ => Same.tup s0, Same.tup s0 h3, s0 _ _ h4, Paired.mapP h5 fun _ _ => WoV.mv fun _ _ => Same.tup s0, l1, l2, hi, hs, fun A ba ρ H' eA hS kp tp => ⟨rfl, ?_⟩⟩
  have s1 : Same H1 H' := fun c o e => (kp c o (s0 c o e) (ne_of_none e nx)).2
  obtain ⟨e1, _⟩ := search_c hs
  exact k x H' s1 nx ⟨A, ba, ρ, by rw [e1]; exact hS⟩
theorem pe_sea {X : Cx} {p pos : Pos} {e1 e2 e3 : Expr} {t : TA} (M : SeaMk X.prog X.w X.K X.mg X.base Z) (mgS : X.mg "Search" = some (.ref Z)) (hr : Room 7 X.A) (ha : PA X [e1, e2, e3] t) (hg : Gl X "Search" := by rfl)
    (he : starEach [e1, e2, e3] X.env = (false, eval e1 X.env) :: starEach [e2, e3] X.env := by rfl) (hpl : (backTo pos (starEach [e2, e3] X.env)).any (·.1) = false := by rfl) :
    PE X (.Call (.Name "Search" p) [e1, e2, e3] [] pos) (tSea X.K X.w Z t) := by
  obtain ⟨f, fd, Mk1, F, hb⟩ := M
  constructor
  intro pins s σ H Q I h
  refine wpAny_Call_Name_kw (ld_glob I hg mgS ?_ (by decide))
  refine PySem.W.callWith_K (h₀ := X.base) I.ok.mod.kin Mk1.kp (thn (ha.run pos pins s σ H _ I h) fun us s1 hh => ?_) he hpl
  obtain ⟨vs, H1, I1, r, q⟩ := hh
  exact ⟨I1.kIn, run_make Mk1 F hr hb .nil pass0 I1 r (sea_imp q)⟩
/-! ### the blocks' names in order -/
def NsOf (bs : Blk) (ns : List Str) : Prop := ∀ ms : List Str, ms.Perm (bs.map (·.1)) → sortedS ms = true → ms = ns
theorem lookA_in {κ β : Type} [DecidableEq κ] {k : κ} {b : β} : ∀ {m : List (κ × β)}, lookA k m = some b → ∃ p ∈ m, p.2 = b
  | [], h => by cases h
  | p :: m, h => by
    unfold lookA at h
    by_cases c : p.1 = k
    · rw [if_pos c] at h
      exact ⟨p, List.mem_cons_self, Option.some.inj h⟩
    · rw [if_neg c] at h
      obtain ⟨q, mq, e⟩ := lookA_in h
      exact ⟨q, List.mem_cons_of_mem _ mq, e⟩
theorem rules_item {bs : Blk} (ok : BlkOk bs) (ns : List Str) : ∀ ru ∈ rulesM bs ns, ∀ z ∈ ru.2.2, Item z := by
  intro ru m z mz
  obtain ⟨n, _, e⟩ := List.mem_filterMap.mp m
  unfold ruleB at e
  obtain ⟨B, e1, e2⟩ := Option.map_eq_some_iff.mp e
  obtain ⟨o, e3, e4⟩ := Option.bind_eq_some_iff.mp e1
  obtain ⟨p, mp, ep⟩ := lookA_in e3
  have q := (ok.ok p mp).2.2
  rw [ep, show o = some B from e4] at q
  obtain ⟨xs, ys, pk⟩ := B
  subst e2
  exact q.2.1 z mz
theorem rules_len (bs : Blk) (ns : List Str) : (rulesM bs ns).length ≤ ns.length := List.length_filterMap_le _ _
/-! ### goal_search -/
def spGs (K : PySem.W.Frag) (w : World) (C Z : Addr) : Sp := fun vs H Q _ => ∃ (d a b : Addr) (bs : Blk) (ns zs ys : List Str) (fu : Nat) (r : SR), vs = [.ref d, .ref a, .ref b] ∧ BlkD K C H d bs ∧ BlkOk bs ∧ NsOf bs ns ∧ SqT K H a (zs.map V.str) ∧ SqT K H b (ys.map V.str) ∧ searchM fu (rulesM bs ns) zs [ys] = some r ∧
  ∀ t S H', Same H H' → SqT K H' t [.ref S, natV (rulesM bs ns).length] → SeaF K w Z S r H' → Q (.ref t) H'
abbrev nGs : List Str := ["blocks", "start", "goal", "rules"]
abbrev pGs : List Str := ["blocks", "start", "goal"]
theorem scGs : FnScope nGs pGs (defScope sGoalSearch) := ⟨rfl, rfl, rfl, by decide +kernel, rfl, by decide +kernel, by decide +kernel⟩
theorem has_gs (D : Def K mg "goal_search" sGoalSearch) (M : SeaMk P w K mg base Z) (mgS : mg "Search" = some (.ref Z)) (GR : Has P w K mg base "rules_of" 3 ["blocks"] [] (spRo K C)) (B : Blt mg) : Has P w K mg base "goal_search" 8 pGs [] (spGs K w C Z) := by
  refine has_of D scGs (fun _ _ _ _ _ _ us hl => match us, hl with | [_, _, _], _ => rfl) (fun xs H Q E h => ?_) (fun f cv A out s H xs Q E hr h => ?_)
  · obtain ⟨d, a, b, bs, ns, zs, ys, fu, r, rfl, _⟩ := h
    rfl
  · obtain ⟨d, a, b, bs, ns, zs, ys, fu, r, rfl, hB, ok, hns, hA, hG, hs, k⟩ := h
    have hr3 : Room 3 _ := hr.mono (by decide)
    refine ⟨_, pss_cons (ps_set (i := 3) scGs.nd rfl (.inl rfl) (pe_has GR hr3 (pa_cons (pv 0) pa_nil))) (pss_one (ps_ret (pe_tup (pa_cons (pe_sea M mgS hr (pa_cons (pv 3) (pa_cons (pv 1) (pa_cons (pe_lst (pa_cons (pv 2) pa_nil)) pa_nil)))) (pa_cons (pe_callB call_len_seq (by rfl) B.len PySem.boot_len (pa_cons (pv 3) pa_nil)) pa_nil))))), ?_⟩
    refine ⟨_, rfl, d, bs, rfl, hB, ok, fun l us ms H1 s1 hl hl1 pm sm pR => ?_⟩
    obtain rfl := hns ms pm sm
    have hlen : us.length = (rulesM bs ms).length := paired_len pR
    have lm : ms.length ≤ 8 := by rw [pm.length_eq, List.length_map]; exact ok.l1
    have lr := rules_len bs ms
    refine ⟨_, rfl, _, rfl, ⟨_, rfl, (by show 1 ≤ sizeLine; decide), fun G hG' => ?_⟩⟩
    have sG : Same H1 (upd H1 G (.lst [.ref b])) := Same.new hG'
    have hGG : upd H1 G (.lst [.ref b]) G = some (.lst [.ref b]) := upd_same
    generalize upd H1 G (.lst [.ref b]) = H2 at sG hGG ⊢
    have s2 := s1.trans sG
    refine ⟨l, a, G, us, _, rulesM bs ms, zs, [ys], fu, r, rfl, sG _ _ hl1, Paired.mapP pR fun _ _ => RuV.mv fun _ _ => Same.tup sG, Same.tup s2 hA, hGG, .cons ⟨b, rfl, Same.tup s2 hG⟩ .nil, by omega, (by simp), rules_item ok ms, hs, fun S H3 s3 nS hS => ?_⟩
    refine ⟨_, rfl, l, us, rfl, .inl (.of (s3 _ _ (sG _ _ hl1))), (by show 2 ≤ sizeLine; decide), fun t ht => ?_⟩
    have st : Same H3 (upd H3 t (.tup [.ref S, .int (us.length : Nat)])) := Same.new ht
    refine k t S _ ((s2.trans s3).trans st) ?_ (hS.same st)
    rw [← hlen]
    exact .of upd_same
/-! ### reach -/
theorem seF_table {A : Adr} {n : Nat} : ∀ {e : ExS}, (seF A n e).lookup ("table" : Str) = none
  | .no => by rfl
  | .fin _ => by rfl
  | .full _ _ _ => by rfl
def spRe (K : PySem.W.Frag) (C : Addr) : Sp := fun vs H Q _ => ∃ (d a : Addr) (bs : Blk) (ns zs : List Str) (fu : Nat) (r : SR), vs = [.ref d, .ref a] ∧ BlkD K C H d bs ∧ BlkOk bs ∧ NsOf bs ns ∧ SqT K H a (zs.map V.str) ∧ zs.length ≤ 30 ∧ (∀ z ∈ zs, Item z) ∧ searchM fu (rulesM bs ns) zs [] = some r ∧ r.R.costs.length ≤ capA ∧
  ∀ t H', Same H H' → TabAt K H' t r → Q (.ref t) H'
theorem scRe : FnScope ["blocks", "start"] ["blocks", "start"] (defScope sReach) := ⟨rfl, rfl, rfl, by decide +kernel, rfl, by decide +kernel, by decide +kernel⟩
theorem has_re {CB : Addr} (D : Def K mg "reach" sReach) (T : TSea K Z) (M : SeaMk P w K mg base Z) (mgS : mg "Search" = some (.ref Z)) (GB : HasX P w K mg base "check_blocks" 6 ["blocks"] [] (spCb K C CB)) (GS : Has P w K mg base "check_stack" 3 ["stack"] [] (spCst K)) (GR : Has P w K mg base "rules_of" 3 ["blocks"] [] (spRo K C))
    (GT : MethHas P w K mg base Z "table" 1 ["self"] (spTb K w Z)) : Has P w K mg base "reach" 8 ["blocks", "start"] [] (spRe K C) := by
  refine has_of D scRe (fun _ _ _ _ _ _ us hl => match us, hl with | [_, _], _ => rfl) (fun xs H Q E h => ?_) (fun f cv A out s H xs Q E hr h => ?_)
  · obtain ⟨d, a, bs, ns, zs, fu, r, rfl, _⟩ := h
    rfl
  · obtain ⟨d, a, bs, ns, zs, fu, r, rfl, hB, ok, hns, hA, la, ia, hs, lc, k⟩ := h
    have hr1 : Room 1 _ := hr.mono (by decide)
    have hr3 : Room 3 _ := hr.mono (by decide)
    have hr6 : Room 6 _ := hr.mono (by decide)
    refine ⟨_, pss_cons (ps_expr (pe_has GB.calm hr6 (pa_cons (pv 0) pa_nil))) (pss_cons (ps_expr (pe_has GS hr3 (pa_cons (pv 1) pa_nil)))
      (pss_one (ps_ret (pe_mH0 GT (pe_sea M mgS hr (pa_cons (pe_has GR hr3 (pa_cons (pv 0) pa_nil)) (pa_cons (pv 1) (pa_cons (pe_lst pa_nil) pa_nil)))) T.cl hr1)))), ?_⟩
    refine ⟨_, rfl, d, rfl, .inl ⟨bs, hB, ok, fun H1 s1 => ⟨_, rfl, a, zs, rfl, Same.tup s1 hA, la, ia, fun H2 s2 => ?_⟩⟩⟩
    have s12 := s1.trans s2
    refine ⟨_, rfl, d, bs, rfl, hB.same s12, ok, fun l us ms H3 s3 hl hl1 pm sm pR => ?_⟩
    obtain rfl := hns ms pm sm
    have lm : ms.length ≤ 8 := by rw [pm.length_eq, List.length_map]; exact ok.l1
    have lr := rules_len bs ms
    have s13 := s12.trans s3
    refine ⟨_, rfl, (by show 0 ≤ sizeLine; decide), fun G hG' => ?_⟩
    have sG : Same H3 (upd H3 G (.lst [])) := Same.new hG'
    have hGG : upd H3 G (.lst []) G = some (.lst []) := upd_same
    generalize upd H3 G (.lst []) = H4 at sG hGG ⊢
    have s14 := s13.trans sG
    refine ⟨l, a, G, us, _, rulesM bs ms, zs, [], fu, r, rfl, sG _ _ hl1, Paired.mapP pR fun _ _ => RuV.mv fun _ _ => Same.tup sG, Same.tup s14 hA, hGG, .nil, by omega, by decide, rules_item ok ms, hs, fun S H5 s5 nS hS => ?_⟩
    obtain ⟨Ad, ba, ρ, hS'⟩ := id hS
    obtain ⟨dx, hme⟩ := hS'.me
    exact ⟨S, dx, _, rfl, hme, seF_table, S, r, rfl, hS, lc, fun t H6 s6 ht => k t H6 ((s14.trans s5).trans s6) ht⟩
/-! ### least_blocks, is_reachable -/
theorem last_goal {fu : Nat} {rules : List Rule} {start goal : List Str} {r : SR} (h : searchM fu rules start [goal] = some r) : (lastP r rules.length).isSome = true := by
  obtain ⟨_, e⟩ := search_c h
  unfold lastP
  rw [e, List.getElem?_append_right (by rw [List.length_map]; exact Nat.le_refl _), List.length_map, Nat.sub_self]
  rfl
def spLb (K : PySem.W.Frag) (C : Addr) (g : Option Nat → V) : Sp := fun vs H Q _ => ∃ (d a b : Addr) (bs : Blk) (ns zs ys : List Str) (fu : Nat) (r : SR), vs = [.ref d, .ref a, .ref b] ∧ BlkD K C H d bs ∧ BlkOk bs ∧ NsOf bs ns ∧ SqT K H a (zs.map V.str) ∧ zs.length ≤ 30 ∧ (∀ z ∈ zs, Item z) ∧ SqT K H b (ys.map V.str) ∧ ys.length ≤ 30 ∧ (∀ z ∈ ys, Item z) ∧ searchM fu (rulesM bs ns) zs [ys] = some r ∧
  ∀ H', Same H H' → Q (g (leastM r (rulesM bs ns).length)) H'
abbrev nLb : List Str := ["blocks", "start", "goal", "search", "word"]
theorem scLb : FnScope nLb pGs (defScope sLeastBlocks) := ⟨rfl, rfl, rfl, by decide +kernel, rfl, by decide +kernel, by decide +kernel⟩
theorem has_lb (D : Def K mg "least_blocks" sLeastBlocks) (T : TSea K Z) (GC : Has P w K mg base "check_search" 7 pGs [] (spCse K C)) (GG : Has P w K mg base "goal_search" 8 pGs [] (spGs K w C Z)) (GLs : MethHas P w K mg base Z "least" 2 ["self", "word"] (spLs K w Z)) : Has P w K mg base "least_blocks" 9 pGs [] (spLb K C optN) := by
  refine has_of D scLb (fun _ _ _ _ _ _ us hl => match us, hl with | [_, _, _], _ => rfl) (fun xs H Q E h => ?_) (fun f cv A out s H xs Q E hr h => ?_)
  · obtain ⟨d, a, b, bs, ns, zs, ys, fu, r, rfl, _⟩ := h
    rfl
  · obtain ⟨d, a, b, bs, ns, zs, ys, fu, r, rfl, hB, ok, hns, hA, la, ia, hG, lg, ig, hs, k⟩ := h
    have hr2 : Room 2 _ := hr.mono (by decide)
    have hr7 : Room 7 _ := hr.mono (by decide)
    refine ⟨_, pss_cons (ps_expr (pe_has GC hr7 (pa_cons (pv 0) (pa_cons (pv 1) (pa_cons (pv 2) pa_nil)))))
      (pss_cons (ps_asg (pe_has GG hr (pa_cons (pv 0) (pa_cons (pv 1) (pa_cons (pv 2) pa_nil)))) (pg_tup (by rfl) (pgs_cons (pg_name (i := 3) scLb.nd rfl (.inl rfl)) (pgs_cons (pg_name (i := 4) scLb.nd rfl (.inl rfl)) pgs_nil))))
      (pss_one (ps_ret (pe_mH1 GLs (pv 3) T.cl hr2 (pa_cons (pv 4) pa_nil))))), ?_⟩
    refine ⟨_, rfl, _, rfl, _, rfl, d, a, b, bs, zs, ys, rfl, hB, ok, hA, la, ia, hG, lg, ig, fun H1 s1 => ?_⟩
    refine ⟨_, rfl, _, rfl, _, rfl, d, a, b, bs, ns, zs, ys, fu, r, rfl, hB.same s1, ok, hns, Same.tup s1 hA, Same.tup s1 hG, hs, fun t S H2 s2 hT hS => ?_⟩
    obtain ⟨Ad, ba, ρ, hS'⟩ := id hS
    obtain ⟨dx, hme⟩ := hS'.me
    exact ⟨t, _, rfl, hT, rfl, _, _, rfl, _, _, rfl, rfl, _, rfl, S, dx, _, rfl, hme, seF_least, _, rfl, S, r, _, rfl, hS, last_goal hs, fun H3 s3 => k H3 ((s1.trans s2).trans s3)⟩
def someV (o : Option Nat) : V := .bl o.isSome
theorem scIr : FnScope pGs pGs (defScope sIsReachable) := ⟨rfl, rfl, rfl, by decide +kernel, rfl, by decide +kernel, by decide +kernel⟩
theorem has_ir (D : Def K mg "is_reachable" sIsReachable) (GL : Has P w K mg base "least_blocks" 9 pGs [] (spLb K C optN)) : Has P w K mg base "is_reachable" 10 pGs [] (spLb K C someV) := by
  refine has_of D scIr (fun _ _ _ _ _ _ us hl => match us, hl with | [_, _, _], _ => rfl) (fun xs H Q E h => ?_) (fun f cv A out s H xs Q E hr h => ?_)
  · obtain ⟨d, a, b, bs, ns, zs, ys, fu, r, rfl, _⟩ := h
    rfl
  · obtain ⟨d, a, b, bs, ns, zs, ys, fu, r, rfl, hB, ok, hns, hA, la, ia, hG, lg, ig, hs, k⟩ := h
    refine ⟨_, pss_one (ps_ret (pe_cmpR op_notN (pe_has GL hr (pa_cons (pv 0) (pa_cons (pv 1) (pa_cons (pv 2) pa_nil)))) pe_non (nomark _))), ?_⟩
    refine ⟨_, rfl, _, rfl, _, rfl, d, a, b, bs, ns, zs, ys, fu, r, rfl, hB, ok, hns, hA, la, ia, hG, lg, ig, hs, fun H1 s1 => ⟨rfl, ?_⟩⟩
    have z := k H1 s1
    cases e : leastM r (rulesM bs ns).length with
    | none => rw [e] at z; exact z
    | some n => rw [e] at z; exact z
end
end SE
/-! list(text), tuple(text). -/
namespace SE
open PySem PySem.Spec PyProof.Rows PySem.Calls L2 SeqAt
/-- a text's signs -/
def sgnL (z : Str) : List Str := z.cps.toList.map fun c => ⟨#[c]⟩
theorem sgnL_len (z : Str) : (sgnL z).length = z.cps.size := by
  unfold sgnL
  rw [List.length_map, Array.length_toList]
section
variable {X : Cx}
theorem sgn_vals {z : Str} {acc : Array Value} (h : ItemsOf (SignAt z) acc z.cps.size) : Vals ((sgnL z).map V.str) acc.toList := by
  refine vals_of_at (by rw [List.length_map, sgnL_len, Array.length_toList, h.1]) fun j x w h1 h2 => ?_
  obtain ⟨c, u, hc, rfl⟩ := h.2 j w (by rw [← Array.getElem?_toList]; exact h2)
  unfold sgnL at h1
  rw [List.getElem?_map, List.getElem?_map, Array.getElem?_toList, hc] at h1
  cases h1
  exact ⟨u, rfl⟩
def rListT : List V → Hp → VK → Prop := fun xs H Q => ∃ z, xs = [.str z] ∧ z.cps.size ≤ sizeLine ∧ ∀ p, H p = none → Q (.ref p) (upd H p (.lst ((sgnL z).map V.str)))
theorem call_listT (hc : X.calm = true) : CallR X (.type "list") rListT := by
  intro pins s σ H xs us Q I r h
  obtain ⟨z, rfl, hz, q⟩ := h
  obtain ⟨u, rfl, t, rfl⟩ := vals1 r
  refine call_list_str (I.ok.hd hc) z t (fun h' tk acc c' kp e hacc => ?_) hz
  have rv := sgn_vals hacc
  exact ⟨.ref s.heap.objs.size, upd H s.heap.objs.size (.lst ((sgnL z).map V.str)), I.laid (t' := tk) kp (Nat.le_refl _) (show ObjOk X.prog X.w _ _ _ (.lst ((sgnL z).map V.str)) from ⟨by rw [List.length_map, sgnL_len]; exact hz, acc.toList, c', rv, by rw [Array.toArray_toList]; exact e⟩), rfl, q _ (I.hok.fresh (Nat.le_refl _))⟩
def rTupT : List V → Hp → VK → Prop := fun xs H Q => ∃ z, xs = [.str z] ∧ z.cps.size ≤ sizeLine ∧ ∀ p, H p = none → Q (.ref p) (upd H p (.tup ((sgnL z).map V.str)))
theorem call_tupleT (hc : X.calm = true) : CallR X (.type "tuple") rTupT := by
  intro pins s σ H xs us Q I r h
  obtain ⟨z, rfl, hz, q⟩ := h
  obtain ⟨u, rfl, t, rfl⟩ := vals1 r
  refine call_tuple_str (I.ok.hd hc) z t (fun h' tk acc kp hacc => ?_) hz
  have rv := sgn_vals hacc
  have I1 : Inv X pins σ H { s with heap := h', toks := tk } := I.kept (t' := tk) kp
  have I2 : Inv X pins σ (upd H h'.objs.size (.tup ((sgnL z).map V.str))) { s with heap := h'.push { cls := .type "tuple", data := .seq acc }, toks := tk } :=
    I1.laid (t' := tk) (fun b o e => Heap.get?_push_of_some _ e) (Nat.le_refl _) (show ObjOk X.prog X.w _ _ _ (.tup ((sgnL z).map V.str)) from ⟨by rw [List.length_map, sgnL_len]; exact hz, acc.toList, rv, by rw [Array.toArray_toList]; exact IsTup.new _ _⟩)
  exact ⟨.ref h'.objs.size, _, I2, rfl, q _ (I1.hok.fresh (Nat.le_refl _))⟩
end
end SE
namespace SE
open PySem PySem.Spec PyProof.Rows L2
/-! ### check_between -/
def badL (C : Addr) (H : Hp) (v : V) (E : XK) : Prop := ∀ (dd : Addr) (H' : Hp), Same H H' → H dd = none → H' dd = some (.xd [("limit", v)]) → E (.ref C) (some dd) H'
theorem badL.go {C : Addr} {H H1 : Hp} {v : V} {E : XK} (h : badL C H v E) (s : Same H H1) : badL C H1 v E := fun dd H' s' n e => h dd H' (s.trans s') (s.free n) e
section
variable {P : Program} {w : World} {K : PySem.W.Frag} {mg : Str → Option Value} {base : Heap} {C Z CB CE CN CL : Addr}
def spCbw (K : PySem.W.Frag) (CN : Addr) : Sp := fun xs H Q E => ∃ (v : V) (d : PyData) (lo hi : Int), xs = [v, .int lo, .int hi] ∧ DpX K H v d ∧ ((betD lo hi d = true ∧ Q .non H) ∨ (betD lo hi d = false ∧ bad CN H v E))
theorem scCbw : FnScope ["value", "least", "most"] ["value", "least", "most"] (defScope sCheckBetween) := ⟨rfl, rfl, rfl, by decide +kernel, rfl, by decide +kernel, by decide +kernel⟩
theorem hasX_cbw (D : Def K mg "check_between" sCheckBetween) (G : Has P w K mg base "is_between" 2 ["value", "least", "most"] [] (spBe2 K)) (T : XcC P w K mg base "InvalidNumber" "value" CN) : HasX P w K mg base "check_between" 3 ["value", "least", "most"] [] (spCbw K CN) := by
  refine hasX_of D scCbw (fun _ _ _ _ _ _ us hl => match us, hl with | [_, _, _], _ => rfl) (fun xs H Q E h => ?_) (fun f cv A out s H xs Q E hr h => ?_)
  · obtain ⟨v, d, lo, hi, rfl, _⟩ := h
    rfl
  · obtain ⟨v, d, lo, hi, rfl, hd, h⟩ := h
    refine ⟨_, pss_one (ps_if (pt_not (pt_val (pe_has G hr (pa_cons (pv 0) (pa_cons (pv 1) (pa_cons (pv 2) pa_nil)))))) (pss_one (ps_raiseX rfl T hr tkX (pa_cons (pv 0) pa_nil))) pss_nil), ?_⟩
    refine ⟨_, rfl, _, rfl, _, rfl, v, d, lo, hi, rfl, hd, betD lo hi d, rfl, ?_⟩
    rcases h with ⟨e, k⟩ | ⟨e, k⟩
    · rw [e]
      exact iteF k
    · rw [e]
      exact iteT ⟨_, rfl, mk_red fun dd hdd => k dd _ (Same.new hdd) hdd upd_same⟩
/-! ### defs with most = 1000 -/
def KHasM (P : Program) (w : World) (K : PySem.W.Frag) (mg : Str → Option Value) (base : Heap) (CT : CXT) (x : Str) (st : Stmt) (ps : List Str) (k : Nat) (sp : Sp) : Prop := ∃ f fd, FnOk P w K mg base CT k f fd ps sp ∧ FunD K x x (defArgs st) (defBody st) (defScope st) [] [("most", .int 1000)] f fd ∧ mg x = some (.ref f)
theorem KHasM.kb {CT : CXT} {x : Str} {st : Stmt} {ps : List Str} {k : Nat} {sp : Sp} (h : KHasM P w K mg base CT x st ps k sp) (n : Nat) (hb : ∀ (D : Addr) (doc pm : Value) (an : Option Addr) (cv ct : Value) (us ws : List Value), us.length = n → ws.length = 1 → bindArgs (PySem.W.fnOf x x (defArgs st) (defBody st) (defScope st) .none (.ref D) doc pm an cv ct) ⟨us, [Str.ofString "most"].zip ws⟩ = pure (ps.zip (us ++ ws))) :
    ∃ f fd, FnOk P w K mg base CT k f fd ps sp ∧ KBn K fd ps n ["most"] (fun us ws => us ++ ws) (fun vs zs => vs ++ zs) ∧ mg x = some (.ref f) ∧ PySem.W.keepIn K (.ref f) = true := by
  obtain ⟨f, fd, F, FD, hm⟩ := h
  obtain ⟨mv, kb⟩ := kb_some (ps := ps) FD n ["most"] [] (fun us _ ws => us ++ ws) (by simp) (fun q h => (by cases h)) (fun r1 _ r3 => r1.append r3) (fun D doc pm an cv ct us mv ws h1 h2 h3 => match mv, h2 with | [], _ => hb D doc pm an cv ct us ws h1 h3)
  exact ⟨f, fd, F, kb, hm, FD.kp⟩
theorem KHasM.ds {CT : CXT} {x : Str} {st : Stmt} {ps : List Str} {k : Nat} {sp : Sp} (h : KHasM P w K mg base CT x st ps k sp) (n : Nat) (hn : n + 1 = ps.length) (hb : ∀ (D : Addr) (doc pm : Value) (an : Option Addr) (cv ct : Value) (us ks : List Value), us.length = n → ks.length = 1 →
      KwChain D (([Str.ofString "most"]).zip ks) (bindArgs (PySem.W.fnOf x x (defArgs st) (defBody st) (defScope st) .none (.ref D) doc pm an cv ct) ⟨us, []⟩) (ps.zip (us ++ ks))) :
    ∃ f fd ds, FnOk P w K mg base CT k f fd ps sp ∧ Vals [V.int 1000] ds ∧ Binds K fd ps ds ∧ mg x = some (.ref f) ∧ PySem.W.keepIn K (.ref f) = true := by
  obtain ⟨f, fd, F, FD, hm⟩ := h
  obtain ⟨ds, hd, hb'⟩ := FD.binds0 (ps := ps) n (by simp) hn hb
  exact ⟨f, fd, ds, F, hd, hb', hm, FD.kp⟩
/-! ### route -/
def RtOut (CN CL : Addr) (fu : Nat) (r : SR) (n : Nat) (vm : V) (dm : PyData) (H : Hp) (Q : VK) (E : XK) : Prop :=
  (betD 0 5000 dm = false ∧ bad CN H vm E) ∨ (∃ k : Int, dm = .int k ∧ vm = .int k ∧ 0 ≤ k ∧ k ≤ 5000 ∧ ((leastM r n = none ∧ ∀ H', Same H H' → Q .non H') ∨
    ∃ j : Nat, leastM r n = some j ∧ ((k < (j : Int) ∧ badL CL H vm E) ∨ ((j : Int) ≤ k ∧ ∃ names, namesTo fu r n = some names ∧ ∀ l H', Same H H' → H l = none → H' l = some (.lst (names.map V.str)) → Q (.ref l) H'))))
theorem RtOut.go {fu : Nat} {r : SR} {n : Nat} {vm : V} {dm : PyData} {H H1 : Hp} {Q : VK} {E : XK} (h : RtOut CN CL fu r n vm dm H Q E) (s : Same H H1) : RtOut CN CL fu r n vm dm H1 Q E := by
  rcases h with ⟨a, b⟩ | ⟨k, a, b, c, d, h⟩
  · exact .inl ⟨a, b.go s⟩
  · refine .inr ⟨k, a, b, c, d, ?_⟩
    rcases h with ⟨e, f⟩ | ⟨j, e, f⟩
    · exact .inl ⟨e, fun H' s' => f H' (s.trans s')⟩
    · refine .inr ⟨j, e, ?_⟩
      rcases f with ⟨f, g⟩ | ⟨f, ns, g, i⟩
      · exact .inl ⟨f, g.go s⟩
      · exact .inr ⟨f, ns, g, fun l H' s' nl hl => i l H' (s.trans s') (s.free nl) hl⟩
def spRt (K : PySem.W.Frag) (C CN CL : Addr) : Sp := fun vs H Q E => ∃ (d a b : Addr) (bs : Blk) (ns zs ys : List Str) (vm : V) (dm : PyData) (fu : Nat) (r : SR), vs = [.ref d, .ref a, .ref b, vm] ∧ BlkD K C H d bs ∧ BlkOk bs ∧ NsOf bs ns ∧ SqT K H a (zs.map V.str) ∧ zs.length ≤ 30 ∧ (∀ z ∈ zs, Item z) ∧ SqT K H b (ys.map V.str) ∧ ys.length ≤ 30 ∧ (∀ z ∈ ys, Item z) ∧ DpX K H vm dm ∧
  searchM fu (rulesM bs ns) zs [ys] = some r ∧ RtOut CN CL fu r (rulesM bs ns).length vm dm H Q E
abbrev pRt : List Str := ["blocks", "start", "goal", "most"]
abbrev nRt : List Str := ["blocks", "start", "goal", "most", "search", "word", "least"]
theorem scRt : FnScope nRt pRt (defScope sRoute) := ⟨rfl, rfl, rfl, by decide +kernel, rfl, by decide +kernel, by decide +kernel⟩
theorem seF_names {A : Adr} {n : Nat} : ∀ {e : ExS}, (seF A n e).lookup ("names_to" : Str) = none
  | .no => by rfl
  | .fin _ => by rfl
  | .full _ _ _ => by rfl
theorem hasX_rt {bm : List Value} (D : DefK K mg "route" sRoute [("most", .int 1000)]) (T : TSea K Z) (TL : XvC P w K mg base "LimitExceeded" "LimitExceeded.__init__" "limit" CL bm) (GC : Has P w K mg base "check_search" 7 pGs [] (spCse K C)) (GB : HasX P w K mg base "check_between" 3 ["value", "least", "most"] [] (spCbw K CN)) (GG : Has P w K mg base "goal_search" 8 pGs [] (spGs K w C Z))
    (GLs : MethHas P w K mg base Z "least" 2 ["self", "word"] (spLs K w Z)) (GNt : MethHas P w K mg base Z "names_to" 3 ["self", "word"] (spNt K w Z)) (mc : ∃ t, mg "MOST_NAMES" = some (.int 5000 t)) : KHasM P w K mg base (L2.CX P w) "route" sRoute pRt 9 (spRt K C CN CL) := by
  obtain ⟨tm, hM⟩ := mc
  obtain ⟨f, fd, F, FD, hmg⟩ := D
  refine ⟨f, fd, F.okX scRt (fun vs H Q E h => ?_) (fun cv A out s H vs Q E hr h => ?_), FD, hmg⟩
  · obtain ⟨d, a, b, bs, ns, zs, ys, vm, dm, fu, r, rfl, _⟩ := h
    rfl
  · obtain ⟨d, a, b, bs, ns, zs, ys, vm, dm, fu, r, rfl, hB, ok, hns, hA, la, ia, hG, lg, ig, hv, hs, h⟩ := h
    have hr2 : Room 2 _ := hr.mono (by decide)
    have hr3 : Room 3 _ := hr.mono (by decide)
    have hr7 : Room 7 _ := hr.mono (by decide)
    refine ⟨_, pss_cons (ps_expr (pe_has GC hr7 (pa_cons (pv 0) (pa_cons (pv 1) (pa_cons (pv 2) pa_nil)))))
      (pss_cons (ps_expr (pe_hasX GB hr3 tkX (pa_cons (pv 3) (pa_cons pe_int (pa_cons (pe_glob (v := .int 5000) rfl hM ⟨_, rfl⟩) pa_nil)))))
      (pss_cons (ps_asg (pe_has GG hr (pa_cons (pv 0) (pa_cons (pv 1) (pa_cons (pv 2) pa_nil)))) (pg_tup (by rfl) (pgs_cons (pg_name (i := 4) scRt.nd rfl (.inl rfl)) (pgs_cons (pg_name (i := 5) scRt.nd rfl (.inl rfl)) pgs_nil))))
      (pss_cons (ps_set (i := 6) scRt.nd rfl (.inl rfl) (pe_mH1 GLs (pv 4) T.cl hr2 (pa_cons (pv 5) pa_nil)))
      (pss_cons (ps_if (pt_cmpR op_isN (pv 6) pe_non (nomark _)) (pss_one (ps_ret pe_non)) pss_nil)
      (pss_cons (ps_if (pt_cmpR op_gt (pv 6) (pv 3) (nomark _)) (pss_one (ps_raiseV rfl TL hr2 tkX (pa_cons (pv 3) pa_nil))) pss_nil)
      (pss_one (ps_ret (pe_mH1 GNt (pv 4) T.cl hr3 (pa_cons (pv 5) pa_nil))))))))), ?_⟩
    refine ⟨_, rfl, _, rfl, _, rfl, d, a, b, bs, zs, ys, rfl, hB, ok, hA, la, ia, hG, lg, ig, fun H1 s1 => ?_⟩
    have h1 := h.go s1
    refine ⟨_, rfl, vm, dm, 0, 5000, rfl, DpX.same s1 _ _ hv, ?_⟩
    rcases h1 with ⟨e, k⟩ | ⟨m, rfl, rfl, m0, m1, h1⟩
    · exact .inr ⟨e, k⟩
    · refine .inl ⟨by show (decide _ && decide _) = true; rw [decide_eq_true m0, decide_eq_true m1]; rfl, ?_⟩
      refine ⟨_, rfl, _, rfl, _, rfl, d, a, b, bs, ns, zs, ys, fu, r, rfl, hB.same s1, ok, hns, Same.tup s1 hA, Same.tup s1 hG, hs, fun t S H2 s2 hT hS => ?_⟩
      obtain ⟨Ad, ba, ρ, hS'⟩ := id hS
      obtain ⟨dx, hme⟩ := hS'.me
      refine ⟨t, _, rfl, hT, rfl, _, _, rfl, _, _, rfl, rfl, _, rfl, S, dx, _, rfl, hme, seF_least, _, rfl, S, r, _, rfl, hS, last_goal hs, fun H3 s3 => ?_⟩
      have s13 := s2.trans s3
      rcases h1 with ⟨e, k⟩ | ⟨j, e, h1⟩
      · rw [e]
        exact ⟨_, rfl, rfl, _, rfl, iteT (k _ s13)⟩
      · rw [e]
        refine ⟨_, rfl, rfl, _, rfl, iteF ⟨_, rfl, _, rfl, (j : Int), m, rfl, rfl, _, rfl, ?_⟩⟩
        rcases h1 with ⟨lt, k⟩ | ⟨le, names, hn, k⟩
        · rw [show decide ((j : Int) > m) = true from decide_eq_true lt]
          refine iteT ⟨_, rfl, mk_red fun dd hdd => k dd _ (s13.trans (Same.new hdd)) (s13.free hdd) upd_same⟩
        · rw [show decide ((j : Int) > m) = false from decide_eq_false (by omega)]
          refine iteF ?_
          obtain ⟨Ad3, ba3, ρ3, hS3⟩ := id (hS.same s3)
          obtain ⟨dx3, hme3⟩ := hS3.me
          exact ⟨_, rfl, S, dx3, _, rfl, hme3, seF_names, _, rfl, S, r, _, fu, names, rfl, hS.same s3, hn, fun l H4 s4 nl hl => k l H4 (s13.trans s4) (s13.free nl) hl⟩
end
end SE
namespace SE
open PySem PySem.Spec PyProof.Rows L2
/-! ### data whose dicts are empty -/
mutual
def layE : PyData → Bool
  | .none | .bool _ | .int _ => true
  | .str x => PyData.strOk x
  | .list xs | .tuple xs => layEAll xs
  | .dict kvs => kvs.isEmpty
def layEAll : List PyData → Bool
  | [] => true
  | x :: xs => layE x && layEAll xs
end
mutual
theorem layE_of : ∀ d : PyData, d.canLay0 = true → layE d = true
  | .none, _ => by simp only [layE]
  | .bool _, _ => by simp only [layE]
  | .int _, _ => by simp only [layE]
  | .str x, h => by simpa only [layE, PyData.canLay0] using h
  | .list xs, h => by
    simp only [layE]
    exact layEAll_of xs (by simpa only [PyData.canLay0] using h)
  | .tuple xs, h => by
    simp only [layE]
    exact layEAll_of xs (by simpa only [PyData.canLay0] using h)
  | .dict _, h => by simp only [PyData.canLay0] at h; exact nomatch h
theorem layEAll_of : ∀ xs : List PyData, PyData.canLayAll0 xs = true → layEAll xs = true
  | [], _ => by simp only [layEAll]
  | x :: xs, h => by
    have h' : x.canLay0 = true ∧ PyData.canLayAll0 xs = true := by simpa only [PyData.canLayAll0, Bool.and_eq_true] using h
    simp only [layEAll, Bool.and_eq_true]
    exact ⟨layE_of x h'.1, layEAll_of xs h'.2⟩
end
mutual
theorem leavesShort_of_layE : ∀ d : PyData, layE d = true → d.intsShort 13 = true → d.leavesShort 13 = true
  | .none, _, _ => rfl
  | .bool _, _, _ => rfl
  | .int i, _, h => by simpa only [PyData.leavesShort, PyData.intsShort] using h
  | .str x, hc, _ => PyData.leavesShort_of_canLay0 13 (.str x) (by simpa only [layE, PyData.canLay0] using hc) rfl
  | .list xs, hc, h => by
    simp only [PyData.leavesShort]
    exact leavesShortAll_of_layE xs (by simpa only [layE] using hc) (by simpa only [PyData.intsShort] using h)
  | .tuple xs, hc, h => by
    simp only [PyData.leavesShort]
    exact leavesShortAll_of_layE xs (by simpa only [layE] using hc) (by simpa only [PyData.intsShort] using h)
  | .dict kvs, hc, _ => by
    simp only [layE, List.isEmpty_iff] at hc
    rw [hc]
    rfl
theorem leavesShortAll_of_layE : ∀ xs : List PyData, layEAll xs = true → PyData.intsShortAll 13 xs = true → PyData.leavesShortAll 13 xs = true
  | [], _, _ => rfl
  | x :: xs, hc, h => by
    have hc' : layE x = true ∧ layEAll xs = true := by simpa only [layEAll, Bool.and_eq_true] using hc
    have h' : x.intsShort 13 = true ∧ PyData.intsShortAll 13 xs = true := by simpa only [PyData.intsShortAll, Bool.and_eq_true] using h
    simp only [PyData.leavesShortAll, Bool.and_eq_true]
    exact ⟨leavesShort_of_layE x hc'.1 h'.1, leavesShortAll_of_layE xs hc'.2 h'.2⟩
end
/-! ### small data -/
structure NX (k B : Nat) (d : PyData) : Prop where
  lay : layE d = true
  dep : d.depth ≤ k
  sh : d.showable = true
  ish : d.intsShort 13 = true
  wt : d.weight ≤ B
theorem NX.mono {k j B C : Nat} {d : PyData} (h : NX k B d) (hk : k ≤ j) (hB : B ≤ C) : NX j C d := ⟨h.lay, Nat.le_trans h.dep hk, h.sh, h.ish, Nat.le_trans h.wt hB⟩
theorem Nice.nx {k B : Nat} {d : PyData} (h : Nice k B d) : NX k B d := ⟨layE_of _ h.lay, h.dep, h.sh, h.ish, h.wt⟩
theorem nx_all {k B : Nat} : ∀ {ds : List PyData}, (∀ d ∈ ds, NX k B d) → layEAll ds = true ∧ PyData.depthAll ds ≤ k ∧ PyData.showableAll ds = true ∧ PyData.intsShortAll 13 ds = true ∧ PyData.weightAll ds ≤ ds.length * (B + 1)
  | [], _ => by
    refine ⟨?_, ?_, ?_, ?_, ?_⟩
    · simp only [layEAll]
    · simp only [PyData.depthAll]
      exact Nat.zero_le _
    · simp only [PyData.showableAll]
    · simp only [PyData.intsShortAll]
    · simp only [PyData.weightAll]
      exact Nat.zero_le _
  | d :: ds, h => by
    obtain ⟨a1, a2, a3, a5, a6⟩ := nx_all (ds := ds) fun x hx => h x (List.mem_cons_of_mem _ hx)
    have q := h d List.mem_cons_self
    refine ⟨?_, ?_, ?_, ?_, ?_⟩
    · simp only [layEAll, q.lay, a1, Bool.and_self]
    · simp only [PyData.depthAll]
      exact Nat.max_le.mpr ⟨q.dep, a2⟩
    · simp only [PyData.showableAll, q.sh, a3, Bool.and_self]
    · simp only [PyData.intsShortAll, q.ish, a5, Bool.and_self]
    · simp only [PyData.weightAll, List.length_cons]
      have := q.wt
      rw [Nat.add_mul]
      omega
theorem nx_list {k B : Nat} {ds : List PyData} (h : ∀ d ∈ ds, NX k B d) : NX (k + 1) (ds.length * (B + 1)) (.list ds) := by
  obtain ⟨a1, a2, a3, a5, a6⟩ := nx_all h
  exact ⟨by simp only [layE]; exact a1, by simp only [PyData.depth]; omega, by simp only [PyData.showable]; exact a3, by simp only [PyData.intsShort]; exact a5, by simp only [PyData.weight]; exact a6⟩
theorem nx_tuple {k B : Nat} {ds : List PyData} (h : ∀ d ∈ ds, NX k B d) : NX (k + 1) (ds.length * (B + 1)) (.tuple ds) := by
  obtain ⟨a1, a2, a3, a5, a6⟩ := nx_all h
  exact ⟨by simp only [layE]; exact a1, by simp only [PyData.depth]; omega, by simp only [PyData.showable]; exact a3, by simp only [PyData.intsShort]; exact a5, by simp only [PyData.weight]; exact a6⟩
theorem all_elem {k B : Nat} : ∀ {ds : List PyData}, layEAll ds = true → PyData.depthAll ds ≤ k → PyData.showableAll ds = true → PyData.intsShortAll 13 ds = true → PyData.weightAll ds ≤ B → (∀ d ∈ ds, NX k B d) ∧ ds.length ≤ B
  | [], _, _, _, _, _ => ⟨fun d m => (by cases m), Nat.zero_le _⟩
  | d :: ds, h1, h2, h3, h4, h5 => by
    simp only [layEAll, Bool.and_eq_true] at h1
    simp only [PyData.depthAll] at h2
    simp only [PyData.showableAll, Bool.and_eq_true] at h3
    simp only [PyData.intsShortAll, Bool.and_eq_true] at h4
    simp only [PyData.weightAll] at h5
    have m2 := Nat.max_le.mp h2
    obtain ⟨q1, q2⟩ := all_elem (k := k) (B := B - 1) h1.2 m2.2 h3.2 h4.2 (by omega)
    refine ⟨fun x m => ?_, by rw [List.length_cons]; omega⟩
    rcases List.mem_cons.mp m with e | e
    · rw [e]
      exact ⟨h1.1, m2.1, h3.1, h4.1, by omega⟩
    · exact (q1 x e).mono (Nat.le_refl _) (by omega)
theorem NX.list {k B : Nat} {ds : List PyData} (h : NX k B (.list ds)) : (∀ d ∈ ds, NX k B d) ∧ ds.length ≤ B := by
  obtain ⟨a, b, c, d, e⟩ := h
  simp only [layE] at a
  simp only [PyData.depth] at b
  simp only [PyData.showable] at c
  simp only [PyData.intsShort] at d
  simp only [PyData.weight] at e
  exact all_elem a (by omega) c d e
theorem NX.tuple {k B : Nat} {ds : List PyData} (h : NX k B (.tuple ds)) : (∀ d ∈ ds, NX k B d) ∧ ds.length ≤ B := by
  obtain ⟨a, b, c, d, e⟩ := h
  simp only [layE] at a
  simp only [PyData.depth] at b
  simp only [PyData.showable] at c
  simp only [PyData.intsShort] at d
  simp only [PyData.weight] at e
  exact all_elem a (by omega) c d e
theorem NX.str {k B : Nat} {z : Str} (h : NX k B (.str z)) : z.length ≤ B := by
  have := h.wt
  simp only [PyData.weight] at this
  exact this
theorem NX.shown {k B : Nat} {d : PyData} (h : NX k B d) (hk : k ≤ 64) (hB : B ≤ 2 ^ 20) : d.shown.length ≤ sizeLine :=
  PyData.shown_fits (B := 13) (by decide) (by decide) (leavesShort_of_layE d h.lay h.ish) (Nat.le_trans h.wt hB)
/-- the data that the functions are asked about -/
abbrev OkD (d : PyData) : Prop := NX 20 100000 d
theorem big100 {n : Nat} (h : n ≤ 100001) : n ≤ sizeLine := by
  rw [sizeLine_eq]
  omega
/-! ### what the functions answer -/
def itemD : PyData → Bool
  | .str z => decide (1 ≤ z.length ∧ z.length ≤ 8) && (z.cps.toList.map fun c => decide (c ∈ abc.cps.toList)).all id
  | _ => false
def wordD : PyData → Bool
  | .tuple ds => (ds.map itemD).all id
  | _ => false
def actD : PyData → Bool
  | .str z => decide (z = "push" ∨ z = "pop")
  | _ => false
def stpD : PyData → Bool
  | .tuple [a, b] => actD a && itemD b
  | _ => false
def seqD : PyData → Bool
  | .list ds => decide (ds.length ≤ 1000) && (ds.map stpD).all id
  | .tuple ds => decide (ds.length ≤ 1000) && (ds.map stpD).all id
  | _ => false
end SE
namespace SE
open PySem PySem.Spec PyProof.Rows L2
theorem bl_take {α : Type} {f : α → Bool} {l : List α} {j : Nat} {x : α} (h : l[j]? = some x) : ((l.take j).map f).map V.bl ++ [V.bl (f x)] = ((l.take (j + 1)).map f).map V.bl := by
  rw [List.take_add_one, h, List.map_append, List.map_append]
  rfl
theorem itemD_str (z : Str) : itemD (.str z) = (decide (1 ≤ z.length ∧ z.length ≤ 8) && (z.cps.toList.map fun c => decide (c ∈ abc.cps.toList)).all id) := rfl
section
variable {P : Program} {w : World} {K : PySem.W.Frag} {mg : Str → Option Value} {base : Heap}
/-! ### is_item, is_word -/
def spX (K : PySem.W.Frag) (f : PyData → Bool) : Sp := fun xs H Q _ => ∃ (v : V) (d : PyData), xs = [v] ∧ DpX K H v d ∧ OkD d ∧ ∀ H', Same H H' → Q (.bl (f d)) H'
theorem has_itemX (D : Def K mg "is_item" sIsItem) (B : Blt mg) (C : Cons K w mg) : Has P w K mg base "is_item" 1 ["value"] [] (spX K itemD) := by
  obtain ⟨tl, hL⟩ := C.let_
  obtain ⟨tm, hM⟩ := C.ml
  refine has_of D scIsItem (fun _ _ _ _ _ _ us hl => match us, hl with | [_], _ => rfl) (fun xs H Q E h => ?_) (fun f cv A out s H xs Q E hr h => ?_)
  · obtain ⟨v, d, rfl, _⟩ := h
    rfl
  · obtain ⟨v, d, rfl, hd, ok, k⟩ := h
    refine ⟨_, pss_cons (ps_if (PW.pt (pw_or (pt_not (pt_val (pe_callB call_isi (by rfl) B.isi (by decide +kernel) (pa_cons (pv 0) (pa_cons (pe_bltn (v := .ty "str") (by rfl) B.str (by decide +kernel) rfl) pa_nil)))))
        (pw_or1 (pt_not (pt_chain op_le op_le pe_int (pe_callB call_len_str (by rfl) B.len PySem.boot_len (pa_cons (pv 0) pa_nil)) (pe_glob (v := .int 8) rfl hM ⟨_, rfl⟩)))))) (pss_one (ps_ret pe_bl)) pss_nil)
      (pss_one (ps_ret (pe_callB (cr_all rfl) (by rfl) B.all (by decide +kernel) (pa_cons
        (pe_lc (own := [("letter", 1)]) (g := gName 1) (tt := tYes) rfl scIsItem.nd (pi_str (pv 0)) (blkOk_by (own := [("letter", 1)]) (N := ["value", "letter"]) (sc := defScope sIsItem) (by decide +kernel))
          (fun _ _ _ _ _ => pg_name (i := 1) scIsItem.nd rfl (.inl rfl)) (fun _ _ _ _ _ => pts_nil) (fun _ _ _ _ _ => pe_cmpR op_in_sign (pv 1) (pe_glob (v := .str abc) rfl hL ⟨_, rfl⟩) (by rfl))) pa_nil)))), ?_⟩
    refine ⟨_, rfl, _, .ty "str", .type (tyD d), .type "str", isStr d, rfl, .ty _, hd.ty, kit_str d, _, rfl, ?_⟩
    cases hd with
    | non => exact iteT (iteT (k H (Same.refl H)))
    | bl b => exact iteT (iteT (k H (Same.refl H)))
    | int i => exact iteT (iteT (k H (Same.refl H)))
    | lst _ _ => exact iteT (iteT (k H (Same.refl H)))
    | tup _ _ => exact iteT (iteT (k H (Same.refl H)))
    | emp _ => exact iteT (iteT (k H (Same.refl H)))
    | str z =>
      refine iteF ?_
      have zl : z.length ≤ 100000 := ok.str
      refine ⟨_, rfl, z, rfl, big100 (by omega), 1, _, rfl, rfl, _, rfl, ?_⟩
      by_cases p1 : 1 ≤ z.length
      · have e1 : decide ((1 : Int) ≤ (z.length : Int)) = true := decide_eq_true (by omega)
        rw [e1]
        refine iteT ⟨_, 8, rfl, rfl, _, rfl, ?_⟩
        by_cases p2 : z.length ≤ 8
        · have e2 : decide ((z.length : Int) ≤ 8) = true := decide_eq_true (by omega)
          rw [e2]
          refine iteF ?_
          have e3 : itemD (.str z) = (z.cps.toList.map fun c => decide (c ∈ abc.cps.toList)).all id := by
            rw [itemD_str, decide_eq_true ⟨p1, p2⟩, Bool.true_and]
          rw [e3] at k
          refine ⟨_, rfl, z, rfl, fun D hD => lc_it walk_str (fun j H2 => H2 D = some (.lst (((z.cps.toList.take j).map fun c => decide (c ∈ abc.cps.toList)).map V.bl)) ∧ Same H H2) ⟨upd_same, Same.new hD⟩ (fun _ _ _ _ => trivial) ?_ ?_⟩
          · rintro j x H2 H3 hj ⟨h2, s2⟩ ⟨rfl, c, hc, rfl⟩
            have q : z.cps.toList[j]? = some c := by rw [Array.getElem?_toList]; exact hc
            refine ⟨rfl, yes_in ⟨_, rfl, c, abc, rfl, rfl, _, h2, ?_, ?_, Same.free2 s2 hD⟩⟩
            · rw [List.length_map, List.length_map, List.length_take]
              exact small1000 (by have : j < z.length := hj; omega)
            · rw [upd_same, bl_take (f := fun c => decide (c ∈ abc.cps.toList)) q]
          · rintro H2 ⟨h2, s2⟩
            rw [List.take_of_length_le (by rw [Array.length_toList]; exact Nat.le_refl _)] at h2
            exact ⟨D, _, rfl, .of h2, k H2 s2⟩
        · have e2 : decide ((z.length : Int) ≤ 8) = false := decide_eq_false (by omega)
          rw [e2]
          have e3 : itemD (.str z) = false := by
            rw [itemD_str, decide_eq_false (fun q => p2 q.2), Bool.false_and]
          rw [e3] at k
          exact iteT (k H (Same.refl H))
      · have e1 : decide ((1 : Int) ≤ (z.length : Int)) = false := decide_eq_false (by omega)
        rw [e1]
        have e3 : itemD (.str z) = false := by
          rw [itemD_str, decide_eq_false (fun q => p1 q.1), Bool.false_and]
        rw [e3] at k
        exact iteF ⟨false, rfl, iteT (k H (Same.refl H))⟩
theorem has_wordX (D : Def K mg "is_word" sIsWord) (G : Has P w K mg base "is_item" 1 ["value"] [] (spX K itemD)) (B : Blt mg) : Has P w K mg base "is_word" 2 ["value"] [] (spX K wordD) := by
  refine has_of D scIsWord (fun _ _ _ _ _ _ us hl => match us, hl with | [_], _ => rfl) (fun xs H Q E h => ?_) (fun f cv A out s H xs Q E hr h => ?_)
  · obtain ⟨v, d, rfl, _⟩ := h
    rfl
  · obtain ⟨v, d, rfl, hd, ok, k⟩ := h
    refine ⟨_, pss_one (ps_ret (pe_and (pe_callB call_isi (by rfl) B.isi (by decide +kernel) (pa_cons (pv 0) (pa_cons (pe_bltn (v := .ty "tuple") (by rfl) B.tup (by decide +kernel) rfl) pa_nil)))
      (pe_one (pe_callB (cr_all rfl) (by rfl) B.all (by decide +kernel) (pa_cons
        (pe_lc (own := [("item", 1)]) (g := gName 1) (tt := tYes) (te := tCall (spX K itemD) [] E0 (tCons (tVar 1) tNil)) rfl scIsWord.nd (pi_tup (pv 0)) (blkOk_by (own := [("item", 1)]) (N := ["value", "item"]) (sc := defScope sIsWord) (by decide +kernel))
          (fun _ _ _ _ _ => pg_name (i := 1) scIsWord.nd rfl (.inl rfl)) (fun _ _ _ _ _ => pts_nil) (fun _ _ _ _ _ => pe_has G hr (pa_cons (pv 1) pa_nil))) pa_nil))))), ?_⟩
    refine ⟨_, rfl, _, .ty "tuple", .type (tyD d), .type "tuple", isTup d, rfl, .ty _, hd.ty, kit_tup d, _, rfl, ?_⟩
    cases hd with
    | non => exact iteF (k H (Same.refl H))
    | bl b => exact iteF (k H (Same.refl H))
    | int i => exact iteF (k H (Same.refl H))
    | str z => exact iteF (k H (Same.refl H))
    | lst _ _ => exact iteF (k H (Same.refl H))
    | emp _ => exact iteF (k H (Same.refl H))
    | @tup a xs ds hT ha =>
      refine iteT ?_
      obtain ⟨oks, ln⟩ := ok.tuple
      have le := ha.len
      refine ⟨_, rfl, a, rfl, ⟨_, hT⟩, fun D hD => lc_tup (K := K) (a := a) (xs := xs) (fun j H2 => H2 D = some (.lst (((ds.take j).map itemD).map V.bl)) ∧ Same H H2) ⟨upd_same, Same.new hD⟩ (fun _ _ _ q => Same.tup q.2 hT) ?_ ?_⟩
      · rintro j x H2 hj ⟨h2, s2⟩
        obtain ⟨e, he, hx⟩ := ha.at hj
        refine ⟨rfl, yes_in ⟨_, rfl, x, e, rfl, DpX.same s2 e x hx, oks e (List.mem_of_getElem? he), fun H3 s3 => ⟨_, s3 _ _ h2, ?_, ?_, Same.free2 (s2.trans s3) hD⟩⟩⟩
        · rw [List.length_map, List.length_map, List.length_take, sizeLine_eq]
          omega
        · rw [upd_same, bl_take he]
      · rintro H2 ⟨h2, s2⟩
        rw [le, List.take_length] at h2
        exact ⟨D, _, rfl, .of h2, k H2 s2⟩
end
end SE
/-! repr of a list of objects with an own __repr__; an own __repr__ while a list's repr is under way. -/
namespace SE
open PySem PySem.Spec PyProof.Rows L2
/-- the promise of a def that is called while the reprs g are under way -/
structure GOkG (P : Program) (w : World) (K : PySem.W.Frag) (mg : Str → Option Value) (base : Heap) (g : List Code) (k : Nat) (f : Addr) (fd : FuncData) (ps : List Str) (sp : Sp) : Prop where
  len : ∀ xs H Q E, sp xs H Q E → xs.length = ps.length
  run : ∀ (A : Around) (out : List Env) (s : Shared) (H : Hp) (args : Args) (us : List Value) (xs : List V) (Q : VK) (E : XK), A.guards = some g → Room k A → Env0 P w K mg base A out s H →
    BindsTo s fd args (ps.zip us) → Vals xs us → sp xs H Q E → codeAny (model P w) A (.call (.ref f) args) (CR (fun _ _ _ _ _ _ => False) out P w H s Q E) s
section
variable {P : Program} {w : World} {K : PySem.W.Frag} {mg : Str → Option Value} {base : Heap} {g : List Code}
theorem gok_ofG {k : Nat} {f : Addr} {nm ql : Str} {pars : Arguments} {bd : List Stmt} {sc : Scope} {dV kV doc pm cv ct oc : Value} {an od : Option Addr}
    {osl : Array (Option Value)} {N ps : List Str} {sp : Sp} (look : K.lookup f = some ⟨oc, od, .func (PySem.W.fnOf nm ql pars bd sc dV kV doc pm an cv ct), osl⟩) (hcode : PySem.W.codeIn K cv ql = true) (S : FnScope N ps sc)
    (len : ∀ xs H Q E, sp xs H Q E → xs.length = ps.length)
    (hbd : ∀ (A : Around) (out : List Env) (s : Shared) (H : Hp) (xs : List V) (Q : VK) (E : XK), A.guards = some g → Room k (A.deeper (envOfC ql sc s.heap.objs.size f cv)) → sp xs H Q E →
      ∃ t, PSs (cxOf (fun _ _ _ _ _ _ => False) P w K mg base N ql sc f cv A out s H E) bd t ∧ t { nx := fun _ H2 => Q .non H2, rt := Q } (start N xs) H) :
    GOkG P w K mg base g (k + 1) f (PySem.W.fnOf nm ql pars bd sc dV kV doc pm an cv ct) ps sp := by
  constructor
  · exact len
  intro A out s H args us xs Q E hgu hroom env hbind hvals hpre
  have hlen := len _ _ _ _ hpre
  have kin : K.In s.heap := env.mod.kin.keeps fun b o z => (env.bs b o z).1
  have nolim : s.heap.NoLimit := env.mod.nolimit.keeps fun b o z => (env.bs b o z).1
  have kinds : ∀ y ∈ ps.zip us, sc.names.lookup y.1 = some .local ∨ (sc.names.lookup y.1 = some .cell ∧ ((cellsFrom (s.heap.objs.size + 1) sc.names []).lookup y.1).isSome = true) := by
    rintro ⟨n, v⟩ hy
    rcases S.par n (List.of_mem_zip hy).1 with q | q
    · exact .inl q
    · exact .inr ⟨q, PySem.W.cellsFrom_some _ _ _ (.inl q)⟩
  apply codeAny_call_function hroom.depth (kin _ _ look) rfl S.co S.gen rfl (PySem.W.codeRec_of kin hcode)
  apply hbind
  refine wpAny_newFunctionEnv_cells S.kind kinds fun ev hev s2 inc => ?_
  subst hev
  refine ⟨nolim.keeps inc.toInCall.keep, codeAny_func ?_⟩
  obtain ⟨t, der, rd⟩ := hbd A out s H xs Q E hgu (hroom.deeper _) hpre
  have J0 : Inv (cxOf (fun _ _ _ _ _ _ => False) P w K mg base N ql sc f cv A out s H E) [] (start N xs) H s2 := inv_start S hroom.hd env hlen hvals inc
  refine wpAny_mono (der.run [] s2 (start N xs) H _ J0 rd) (fun fl s3 hs => ?_) fun e s3 hs => hs
  cases fl with
  | ret u =>
    obtain ⟨v, σ3, H3, J, rv, q⟩ := hs
    exact ⟨v, H3, J.os, J.bare, J.base, J.hok, rv, q⟩
  | next =>
    obtain ⟨σ3, H3, J, q⟩ := hs
    exact ⟨V.non, H3, J.os, J.bare, J.base, J.hok, rfl, q⟩
  | brk => exact hs.elim fun _ z => z.elim fun _ z => z.2.elim
  | cont => exact hs.elim fun _ z => z.elim fun _ z => z.2.elim
end
section
variable {prog : Program} {w : World} {A : Around} {E : Value → Shared → Prop} {s : Shared} {K : PySem.W.Frag} {x C f : Addr} {ox : Obj} {od : Option Obj}
/-- the repr of an object with an own __repr__, inside a list's -/
theorem under_own {b : Nat} {Q : Value → Shared → Prop} (hu : A.units < cLine) (X : K.In s.heap) (I : PySem.W.InstAt s.heap x ox C od) (hs : PySem.W.findIn K (.ref C) "__repr__" = some (some (.ref f))) (hf : PySem.W.isFn K (.ref f) = true)
    (h : wpAny (model prog w) A (call (.ref f) [.ref x]) (fun r s' => ∃ t u, r = .str t u ∧ Q (.str t u) s') E s) : wpAny (model prog w) A (pyReprObjUnder b (.ref x)) Q E s := by
  unfold pyReprObjUnder pyReprObjBy
  refine wpAny_bind (wpAny_cRoomFor hu ?_)
  refine wpAny_bind (wpAny_bind (I.type.here ((PySem.W.looks_findIn X hs).here ?_)))
  show wpAny _ _ (if (some (Value.ref f)).isNone = true then _ else _) _ _ _
  rw [if_neg (by simp)]
  simp only [callSpecialIfBoundBy?, bindSpecialIfBound?]
  have fin : ∀ {R : Option Value → Shared → Prop}, (∀ t u s', Q (.str t u) s' → R (some (.str t u)) s') → wpAny (model prog w) A (call (.ref f) ([.ref x] ++ []) >>= fun v => pure (some v)) R E s := fun hR =>
    wpAny_bind (wpAny_mono h (fun v s' h' => by
      obtain ⟨t, u, rfl, q⟩ := h'
      exact wpAny_pure (hR t u s' q)) fun _ _ h' => h')
  have post : ∀ t u s', Q (.str t u) s' → wpAny (model prog w) A (do
      if ← isInstance (.str t u) (.type "str") then pure (Value.str t u) else raiseError "TypeError" s!"__repr__ returned non-string (type {← typeNameOf (.str t u)})") Q E s' := fun t u s' q =>
    wpAny_bind (wpAny_isInstance (typeIs_str _ _ _) isSubtype_str_str (by exact wpAny_pure q))
  refine wpAny_bind (wpAny_holding (wpAny_bind (wpAny_bind (wpAny_bind (I.type.here ((PySem.W.looks_findIn X hs).here ?_))))))
  refine wpAny_bind (wpAny_askSetting (wpAny_ite ?_))
  split
  · exact wpAny_bind ((PySem.W.bind_fn X _ (beq_iff_eq.mp hf)).here (wpAny_pure (by exact fin post)))
  · exact wpAny_tryCatch (wpAny_bind ((PySem.W.bind_fn X _ (beq_iff_eq.mp hf)).here (wpAny_pure (by exact fin post))))
end
theorem vals_strs : ∀ {ts : List Str} {its : List Value}, Vals (ts.map V.str) its → ∃ done : List (Str × Tok), its = strValues done ∧ done.map (·.1) = ts
  | [], _, h => by
    cases h
    exact ⟨[], rfl, rfl⟩
  | t :: ts, _, h => by
    cases h with
    | cons r q =>
      obtain ⟨u, rfl⟩ := r
      obtain ⟨done, rfl, e⟩ := vals_strs q
      exact ⟨(t, u) :: done, rfl, by rw [List.map_cons, e]⟩
theorem vals_refs : ∀ {es : List Addr} {its : List Value}, Vals (es.map V.ref) its → its = es.map Value.ref
  | [], _, h => by
    cases h
    rfl
  | e :: es, _, h => by
    cases h with
    | cons r q =>
      cases r
      rw [vals_refs q]
      rfl
theorem loop_depth {A : Around} {args : Args} : (A.under (.builtin "list.__repr__.loop" args)).depth ≤ A.depth + 1 := by
  simp [Around.under, Code.weight, Code.isCreation, Code.isGuard, Code.isCaller, Code.frames, Code.isFrame, guardIds]
theorem Room.loop {k : Nat} {A : Around} (r : Room (k + 1) A) (args : Args) : Room k (A.under (.builtin "list.__repr__.loop" args)) :=
  ⟨r.hd, by have := r.dp; have := loop_depth (A := A) (args := args); omega, by have := r.un; rw [units_under_list_loop]; omega⟩
theorem Env0.loop {P : Program} {w : World} {K : PySem.W.Frag} {mg : Str → Option Value} {base : Heap} {A : Around} {outer : List Env} {s : Shared} {H : Hp} (e : Env0 P w K mg base A outer s H) (args : Args) :
    Env0 P w K mg base (A.under (.builtin "list.__repr__.loop" args)) outer s H := ⟨by first | exact e.frames | (simpa [Around.under, Code.envs, Code.isFrame, pushEnvs] using e.frames), e.mod, e.bs, e.bsz, e.funs, e.frf, e.hok, e.bare⟩
section
variable {X : Cx} {n : Nat} {C f : Addr} {fd : FuncData}
open Builtin Builtin.List in
theorem repr_go {pins : List (Addr × Obj)} {σ : L2.St} {H : Hp} {sp : List Code → Sp} {R : Result → Shared → Prop} {L P : Addr} {es : List Addr} {ts : List Str} (F : ∀ g, GOkG X.prog X.w X.K X.mg X.base g n f fd ["self"] (sp g)) (hs : PySem.W.findIn X.K (.ref C) "__repr__" = some (some (.ref f))) (hf : PySem.W.isFn X.K (.ref f) = true) (hb : Binds X.K fd ["self"] [])
    (hgu : X.A.guards = some []) (hr : Room (n + 3) X.A) (hLP : L ≠ P) (hL : H L = some (.lst (es.map V.ref))) (hP : H P = none) (hlen : es.length = ts.length) (hsz : (listText ts).length ≤ sizeLine)
    (hT : ∀ (i : Nat) (e : Addr), es[i]? = some e → ∃ t, ts[i]? = some t ∧ (∃ dx fs, H e = some (.ins C dx fs)) ∧ ∀ (rest : List Value) (ys : List V), sp [.builtin "list.__repr__.loop" ⟨.ref L :: rest, []⟩] [.ref e] (upd H P (.lst ys)) (fun v H' => v = .str t ∧ H' = upd H P (.lst ys)) (fun _ _ _ => False))
    (hR : ∀ u s', Inv X pins σ (upd H P (.lst (ts.map V.str))) s' → R (.ok (.ret (.str (listText ts) u))) s') :
    ∀ (k i : Nat) (s : Shared), es.length - i = k → i ≤ es.length → Inv X pins σ (upd H P (.lst ((ts.take i).map V.str))) s →
    codeAny (model X.prog X.w) X.A.in1 (.builtin "list.__repr__.loop" ⟨[.ref L, rawInt i, .ref P, rawInt ((0 + piled (ts.take i) : Nat) : Int)], []⟩) R s := by
  have hX : (listText ts).length = (textFrom 0 "[" ts).length + 1 := by
    show (textFrom 0 "[" ts ++ "]").length = _
    rw [strLen_append]; rfl
  have hLn := textFrom_len ts 0 "["
  have hsz1 : es.length ≤ sizeLine := by
    have h1 := hLn.1
    rw [if_neg (Nat.lt_irrefl 0)] at h1
    omega
  have hsz2 : ∀ t ∈ ts, t.length ≤ sizeLine := fun t ht => by
    have h2 := hLn.2.1 t ht
    omega
  have hp3 := piled_le_listText ts
  intro k
  induction k with
  | zero =>
    intro i s hk hi I
    have hin : i = es.length := by omega
    have hLs : (upd H P (.lst ((ts.take i).map V.str))) L = some (.lst (es.map V.ref)) := by rw [upd_ne hLP]; exact hL
    obtain ⟨_, its, nL, rL, lL, eL⟩ := I.lstM hLs
    obtain ⟨_, itp, nP, rP, lP, eP⟩ := I.lstM (l := P) upd_same
    obtain ⟨done, rfl, hdone⟩ := vals_strs rP
    refine codeAny_builtin PySem.F.entry_list_repr_loop ?_
    show wpAny _ _ («list.__repr__.loop» ⟨[.ref L, .int i 0, .ref P, .int ((0 + piled (ts.take i) : Nat) : Int) 0], []⟩) _ _ s
    rw [repr_loop_tree]
    refine wpAny_bind (wpAny_listItems eL rfl ?_)
    have hnone : its.toArray[(i : Int).toNat]? = none := by
      rw [List.length_map] at lL
      simp only [Int.toNat_natCast, List.getElem?_toArray]
      exact List.getElem?_eq_none (by omega)
    simp only [hnone]
    unfold reprEnd
    refine wpAny_bind (wpAny_listItems eP rfl ?_)
    rw [show (strValues done).toArray.toList = strValues done from List.toList_toArray .., repr_fold]
    refine wpAny_bind (wpAny_pure ?_)
    have hall : done.map (·.1) = ts := by rw [hdone, hin, hlen, List.take_length]
    rw [hall]
    refine wpAny_bind (wpAny_mkStr (wpAny_pure ?_) hsz)
    rw [hin, hlen, List.take_length] at I
    exact hR _ _ (I.tok _)
  | succ k ih =>
    intro i s hk hi I
    have hlt : i < es.length := by omega
    have hLs : (upd H P (.lst ((ts.take i).map V.str))) L = some (.lst (es.map V.ref)) := by rw [upd_ne hLP]; exact hL
    obtain ⟨_, its, nL, rL, lL, eL⟩ := I.lstM hLs
    have hits := vals_refs rL
    subst hits
    obtain ⟨t, ht, ⟨dx, fs, he⟩, hsp⟩ := hT i es[i] (by simp [hlt])
    have hp1 := piled_take_succ ht
    have hp2 := piled_take_le ts (i + 1)
    refine codeAny_builtin PySem.F.entry_list_repr_loop ?_
    show wpAny _ _ («list.__repr__.loop» ⟨[.ref L, .int i 0, .ref P, .int ((0 + piled (ts.take i) : Nat) : Int) 0], []⟩) _ _ s
    rw [repr_loop_tree]
    refine wpAny_bind (wpAny_listItems eL rfl ?_)
    have hsome : (es.map Value.ref).toArray[(i : Int).toNat]? = some (.ref es[i]) := by simp [hlt]
    simp only [hsome]
    rw [Int.toNat_natCast]
    have ePne : es[i] ≠ P := fun z => by rw [z, hP] at he; cases he
    have heP : (upd H P (.lst ((ts.take i).map V.str))) es[i] = some (.ins C dx fs) := by rw [upd_ne ePne]; exact he
    obtain ⟨mA, J, _⟩ := ins_get I.hok heP
    obtain ⟨od, J, _⟩ := J.look
    have gG : ((X.A.in1).under (.builtin "list.__repr__.loop" ⟨[.ref L, .int i 0, .ref P, .int ((0 + piled (ts.take i) : Nat) : Int) 0], []⟩)).guards = some [.builtin "list.__repr__.loop" ⟨[.ref L, .int i 0, .ref P, .int ((0 + piled (ts.take i) : Nat) : Int) 0], []⟩] := guards_under_guard (isGuard_list_loop _) hgu
    have hrA := Room.loop (k := n) ((show Room (n + 2) X.A.in1 from Room.in1 hr).mono (by omega)) ⟨[.ref L, .int i 0, .ref P, .int ((0 + piled (ts.take i) : Nat) : Int) 0], []⟩
    refine wpAny_bind (wpAny_holding (wpAny_pyReprUnder_ref (by omega) (under_own hrA.units0 I.kIn J hs hf ?_)))
    refine wpAny_call (codeAny_mono ((F _).run _ X.stack s _ ⟨[.ref es[i]], []⟩ [.ref es[i]] [.ref es[i]] _ _ gG hrA (Env0.loop I.env0.in1 _) (by simpa using hb s [.ref es[i]] I.kIn rfl) (.cons rfl .nil) (hsp _ ((ts.take i).map V.str))) fun r s2 hq => ?_)
    cases r with
    | error e => exact hq.elim
    | ok fl =>
      cases fl with
      | next => exact hq.elim
      | brk => exact hq.elim
      | cont => exact hq.elim
      | ret z =>
        obtain ⟨y, H2, I2, rz, ey, eH⟩ := I.after hq
        subst ey
        subst eH
        obtain ⟨tk, rfl⟩ := rz
        refine ⟨t, tk, rfl, t, tk, rfl, ?_⟩
        refine wpAny_bind (wpAny_mkStr ?_ (hsz2 t (List.mem_of_getElem? ht)))
        refine wpAny_bind ?_
        show wpAny _ _ (updateSeq P _) _ _ _
        have I3 := I2.tok (s2.toks + 1)
        obtain ⟨zP, itp, nP, rP, lP, eP⟩ := I3.lstM (l := P) upd_same
        have lt : ((ts.take i).map V.str).length ≤ i := by rw [List.length_map, List.length_take]; omega
        have hasz : itp.toArray.size ≤ sizeLine := by rw [List.size_toArray]; omega
        refine wpAny_updateSeq eP rfl (wpAny_pure ⟨PySem.F.quiet_list_repr_loop _, ?_⟩) hasz
        have e1 : ((i : Int) + 1) = ((i + 1 : Nat) : Int) := by omega
        have e2 : 0 + piled (ts.take i) + (t.length + 2) = 0 + piled (ts.take (i + 1)) := by omega
        rw [e1, e2]
        refine ih (i + 1) _ (by omega) hlt ?_
        have ev : (ts.take (i + 1)).map V.str = (ts.take i).map V.str ++ [V.str t] := by
          rw [List.take_add_one, ht, List.map_append]
          rfl
        have I4 := I3.lset (its' := itp ++ [.str t s2.toks]) (f := fun x => x.push (.str t s2.toks)) (ys := (ts.take (i + 1)).map V.str) (t' := s2.toks + 1) upd_same eP (by simp) (by rw [ev]; exact rP.append (.cons ⟨_, rfl⟩ .nil)) (by rw [List.length_map, List.length_take]; omega)
        rw [upd_upd] at I4
        exact I4
/-- repr of a list of objects with an own __repr__ -/
def rReprL (C : Addr) (sp : List Code → Sp) : List V → Hp → VK → Prop := fun xs H Q => ∃ (L : Addr) (es : List Addr) (ts : List Str), xs = [.ref L] ∧ H L = some (.lst (es.map V.ref)) ∧ es ≠ [] ∧ es.length = ts.length ∧ (listText ts).length ≤ sizeLine ∧
  (∀ (i : Nat) (e : Addr), es[i]? = some e → ∃ t, ts[i]? = some t ∧ (∃ dx fs, H e = some (.ins C dx fs)) ∧ ∀ (P : Addr) (rest : List Value) (ys : List V), H P = none → sp [.builtin "list.__repr__.loop" ⟨.ref L :: rest, []⟩] [.ref e] (upd H P (.lst ys)) (fun v H' => v = .str t ∧ H' = upd H P (.lst ys)) (fun _ _ _ => False)) ∧
  ∀ P, H P = none → Q (.str (listText ts)) (upd H P (.lst (ts.map V.str)))
theorem call_reprL {sp : List Code → Sp} (F : ∀ g, GOkG X.prog X.w X.K X.mg X.base g n f fd ["self"] (sp g)) (hs : PySem.W.findIn X.K (.ref C) "__repr__" = some (some (.ref f))) (hf : PySem.W.isFn X.K (.ref f) = true) (hb : Binds X.K fd ["self"] [])
    (hgu : X.A.guards = some []) (hr : Room (n + 3) X.A) : CallR X (.builtin "repr") (rReprL C sp) := by
  intro pins s σ H xs us Q I r h
  obtain ⟨L, es, ts, rfl, hL, hne, hlen, hsz, hT, k⟩ := h
  cases r with
  | cons r1 r2 =>
    cases r2
    cases r1
    obtain ⟨_, its, nL, rL, lL, eL⟩ := I.lstM hL
    have hits := vals_refs rL
    subst hits
    cases es with
    | nil => exact absurd rfl hne
    | cons e es =>
      have hu := hr.units
      refine call_repr_slot (T := "list") (by omega) ⟨_, eL, rfl⟩ PySem.F.slot_list_repr.toG ?_
      refine wpAny_call (codeAny_call_builtin PySem.F.slot_list_repr.plain PySem.F.entry_list_repr (PySem.F.slot_list_repr.check _ _ _ _ _ _ _ _ ⟨_, eL, rfl⟩ (PySem.F.args_list_repr_1 _) ?_))
      have hg2 : (X.A.in1).in1.guards = some [] := hgu
      refine wpAny_list_repr_head (A := X.A.in1.in1) hg2 (fun v rest kw hm => (by cases hm)) eL rfl ?_
      refine wpAny_bind (m := newList []) (wpAny_newObj_type ?_)
      refine wpAny_pure ⟨PySem.F.quiet_list_repr_loop _, ?_⟩
      have hP : H s.heap.objs.size = none := I.hok.fresh (Nat.le_refl _)
      have I1 : Inv X pins σ (upd H s.heap.objs.size (.lst [])) { s with heap := s.heap.push ({ cls := .type "list", data := .seq #[] } : Obj) } := I.laid (t' := s.toks) (fun b u q => Heap.get?_push_of_some _ q) (Nat.le_refl _) ⟨Nat.zero_le _, [], 0, .nil, Heap.get?_push_size _ rfl⟩
      have hLP : L ≠ s.heap.objs.size := fun z => by rw [z, hP] at hL; cases hL
      exact repr_go (R := callEnd (fun r s₁ => ∃ x t, r = .str x t ∧ EP X pins σ Q r s₁) X.xe) F hs hf hb hgu hr hLP hL hP hlen hsz (fun i e he => by
        obtain ⟨t, ht, hi, q⟩ := hT i e he
        exact ⟨t, ht, hi, fun rest ys => q _ rest ys hP⟩) (fun u s' I' => ⟨_, _, rfl, .str (listText ts), _, I', ⟨u, rfl⟩, k _ hP⟩) _ 0 _ rfl (Nat.zero_le _) I1
end
theorem repr_strs {prog : Program} {w : World} {h₀ : Heap} : ∀ (done : List (Str × Tok)), (∀ z ∈ done.map (·.1), (reprText z).length ≤ sizeLine) → ReprAllK prog w [] h₀ 0 (strValues done) (PyData.shownAll ((done.map (·.1)).map PyData.str))
  | [], _ => .nil
  | (z, t) :: r, h => .cons (.of_is (.str z t (h z (List.mem_cons_self ..))) _ _ _) (repr_strs r fun y m => h y (List.mem_cons_of_mem _ m))
theorem mem_shownAll {z : Str} : ∀ {zs : List Str}, z ∈ zs → reprText z ∈ PyData.shownAll (zs.map PyData.str)
  | [], m => by cases m
  | y :: r, m => by
    rcases List.mem_cons.mp m with e | e
    · rw [e]
      exact List.mem_cons_self ..
    · exact List.mem_cons_of_mem _ (mem_shownAll e)
section
variable {X : Cx}
/-- the reprs under way are those of lists -/
def GuL (g : List Code) (H : Hp) : Prop := ∀ id v rest kw, Code.builtin id ⟨v :: rest, kw⟩ ∈ g → ∃ L us, v = .ref L ∧ H L = some (.lst us)
/-- {x!r}, x a tuple of texts, while the reprs g are under way -/
def tFmtG (K : PySem.W.Frag) (g : List Code) (te : TE) : TE := fun σ H Q => te σ H fun x H1 => ∃ (a : Addr) (zs : List Str), x = .ref a ∧ SqT K H1 a (zs.map V.str) ∧ GuL g H1 ∧ (PyData.tuple (zs.map PyData.str)).shown.length ≤ sizeLine ∧ Q (.str (PyData.tuple (zs.map PyData.str)).shown) H1
theorem pe_fmtG {e : Expr} {te : TE} {pos : Pos} {g : List Code} (hgu : X.A.guards = some g) (hu : X.A.units + 64 < cLine) (he : PE X e te) : PE X (.FormattedValue e 114 none pos) (tFmtG X.K g te) := by
  constructor
  intro pins s σ H Q I h
  refine wpAny_FormattedValue_repr (thn (he.run pins s σ H _ I h) fun v s1 hv => ?_)
  obtain ⟨x, H1, I1, r1, a, zs, rfl, hT, hc, hz, q⟩ := hv
  cases r1
  obtain ⟨its, rv, ⟨o, ho, oc, n, od⟩, _⟩ := I1.tuple hT
  have hc : Clear g a := fun id v rest kw hm => by
    obtain ⟨L, us, rfl, hL⟩ := hc id v rest kw hm
    intro e
    cases e
    obtain ⟨_, _, _, _, _, eL⟩ := I1.lstM hL
    rw [ho] at eL
    cases eL
    simp at oc
  obtain ⟨done, rfl, ed⟩ := vals_strs rv
  subst ed
  have hz' : (tupleText (PyData.shownAll ((done.map (·.1)).map PyData.str))).length ≤ sizeLine := by simpa only [PyData.shown] using hz
  have hall : ∀ z ∈ done.map (·.1), (reprText z).length ≤ sizeLine := fun z m => by
    have mm := mem_shownAll m
    exact Nat.le_trans (tupleText_mem_le mm) hz'
  refine wpAny_pyReprObj_tupleK (as := []) (d := 0) ho oc od (by simp) (repr_strs done hall) hgu (fun b hb => by rw [List.mem_singleton.mp hb]; exact hc) (by omega) (fun _ _ z => z) (fun h2 u tk keep => ?_) hz'
  have I2 := I1.kept (t' := tk) keep
  exact wpAny_formatField_str ⟨.str _, H1, I2, ⟨u, rfl⟩, q⟩ ⟨.str _, H1, I2.tok _, ⟨_, rfl⟩, q⟩ hz'
end
end SE
/-! repr of lists that hold objects with an own __repr__, texts, numbers, tuples and further lists. -/
namespace SE
open PySem PySem.Spec PyProof.Rows L2
/-! ### data without lists: what its repr asks of stands in tuples -/
mutual
def noLst : PyData → Bool
  | .none | .bool _ | .int _ | .str _ => true
  | .tuple xs => noLstAll xs
  | .list _ | .dict _ => false
def noLstAll : List PyData → Bool
  | [] => true
  | x :: xs => noLst x && noLstAll xs
end
def TupsAt (h : Heap) (bs : List Addr) : Prop := ∀ b ∈ bs, ∃ o, h.get? b = some o ∧ o.cls = .type "tuple"
section
variable {prog : Program} {w : World} {h₀ : Heap}
mutual
theorem reprK_t : ∀ {v : Value} {d : PyData} {as : List Addr}, Reads h₀ v d as → d.showable = true → noLst d = true → d.shown.length ≤ sizeLine → ∃ bs, ReadAtMost h₀ d.depth bs ∧ TupsAt h₀ bs ∧ ReprK prog w bs h₀ d.depth v d.shown
  | _, _, _, .none, _, _, _ => ⟨[], (fun _ h => nomatch h), (fun _ h => nomatch h), by simp only [PyData.shown]; exact .of_is ReprIs.none _ _ _⟩
  | _, _, _, .bool b, _, _, _ => ⟨[], (fun _ h => nomatch h), (fun _ h => nomatch h), by simp only [PyData.shown]; exact .of_is (ReprIs.bool b) _ _ _⟩
  | _, _, _, .int i t, hs, _, _ => ⟨[], (fun _ h => nomatch h), (fun _ h => nomatch h), by simp only [PyData.shown]; exact .of_is (ReprIs.int t (by simpa [PyData.showable] using hs)) _ _ _⟩
  | _, _, _, .str x t, _, _, hz => ⟨[], (fun _ h => nomatch h), (fun _ h => nomatch h), by simp only [PyData.shown]; exact .of_is (ReprIs.str x t (by simpa only [PyData.shown] using hz)) _ _ _⟩
  | _, _, _, .list _ _ _ _, _, hn, _ => by simp [noLst] at hn
  | _, _, _, .tuple (a := a) (xs := xs) h1 h2 h3 h4, hs, hn, hz => by
    have hz' : (tupleText (PyData.shownAll xs)).length ≤ sizeLine := by simpa only [PyData.shown] using hz
    obtain ⟨bs, hb, ht, hk⟩ := reprAll_t h4 (by simpa [PyData.showable] using hs) (by simpa [noLst] using hn) (fun t ht => Nat.le_trans (tupleText_mem_le ht) hz')
    have r : Reads h₀ (.ref a) (.tuple xs) _ := .tuple h1 h2 h3 h4
    have hna : a ∉ bs := not_mem_of_deeper r (by simp only [PyData.depth]; omega) hb
    refine ⟨a :: bs, ReadAtMost.cons r (by simp only [PyData.depth]; omega) hb, fun b m => ?_, ?_⟩
    · rcases List.mem_cons.mp m with e | m
      · exact e ▸ ⟨_, h1, h2⟩
      · exact ht b m
    · simp only [PyData.depth, PyData.shown]
      exact ReprK.tuple h1 h2 h3 hna hk
  | _, _, _, .dict _ _ _ _ _, _, hn, _ => by simp [noLst] at hn
theorem reprAll_t : ∀ {vs : List Value} {ds : List PyData} {as : List Addr}, ReadsAll h₀ vs ds as → PyData.showableAll ds = true → noLstAll ds = true → (∀ t ∈ PyData.shownAll ds, t.length ≤ sizeLine) →
    ∃ bs, ReadAtMost h₀ (PyData.depthAll ds) bs ∧ TupsAt h₀ bs ∧ ReprAllK prog w bs h₀ (PyData.depthAll ds) vs (PyData.shownAll ds)
  | _, _, _, .nil, _, _, _ => ⟨[], (fun _ h => nomatch h), (fun _ h => nomatch h), by simp only [PyData.shownAll]; exact .nil⟩
  | _, _, _, .cons (d := d) (ds := ds) r rs, hs, hn, hz => by
    have hs' : d.showable = true ∧ PyData.showableAll ds = true := by simpa [PyData.showableAll] using hs
    have hn' : noLst d = true ∧ noLstAll ds = true := by simpa [noLstAll] using hn
    obtain ⟨b1, hb1, t1, k1⟩ := reprK_t r hs'.1 hn'.1 (hz _ (by simp only [PyData.shownAll]; exact List.mem_cons_self ..))
    obtain ⟨b2, hb2, t2, k2⟩ := reprAll_t rs hs'.2 hn'.2 (fun t ht => hz t (by simp only [PyData.shownAll]; exact List.mem_cons_of_mem _ ht))
    refine ⟨b1 ++ b2, ?_, fun b m => ?_, ?_⟩
    · simp only [PyData.depthAll]
      exact (hb1.mono (Nat.le_max_left _ _)).append (hb2.mono (Nat.le_max_right _ _))
    · rcases List.mem_append.mp m with m | m
      · exact t1 b m
      · exact t2 b m
    · simp only [PyData.depthAll, PyData.shownAll]
      exact .cons ((k1.more fun b hb => List.mem_append_left _ hb).level_le (Nat.le_max_left _ _)) (k2.more_le (fun b hb => List.mem_append_right _ hb) (Nat.le_max_right _ _))
end
end
/-! ### a value's repr while the reprs g are under way -/
def EnvTo (X : Cx) (A : Around) : Prop := ∀ (s : Shared) (H : Hp), Env0 X.prog X.w X.K X.mg X.base X.A X.stack s H → Env0 X.prog X.w X.K X.mg X.base A X.stack s H
structure RU (X : Cx) (g : List Code) (n : Nat) (v : V) (t : Str) (H : Hp) : Prop where
  run : ∀ {A : Around} {pins : List (Addr × Obj)} {σ : L2.St} {H' : Hp} {s : Shared} {u : Value} {b : Nat} {E : Value → Shared → Prop} {Q : Str → Shared → Prop}, A.guards = some g → Room n A → EnvTo X A → Same H H' → Inv X pins σ H' s → RelV v u → b + t.length ≤ sizeLine →
    (∀ H'' s', Same H' H'' → Inv X pins σ H'' s' → Q t s') → wpAny (model X.prog X.w) A (pyReprUnder b u) Q E s
section
variable {X : Cx} {g : List Code} {n : Nat} {H : Hp}
theorem RU.mono {v : V} {t : Str} {m : Nat} (h : RU X g n v t H) (hm : n ≤ m) : RU X g m v t H := ⟨fun hg hr he s I r hb k => h.run hg (hr.mono hm) he s I r hb k⟩
theorem RU.same {v : V} {t : Str} {H1 : Hp} (h : RU X g n v t H) (s1 : Same H H1) : RU X g n v t H1 := ⟨fun hg hr he s I r hb k => h.run hg hr he (Same.trans s1 s) I r hb k⟩
theorem GuL.same {H' : Hp} (h : GuL g H) (s : Same H H') : GuL g H' := fun id v rest kw m => by
  obtain ⟨L, us, e, hL⟩ := h id v rest kw m
  exact ⟨L, us, e, s _ _ hL⟩
theorem GuL.nil : GuL [] H := fun _ _ _ _ m => by cases m
theorem GuL.cons {id : String} {L : Addr} {us : List V} {rest : List Value} {kw : List (Str × Value)} (h : GuL g H) (hL : H L = some (.lst us)) : GuL (.builtin id ⟨.ref L :: rest, kw⟩ :: g) H := fun id' v rest' kw' m => by
  rcases List.mem_cons.mp m with e | m
  · cases e
    exact ⟨L, us, rfl, hL⟩
  · exact h _ _ _ _ m
/-- data without lists -/
theorem ru_dp {v : V} {d : PyData} (hD : ∀ H', Same H H' → Dp X.K H' v d) (hs : d.showable = true) (hn : noLst d = true) (hdep : d.depth ≤ 20) (hG : GuL g H) : RU X g n v d.shown H := by
  constructor
  intro A pins σ H' s u b E Q hg hr he sm I r hb k
  obtain ⟨as, rd⟩ := Dp.reads I d v u (hD H' sm) r
  obtain ⟨bs, _, ht, hk⟩ := reprK_t (prog := X.prog) (w := X.w) rd hs hn (by omega)
  have un := hr.un
  refine hk b hb A g E s Q hg (fun c hc => ?_) (by omega) (fun _ _ z => z) (fun h' tk keep => k H' _ (fun _ _ z => z) (I.kept (t' := tk) keep))
  obtain ⟨o, ho, oc⟩ := ht c hc
  intro id v rest kw hm
  obtain ⟨L, us, rfl, hL⟩ := (hG.same sm) id v rest kw hm
  intro e
  cases e
  obtain ⟨_, _, _, _, _, eL⟩ := I.lstM hL
  rw [ho] at eL
  cases eL
  simp at oc
/-- an object with an own __repr__ -/
theorem ru_own {C f e : Addr} {fd : FuncData} {sp : List Code → Sp} {t : Str} (F : GOkG X.prog X.w X.K X.mg X.base g n f fd ["self"] (sp g)) (hs : PySem.W.findIn X.K (.ref C) "__repr__" = some (some (.ref f))) (hf : PySem.W.isFn X.K (.ref f) = true) (hb : Binds X.K fd ["self"] [])
    (hi : ∃ dx fs, H e = some (.ins C dx fs)) (hsp : ∀ H', Same H H' → sp g [.ref e] H' (fun v H'' => v = .str t ∧ Same H' H'') (fun _ _ _ => False)) : RU X g n (.ref e) t H := by
  constructor
  intro A pins σ H' s u b E Q hg hr he sm I r hb2 k
  cases r
  obtain ⟨dx, fs, hi⟩ := hi
  obtain ⟨mA, J, _⟩ := ins_get I.hok (sm _ _ hi)
  obtain ⟨od, J, _⟩ := J.look
  refine wpAny_pyReprUnder_ref (by omega) (under_own hr.units0 I.kIn J hs hf ?_)
  refine wpAny_call (codeAny_mono (F.run A X.stack s H' ⟨[.ref e], []⟩ [.ref e] [.ref e] _ _ hg hr (he _ _ I.env0) (by simpa using hb s [.ref e] I.kIn rfl) (.cons rfl .nil) (hsp H' sm)) fun r s2 hq => ?_)
  cases r with
  | error e => exact hq.elim
  | ok fl =>
    cases fl with
    | next => exact hq.elim
    | brk => exact hq.elim
    | cont => exact hq.elim
    | ret z =>
      obtain ⟨y, H2, I2, rz, ey, eH⟩ := I.after hq
      subst ey
      obtain ⟨tk, rfl⟩ := rz
      exact ⟨t, tk, rfl, t, tk, rfl, k H2 s2 eH I2⟩
open Builtin Builtin.List in
theorem ru_loop {A : Around} {pins : List (Addr × Obj)} {σ : L2.St} {R : Result → Shared → Prop} {L P : Addr} {vs : List V} {ts : List Str} {base : Nat} (hg : A.guards = some g) (hr : Room (n + 1) A) (he : EnvTo X A) (hLP : L ≠ P) (hL : H L = some (.lst vs)) (hP : H P = none) (hlen : vs.length = ts.length)
    (hsz : base + (listText ts).length ≤ sizeLine) (hT : ∀ (i : Nat) (v : V), vs[i]? = some v → ∃ t, ts[i]? = some t ∧ ∀ rest, RU X (.builtin "list.__repr__.loop" ⟨.ref L :: rest, []⟩ :: g) n v t H)
    (hR : ∀ H' u s', Same H H' → Inv X pins σ H' s' → R (.ok (.ret (.str (listText ts) u))) s') :
    ∀ (k i : Nat) (s : Shared) (Hc : Hp), vs.length - i = k → i ≤ vs.length → Same H Hc → Hc P = some (.lst ((ts.take i).map V.str)) → Inv X pins σ Hc s →
    codeAny (model X.prog X.w) A (.builtin "list.__repr__.loop" ⟨[.ref L, rawInt i, .ref P, rawInt ((base + piled (ts.take i) : Nat) : Int)], []⟩) R s := by
  have hX : (listText ts).length = (textFrom 0 "[" ts).length + 1 := by
    show (textFrom 0 "[" ts ++ "]").length = _
    rw [strLen_append]; rfl
  have hLn := textFrom_len ts 0 "["
  have hsz1 : vs.length ≤ sizeLine := by
    have h1 := hLn.1
    rw [if_neg (Nat.lt_irrefl 0)] at h1
    omega
  have hsz2 : ∀ t ∈ ts, t.length ≤ sizeLine := fun t ht => by
    have h2 := hLn.2.1 t ht
    omega
  have hp3 := piled_le_listText ts
  have hsz3 : (listText ts).length ≤ sizeLine := by omega
  intro k
  induction k with
  | zero =>
    intro i s Hc hk hi sm hPc I
    have hin : i = vs.length := by omega
    obtain ⟨_, its, nL, rL, lL, eL⟩ := I.lstM (sm _ _ hL)
    obtain ⟨_, itp, nP, rP, lP, eP⟩ := I.lstM hPc
    obtain ⟨done, rfl, hdone⟩ := vals_strs rP
    refine codeAny_builtin PySem.F.entry_list_repr_loop ?_
    show wpAny _ _ («list.__repr__.loop» ⟨[.ref L, .int i 0, .ref P, .int ((base + piled (ts.take i) : Nat) : Int) 0], []⟩) _ _ s
    rw [repr_loop_tree]
    refine wpAny_bind (wpAny_listItems eL rfl ?_)
    have hnone : its.toArray[(i : Int).toNat]? = none := by
      simp only [Int.toNat_natCast, List.getElem?_toArray]
      exact List.getElem?_eq_none (by omega)
    simp only [hnone]
    unfold reprEnd
    refine wpAny_bind (wpAny_listItems eP rfl ?_)
    rw [show (strValues done).toArray.toList = strValues done from List.toList_toArray .., repr_fold]
    refine wpAny_bind (wpAny_pure ?_)
    have hall : done.map (·.1) = ts := by rw [hdone, hin, hlen, List.take_length]
    rw [hall]
    refine wpAny_bind (wpAny_mkStr (wpAny_pure ?_) hsz3)
    exact hR Hc _ _ sm (I.tok _)
  | succ k ih =>
    intro i s Hc hk hi sm hPc I
    have hlt : i < vs.length := by omega
    obtain ⟨_, its, nL, rL, lL, eL⟩ := I.lstM (sm _ _ hL)
    obtain ⟨t, ht, hru⟩ := hT i vs[i] (by simp [hlt])
    obtain ⟨u, hu, ru⟩ := rL.get (i := i) (x := vs[i]) (by simp [hlt])
    have hp1 := piled_take_succ ht
    have hp2 := piled_take_le ts (i + 1)
    refine codeAny_builtin PySem.F.entry_list_repr_loop ?_
    show wpAny _ _ («list.__repr__.loop» ⟨[.ref L, .int i 0, .ref P, .int ((base + piled (ts.take i) : Nat) : Int) 0], []⟩) _ _ s
    rw [repr_loop_tree]
    refine wpAny_bind (wpAny_listItems eL rfl ?_)
    have hsome : its.toArray[(i : Int).toNat]? = some u := by simpa using hu
    simp only [hsome]
    rw [Int.toNat_natCast]
    refine wpAny_bind (wpAny_holding ((hru _).run (guards_under_guard (isGuard_list_loop _) hg) (Room.loop hr _) (fun s' H' e => Env0.loop (he s' H' e) _) sm I ru (by omega) fun H2 s2 sm2 I2 => ?_))
    refine wpAny_bind (wpAny_mkStr ?_ (hsz2 t (List.mem_of_getElem? ht)))
    refine wpAny_bind ?_
    show wpAny _ _ (updateSeq P _) _ _ _
    have I3 := I2.tok (s2.toks + 1)
    have hP2 := sm2 _ _ hPc
    obtain ⟨zP, itp, nP, rP, lP, eP⟩ := I3.lstM hP2
    have lt : ((ts.take i).map V.str).length ≤ i := by rw [List.length_map, List.length_take]; omega
    have hasz : itp.toArray.size ≤ sizeLine := by rw [List.size_toArray]; omega
    refine wpAny_updateSeq eP rfl (wpAny_pure ⟨PySem.F.quiet_list_repr_loop _, ?_⟩) hasz
    have e1 : ((i : Int) + 1) = ((i + 1 : Nat) : Int) := by omega
    have e2 : base + piled (ts.take i) + (t.length + 2) = base + piled (ts.take (i + 1)) := by omega
    rw [e1, e2]
    have ev : (ts.take (i + 1)).map V.str = (ts.take i).map V.str ++ [V.str t] := by
      rw [List.take_add_one, ht, List.map_append]
      rfl
    have I4 := I3.lset (its' := itp ++ [.str t s2.toks]) (f := fun x => x.push (.str t s2.toks)) (ys := (ts.take (i + 1)).map V.str) (t' := s2.toks + 1) hP2 eP (by simp) (by rw [ev]; exact rP.append (.cons ⟨_, rfl⟩ .nil)) (by rw [List.length_map, List.length_take]; omega)
    exact ih (i + 1) _ _ (by omega) hlt (Same.free2 (Same.trans sm sm2) hP) upd_same I4
open Builtin Builtin.List in
theorem listAt {A : Around} {pins : List (Addr × Obj)} {σ : L2.St} {R : Result → Shared → Prop} {L : Addr} {v : V} {vs : List V} {ts : List Str} {base : Nat} {s : Shared} (hg : A.guards = some g) (hr : Room (n + 1) A) (he : EnvTo X A) (hL : H L = some (.lst (v :: vs))) (hc : Clear g L) (hlen : (v :: vs).length = ts.length)
    (hsz : base + (listText ts).length ≤ sizeLine) (hT : ∀ (i : Nat) (y : V), (v :: vs)[i]? = some y → ∃ t, ts[i]? = some t ∧ ∀ rest, RU X (.builtin "list.__repr__.loop" ⟨.ref L :: rest, []⟩ :: g) n y t H) (I : Inv X pins σ H s)
    (hR : ∀ H' u s', Same H H' → Inv X pins σ H' s' → R (.ok (.ret (.str (listText ts) u))) s') :
    wpAny (model X.prog X.w) A.in1 (Builtin.listReprAt base ⟨[.ref L], []⟩) (fun fin s' => match fin with | .done f => R (.ok f) s' | .again c' => c'.quiet = true ∧ codeAny (model X.prog X.w) A c' R s') (fun e s' => R (.error e) s') s := by
  obtain ⟨_, its, nL, rL, lL, eL⟩ := I.lstM hL
  cases its with
  | nil => simp at lL
  | cons u us =>
    refine wpAny_list_repr_head (A := A.in1) hg (fun v rest kw hm => listSameRef_of_ne (hc _ _ _ _ hm)) eL rfl ?_
    refine wpAny_bind (m := newList []) (wpAny_newObj_type ?_)
    refine wpAny_pure ⟨PySem.F.quiet_list_repr_loop _, ?_⟩
    have hP : H s.heap.objs.size = none := I.hok.fresh (Nat.le_refl _)
    have I1 : Inv X pins σ (upd H s.heap.objs.size (.lst [])) { s with heap := s.heap.push ({ cls := .type "list", data := .seq #[] } : Obj) } := I.laid (t' := s.toks) (fun b u q => Heap.get?_push_of_some _ q) (Nat.le_refl _) ⟨Nat.zero_le _, [], 0, .nil, Heap.get?_push_size _ rfl⟩
    have hLP : L ≠ s.heap.objs.size := fun z => by rw [z, hP] at hL; cases hL
    exact ru_loop hg hr he hLP hL hP hlen hsz hT hR _ 0 _ _ rfl (Nat.zero_le _) (Same.new hP) upd_same I1
theorem ru_list {L : Addr} {vs : List V} {ts : List Str} (hL : H L = some (.lst vs)) (hc : Clear g L) (hlen : vs.length = ts.length)
    (hT : ∀ (i : Nat) (y : V), vs[i]? = some y → ∃ t, ts[i]? = some t ∧ ∀ rest, RU X (.builtin "list.__repr__.loop" ⟨.ref L :: rest, []⟩ :: g) n y t H) : RU X g (n + 1) (.ref L) (listText ts) H := by
  constructor
  intro A pins σ H' s u b E Q hg hr he sm I r hb k
  cases r
  have hL' := sm _ _ hL
  obtain ⟨_, its, nL, rL, lL, eL⟩ := I.lstM hL'
  cases vs with
  | nil =>
    cases ts with
    | cons t ts => simp at hlen
    | nil =>
      cases its with
      | cons u us => simp at lL
      | nil =>
        rw [listText_nil] at k
        exact wpAny_pyReprUnder_ref (by omega) (wpAny_pyReprObjUnder_list_empty ⟨_, eL, rfl⟩ hr.units0 eL rfl ⟨_, _, rfl, k H' _ (fun _ _ z => z) (I.tok _)⟩)
  | cons v vs =>
    refine wpAny_pyReprUnder_ref (by omega) (wpAny_pyReprObjUnder_twin (twin := "list.__repr__.under") ⟨_, eL, rfl⟩ PySem.F.slot_list_repr.toG rfl hr.units0 ?_)
    refine call_twin_plain PySem.F.plain_list_repr_under PySem.F.entry_list_repr_under PySem.F.check_list_repr_under ⟨_, eL, rfl⟩ PySem.F.slot_list_repr.toG (PySem.F.args_list_repr_1 _) ?_
    exact listAt hg hr he hL' hc hlen hb (fun i y hy => by
      obtain ⟨t, ht, q⟩ := hT i y hy
      exact ⟨t, ht, fun rest => (q rest).same sm⟩) I fun H2 u s2 sm2 I2 => ⟨⟨_, _, rfl⟩, _, _, rfl, k H2 s2 sm2 I2⟩
/-- repr of a list -/
def rReprR (X : Cx) (n : Nat) : List V → Hp → VK → Prop := fun xs H Q => ∃ (L : Addr) (vs : List V) (ts : List Str), xs = [.ref L] ∧ H L = some (.lst vs) ∧ vs.length = ts.length ∧ (listText ts).length ≤ sizeLine ∧
  (∀ (i : Nat) (y : V), vs[i]? = some y → ∃ t, ts[i]? = some t ∧ ∀ rest, RU X [.builtin "list.__repr__.loop" ⟨.ref L :: rest, []⟩] n y t H) ∧ ∀ H', Same H H' → Q (.str (listText ts)) H'
theorem call_reprR (hgu : X.A.guards = some []) (hr : Room (n + 3) X.A) : CallR X (.builtin "repr") (rReprR X n) := by
  intro pins s σ H xs us Q I r h
  obtain ⟨L, vs, ts, rfl, hL, hlen, hsz, hT, k⟩ := h
  cases r with
  | cons r1 r2 =>
    cases r2
    cases r1
    obtain ⟨_, its, nL, rL, lL, eL⟩ := I.lstM hL
    have hu := hr.units
    refine call_repr_slot (T := "list") (by omega) ⟨_, eL, rfl⟩ PySem.F.slot_list_repr.toG ?_
    cases vs with
    | nil =>
      cases ts with
      | cons t ts => simp at hlen
      | nil =>
        cases its with
        | cons u us => simp at lL
        | nil =>
          rw [listText_nil] at k
          exact call_list_repr_empty ⟨_, eL, rfl⟩ eL rfl ⟨_, _, rfl, .str "[]", H, I.tok _, ⟨_, rfl⟩, k H fun _ _ z => z⟩
    | cons v vs =>
      refine wpAny_call (codeAny_call_builtin PySem.F.slot_list_repr.plain PySem.F.entry_list_repr (PySem.F.slot_list_repr.check _ _ _ _ _ _ _ _ ⟨_, eL, rfl⟩ (PySem.F.args_list_repr_1 _) ?_))
      exact listAt (A := X.A.in1) (R := callEnd (fun r s₁ => ∃ x t, r = .str x t ∧ EP X pins σ Q r s₁) X.xe) (base := 0) (g := []) (n := n) hgu (Room.in1 (hr.mono (by omega))) (fun s' H' e => e.in1) hL (Clear.nil _) hlen (by omega) hT I fun H2 u s2 sm2 I2 => ⟨_, _, rfl, .str (listText ts), _, I2, ⟨u, rfl⟩, k _ sm2⟩
end
end SE
/-! repr of a tuple that holds objects with an own __repr__, and of any value whose repr is known (RU). -/
namespace SE
open PySem PySem.Spec PyProof.Rows L2
theorem trep_depth {A : Around} {args : Args} : (A.under (.builtin "tuple.__repr__" args)).depth ≤ A.depth + 1 := by
  simp [Around.under, Code.weight, Code.isCreation, Code.isGuard, Code.isCaller, Code.frames, Code.isFrame, guardIds]
theorem Room.trep {k : Nat} {A : Around} (r : Room (k + 1) A) (args : Args) : Room k (A.under (.builtin "tuple.__repr__" args)) :=
  ⟨r.hd, by have := r.dp; have := trep_depth (A := A) (args := args); omega, by have := r.un; rw [units_under_tuple_repr]; omega⟩
theorem Env0.trep {P : Program} {w : World} {K : PySem.W.Frag} {mg : Str → Option Value} {base : Heap} {A : Around} {outer : List Env} {s : Shared} {H : Hp} (e : Env0 P w K mg base A outer s H) (args : Args) :
    Env0 P w K mg base (A.under (.builtin "tuple.__repr__" args)) outer s H := ⟨by first | exact e.frames | (simpa [Around.under, Code.envs, Code.isFrame, pushEnvs] using e.frames), e.mod, e.bs, e.bsz, e.funs, e.frf, e.hok, e.bare⟩
section
variable {X : Cx} {g : List Code} {n : Nat} {H : Hp}
theorem tup_fold {A : Around} {pins : List (Addr × Obj)} {σ : L2.St} {E : Value → Shared → Prop} (hg : A.guards = some g) (hr : Room n A) (he : EnvTo X A) : ∀ (xs : List V) (us : List Value) (ts : List Str) (acc : Array Str) (m : Nat) (s : Shared) (H' : Hp) (Q : (Array Str × Nat) → Shared → Prop), Vals xs us → xs.length = ts.length →
    (∀ (i : Nat) (v : V), xs[i]? = some v → ∃ t, ts[i]? = some t ∧ RU X g n v t H) → m + piled ts ≤ sizeLine → Same H H' → Inv X pins σ H' s → (∀ H'' s', Same H H'' → Inv X pins σ H'' s' → Q ⟨acc ++ ts.toArray, m + piled ts⟩ s') → wpAny (model X.prog X.w) A (forIn us (⟨acc, m⟩ : (Array Str × Nat)) tupBody) Q E s := by
  intro xs
  induction xs with
  | nil =>
    intro us ts acc m s H' Q r hl hT hz sm I k
    cases r
    cases ts with
    | cons t ts => simp at hl
    | nil =>
      have h0 := k H' s sm I
      simp only [List.forIn_nil]
      exact wpAny_pure (by simpa [piled] using h0)
  | cons x xs ih =>
    intro us ts acc m s H' Q r hl hT hz sm I k
    cases r with
    | cons r1 r2 =>
      cases ts with
      | nil => simp at hl
      | cons t ts =>
        obtain ⟨t', e1, ru⟩ := hT 0 x rfl
        obtain rfl : t = t' := Option.some.inj e1
        rw [piled_cons] at hz
        rw [List.forIn_cons]
        refine wpAny_bind (wpAny_bind (ru.run (b := m + 1) hg hr he sm I r1 (by omega) fun H2 s2 sm2 I2 => wpAny_pure ?_))
        refine ih _ ts (acc.push t) (m + (t.length + 2)) _ H2 Q r2 (by simpa using hl) (fun i v e => hT (i + 1) v e) (by omega) (Same.trans sm sm2) I2 fun H3 s3 sm3 I3 => ?_
        have h1 := k H3 s3 sm3 I3
        have e : m + piled (t :: ts) = m + (t.length + 2) + piled ts := by rw [piled_cons]; omega
        rw [e] at h1
        simpa using h1
/-- repr of a tuple -/
def rReprT (X : Cx) (n : Nat) : List V → Hp → VK → Prop := fun xs H Q => ∃ (a : Addr) (vs : List V) (ts : List Str), xs = [.ref a] ∧ SqT X.K H a vs ∧ vs.length = ts.length ∧ (tupleText ts).length ≤ sizeLine ∧
  (∀ (i : Nat) (y : V), vs[i]? = some y → ∃ t, ts[i]? = some t ∧ RU X [.builtin "tuple.__repr__" ⟨[.ref a], []⟩] n y t H) ∧ ∀ H', Same H H' → Q (.str (tupleText ts)) H'
theorem call_reprTup (hgu : X.A.guards = some []) (hr : Room (n + 3) X.A) : CallR X (.builtin "repr") (rReprT X n) := by
  intro pins s σ H xs us Q I r h
  obtain ⟨a, vs, ts, rfl, ha, hlen, hsz, hT, k⟩ := h
  obtain ⟨ua, rfl, ra⟩ := vals1 r
  cases ra
  obtain ⟨its, rv, ⟨o, ho, hc, m, hd⟩, _⟩ := I.tuple ha
  have hu := hr.units
  have lv := rv.length
  have hp := piled_le_tupleText ts
  refine call_repr_slot (T := "tuple") (by omega) ⟨o, ho, hc⟩ PySem.F.slot_tuple_repr ?_
  refine wpAny_call (codeAny_call_builtin_own (Code.quiet_builtin _ (by decide +kernel)) PySem.F.entry_tuple_repr (PySem.F.slot_tuple_repr.check _ _ _ _ _ _ _ _ ⟨o, ho, hc⟩ (PySem.F.args_tuple_repr_1 _) ?_))
  show wpOwn _ _ _ (Builtin.tupleReprAt 0 ⟨[.ref a], []⟩) _ _ s
  rw [tuple_repr_tree, tupleReprUnderWay_eq]
  have hg1 : X.A.in1.guards = some [] := hgu
  refine wpOwn_bind (wpOwn_stackTailAny hg1 (tupGuardF_off _) (tupGuardF_pos _) ?_)
  show wpOwn _ _ _ (tupleReprRest 0 (.ref a)) _ _ s
  refine wpOwn_of_wpAny ?_
  unfold tupleReprRest Builtin.Tuple.tupleItemsOf
  refine wpAny_bind (wpAny_bind (wpAny_seqItems ho hd (wpAny_pure ?_)))
  rw [← Array.forIn_toList]
  refine wpAny_bind (tup_fold (H := H) (n := n) (guards_under_guard (isGuard_tuple_repr _) hg1) (Room.trep (Room.in1 (hr.mono (by omega))) _) (fun s' H' e => Env0.trep e.in1 _) vs _ ts #[] 0 s H _ rv hlen hT (by omega) (fun _ _ z => z) I fun H2 s2 sm2 I2 => ?_)
  have hsz2 : ts.length = its.toArray.size := by rw [List.size_toArray]; omega
  refine wpAny_bind (wpAny_mkStr (wpAny_pure ?_) (by simpa [tupleText, hsz2] using hsz))
  refine ⟨_, _, rfl, .str _, H2, I2.tok _, ⟨_, rfl⟩, ?_⟩
  have := k H2 sm2
  simpa [tupleText, hsz2] using this
/-! ### what reprs are under way: of lists, and of tuples that begin with an object -/
/-- what stands at L is a dict that does not change -/
def IsDct (L : Addr) (x : HO) : Prop := (∃ od kvs, x = .frz od (.dK kvs)) ∨ ∃ φ, x = .ext φ ∧ ∀ h, φ h → ∃ o, h.get? L = some o ∧ o.cls = .type "dict"
theorem IsDct.get {X : Cx} {pins : List (Addr × Obj)} {σ : L2.St} {H : Hp} {s : Shared} {L : Addr} {x : HO} (I : Inv X pins σ H s) (hL : H L = some x) (h : IsDct L x) : ∃ o, s.heap.get? L = some o ∧ o.cls = .type "dict" := by
  rcases h with ⟨od, kvs, rfl⟩ | ⟨φ, rfl, h⟩
  · obtain ⟨hd, _, _, vs, rel, o, es, ep, h1, h2, h3⟩ := I.hok L _ hL
    exact ⟨o, h1, h2.1⟩
  · exact h _ (I.hok L _ hL).1
def GuM (K : PySem.W.Frag) (g : List Code) (H : Hp) : Prop := ∀ id v rest kw, Code.builtin id ⟨v :: rest, kw⟩ ∈ g → ∃ L, v = .ref L ∧ ((∃ us, H L = some (.lst us)) ∨ (∃ e xs, V.ref e ∈ xs ∧ SqT K H L xs) ∨ ∃ x, H L = some x ∧ IsDct L x)
theorem GuM.same {K : PySem.W.Frag} {H' : Hp} (h : GuM K g H) (s : Same H H') : GuM K g H' := fun id v rest kw m => by
  obtain ⟨L, e, hL⟩ := h id v rest kw m
  refine ⟨L, e, ?_⟩
  rcases hL with ⟨us, hL⟩ | ⟨e, xs, me, hL⟩ | ⟨x, hL, hx⟩
  · exact .inl ⟨us, s _ _ hL⟩
  · exact .inr (.inl ⟨e, xs, me, Same.tup s hL⟩)
  · exact .inr (.inr ⟨x, s _ _ hL, hx⟩)
theorem GuM.nil {K : PySem.W.Frag} : GuM K [] H := fun _ _ _ _ m => by cases m
theorem GuM.lst {K : PySem.W.Frag} {id : String} {L : Addr} {us : List V} {rest : List Value} {kw : List (Str × Value)} (h : GuM K g H) (hL : H L = some (.lst us)) : GuM K (.builtin id ⟨.ref L :: rest, kw⟩ :: g) H := fun id' v rest' kw' m => by
  rcases List.mem_cons.mp m with e | m
  · cases e
    exact ⟨L, rfl, .inl ⟨us, hL⟩⟩
  · exact h _ _ _ _ m
theorem GuM.tup {K : PySem.W.Frag} {id : String} {L e : Addr} {xs : List V} {rest : List Value} {kw : List (Str × Value)} (h : GuM K g H) (hL : SqT K H L (.ref e :: xs)) : GuM K (.builtin id ⟨.ref L :: rest, kw⟩ :: g) H := fun id' v rest' kw' m => by
  rcases List.mem_cons.mp m with q | m
  · cases q
    exact ⟨L, rfl, .inr (.inl ⟨e, _, List.mem_cons_self, hL⟩)⟩
  · exact h _ _ _ _ m
theorem GuM.tupM {K : PySem.W.Frag} {id : String} {L e : Addr} {xs : List V} {rest : List Value} {kw : List (Str × Value)} (h : GuM K g H) (me : V.ref e ∈ xs) (hL : SqT K H L xs) : GuM K (.builtin id ⟨.ref L :: rest, kw⟩ :: g) H := fun id' v rest' kw' m => by
  rcases List.mem_cons.mp m with q | m
  · cases q
    exact ⟨L, rfl, .inr (.inl ⟨e, xs, me, hL⟩)⟩
  · exact h _ _ _ _ m
theorem GuM.dct {K : PySem.W.Frag} {id : String} {L : Addr} {x : HO} {rest : List Value} {kw : List (Str × Value)} (h : GuM K g H) (hL : H L = some x) (hx : IsDct L x) : GuM K (.builtin id ⟨.ref L :: rest, kw⟩ :: g) H := fun id' v rest' kw' m => by
  rcases List.mem_cons.mp m with q | m
  · cases q
    exact ⟨L, rfl, .inr (.inr ⟨x, hL, hx⟩)⟩
  · exact h _ _ _ _ m
/-- {x!r}, x a tuple of texts, while the reprs g are under way -/
def tFmtM (K : PySem.W.Frag) (g : List Code) (te : TE) : TE := fun σ H Q => te σ H fun x H1 => ∃ (a : Addr) (zs : List Str), x = .ref a ∧ SqT K H1 a (zs.map V.str) ∧ GuM K g H1 ∧ (PyData.tuple (zs.map PyData.str)).shown.length ≤ sizeLine ∧ Q (.str (PyData.tuple (zs.map PyData.str)).shown) H1
theorem pe_fmtM {e : Expr} {te : TE} {pos : Pos} {g : List Code} (hgu : X.A.guards = some g) (hu : X.A.units + 64 < cLine) (he : PE X e te) : PE X (.FormattedValue e 114 none pos) (tFmtM X.K g te) := by
  constructor
  intro pins s σ H Q I h
  refine wpAny_FormattedValue_repr (thn (he.run pins s σ H _ I h) fun v s1 hv => ?_)
  obtain ⟨x, H1, I1, r1, a, zs, rfl, hT, hc, hz, q⟩ := hv
  cases r1
  obtain ⟨its, rv, ⟨o, ho, oc, n, od⟩, _⟩ := I1.tuple hT
  have hc : Clear g a := fun id v rest kw hm => by
    obtain ⟨L, rfl, hL⟩ := hc id v rest kw hm
    intro e
    cases e
    rcases hL with ⟨us, hL⟩ | ⟨e, xs, me, hL⟩ | ⟨x, hL, hx⟩
    rotate_right
    · obtain ⟨o2, ho2, hc2⟩ := hx.get I1 hL
      rw [ho] at ho2
      cases ho2
      rw [oc] at hc2
      simp at hc2
    · obtain ⟨_, _, _, _, _, eL⟩ := I1.lstM hL
      rw [ho] at eL
      cases eL
      simp at oc
    · obtain ⟨its2, rv2, ⟨o2, ho2, oc2, n2, od2⟩, _⟩ := I1.tuple hL
      rw [ho] at ho2
      cases ho2
      rw [od] at od2
      have ei : its = its2 := by
        have := (Data.seq.inj od2).1
        simpa using this
      subst ei
      obtain ⟨k, hk, ek⟩ := List.mem_iff_getElem.mp me
      obtain ⟨u, hu, ru⟩ := rv2.get (i := k) (x := xs[k]) (List.getElem?_eq_getElem hk)
      rw [ek] at ru
      cases (show u = Value.ref e from ru)
      have l1 := rv.length
      have l2 := rv2.length
      rw [List.length_map] at l1
      have kz : k < zs.length := by omega
      obtain ⟨u2, hu2, ru2⟩ := rv.get (i := k) (x := V.str zs[k]) (by rw [List.getElem?_map, List.getElem?_eq_getElem kz]; rfl)
      rw [hu] at hu2
      cases hu2
      obtain ⟨t, q⟩ := ru2
      cases q
  obtain ⟨done, rfl, ed⟩ := vals_strs rv
  subst ed
  have hz' : (tupleText (PyData.shownAll ((done.map (·.1)).map PyData.str))).length ≤ sizeLine := by simpa only [PyData.shown] using hz
  have hall : ∀ z ∈ done.map (·.1), (reprText z).length ≤ sizeLine := fun z m => by
    have mm := mem_shownAll m
    exact Nat.le_trans (tupleText_mem_le mm) hz'
  refine wpAny_pyReprObj_tupleK (as := []) (d := 0) ho oc od (by simp) (repr_strs done hall) hgu (fun b hb => by rw [List.mem_singleton.mp hb]; exact hc) (by omega) (fun _ _ z => z) (fun h2 u tk keep => ?_) hz'
  have I2 := I1.kept (t' := tk) keep
  exact wpAny_formatField_str ⟨.str _, H1, I2, ⟨u, rfl⟩, q⟩ ⟨.str _, H1, I2.tok _, ⟨_, rfl⟩, q⟩ hz'
end
end SE
/-! repr of lists and tuples that hold objects with an own __repr__, also where an exception is handled. -/
namespace SE
open PySem PySem.Spec PyProof.Rows L2
structure RoomQ (X : Cx) (n : Nat) (A : Around) : Prop where
  rm : L2H.RoomH n A
  hh : A.handled = X.A.handled
theorem RoomQ.mono {X : Cx} {j k : Nat} {A : Around} (r : RoomQ X j A) (h : k ≤ j) : RoomQ X k A := ⟨r.rm.mono h, r.hh⟩
theorem RoomQ.un {X : Cx} {k : Nat} {A : Around} (r : RoomQ X k A) : A.units + 16 * k + 200 < cLine := r.rm.un
theorem RoomQ.units {X : Cx} {k : Nat} {A : Around} (r : RoomQ X k A) : A.units + 64 < cLine := by have := r.un; omega
theorem RoomQ.units0 {X : Cx} {k : Nat} {A : Around} (r : RoomQ X k A) : A.units < cLine := by have := r.un; omega
theorem RoomQ.in1 {X : Cx} {k : Nat} {A : Around} (r : RoomQ X (k + 1) A) : RoomQ X k A.in1 := ⟨⟨by have := r.rm.dp; show A.depth + 3 * k + 5 < _; omega, by have := r.un; show A.units + 1 + 16 * k + 200 < _; omega⟩, r.hh⟩
theorem RoomQ.loop {X : Cx} {k : Nat} {A : Around} (r : RoomQ X (k + 1) A) (args : Args) : RoomQ X k (A.under (.builtin "list.__repr__.loop" args)) :=
  ⟨⟨by have := r.rm.dp; have := loop_depth (A := A) (args := args); omega, by have := r.un; rw [units_under_list_loop]; omega⟩, r.hh⟩
theorem RoomQ.trep {X : Cx} {k : Nat} {A : Around} (r : RoomQ X (k + 1) A) (args : Args) : RoomQ X k (A.under (.builtin "tuple.__repr__" args)) :=
  ⟨⟨by have := r.rm.dp; have := trep_depth (A := A) (args := args); omega, by have := r.un; rw [units_under_tuple_repr]; omega⟩, r.hh⟩
theorem roomH_units {k : Nat} {A : Around} (r : L2H.RoomH k A) : A.units + 64 < cLine := by have := r.un; omega
/-- an own __repr__ may be called -/
def CallQ (X : Cx) (g : List Code) (n : Nat) (f : Addr) (fd : FuncData) (sp : Sp) : Prop := ∀ (A : Around) (pins : List (Addr × Obj)) (σ : L2.St) (H : Hp) (s : Shared) (us : List Value) (xs : List V) (Q : VK) (E : XK), A.guards = some g → RoomQ X n A → EnvTo X A → Inv X pins σ H s → BindsTo s fd ⟨us, []⟩ ([("self" : Str)].zip us) → Vals xs us → sp xs H Q E →
  codeAny (model X.prog X.w) A (.call (.ref f) ⟨us, []⟩) (CR (fun _ _ _ _ _ _ => False) X.stack X.prog X.w H s Q E) s
theorem callQ_calm {X : Cx} {g : List Code} {n : Nat} {f : Addr} {fd : FuncData} {sp : Sp} (F : GOkG X.prog X.w X.K X.mg X.base g n f fd ["self"] sp) (hd : X.A.handled = none) : CallQ X g n f fd sp := fun A pins σ H s us xs Q E hg hr he I hb hv h =>
  F.run A X.stack s H ⟨us, []⟩ us xs Q E hg ⟨hr.hh.trans hd, hr.rm.dp, hr.rm.un⟩ (he _ _ I.env0) hb hv h
structure GOkH (P : Program) (w : World) (K : PySem.W.Frag) (mg : Str → Option Value) (base : Heap) (g : List Code) (k : Nat) (f : Addr) (fd : FuncData) (ps : List Str) (sp : Sp) : Prop where
  len : ∀ xs H Q E, sp xs H Q E → xs.length = ps.length
  run : ∀ (A : Around) (out : List Env) (s : Shared) (H : Hp) (args : Args) (us : List Value) (xs : List V) (Q : VK) (E : XK) (p : Addr × Obj), A.guards = some g → L2H.RoomH k A → L2H.PinOk out H s p → Env0 P w K mg base A out s H →
    BindsTo s fd args (ps.zip us) → Vals xs us → sp xs H Q E → codeAny (model P w) A (.call (.ref f) args) (CR (fun _ _ _ _ _ _ => False) out P w H s Q E) s
theorem callQ_hot {X : Cx} {g : List Code} {n : Nat} {f : Addr} {fd : FuncData} {sp : Sp} (F : GOkH X.prog X.w X.K X.mg X.base g n f fd ["self"] sp) (hc : ∃ p, p ∈ X.pn) : CallQ X g n f fd sp := fun A pins σ H s us xs Q E hg hr he I hb hv h => by
  obtain ⟨p, hp⟩ := hc
  have P1 := I.pin p (List.mem_append_left _ hp)
  have hpin : L2H.PinOk X.stack H s p := ⟨P1.1, P1.2.1, fun hm => (List.mem_cons.mp (I.stkSub p.1 hm)).elim P1.2.2.1 P1.2.2.2.1, P1.2.2.2.2⟩
  exact F.run A X.stack s H ⟨us, []⟩ us xs Q E p hg hr.rm hpin (he _ _ I.env0) hb hv h
section
variable {P : Program} {w : World} {K : PySem.W.Frag} {mg : Str → Option Value} {base : Heap} {g : List Code}
theorem gok_ofH {k : Nat} {f : Addr} {nm ql : Str} {pars : Arguments} {bd : List Stmt} {sc : Scope} {dV kV doc pm cv ct oc : Value} {an od : Option Addr}
    {osl : Array (Option Value)} {N ps : List Str} {sp : Sp} (look : K.lookup f = some ⟨oc, od, .func (PySem.W.fnOf nm ql pars bd sc dV kV doc pm an cv ct), osl⟩) (hcode : PySem.W.codeIn K cv ql = true) (S : FnScope N ps sc)
    (len : ∀ xs H Q E, sp xs H Q E → xs.length = ps.length)
    (hbd : ∀ (A : Around) (out : List Env) (s : Shared) (H : Hp) (xs : List V) (Q : VK) (E : XK) (p : Addr × Obj), A.guards = some g → L2H.RoomH k (A.deeper (envOfC ql sc s.heap.objs.size f cv)) → sp xs H Q E →
      ∃ t, PSs (L2H.cxH (fun _ _ _ _ _ _ => False) P w K mg base N ql sc f cv A out s H E p) bd t ∧ t { nx := fun _ H2 => Q .non H2, rt := Q } (start N xs) H) :
    GOkH P w K mg base g (k + 1) f (PySem.W.fnOf nm ql pars bd sc dV kV doc pm an cv ct) ps sp := by
  constructor
  · exact len
  intro A out s H args us xs Q E p hgu hroom hpin env hbind hvals hpre
  have hlen := len _ _ _ _ hpre
  have kin : K.In s.heap := env.mod.kin.keeps fun b o z => (env.bs b o z).1
  have nolim : s.heap.NoLimit := env.mod.nolimit.keeps fun b o z => (env.bs b o z).1
  have kinds : ∀ y ∈ ps.zip us, sc.names.lookup y.1 = some .local ∨ (sc.names.lookup y.1 = some .cell ∧ ((cellsFrom (s.heap.objs.size + 1) sc.names []).lookup y.1).isSome = true) := by
    rintro ⟨n, v⟩ hy
    rcases S.par n (List.of_mem_zip hy).1 with q | q
    · exact .inl q
    · exact .inr ⟨q, PySem.W.cellsFrom_some _ _ _ (.inl q)⟩
  apply codeAny_call_function hroom.depth (kin _ _ look) rfl S.co S.gen rfl (PySem.W.codeRec_of kin hcode)
  apply hbind
  refine wpAny_newFunctionEnv_cells S.kind kinds fun ev hev s2 inc => ?_
  subst hev
  refine ⟨nolim.keeps inc.toInCall.keep, codeAny_func ?_⟩
  obtain ⟨t, der, rd⟩ := hbd A out s H xs Q E p hgu (hroom.deeper _) hpre
  have J0 : Inv (L2H.cxH (fun _ _ _ _ _ _ => False) P w K mg base N ql sc f cv A out s H E p) [] (start N xs) H s2 := L2H.inv_startH S hpin env hlen hvals inc
  refine wpAny_mono (der.run [] s2 (start N xs) H _ J0 rd) (fun fl s3 hs => ?_) fun e s3 hs => hs
  cases fl with
  | ret u =>
    obtain ⟨v, σ3, H3, J, rv, q⟩ := hs
    exact ⟨v, H3, J.os, J.bare, J.base, J.hok, rv, q⟩
  | next =>
    obtain ⟨σ3, H3, J, q⟩ := hs
    exact ⟨V.non, H3, J.os, J.bare, J.base, J.hok, rfl, q⟩
  | brk => exact hs.elim fun _ z => z.elim fun _ z => z.2.elim
  | cont => exact hs.elim fun _ z => z.elim fun _ z => z.2.elim
end
structure RUQ (X : Cx) (g : List Code) (n : Nat) (v : V) (t : Str) (H : Hp) : Prop where
  run : ∀ {A : Around} {pins : List (Addr × Obj)} {σ : L2.St} {H' : Hp} {s : Shared} {u : Value} {b : Nat} {E : Value → Shared → Prop} {Q : Str → Shared → Prop}, A.guards = some g → RoomQ X n A → EnvTo X A → Same H H' → Inv X pins σ H' s → RelV v u → b + t.length ≤ sizeLine →
    (∀ H'' s', Same H' H'' → Inv X pins σ H'' s' → Q t s') → wpAny (model X.prog X.w) A (pyReprUnder b u) Q E s
section
variable {X : Cx} {g : List Code} {n : Nat} {H : Hp}
theorem RUQ.mono {v : V} {t : Str} {m : Nat} (h : RUQ X g n v t H) (hm : n ≤ m) : RUQ X g m v t H := ⟨fun hg hr he s I r hb k => h.run hg (hr.mono hm) he s I r hb k⟩
theorem RUQ.same {v : V} {t : Str} {H1 : Hp} (h : RUQ X g n v t H) (s1 : Same H H1) : RUQ X g n v t H1 := ⟨fun hg hr he s I r hb k => h.run hg hr he (Same.trans s1 s) I r hb k⟩
/-- data without lists -/
theorem ruq_dp {v : V} {d : PyData} (hD : ∀ H', Same H H' → Dp X.K H' v d) (hs : d.showable = true) (hn : noLst d = true) (hdep : d.depth ≤ 20) (hG : GuL g H) : RUQ X g n v d.shown H := by
  constructor
  intro A pins σ H' s u b E Q hg hr he sm I r hb k
  obtain ⟨as, rd⟩ := Dp.reads I d v u (hD H' sm) r
  obtain ⟨bs, _, ht, hk⟩ := reprK_t (prog := X.prog) (w := X.w) rd hs hn (by omega)
  have un := hr.un
  refine hk b hb A g E s Q hg (fun c hc => ?_) (by omega) (fun _ _ z => z) (fun h' tk keep => k H' _ (fun _ _ z => z) (I.kept (t' := tk) keep))
  obtain ⟨o, ho, oc⟩ := ht c hc
  intro id v rest kw hm
  obtain ⟨L, us, rfl, hL⟩ := (hG.same sm) id v rest kw hm
  intro e
  cases e
  obtain ⟨_, _, _, _, _, eL⟩ := I.lstM hL
  rw [ho] at eL
  cases eL
  simp at oc
/-- an object with an own __repr__ -/
theorem ruq_own {C f e : Addr} {fd : FuncData} {sp : List Code → Sp} {t : Str} (F : CallQ X g n f fd (sp g)) (hs : PySem.W.findIn X.K (.ref C) "__repr__" = some (some (.ref f))) (hf : PySem.W.isFn X.K (.ref f) = true) (hb : Binds X.K fd ["self"] [])
    (hi : ∃ dx fs, H e = some (.ins C dx fs)) (hsp : ∀ H', Same H H' → sp g [.ref e] H' (fun v H'' => v = .str t ∧ Same H' H'') (fun _ _ _ => False)) : RUQ X g n (.ref e) t H := by
  constructor
  intro A pins σ H' s u b E Q hg hr he sm I r hb2 k
  cases r
  obtain ⟨dx, fs, hi⟩ := hi
  obtain ⟨mA, J, _⟩ := ins_get I.hok (sm _ _ hi)
  obtain ⟨od, J, _⟩ := J.look
  refine wpAny_pyReprUnder_ref (by omega) (under_own hr.units0 I.kIn J hs hf ?_)
  refine wpAny_call (codeAny_mono (F A pins σ H' s [.ref e] [.ref e] _ _ hg hr he I (by simpa using hb s [.ref e] I.kIn rfl) (.cons rfl .nil) (hsp H' sm)) fun r s2 hq => ?_)
  cases r with
  | error e => exact hq.elim
  | ok fl =>
    cases fl with
    | next => exact hq.elim
    | brk => exact hq.elim
    | cont => exact hq.elim
    | ret z =>
      obtain ⟨y, H2, I2, rz, ey, eH⟩ := I.after hq
      subst ey
      obtain ⟨tk, rfl⟩ := rz
      exact ⟨t, tk, rfl, t, tk, rfl, k H2 s2 eH I2⟩
open Builtin Builtin.List in
theorem ruq_loop {A : Around} {pins : List (Addr × Obj)} {σ : L2.St} {R : Result → Shared → Prop} {L P : Addr} {vs : List V} {ts : List Str} {base : Nat} (hg : A.guards = some g) (hr : RoomQ X (n + 1) A) (he : EnvTo X A) (hLP : L ≠ P) (hL : H L = some (.lst vs)) (hP : H P = none) (hlen : vs.length = ts.length)
    (hsz : base + (listText ts).length ≤ sizeLine) (hT : ∀ (i : Nat) (v : V), vs[i]? = some v → ∃ t, ts[i]? = some t ∧ ∀ rest, RUQ X (.builtin "list.__repr__.loop" ⟨.ref L :: rest, []⟩ :: g) n v t H)
    (hR : ∀ H' u s', Same H H' → Inv X pins σ H' s' → R (.ok (.ret (.str (listText ts) u))) s') :
    ∀ (k i : Nat) (s : Shared) (Hc : Hp), vs.length - i = k → i ≤ vs.length → Same H Hc → Hc P = some (.lst ((ts.take i).map V.str)) → Inv X pins σ Hc s →
    codeAny (model X.prog X.w) A (.builtin "list.__repr__.loop" ⟨[.ref L, rawInt i, .ref P, rawInt ((base + piled (ts.take i) : Nat) : Int)], []⟩) R s := by
  have hX : (listText ts).length = (textFrom 0 "[" ts).length + 1 := by
    show (textFrom 0 "[" ts ++ "]").length = _
    rw [strLen_append]; rfl
  have hLn := textFrom_len ts 0 "["
  have hsz1 : vs.length ≤ sizeLine := by
    have h1 := hLn.1
    rw [if_neg (Nat.lt_irrefl 0)] at h1
    omega
  have hsz2 : ∀ t ∈ ts, t.length ≤ sizeLine := fun t ht => by
    have h2 := hLn.2.1 t ht
    omega
  have hp3 := piled_le_listText ts
  have hsz3 : (listText ts).length ≤ sizeLine := by omega
  intro k
  induction k with
  | zero =>
    intro i s Hc hk hi sm hPc I
    have hin : i = vs.length := by omega
    obtain ⟨_, its, nL, rL, lL, eL⟩ := I.lstM (sm _ _ hL)
    obtain ⟨_, itp, nP, rP, lP, eP⟩ := I.lstM hPc
    obtain ⟨done, rfl, hdone⟩ := vals_strs rP
    refine codeAny_builtin PySem.F.entry_list_repr_loop ?_
    show wpAny _ _ («list.__repr__.loop» ⟨[.ref L, .int i 0, .ref P, .int ((base + piled (ts.take i) : Nat) : Int) 0], []⟩) _ _ s
    rw [repr_loop_tree]
    refine wpAny_bind (wpAny_listItems eL rfl ?_)
    have hnone : its.toArray[(i : Int).toNat]? = none := by
      simp only [Int.toNat_natCast, List.getElem?_toArray]
      exact List.getElem?_eq_none (by omega)
    simp only [hnone]
    unfold reprEnd
    refine wpAny_bind (wpAny_listItems eP rfl ?_)
    rw [show (strValues done).toArray.toList = strValues done from List.toList_toArray .., repr_fold]
    refine wpAny_bind (wpAny_pure ?_)
    have hall : done.map (·.1) = ts := by rw [hdone, hin, hlen, List.take_length]
    rw [hall]
    refine wpAny_bind (wpAny_mkStr (wpAny_pure ?_) hsz3)
    exact hR Hc _ _ sm (I.tok _)
  | succ k ih =>
    intro i s Hc hk hi sm hPc I
    have hlt : i < vs.length := by omega
    obtain ⟨_, its, nL, rL, lL, eL⟩ := I.lstM (sm _ _ hL)
    obtain ⟨t, ht, hru⟩ := hT i vs[i] (by simp [hlt])
    obtain ⟨u, hu, ru⟩ := rL.get (i := i) (x := vs[i]) (by simp [hlt])
    have hp1 := piled_take_succ ht
    have hp2 := piled_take_le ts (i + 1)
    refine codeAny_builtin PySem.F.entry_list_repr_loop ?_
    show wpAny _ _ («list.__repr__.loop» ⟨[.ref L, .int i 0, .ref P, .int ((base + piled (ts.take i) : Nat) : Int) 0], []⟩) _ _ s
    rw [repr_loop_tree]
    refine wpAny_bind (wpAny_listItems eL rfl ?_)
    have hsome : its.toArray[(i : Int).toNat]? = some u := by simpa using hu
    simp only [hsome]
    rw [Int.toNat_natCast]
    refine wpAny_bind (wpAny_holding ((hru _).run (guards_under_guard (isGuard_list_loop _) hg) (RoomQ.loop hr _) (fun s' H' e => Env0.loop (he s' H' e) _) sm I ru (by omega) fun H2 s2 sm2 I2 => ?_))
    refine wpAny_bind (wpAny_mkStr ?_ (hsz2 t (List.mem_of_getElem? ht)))
    refine wpAny_bind ?_
    show wpAny _ _ (updateSeq P _) _ _ _
    have I3 := I2.tok (s2.toks + 1)
    have hP2 := sm2 _ _ hPc
    obtain ⟨zP, itp, nP, rP, lP, eP⟩ := I3.lstM hP2
    have lt : ((ts.take i).map V.str).length ≤ i := by rw [List.length_map, List.length_take]; omega
    have hasz : itp.toArray.size ≤ sizeLine := by rw [List.size_toArray]; omega
    refine wpAny_updateSeq eP rfl (wpAny_pure ⟨PySem.F.quiet_list_repr_loop _, ?_⟩) hasz
    have e1 : ((i : Int) + 1) = ((i + 1 : Nat) : Int) := by omega
    have e2 : base + piled (ts.take i) + (t.length + 2) = base + piled (ts.take (i + 1)) := by omega
    rw [e1, e2]
    have ev : (ts.take (i + 1)).map V.str = (ts.take i).map V.str ++ [V.str t] := by
      rw [List.take_add_one, ht, List.map_append]
      rfl
    have I4 := I3.lset (its' := itp ++ [.str t s2.toks]) (f := fun x => x.push (.str t s2.toks)) (ys := (ts.take (i + 1)).map V.str) (t' := s2.toks + 1) hP2 eP (by simp) (by rw [ev]; exact rP.append (.cons ⟨_, rfl⟩ .nil)) (by rw [List.length_map, List.length_take]; omega)
    exact ih (i + 1) _ _ (by omega) hlt (Same.free2 (Same.trans sm sm2) hP) upd_same I4
open Builtin Builtin.List in
theorem listAtQ {A : Around} {pins : List (Addr × Obj)} {σ : L2.St} {R : Result → Shared → Prop} {L : Addr} {v : V} {vs : List V} {ts : List Str} {base : Nat} {s : Shared} (hg : A.guards = some g) (hr : RoomQ X (n + 1) A) (he : EnvTo X A) (hL : H L = some (.lst (v :: vs))) (hc : Clear g L) (hlen : (v :: vs).length = ts.length)
    (hsz : base + (listText ts).length ≤ sizeLine) (hT : ∀ (i : Nat) (y : V), (v :: vs)[i]? = some y → ∃ t, ts[i]? = some t ∧ ∀ rest, RUQ X (.builtin "list.__repr__.loop" ⟨.ref L :: rest, []⟩ :: g) n y t H) (I : Inv X pins σ H s)
    (hR : ∀ H' u s', Same H H' → Inv X pins σ H' s' → R (.ok (.ret (.str (listText ts) u))) s') :
    wpAny (model X.prog X.w) A.in1 (Builtin.listReprAt base ⟨[.ref L], []⟩) (fun fin s' => match fin with | .done f => R (.ok f) s' | .again c' => c'.quiet = true ∧ codeAny (model X.prog X.w) A c' R s') (fun e s' => R (.error e) s') s := by
  obtain ⟨_, its, nL, rL, lL, eL⟩ := I.lstM hL
  cases its with
  | nil => simp at lL
  | cons u us =>
    refine wpAny_list_repr_head (A := A.in1) hg (fun v rest kw hm => listSameRef_of_ne (hc _ _ _ _ hm)) eL rfl ?_
    refine wpAny_bind (m := newList []) (wpAny_newObj_type ?_)
    refine wpAny_pure ⟨PySem.F.quiet_list_repr_loop _, ?_⟩
    have hP : H s.heap.objs.size = none := I.hok.fresh (Nat.le_refl _)
    have I1 : Inv X pins σ (upd H s.heap.objs.size (.lst [])) { s with heap := s.heap.push ({ cls := .type "list", data := .seq #[] } : Obj) } := I.laid (t' := s.toks) (fun b u q => Heap.get?_push_of_some _ q) (Nat.le_refl _) ⟨Nat.zero_le _, [], 0, .nil, Heap.get?_push_size _ rfl⟩
    have hLP : L ≠ s.heap.objs.size := fun z => by rw [z, hP] at hL; cases hL
    exact ruq_loop hg hr he hLP hL hP hlen hsz hT hR _ 0 _ _ rfl (Nat.zero_le _) (Same.new hP) upd_same I1
theorem ruq_list {L : Addr} {vs : List V} {ts : List Str} (hL : H L = some (.lst vs)) (hc : Clear g L) (hlen : vs.length = ts.length)
    (hT : ∀ (i : Nat) (y : V), vs[i]? = some y → ∃ t, ts[i]? = some t ∧ ∀ rest, RUQ X (.builtin "list.__repr__.loop" ⟨.ref L :: rest, []⟩ :: g) n y t H) : RUQ X g (n + 1) (.ref L) (listText ts) H := by
  constructor
  intro A pins σ H' s u b E Q hg hr he sm I r hb k
  cases r
  have hL' := sm _ _ hL
  obtain ⟨_, its, nL, rL, lL, eL⟩ := I.lstM hL'
  cases vs with
  | nil =>
    cases ts with
    | cons t ts => simp at hlen
    | nil =>
      cases its with
      | cons u us => simp at lL
      | nil =>
        rw [listText_nil] at k
        exact wpAny_pyReprUnder_ref (by omega) (wpAny_pyReprObjUnder_list_empty ⟨_, eL, rfl⟩ hr.units0 eL rfl ⟨_, _, rfl, k H' _ (fun _ _ z => z) (I.tok _)⟩)
  | cons v vs =>
    refine wpAny_pyReprUnder_ref (by omega) (wpAny_pyReprObjUnder_twin (twin := "list.__repr__.under") ⟨_, eL, rfl⟩ PySem.F.slot_list_repr.toG rfl hr.units0 ?_)
    refine call_twin_plain PySem.F.plain_list_repr_under PySem.F.entry_list_repr_under PySem.F.check_list_repr_under ⟨_, eL, rfl⟩ PySem.F.slot_list_repr.toG (PySem.F.args_list_repr_1 _) ?_
    exact listAtQ hg hr he hL' hc hlen hb (fun i y hy => by
      obtain ⟨t, ht, q⟩ := hT i y hy
      exact ⟨t, ht, fun rest => (q rest).same sm⟩) I fun H2 u s2 sm2 I2 => ⟨⟨_, _, rfl⟩, _, _, rfl, k H2 s2 sm2 I2⟩
/-- repr of a list -/
def rReprRQ (X : Cx) (n : Nat) : List V → Hp → VK → Prop := fun xs H Q => ∃ (L : Addr) (vs : List V) (ts : List Str), xs = [.ref L] ∧ H L = some (.lst vs) ∧ vs.length = ts.length ∧ (listText ts).length ≤ sizeLine ∧
  (∀ (i : Nat) (y : V), vs[i]? = some y → ∃ t, ts[i]? = some t ∧ ∀ rest, RUQ X [.builtin "list.__repr__.loop" ⟨.ref L :: rest, []⟩] n y t H) ∧ ∀ H', Same H H' → Q (.str (listText ts)) H'
theorem call_reprRQ (hgu : X.A.guards = some []) (hr : RoomQ X (n + 3) X.A) : CallR X (.builtin "repr") (rReprRQ X n) := by
  intro pins s σ H xs us Q I r h
  obtain ⟨L, vs, ts, rfl, hL, hlen, hsz, hT, k⟩ := h
  cases r with
  | cons r1 r2 =>
    cases r2
    cases r1
    obtain ⟨_, its, nL, rL, lL, eL⟩ := I.lstM hL
    have hu := hr.units
    refine call_repr_slot (T := "list") (by omega) ⟨_, eL, rfl⟩ PySem.F.slot_list_repr.toG ?_
    cases vs with
    | nil =>
      cases ts with
      | cons t ts => simp at hlen
      | nil =>
        cases its with
        | cons u us => simp at lL
        | nil =>
          rw [listText_nil] at k
          exact call_list_repr_empty ⟨_, eL, rfl⟩ eL rfl ⟨_, _, rfl, .str "[]", H, I.tok _, ⟨_, rfl⟩, k H fun _ _ z => z⟩
    | cons v vs =>
      refine wpAny_call (codeAny_call_builtin PySem.F.slot_list_repr.plain PySem.F.entry_list_repr (PySem.F.slot_list_repr.check _ _ _ _ _ _ _ _ ⟨_, eL, rfl⟩ (PySem.F.args_list_repr_1 _) ?_))
      exact listAtQ (A := X.A.in1) (R := callEnd (fun r s₁ => ∃ x t, r = .str x t ∧ EP X pins σ Q r s₁) X.xe) (base := 0) (g := []) (n := n) hgu (RoomQ.in1 (hr.mono (by omega))) (fun s' H' e => e.in1) hL (Clear.nil _) hlen (by omega) hT I fun H2 u s2 sm2 I2 => ⟨_, _, rfl, .str (listText ts), _, I2, ⟨u, rfl⟩, k _ sm2⟩
theorem tup_foldQ {A : Around} {pins : List (Addr × Obj)} {σ : L2.St} {E : Value → Shared → Prop} (hg : A.guards = some g) (hr : RoomQ X n A) (he : EnvTo X A) : ∀ (xs : List V) (us : List Value) (ts : List Str) (acc : Array Str) (m : Nat) (s : Shared) (H' : Hp) (Q : (Array Str × Nat) → Shared → Prop), Vals xs us → xs.length = ts.length →
    (∀ (i : Nat) (v : V), xs[i]? = some v → ∃ t, ts[i]? = some t ∧ RUQ X g n v t H) → m + piled ts ≤ sizeLine → Same H H' → Inv X pins σ H' s → (∀ H'' s', Same H H'' → Inv X pins σ H'' s' → Q ⟨acc ++ ts.toArray, m + piled ts⟩ s') → wpAny (model X.prog X.w) A (forIn us (⟨acc, m⟩ : (Array Str × Nat)) tupBody) Q E s := by
  intro xs
  induction xs with
  | nil =>
    intro us ts acc m s H' Q r hl hT hz sm I k
    cases r
    cases ts with
    | cons t ts => simp at hl
    | nil =>
      have h0 := k H' s sm I
      simp only [List.forIn_nil]
      exact wpAny_pure (by simpa [piled] using h0)
  | cons x xs ih =>
    intro us ts acc m s H' Q r hl hT hz sm I k
    cases r with
    | cons r1 r2 =>
      cases ts with
      | nil => simp at hl
      | cons t ts =>
        obtain ⟨t', e1, ru⟩ := hT 0 x rfl
        obtain rfl : t = t' := Option.some.inj e1
        rw [piled_cons] at hz
        rw [List.forIn_cons]
        refine wpAny_bind (wpAny_bind (ru.run (b := m + 1) hg hr he sm I r1 (by omega) fun H2 s2 sm2 I2 => wpAny_pure ?_))
        refine ih _ ts (acc.push t) (m + (t.length + 2)) _ H2 Q r2 (by simpa using hl) (fun i v e => hT (i + 1) v e) (by omega) (Same.trans sm sm2) I2 fun H3 s3 sm3 I3 => ?_
        have h1 := k H3 s3 sm3 I3
        have e : m + piled (t :: ts) = m + (t.length + 2) + piled ts := by rw [piled_cons]; omega
        rw [e] at h1
        simpa using h1
/-- repr of a tuple -/
def rReprTQ (X : Cx) (n : Nat) : List V → Hp → VK → Prop := fun xs H Q => ∃ (a : Addr) (vs : List V) (ts : List Str), xs = [.ref a] ∧ SqT X.K H a vs ∧ vs.length = ts.length ∧ (tupleText ts).length ≤ sizeLine ∧
  (∀ (i : Nat) (y : V), vs[i]? = some y → ∃ t, ts[i]? = some t ∧ RUQ X [.builtin "tuple.__repr__" ⟨[.ref a], []⟩] n y t H) ∧ ∀ H', Same H H' → Q (.str (tupleText ts)) H'
theorem call_reprTupQ (hgu : X.A.guards = some []) (hr : RoomQ X (n + 3) X.A) : CallR X (.builtin "repr") (rReprTQ X n) := by
  intro pins s σ H xs us Q I r h
  obtain ⟨a, vs, ts, rfl, ha, hlen, hsz, hT, k⟩ := h
  obtain ⟨ua, rfl, ra⟩ := vals1 r
  cases ra
  obtain ⟨its, rv, ⟨o, ho, hc, m, hd⟩, _⟩ := I.tuple ha
  have hu := hr.units
  have lv := rv.length
  have hp := piled_le_tupleText ts
  refine call_repr_slot (T := "tuple") (by omega) ⟨o, ho, hc⟩ PySem.F.slot_tuple_repr ?_
  refine wpAny_call (codeAny_call_builtin_own (Code.quiet_builtin _ (by decide +kernel)) PySem.F.entry_tuple_repr (PySem.F.slot_tuple_repr.check _ _ _ _ _ _ _ _ ⟨o, ho, hc⟩ (PySem.F.args_tuple_repr_1 _) ?_))
  show wpOwn _ _ _ (Builtin.tupleReprAt 0 ⟨[.ref a], []⟩) _ _ s
  rw [tuple_repr_tree, tupleReprUnderWay_eq]
  have hg1 : X.A.in1.guards = some [] := hgu
  refine wpOwn_bind (wpOwn_stackTailAny hg1 (tupGuardF_off _) (tupGuardF_pos _) ?_)
  show wpOwn _ _ _ (tupleReprRest 0 (.ref a)) _ _ s
  refine wpOwn_of_wpAny ?_
  unfold tupleReprRest Builtin.Tuple.tupleItemsOf
  refine wpAny_bind (wpAny_bind (wpAny_seqItems ho hd (wpAny_pure ?_)))
  rw [← Array.forIn_toList]
  refine wpAny_bind (tup_foldQ (H := H) (n := n) (guards_under_guard (isGuard_tuple_repr _) hg1) (RoomQ.trep (RoomQ.in1 (hr.mono (by omega))) _) (fun s' H' e => Env0.trep e.in1 _) vs _ ts #[] 0 s H _ rv hlen hT (by omega) (fun _ _ z => z) I fun H2 s2 sm2 I2 => ?_)
  have hsz2 : ts.length = its.toArray.size := by rw [List.size_toArray]; omega
  refine wpAny_bind (wpAny_mkStr (wpAny_pure ?_) (by simpa [tupleText, hsz2] using hsz))
  refine ⟨_, _, rfl, .str _, H2, I2.tok _, ⟨_, rfl⟩, ?_⟩
  have := k H2 sm2
  simpa [tupleText, hsz2] using this
end
section
variable {X : Cx} {n : Nat} {C f : Addr} {fd : FuncData}
/-- repr(o), an own __repr__ -/
theorem call_reprEQ {sp : Sp} (F : CallQ X [] n f fd sp) (hs : PySem.W.findIn X.K (.ref C) "__repr__" = some (some (.ref f))) (hf : PySem.W.isFn X.K (.ref f) = true) (hb : Binds X.K fd ["self"] []) (hgu : X.A.guards = some []) (hr : RoomQ X (n + 1) X.A) :
    CallR X (.builtin "repr") (fun xs H Q => ∃ (a dx : Addr) (fs : List (Str × V)), xs = [.ref a] ∧ H a = some (.ins C dx fs) ∧ sp [.ref a] H (fun v H' => ∃ z, v = .str z ∧ Q (.str z) H') (fun _ _ _ => False)) := by
  intro pins s σ H xs us Q I r h
  obtain ⟨a, dx, fs, rfl, ha, hsp⟩ := h
  cases r with
  | cons r1 r2 =>
    cases r2
    cases r1
    obtain ⟨mA, J, _⟩ := ins_get I.hok ha
    obtain ⟨od, J, _⟩ := J.look
    obtain ⟨m, hF⟩ := I.fr
    refine PySem.W.repr_K hr.in1.units0 hF I.ok.mod.kin J hs hf ?_
    refine wpAny_call (codeAny_mono (F X.A.in1 pins σ H s [.ref a] [.ref a] _ _ hgu hr.in1 (fun _ _ e => e.in1) I (by simpa using hb s [.ref a] I.kIn rfl) (.cons rfl .nil) hsp) fun r s2 hq => ?_)
    cases r with
    | error e => exact hq.elim
    | ok fl =>
      cases fl with
      | ret z =>
        obtain ⟨y, H2, I2, rz, t, ez, q⟩ := I.after hq
        subst ez
        obtain ⟨tk, rfl⟩ := rz
        exact ⟨.str t, H2, I2, ⟨_, rfl⟩, q⟩
      | next => exact hq.elim
      | brk => exact hq.elim
      | cont => exact hq.elim
end
end SE
/-! Displays of data: whatever a display of constants (and of values that are data already) allocates, in the end the data stand there. -/
namespace SE
open PySem PySem.Spec PyProof.Rows L2
mutual
/-- t is the reading of a display of the data d, in a heap that goes on from H0, with the slots σ -/
inductive TD (K : PySem.W.Frag) (H0 : Hp) (σ : L2.St) : TE → PyData → Prop
  | non : TD K H0 σ (tC .non) .none
  | bl (b : Bool) : TD K H0 σ (tC (.bl b)) (.bool b)
  | int (i : Int) : TD K H0 σ (tC (.int i)) (.int i)
  | neg (i : Int) : TD K H0 σ (tUn (rU fun i => .int (-i)) (tC (.int i))) (.int (-i))
  | str (z : Str) : TD K H0 σ (tC (.str z)) (.str z)
  | emp : TD K H0 σ tDNewK (.dict [])
  | lst {t : TA} {ds : List PyData} (h : TDs K H0 σ t ds) (l : ds.length ≤ 1000) : TD K H0 σ (tLst t) (.list ds)
  | tup {t : TA} {ds : List PyData} (h : TDs K H0 σ t ds) (l : ds.length ≤ 1000) : TD K H0 σ (tTup t) (.tuple ds)
  | var {i : Nat} {v : V} {d : PyData} (e : σ[i]? = some (some v)) (h : DpX K H0 v d) : TD K H0 σ (tVar i) d
  | any {t : TE} {d : PyData} (h : ∀ (H : Hp) (Q : VK), Same H0 H → (∀ v H', Same H H' → DpX K H' v d → Q v H') → t σ H Q) : TD K H0 σ t d
inductive TDs (K : PySem.W.Frag) (H0 : Hp) (σ : L2.St) : TA → List PyData → Prop
  | nil : TDs K H0 σ tNil []
  | cons {t : TE} {ts : TA} {d : PyData} {ds : List PyData} (h : TD K H0 σ t d) (r : TDs K H0 σ ts ds) : TDs K H0 σ (tCons t ts) (d :: ds)
end
mutual
theorem TD.run {K : PySem.W.Frag} {H0 : Hp} {σ : L2.St} : ∀ {t : TE} {d : PyData}, TD K H0 σ t d → ∀ {H : Hp} {Q : VK}, Same H0 H → (∀ v H', Same H H' → DpX K H' v d → Q v H') → t σ H Q
  | _, _, .non, H, Q, s, k => k _ H (Same.refl H) .non
  | _, _, .bl b, H, Q, s, k => k _ H (Same.refl H) (.bl b)
  | _, _, .int i, H, Q, s, k => k _ H (Same.refl H) (.int i)
  | _, _, .neg i, H, Q, s, k => ⟨i, rfl, k _ H (Same.refl H) (.int (-i))⟩
  | _, _, .str z, H, Q, s, k => k _ H (Same.refl H) (.str z)
  | _, _, .emp, H, Q, s, k => fun p hp => k _ _ (Same.new hp) (.emp upd_same)
  | _, _, .lst h l, H, Q, s, k => TDs.run h s fun vs H1 s1 hv => ⟨by rw [hv.len, sizeLine_eq]; omega, fun p hp => k _ _ (s1.trans (Same.new hp)) (.lst (.of upd_same) (DpXs.same (Same.new hp) _ _ hv))⟩
  | _, _, .tup h l, H, Q, s, k => TDs.run h s fun vs H1 s1 hv => ⟨by rw [hv.len, sizeLine_eq]; omega, fun p hp => k _ _ (s1.trans (Same.new hp)) (.tup (.of upd_same) (DpXs.same (Same.new hp) _ _ hv))⟩
  | _, _, .var e h, H, Q, s, k => ⟨_, e, k _ H (Same.refl H) (DpX.same s _ _ h)⟩
  | _, _, .any h, H, Q, s, k => h H Q s k
theorem TDs.run {K : PySem.W.Frag} {H0 : Hp} {σ : L2.St} : ∀ {t : TA} {ds : List PyData}, TDs K H0 σ t ds → ∀ {H : Hp} {Q : List V → Hp → Prop}, Same H0 H → (∀ vs H', Same H H' → DpXs K H' vs ds → Q vs H') → t σ H Q
  | _, _, .nil, H, Q, s, k => k _ H (Same.refl H) .nil
  | _, _, .cons h r, H, Q, s, k => TD.run h s fun v H1 s1 hv => TDs.run r (s.trans s1) fun vs H2 s2 hvs => k _ H2 (s1.trans s2) (.cons (DpX.same s2 _ _ hv) hvs)
end
/-- the display's own list -/
theorem TDs.list {K : PySem.W.Frag} {H0 : Hp} {σ : L2.St} {t : TA} {ds : List PyData} (h : TDs K H0 σ t ds) (l : ds.length ≤ 1000) {H : Hp} {Q : VK} (s : Same H0 H) (k : ∀ (p : Addr) (vs : List V) (H' : Hp), Same H H' → H' p = some (.lst vs) → DpXs K H' vs ds → Q (.ref p) H') : tLst t σ H Q :=
  h.run s fun vs H1 s1 hv => ⟨by rw [hv.len, sizeLine_eq]; omega, fun p hp => k p vs _ (s1.trans (Same.new hp)) upd_same (DpXs.same (Same.new hp) _ _ hv)⟩
/-- for x in a display -/
theorem TDs.forL {K : PySem.W.Frag} {H0 : Hp} {σ : L2.St} {t : TA} {ds : List PyData} {g : TG} {tb : TS} {D : Ends} {H : Hp} (h : TDs K H0 σ t ds) (l : ds.length ≤ 1000) (s : Same H0 H)
    (k : ∀ (p : Addr) (vs : List V) (H' : Hp), Same H H' → H' p = some (.lst vs) → DpXs K H' vs ds → tFor (fun _ H2 R => R (Itl K p) H2) g tb D σ H') : tFor (iList K (tLst t)) g tb D σ H := by
  unfold tFor iList
  exact h.list l s fun p vs H' s' hp hv => ⟨p, rfl, ⟨_, .of hp⟩, k p vs H' s' hp hv⟩
/-! ### data without dicts, for == -/
mutual
theorem dp_of {K : PySem.W.Frag} {H : Hp} : ∀ (d : PyData) {v : V}, PyData.canLay0 d = true → DpX K H v d → Dp K H v d
  | .none, _, _, h => by cases h; exact .non
  | .bool b, _, _, h => by cases h; exact .bl b
  | .int i, _, _, h => by cases h; exact .int i
  | .str z, _, _, h => by cases h; exact .str z
  | .list ds, _, c, h => by
    cases h with
    | lst h1 h2 => exact .lst h1 (dps_of ds (by simpa [PyData.canLay0] using c) h2)
  | .tuple ds, _, c, h => by
    cases h with
    | tup h1 h2 => exact .tup h1 (dps_of ds (by simpa [PyData.canLay0] using c) h2)
  | .dict kvs, _, c, h => by simp [PyData.canLay0] at c
theorem dps_of {K : PySem.W.Frag} {H : Hp} : ∀ (ds : List PyData) {vs : List V}, PyData.canLayAll0 ds = true → DpXs K H vs ds → DpAll K H vs ds
  | [], _, _, h => by cases h; exact .nil
  | d :: ds, _, c, h => by
    cases h with
    | cons h1 h2 =>
      have c : PyData.canLay0 d = true ∧ PyData.canLayAll0 ds = true := by simpa [PyData.canLayAll0] using c
      exact .cons (dp_of d c.1 h1) (dps_of ds c.2 h2)
end
/-- the same data on both sides of != -/
theorem ne_data {K : PySem.W.Frag} {H : Hp} {x y : V} {d : PyData} {Q : VK} (lay : PyData.canLay0 d = true) (sh : SeqAt.shaped d = true) (hx : DpX K H x d) (hy : DpX K H y d) (q : Q (.bl false) H) : rNeD K x y H Q := by
  refine ⟨d, d, dp_of d lay hx, dp_of d lay hy, sh, sh, ?_⟩
  rw [SeqAt.eqv_refl d lay]
  exact q
end SE
/-! Data with dicts whose keys are ints and texts, and the dict {None: t}: reads, repr, isinstance. -/
namespace SE
open PySem PySem.Spec PyProof.Rows L2
def keyD : Key → PyData
  | .inl i => .int i
  | .inr z => .str z
theorem dpx_key {K : PySem.W.Frag} {H : Hp} (k : Key) : DpX K H (kV k) (keyD k) := by
  cases k with
  | inl i => exact .int i
  | inr z => exact .str z
/-- at a stands a dict of these data -/
def SqD (K : PySem.W.Frag) (H : Hp) (a : Addr) (kvs : List (PyData × PyData)) : Prop := ∃ ks : List (Key × V), H a = some (.dK ks) ∧ Paired (fun (kv : Key × V) (p : PyData × PyData) => keyD kv.1 = p.1 ∧ DpX K H kv.2 p.2) ks kvs
theorem SqD.same {K : PySem.W.Frag} {H H' : Hp} {a : Addr} {kvs : List (PyData × PyData)} (h : SqD K H a kvs) (s : Same H H') : SqD K H' a kvs := by
  obtain ⟨ks, e, p⟩ := h
  exact ⟨ks, s _ _ e, Paired.mapP p fun _ _ q => ⟨q.1, DpX.same s _ _ q.2⟩⟩
/-- the dict {None: t} -/
def nonO (P : Program) (w : World) (d t : Addr) : HO := .ext fun h => (d == sysModules) = false ∧ h.DictOf (leafKind P w) d [(Leaf.none, .ref t)]
theorem nonO_ok {P : Program} {w : World} {H : Hp} {h : Heap} {d t : Addr} (hs : (d == sysModules) = false) (m : h.DictOf (leafKind P w) d [(Leaf.none, .ref t)]) : ObjOk P w H h d (nonO P w d t) := by
  have ⟨o, _, _, e, _⟩ := m
  refine ⟨⟨hs, m⟩, ⟨o, e⟩, fun h1 h2 q k => ?_⟩
  obtain ⟨q1, o1, es, ep, e1, r⟩ := q
  exact ⟨q1, o1, es, ep, k _ e1, r⟩
/-- plain data, a dict of data, {None: ()} -/
inductive RpZ (P : Program) (w : World) (K : PySem.W.Frag) (H : Hp) : V → PyData → Prop
  | pl {v : V} {d : PyData} (h : DpX K H v d) : RpZ P w K H v d
  | dic {a : Addr} {kvs : List (PyData × PyData)} (h : SqD K H a kvs) : RpZ P w K H (.ref a) (.dict kvs)
  | non {a t : Addr} (h : H a = some (nonO P w a t)) (ht : SqT K H t []) : RpZ P w K H (.ref a) (.dict [(.none, .tuple [])])
theorem RpZ.same {P : Program} {w : World} {K : PySem.W.Frag} {H H' : Hp} {v : V} {d : PyData} (h : RpZ P w K H v d) (s : Same H H') : RpZ P w K H' v d := by
  cases h with
  | pl h => exact .pl (DpX.same s _ _ h)
  | dic h => exact .dic (h.same s)
  | non h ht => exact .non (s _ _ h) (Same.tup s ht)
section
variable {X : Cx} {pins : List (Addr × Obj)} {σ : L2.St} {H : Hp} {s : Shared}
theorem vals_kv {P : Program} {w : World} : ∀ {ks : List (Key × V)} {vs : List (Key × Value)} {el : List DictEntry}, KV ks vs → Pairs (mixKind P w) el vs → Vals (ks.map fun kv => kV kv.1) (el.map (·.key)) ∧ Vals (ks.map (·.2)) (el.map (·.val))
  | _, _, _, .nil, .nil => ⟨.nil, .nil⟩
  | _, _, _, .cons a r, .cons b1 b2 br => by
    obtain ⟨h1, h2⟩ := vals_kv r br
    obtain ⟨a1, a2⟩ := a
    refine ⟨.cons ?_ h1, .cons ?_ h2⟩
    · dsimp only
      rw [a1]
      exact relV_key b1
    · dsimp only
      rw [b2]
      exact a2
theorem dpxs_kv {K : PySem.W.Frag} : ∀ {ks : List (Key × V)} {kvs : List (PyData × PyData)}, Paired (fun (kv : Key × V) (p : PyData × PyData) => keyD kv.1 = p.1 ∧ DpX K H kv.2 p.2) ks kvs → DpXs K H (ks.map fun kv => kV kv.1) (kvs.map (·.1)) ∧ DpXs K H (ks.map (·.2)) (kvs.map (·.2))
  | _, _, .nil => ⟨.nil, .nil⟩
  | _, _, .cons a r => by
    obtain ⟨h1, h2⟩ := dpxs_kv r
    refine ⟨.cons ?_ h1, .cons a.2 h2⟩
    dsimp only
    rw [← a.1]
    exact dpx_key _
theorem kv_repr {a : Addr} {o : Obj} {es : Array DictEntry} {n : Nat} {kvs : List (PyData × PyData)} {k1 k2 : List V} (I : Inv X pins σ H s) (ho : s.heap.get? a = some o) (hc : o.cls = .type "dict") (hd : o.data = .dict es n) (v1 : Vals k1 (es.toList.map (·.key))) (v2 : Vals k2 (es.toList.map (·.val))) (d1 : DpXs X.K H k1 (kvs.map (·.1))) (d2 : DpXs X.K H k2 (kvs.map (·.2)))
    (hs : PyData.showable (.dict kvs) = true) (hz : (PyData.shown (.dict kvs)).length ≤ sizeLine) : ∃ as bs, Reads s.heap (.ref a) (.dict kvs) as ∧ ReadAtMost s.heap (PyData.depthKv kvs) bs ∧ a ∉ bs ∧ ReprEntriesK X.prog X.w bs s.heap (PyData.depthKv kvs) es.toList (PyData.shownKv kvs) := by
  obtain ⟨a1, r1⟩ := DpXs.reads I _ _ _ d1 v1
  obtain ⟨a2, r2⟩ := DpXs.reads I _ _ _ d2 v2
  have hz' : (dictText (PyData.shownKv kvs)).length ≤ sizeLine := by simpa only [PyData.shown] using hz
  obtain ⟨hs1, hs2⟩ := PyData.showableKv_split kvs (by simpa [PyData.showable] using hs)
  obtain ⟨b1, hb1, q1⟩ := DpXs.reprK I _ _ _ d1 v1 hs1 fun t ht => let ⟨p, hp, hl⟩ := PyData.shownKv_key_le kvs t ht; Nat.le_trans hl (Nat.le_trans (dictText_mem_le hp) hz')
  obtain ⟨b2, hb2, q2⟩ := DpXs.reprK I _ _ _ d2 v2 hs2 fun t ht => let ⟨p, hp, hl⟩ := PyData.shownKv_val_le kvs t ht; Nat.le_trans hl (Nat.le_trans (dictText_mem_le hp) hz')
  have rr : Reads s.heap (.ref a) (.dict kvs) _ := .dict ho hc hd r1 r2
  have hb : ReadAtMost s.heap (PyData.depthKv kvs) (b1 ++ b2) := (hb1.mono (PyData.depthAll_keys_le kvs)).append (hb2.mono (PyData.depthAll_vals_le kvs))
  refine ⟨_, b1 ++ b2, rr, hb, not_mem_of_deeper rr (by simp only [PyData.depth]; omega) hb, ?_⟩
  rw [PyData.shownKv_eq]
  exact ReprEntriesK.of_two es.toList _ _ (q1.more_le (fun b m => List.mem_append_left _ m) (PyData.depthAll_keys_le kvs)) (q2.more_le (fun b m => List.mem_append_right _ m) (PyData.depthAll_vals_le kvs))
/-- a dict of the two kinds: its object, its entries -/
theorem RpZ.dict_obj {v : V} {kvs : List (PyData × PyData)} (I : Inv X pins σ H s) (h : RpZ X.prog X.w X.K H v (.dict kvs)) (hs : PyData.showable (.dict kvs) = true) (hz : (PyData.shown (.dict kvs)).length ≤ sizeLine) :
    ∃ a o es n as bs, v = .ref a ∧ s.heap.get? a = some o ∧ o.cls = .type "dict" ∧ o.data = .dict es n ∧ (a == sysModules) = false ∧ Reads s.heap (.ref a) (.dict kvs) as ∧ ReadAtMost s.heap (PyData.depthKv kvs) bs ∧ a ∉ bs ∧ ReprEntriesK X.prog X.w bs s.heap (PyData.depthKv kvs) es.toList (PyData.shownKv kvs) := by
  cases h with
  | pl h =>
    cases h with
    | @emp a e =>
      obtain ⟨_, hsys, vs, rel, o, es, ep, h1, h2, h3, h4, h5, h6⟩ := dk_of I.hok e
      obtain ⟨v1, v2⟩ := vals_kv rel h5
      obtain ⟨as, bs, q1, q2, q3, q4⟩ := kv_repr (kvs := []) I h1 h2.1 h3 v1 v2 .nil .nil hs hz
      exact ⟨a, o, es, ep, as, bs, rfl, h1, h2.1, h3, hsys, q1, q2, q3, q4⟩
  | @dic a _ h =>
    obtain ⟨ks, e, p⟩ := h
    obtain ⟨_, hsys, vs, rel, o, es, ep, h1, h2, h3, h4, h5, h6⟩ := dk_of I.hok e
    obtain ⟨v1, v2⟩ := vals_kv rel h5
    obtain ⟨d1, d2⟩ := dpxs_kv p
    obtain ⟨as, bs, q1, q2, q3, q4⟩ := kv_repr I h1 h2.1 h3 v1 v2 d1 d2 hs hz
    exact ⟨a, o, es, ep, as, bs, rfl, h1, h2.1, h3, hsys, q1, q2, q3, q4⟩
  | @non a t h ht =>
    obtain ⟨⟨hsys, o, es, ep, h1, h2, h3, h4, h5, h6⟩, _⟩ := I.hok a _ h
    have v12 : Vals [V.non] (es.toList.map (·.key)) ∧ Vals [V.ref t] (es.toList.map (·.val)) := by
      generalize es.toList = l at h5
      cases h5 with
      | @cons e _ _ _ b1 b2 b3 =>
        cases b3
        refine ⟨.cons ?_ .nil, .cons ?_ .nil⟩
        · show RelV .non e.key
          have b1 : Leaf.isOf .none e.key = true := b1
          cases q : e.key with
          | none => rfl
          | _ => rw [q] at b1; exact absurd b1 Bool.false_ne_true
        · show RelV (.ref t) e.val
          rw [b2]
          rfl
    obtain ⟨as, bs, q1, q2, q3, q4⟩ := kv_repr (kvs := [(.none, .tuple [])]) I h1 h2.1 h3 v12.1 v12.2 (.cons .non .nil) (.cons (.tup ht .nil) .nil) hs hz
    exact ⟨a, o, es, ep, as, bs, rfl, h1, h2.1, h3, hsys, q1, q2, q3, q4⟩
theorem RpZ.reprK {v : V} {d : PyData} {u : Value} (I : Inv X pins σ H s) (h : RpZ X.prog X.w X.K H v d) (r : RelV v u) (hs : d.showable = true) (hz : d.shown.length ≤ sizeLine) : ∃ bs, ReadAtMost s.heap d.depth bs ∧ ReprK X.prog X.w bs s.heap d.depth u d.shown := by
  cases d with
  | dict kvs =>
    obtain ⟨a, o, es, n, as, bs, rfl, h1, h2, h3, h4, h5, h6, h7, h8⟩ := h.dict_obj I hs hz
    cases r
    refine ⟨a :: bs, ReadAtMost.cons h5 (by simp only [PyData.depth]; omega) h6, ?_⟩
    simp only [PyData.depth, PyData.shown]
    exact ReprK.dict h1 h2 h3 h4 h7 h8
  | _ =>
    cases h with
    | pl h => exact DpX.reprK I _ _ _ h r hs hz
theorem RpZ.reads {v : V} {d : PyData} {u : Value} (I : Inv X pins σ H s) (h : RpZ X.prog X.w X.K H v d) (r : RelV v u) (hs : d.showable = true) (hz : d.shown.length ≤ sizeLine) : ∃ as, Reads s.heap u d as := by
  cases d with
  | dict kvs =>
    obtain ⟨a, o, es, n, as, bs, rfl, h1, h2, h3, h4, h5, _⟩ := h.dict_obj I hs hz
    cases r
    exact ⟨as, h5⟩
  | _ =>
    cases h with
    | pl h => exact DpX.reads I _ _ _ h r
end
def rRepZ (P : Program) (w : World) (K : PySem.W.Frag) : List V → Hp → VK → Prop := fun xs H Q => ∃ (x : V) (d : PyData), xs = [x] ∧ RpZ P w K H x d ∧ d.showable = true ∧ d.depth ≤ 20 ∧ d.shown.length ≤ sizeLine ∧ Q (.str d.shown) H
section
variable {X : Cx}
theorem call_reprZ (hgu : X.A.guards = some []) (hu : X.A.units + 64 < cLine) : CallR X (.builtin "repr") (rRepZ X.prog X.w X.K) := by
  intro pins s σ H xs us Q I r h
  obtain ⟨x, d, rfl, hd, hs, hdep, hz, q⟩ := h
  cases d with
  | dict kvs =>
    obtain ⟨a, o, es, n, as, bs, rfl, h1, h2, h3, h4, h5, h6, h7, h8⟩ := hd.dict_obj I hs hz
    cases r with
    | cons r1 r2 =>
      cases r2
      cases r1
      simp only [PyData.depth] at hdep
      simp only [PyData.shown] at q hz
      refine call_repr_slot (T := "dict") (by omega) ⟨o, h1, h2⟩ PySem.F.slot_dict_repr ?_
      exact call_dict_reprK h1 h2 h3 h4 h7 h8 (A := X.A.in1) hgu (fun b _ => Clear.nil b) (by show X.A.units + 1 + _ < cLine; omega) (fun _ _ z => z) (fun h' u tk keep => ⟨_, _, rfl, .str _, H, I.kept (t' := tk) keep, ⟨_, rfl⟩, q⟩) hz
  | _ =>
    cases hd with
    | pl hd => exact call_repX hgu hu pins s σ H _ us Q I r ⟨x, _, rfl, hd, hs, hdep, hz, q⟩
/-- repr of a list of two such data -/
def rRep2 (P : Program) (w : World) (K : PySem.W.Frag) : List V → Hp → VK → Prop := fun xs H Q => ∃ (l : Addr) (v1 v2 : V) (d1 d2 : PyData), xs = [.ref l] ∧ H l = some (.lst [v1, v2]) ∧ RpZ P w K H v1 d1 ∧ RpZ P w K H v2 d2 ∧ PyData.showable (.list [d1, d2]) = true ∧ PyData.depth (.list [d1, d2]) ≤ 20 ∧ (PyData.shown (.list [d1, d2])).length ≤ sizeLine ∧ Q (.str (PyData.shown (.list [d1, d2]))) H
theorem call_repr2 (hgu : X.A.guards = some []) (hu : X.A.units + 64 < cLine) : CallR X (.builtin "repr") (rRep2 X.prog X.w X.K) := by
  intro pins s σ H xs us Q I r h
  obtain ⟨l, v1, v2, d1, d2, rfl, hl, z1, z2, hs, hdep, hz, q⟩ := h
  cases r with
  | cons r1 r2 =>
    cases r2
    cases r1
    obtain ⟨its, rv, ⟨o, n, ho, hc, _, hdd⟩, _⟩ := I.list (SqL.of (K := X.K) hl)
    obtain ⟨u1, u2, rfl, w1, w2⟩ := vals2 rv
    have hz' : (listText (PyData.shownAll [d1, d2])).length ≤ sizeLine := by simpa only [PyData.shown] using hz
    have hs' : d1.showable = true ∧ d2.showable = true := by simpa [PyData.showable, PyData.showableAll] using hs
    have m1 : d1.shown.length ≤ sizeLine := Nat.le_trans (listText_mem_le (by simp only [PyData.shownAll]; exact List.mem_cons_self)) hz'
    have m2 : d2.shown.length ≤ sizeLine := Nat.le_trans (listText_mem_le (by simp only [PyData.shownAll]; exact List.mem_cons_of_mem _ List.mem_cons_self)) hz'
    obtain ⟨b1, hb1, k1⟩ := z1.reprK I w1 hs'.1 m1
    obtain ⟨b2, hb2, k2⟩ := z2.reprK I w2 hs'.2 m2
    obtain ⟨a1, q1⟩ := z1.reads I w1 hs'.1 m1
    obtain ⟨a2, q2⟩ := z2.reads I w2 hs'.2 m2
    have rr : Reads s.heap (.ref l) (.list [d1, d2]) _ := .list ho hc hdd (.cons q1 (.cons q2 .nil))
    have hb : ReadAtMost s.heap (PyData.depthAll [d1, d2]) (b1 ++ b2) := (hb1.mono (by simp only [PyData.depthAll]; omega)).append (hb2.mono (by simp only [PyData.depthAll]; omega))
    have hna : l ∉ b1 ++ b2 := not_mem_of_deeper rr (by simp only [PyData.depth]; omega) hb
    have hk : ReprAllK X.prog X.w (b1 ++ b2) s.heap (PyData.depthAll [d1, d2]) [u1, u2] (PyData.shownAll [d1, d2]) := by
      simp only [PyData.shownAll]
      exact .cons ((k1.more fun b hb => List.mem_append_left _ hb).level_le (by simp only [PyData.depthAll]; omega)) (.cons ((k2.more fun b hb => List.mem_append_right _ hb).level_le (by simp only [PyData.depthAll]; omega)) .nil)
    simp only [PyData.depth] at hdep
    simp only [PyData.shown] at q
    refine call_repr_slot (T := "list") (by omega) ⟨o, ho, hc⟩ PySem.F.slot_list_repr.toG ?_
    exact call_list_reprK ho hc hdd hna (by simpa using hk.length_eq) (fun i y e => hk.item i y (by simpa using e)) (A := X.A.in1) hgu (fun b _ => Clear.nil b) (by show X.A.units + 1 + _ < cLine; omega) (fun _ _ z => z) (fun h' u tk keep => ⟨_, _, rfl, .str _, H, I.kept (t' := tk) keep, ⟨_, rfl⟩, q⟩) hz'
/-- isinstance(x, dict) where x is {None: t} -/
def rIsN (P : Program) (w : World) : List V → Hp → VK → Prop := fun xs H Q => ∃ (d t : Addr), xs = [.ref d, .ty "dict"] ∧ H d = some (nonO P w d t) ∧ Q (.bl true) H
theorem call_isN : CallR X (.builtin "isinstance") (rIsN X.prog X.w) := by
  intro pins s σ H xs us Q I r h
  obtain ⟨d, t, rfl, hd, q⟩ := h
  obtain ⟨u1, u2, rfl, r1, r2⟩ := vals2 r
  cases (show u1 = Value.ref d from r1)
  have e2 := (ClsV.ty "dict").eq r2
  subst e2
  obtain ⟨⟨hsys, o, es, ep, h1, h2, _⟩, _⟩ := I.hok d _ hd
  have e : PySem.W.kitOne X.K (.type "dict") (.type "dict") = some true := kit_ty (show kitB "dict" "dict" = some true by decide +kernel)
  exact PySem.W.kia_one PySem.W.kitx_dict I.kIn ⟨o, h1, h2.1⟩ e (fun z => nomatch z) fun tk => ⟨.bl true, H, I.tok tk, rfl, q⟩
end
end SE
/-! The dict {None: t}: its display, its items. -/
namespace SE
open PySem PySem.Spec PyProof.Rows L2
def tNonD (P : Program) (w : World) (tk tv : TE) : TE := fun σ H Q => ∀ p, H p = none → tPairs [(tk, tv)] σ (upd H p (.dK [])) fun ps H2 => H2 p = some (.dK []) ∧ ∃ t : Addr, ps = [(.non, .ref t)] ∧ Q (.ref p) (upd H2 p (nonO P w p t))
theorem leaf_nil {P : Program} {w : World} {h : Heap} {a : Addr} (m : h.DictOf (mixKind P w) a []) : h.DictOf (leafKind P w) a [] := by
  obtain ⟨o, es, ep, h1, h2, h3, h4, h5, h6⟩ := m
  have e : es.toList = [] := by
    generalize es.toList = l at h5
    cases h5
    rfl
  refine ⟨o, es, ep, h1, h2, h3, fun x mx => ?_, by rw [e]; exact .nil, List.nodup_nil⟩
  have : x ∈ es.toList := Array.mem_toList_iff.mpr mx
  rw [e] at this
  cases this
theorem pe_nonD {X : Cx} {pos : Pos} {k v : Expr} {tk tv : TE} (h : PPs X pos [some k] [v] [(tk, tv)]) : PE X (.Dict [some k] [v] pos) (tNonD X.prog X.w tk tv) := by
  refine ⟨fun pins s σ H Q I q => ?_⟩
  have new := I.hok.fresh (Nat.le_refl s.heap.objs.size)
  have J := I.laid (a := s.heap.objs.size) (o := .dK []) (h' := s.heap.push { cls := .type "dict", data := .dict #[] }) (t' := s.toks) (fun _ _ z => Heap.get?_push_of_some _ z) (Nat.le_refl _) (dk_empty s.heap I.big)
  refine wpAny_Dict_walk (knd := leafKind X.prog X.w) rfl rfl (by simp) (by show 1 ≤ 15; decide) (thn (h.run pins _ σ _ _ J (q _ new)) fun ws s2 ⟨ps, H2, J2, rel, e, t, ep, q2⟩ => ?_)
  subst ep
  obtain ⟨_, hsys, vs0, r0, dd⟩ := dk_of J2.hok e
  cases r0
  cases rel with
  | @cons _ q0 _ _ c r =>
    cases r
    obtain ⟨k0, v0⟩ := q0
    obtain ⟨c1, c2⟩ := c
    cases (show k0 = Value.none from c1)
    cases (show v0 = Value.ref t from c2)
    refine ⟨[(Leaf.none, .ref t)], ⟨rfl, rfl, True.intro⟩, leaf_nil dd, fun h' d2 sb => ⟨.ref s.heap.objs.size, _, ?_, rfl, q2⟩⟩
    have there : ∃ ob, h'.get? s.heap.objs.size = some ob := let ⟨ob, _, _, z, _⟩ := d2; ⟨ob, z⟩
    exact d_write J2 (by rw [e]; exact True.intro) sb there (nonO_ok hsys d2)
/-! ### for k, v in {None: t}.items() -/
def ItN (P : Program) (w : World) (d : Addr) (o : Obj) (t : Addr) : It :=
  ⟨fun i H => H d = some (.frz o (nonO P w d t)) ∧ i < 1, fun i H x H' => ∃ T, x = .ref T ∧ H T = none ∧ H' = upd H T (.tup [.non, .ref t]), fun i H => H d = some (.frz o (nonO P w d t)) ∧ 1 ≤ i⟩
theorem walk_N {P : Program} {w : World} {d : Addr} {o : Obj} {t : Addr} : Walk (ItN P w d o t) 1 (fun H => H d = some (.frz o (nonO P w d t))) (fun i H x H' => ∃ T, x = .ref T ∧ H T = none ∧ H' = upd H T (.tup [.non, .ref t])) :=
  ⟨fun i _ hi q => ⟨q, hi⟩, fun _ q => ⟨q, Nat.le_refl _⟩, fun _ _ _ _ _ q y => y⟩
section
variable {X : Cx} {pins : List (Addr × Obj)} {σ : L2.St} {H : Hp} {s : Shared} {d t : Addr} {o : Obj}
theorem frzN (I : Inv X pins σ H s) (h : H d = some (.frz o (nonO X.prog X.w d t))) : (d == sysModules) = false ∧ ∃ (es : Array DictEntry) (ep : Nat), o.data = .dict es ep ∧ s.heap.DictAt (leafKind X.prog X.w) d [(Leaf.none, .ref t)] ep := by
  obtain ⟨hd, ⟨hs, o', es, ep, ho, hx, hdt, r⟩, _⟩ := I.hok d _ h
  rw [hd] at ho
  cases ho
  exact ⟨hs, es, ep, hdt, o, es, hd, hx, hdt, r⟩
end
section
variable {P : Program} {w : World} {K : PySem.W.Frag} {d t : Addr} {o : Obj} {es : Array DictEntry} {ep : Nat}
theorem turn_N {elts : List Expr} {kk : Nat} {tpos : Pos} (it : Addr) (hod : o.data = .dict es ep) : Turn P w K (.Tuple elts kk tpos) (ItN P w d o t) [it] it (fun i h => ∃ ok ov, IsItemIter h it d i 1 ep ok ov) where
  mem := by simp
  obj := fun i h st b hb => by
    obtain rfl : b = it := by simpa using hb
    obtain ⟨ok, ov, e⟩ := st
    exact ⟨_, e, fun v z => nomatch z⟩
  keep := fun i h h' st k => let ⟨ok, ov, e⟩ := st; ⟨ok, ov, k it (by simp) _ e⟩
  item := by
    intro X hP hw hK hc i pins s σ H E I hf st hg
    subst hP hw hK
    obtain ⟨hd, hi⟩ := hg
    obtain ⟨hs, es2, ep2, hdt, hm⟩ := frzN I hd
    obtain ⟨rfl, rfl⟩ := dict_ep hod hdt
    obtain rfl : i = 0 := by omega
    obtain ⟨ok, ov, he⟩ := st
    have lt : it < s.heap.objs.size := Heap.lt_size he
    refine wpAny_pyNext_items_item (kvs := [(Leaf.none, .ref t)]) he hm (k := Leaf.none) (v := .ref t) rfl fun key h' hkey ho hT hz hk => ?_
    refine ⟨_, rfl, wpAny_letOwnedTupleGo_items (s := { s with heap := h' }) ho fun h2 he2 sb => ?_⟩
    have T2 : h2.get? s.heap.objs.size = some { cls := .type "tuple", data := .seq #[key, .ref t] } := (sb.2 _ (Nat.ne_of_gt lt)).trans hT
    have ek : RelV .non key := by
      have q : Leaf.isOf .none key = true := hkey
      cases z : key with
      | none => rfl
      | _ => rw [z] at q; exact absurd q Bool.false_ne_true
    have nw : ObjOk X.prog X.w (upd H s.heap.objs.size (.tup [.non, .ref t])) h2 s.heap.objs.size (.tup [.non, .ref t]) :=
      ⟨by show 2 ≤ sizeLine; decide, [key, .ref t], .cons ek (.cons rfl .nil), ⟨_, T2, rfl, _, rfl⟩⟩
    have J : Inv X pins σ (upd H s.heap.objs.size (.tup [.non, .ref t])) { s with heap := h2 } :=
      I.turnedNew (t' := s.toks) (ch := [it]) (fun b ob hb e => (sb.2 b (by simpa using hb)).trans (hk b ob (by simpa using hb) e)) hf (Nat.le_refl _) nw
    refine ⟨.ref s.heap.objs.size, _, J, rfl, ⟨_, rfl, I.hok.fresh (Nat.le_refl _), rfl⟩, ⟨key, .ref t, he2⟩, fun b hb => ?_⟩
    obtain rfl : b = it := by simpa using hb
    rw [upd_ne (Nat.ne_of_lt lt)]
    exact (hf b (by simp)).1
  done := by
    intro X hP hw hK hc i pins s σ H E I hf st hg
    subst hP hw hK
    obtain ⟨hd, hi⟩ := hg
    obtain ⟨f0, f1, f2, f3, f4, f5⟩ := hf it (by simp)
    obtain ⟨hs, es2, ep2, hdt, hm⟩ := frzN I hd
    obtain ⟨rfl, rfl⟩ := dict_ep hod hdt
    obtain ⟨ok, ov, he⟩ := st
    exact wpAny_pyNext_items_end (kvs := [(Leaf.none, .ref t)]) (I.ok.hd hc) he hm (List.getElem?_eq_none hi) fun h' eb => ⟨rfl, I.turned (t' := s.toks) (fun b ob hb e => eb b ob hb e) f0 f1 f3 f4 f5⟩
  self := fun A i s Q E st h => let ⟨_, _, e⟩ := st; PySem.W.kcp_self e h
end
def iItemsN (P : Program) (w : World) (td : TE) : TI := fun σ H R => td σ H fun x H1 => ∃ d o t, x = .ref d ∧ H1 d = some (.frz o (nonO P w d t)) ∧ R (ItN P w d o t) H1
theorem pi_itemsN {X : Cx} {e : Expr} {td : TE} {apos cpos tpos : Pos} {elts : List Expr} {kk : Nat} (he : PE X e td) (hbase : attributeBase e "items" X.env (eval e X.env) = eval e X.env := by rfl) (hline : (apos.endLine == cpos.line) = true := by rfl) :
    PI X (.Tuple elts kk tpos) (.Call (.Attribute e "items" apos) [] [] cpos) (iItemsN X.prog X.w td) := by
  refine ⟨fun pins s σ H R I h => ?_⟩
  refine wpAny_Call_method (T := "dict") (id := "dict.items") hbase rfl hline PySem.F.plainAttrs_dict PySem.F.slot_dict_items PySem.F.type_dict_items (thn (he.run pins s σ H _ I h) fun u s1 ⟨x, H1, I1, rx, d, o, t, ex, hd, q⟩ => ?_)
  subst ex
  obtain rfl : u = Value.ref d := rx
  obtain ⟨hs, es, ep, hdt, hm⟩ := frzN I1 hd
  refine ⟨hm.dictOf.typeIs, hm.dictOf.mapOf.noDict, ?_⟩
  have J : Inv X pins σ H1 { s1 with heap := s1.heap.push { cls := .type "dict_items", data := .fields #[.ref d] } } := I1.kept (t' := s1.toks) fun b ob z => Heap.get?_push_of_some _ z
  have fin : wpAny (model X.prog X.w) X.A (pyIter (.ref s1.heap.objs.size)) (PIE X pins σ (.Tuple elts kk tpos) R) X.xe { s1 with heap := s1.heap.push { cls := .type "dict_items", data := .fields #[.ref d] } } := by
    refine wpAny_pyIter_items (d := d) (knd := leafKind X.prog X.w) ⟨_, Heap.get?_push_size _ rfl, rfl, rfl⟩ (hm.push _) (pi_one (tk := s1.toks) J _ (turn_N _ hdt) ⟨.none, .none, ?_⟩ q)
    exact Heap.get?_push_size _ rfl
  show wpAny _ _ (callWith cpos (.builtin "dict.items") [.ref d] [] []) _ X.xe s1
  exact method_meetsIn PySem.F.slot_dict_items PySem.F.entry_dict_items rfl (PySem.evalArgs_none ⟨rfl, hm.dictOf.typeIs, PySem.F.args_dict_items_1 _, _, meets_dict_items (leafKind X.prog X.w) d hs, ⟨_, hm.dictOf⟩, fin⟩)
end SE
/-! Dicts that do not change, whatever their keys and values: repr, len, isinstance, items. -/
namespace SE
open PySem PySem.Spec PyProof.Rows L2
/-- a dict at d with these entries, for good -/
def rawO (P : Program) (w : World) (d : Addr) (es : Array DictEntry) (ep : Nat) (ks vs : List V) : HO := .ext fun h => (d == sysModules) = false ∧ (∃ o, h.get? d = some o ∧ o.ExactDict ∧ o.data = .dict es ep) ∧ Vals ks (es.toList.map (·.key)) ∧ Vals vs (es.toList.map (·.val)) ∧ es.size ≤ 1000
/-- a dict that does not change: its keys, its values -/
def FixV (P : Program) (w : World) (H : Hp) (d : Addr) (ks vs : List V) : Prop := (∃ od kvs, H d = some (.frz od (.dK kvs)) ∧ ks = kvs.map (fun kv => kV kv.1) ∧ vs = kvs.map (·.2)) ∨ ∃ es ep, H d = some (rawO P w d es ep ks vs)
theorem FixV.same {P : Program} {w : World} {H H' : Hp} {d : Addr} {ks vs : List V} (h : FixV P w H d ks vs) (s : Same H H') : FixV P w H' d ks vs := by
  rcases h with ⟨od, kvs, h, e⟩ | ⟨es, ep, h⟩
  · exact .inl ⟨od, kvs, s _ _ h, e⟩
  · exact .inr ⟨es, ep, s _ _ h⟩
theorem FixV.dct {P : Program} {w : World} {H : Hp} {d : Addr} {ks vs : List V} (h : FixV P w H d ks vs) : ∃ x, H d = some x ∧ IsDct d x := by
  rcases h with ⟨od, kvs, h, _⟩ | ⟨es, ep, h⟩
  · exact ⟨_, h, .inl ⟨od, kvs, rfl⟩⟩
  · exact ⟨_, h, .inr ⟨_, rfl, fun hp q => let ⟨_, ⟨o, h1, h2, _⟩, _⟩ := q; ⟨o, h1, h2.1⟩⟩⟩
section
variable {X : Cx} {pins : List (Addr × Obj)} {σ : L2.St} {H : Hp} {s : Shared} {d : Addr} {ks vs : List V}
/-- its object, wherever the heap goes -/
theorem FixV.get (I : Inv X pins σ H s) (h : FixV X.prog X.w H d ks vs) : (d == sysModules) = false ∧ ∃ es ep, es.size ≤ sizeLine ∧ ks.length = es.size ∧ vs.length = es.size ∧ Vals ks (es.toList.map (·.key)) ∧ Vals vs (es.toList.map (·.val)) ∧
    ∀ {pins' : List (Addr × Obj)} {σ' : L2.St} {H' : Hp} {s' : Shared}, Same H H' → Inv X pins' σ' H' s' → ∃ o, s'.heap.get? d = some o ∧ o.ExactDict ∧ o.data = .dict es ep := by
  rcases h with ⟨od, kvs, h, rfl, rfl⟩ | ⟨es, ep, h⟩
  · obtain ⟨hd, z, hsys, vs, rel, o, es, ep, h1, h2, h3, h4, h5, h6⟩ := I.hok d _ h
    rw [hd] at h1
    cases h1
    obtain ⟨v1, v2⟩ := vals_kv rel h5
    have l1 := v1.length
    simp only [List.length_map, Array.length_toList] at l1
    refine ⟨hsys, es, ep, by omega, by rw [List.length_map]; exact l1, by rw [List.length_map]; exact l1, v1, v2, fun s1 I1 => ?_⟩
    obtain ⟨hd1, _⟩ := I1.hok d _ (s1 _ _ h)
    exact ⟨od, hd1, h2, h3⟩
  · obtain ⟨⟨hsys, ⟨o, h1, h2, h3⟩, v1, v2, hz⟩, _⟩ := I.hok d _ h
    have l1 := v1.length
    have l2 := v2.length
    rw [List.length_map, Array.length_toList] at l1 l2
    refine ⟨hsys, es, ep, by rw [sizeLine_eq]; omega, l1, l2, v1, v2, fun s1 I1 => ?_⟩
    obtain ⟨⟨_, q, _⟩, _⟩ := I1.hok d _ (s1 _ _ h)
    exact q
theorem drep_depth {A : Around} {args : Args} : (A.under (.builtin "dict.__repr__" args)).depth ≤ A.depth + 1 := by
  simp [Around.under, Code.weight, Code.isCreation, Code.isGuard, Code.isCaller, Code.frames, Code.isFrame, guardIds]
theorem RoomQ.drep {k : Nat} {A : Around} (r : RoomQ X (k + 1) A) (args : Args) : RoomQ X k (A.under (.builtin "dict.__repr__" args)) :=
  ⟨⟨by have := r.rm.dp; have := drep_depth (A := A) (args := args); omega, by have := r.un; rw [units_under_dict_repr]; omega⟩, r.hh⟩
theorem Env0.drep {P : Program} {w : World} {K : PySem.W.Frag} {mg : Str → Option Value} {base : Heap} {A : Around} {outer : List Env} {s : Shared} {H : Hp} (e : Env0 P w K mg base A outer s H) (args : Args) :
    Env0 P w K mg base (A.under (.builtin "dict.__repr__" args)) outer s H := ⟨by first | exact e.frames | (simpa [Around.under, Code.envs, Code.isFrame, pushEnvs] using e.frames), e.mod, e.bs, e.bsz, e.funs, e.frf, e.hok, e.bare⟩
/-- data without lists, while the repr of a dict that does not change is under way -/
theorem ruq_dpD {v : V} {d0 : PyData} {n : Nat} {g : List Code} {L : Addr} {x : HO} {args : List Value} (hL : H L = some x) (hx : IsDct L x) (hD : ∀ H', Same H H' → Dp X.K H' v d0) (hs : d0.showable = true) (hn : noLst d0 = true) (hdep : d0.depth ≤ 20) (hg0 : g = [.builtin "dict.__repr__" ⟨.ref L :: args, []⟩]) : RUQ X g n v d0.shown H := by
  constructor
  intro A pins σ H' s u b E Q hg hr he sm I r hb k
  obtain ⟨as, rd⟩ := Dp.reads I d0 v u (hD H' sm) r
  obtain ⟨bs, _, ht, hk⟩ := reprK_t (prog := X.prog) (w := X.w) rd hs hn (by omega)
  have un := hr.un
  refine hk b hb A g E s Q hg (fun c hc => ?_) (by omega) (fun _ _ z => z) (fun h' tk keep => k H' _ (fun _ _ z => z) (I.kept (t' := tk) keep))
  obtain ⟨o, ho, oc⟩ := ht c hc
  intro id v rest kw hm
  rw [hg0] at hm
  cases List.mem_singleton.mp hm
  intro e
  cases e
  obtain ⟨o2, ho2, hc2⟩ := hx.get I (sm _ _ hL)
  rw [ho] at ho2
  cases ho2
  rw [oc] at hc2
  simp at hc2
end
def pairT (t : Str × Str) : Str := t.1 ++ (": " : Str) ++ t.2
/-- repr of a dict that does not change -/
def rRepD (X : Cx) (n : Nat) : List V → Hp → VK → Prop := fun xs H Q => ∃ (d : Addr) (ks vs : List V) (ts : List (Str × Str)), xs = [.ref d] ∧ FixV X.prog X.w H d ks vs ∧ ks.length = ts.length ∧ (dictText (ts.map pairT)).length ≤ sizeLine ∧
  (∀ (i : Nat) (k v : V), ks[i]? = some k → vs[i]? = some v → ∃ t, ts[i]? = some t ∧ RUQ X [.builtin "dict.__repr__" ⟨[.ref d], []⟩] n k t.1 H ∧ RUQ X [.builtin "dict.__repr__" ⟨[.ref d], []⟩] n v t.2 H) ∧ ∀ H', Same H H' → Q (.str (dictText (ts.map pairT))) H'
theorem call_repD {X : Cx} {n : Nat} (hgu : X.A.guards = some []) (hr : RoomQ X (n + 3) X.A) : CallR X (.builtin "repr") (rRepD X n) := by
  intro pins s σ H xs us Q I r h
  obtain ⟨a, ks, vs, ts, rfl, hF, hlen, hsz, hT, k⟩ := h
  obtain ⟨ua, rfl, ra⟩ := vals1 r
  cases ra
  obtain ⟨hsys, es, ep, hz, lk, lv, v1, v2, at_⟩ := hF.get I
  obtain ⟨o, ho, hx, hdat⟩ := at_ (Same.refl H) I
  have hu := hr.units
  generalize hps : ts.map pairT = ps at hsz k
  have lps : ps.length = es.size := by rw [← hps, List.length_map, ← hlen, lk]
  have hp3 := piled_le_dictText ps
  have hTy : s.TypeIs (.ref a) "dict" := ⟨o, ho, hx.1⟩
  refine call_repr_slot (T := "dict") (by omega) hTy PySem.F.slot_dict_repr ?_
  refine wpAny_call (codeAny_call_builtin_own (Code.quiet_builtin _ (by decide +kernel)) PySem.F.entry_dict_repr (PySem.F.slot_dict_repr.check _ _ _ _ _ _ _ _ hTy (PySem.F.args_dict_repr_1 _) ?_))
  show wpOwn _ _ _ (Builtin.dictReprAt 0 ⟨[.ref a], []⟩) _ _ s
  unfold Builtin.dictReprAt
  refine wpOwn_bind (wpOwn_of_wpAny ?_)
  unfold Builtin.Dict.dictSlotNone
  refine wpAny_bind (wpAny_notOrdered_dict hTy ?_)
  show wpAny _ _ (pure (Value.ref a)) _ _ s
  refine wpAny_pure ?_
  rw [dictReprRunning_eq]
  have hg1 : X.A.in1.guards = some [] := hgu
  refine wpOwn_bind (wpOwn_stackTailAny hg1 (dictGuardF_off _) (dictGuardF_pos _) ?_)
  show wpOwn _ _ _ _ _ _ s
  refine wpOwn_of_wpAny ?_
  have hg' := guards_under_guard (isGuard_dict_repr ⟨[.ref a], []⟩) hg1
  have hr' := RoomQ.drep (RoomQ.in1 (hr.mono (show n + 2 ≤ n + 3 by omega))) ⟨[.ref a], []⟩
  have he' : EnvTo X (X.A.in1.under (.builtin "dict.__repr__" ⟨[.ref a], []⟩)) := fun s' H' e => Env0.drep e.in1 _
  show wpAny _ _ (Builtin.Dict.addrOf (.ref a) >>= _) _ _ s
  refine wpAny_bind (wpAny_pure ?_)
  show wpAny _ _ (Builtin.Dict.showsAll a >>= _) _ _ s
  unfold Builtin.Dict.showsAll
  rw [if_neg (by rw [hsys]; exact Bool.false_ne_true)]
  refine wpAny_bind (wpAny_pure ?_)
  refine wpAny_bind (wpAny_dictEpoch ho hdat ?_)
  refine wpAny_bind (wpAny_dictEntries ho hdat ?_)
  refine wpAny_bind ?_
  rw [Std.Legacy.Range.forIn_eq_forIn_range']
  simp only [Std.Legacy.Range.size, Nat.sub_zero, Nat.add_sub_cancel, Nat.div_one]
  refine wpAny_forIn_list _
    (fun rest' r s' => ∃ i H', rest' = List.range' i (es.size - i) ∧ i ≤ es.size ∧ r = (⟨(ps.take i).toArray, 0 + piled (ps.take i)⟩ : (Array Str × Nat)) ∧ Same H H' ∧ Inv X pins σ H' s')
    _ ?_ ?_ _ _ ⟨0, H, by simp, Nat.zero_le _, by simp [piled], Same.refl H, I⟩
  · rintro x rest' _ s' ⟨i, H', hr2, hi, rfl, sm, I'⟩
    have hlt : i < es.size := by
      rcases Nat.lt_or_ge i es.size with h | h
      · exact h
      · rw [Nat.sub_eq_zero_of_le h] at hr2; simp at hr2
    obtain ⟨rfl, hrest⟩ : x = i ∧ rest' = List.range' (i + 1) (es.size - (i + 1)) := by
      have e : es.size - i = (es.size - (i + 1)) + 1 := by omega
      rw [e, List.range'_succ] at hr2
      injection hr2 with h1 h2
      exact ⟨h1, h2⟩
    obtain ⟨t, ht, rk, rv⟩ := hT x ks[x] vs[x] (List.getElem?_eq_getElem (by omega)) (List.getElem?_eq_getElem (by omega))
    have hp : ps[x]? = some (pairT t) := by rw [← hps, List.getElem?_map, ht]; rfl
    have hpl : (pairT t).length = t.1.length + 2 + t.2.length := by
      unfold pairT
      rw [strLen_append, strLen_append]; rfl
    have hp1 := piled_take_succ hp
    have hp2 := piled_take_le ps (x + 1)
    rw [hpl] at hp1
    obtain ⟨uk, huk, ruk⟩ := v1.get (i := x) (x := ks[x]) (List.getElem?_eq_getElem (by omega))
    obtain ⟨uv, huv, ruv⟩ := v2.get (i := x) (x := vs[x]) (List.getElem?_eq_getElem (by omega))
    have ek : es[x].key = uk := by
      rw [List.getElem?_map, Array.getElem?_toList, Array.getElem?_eq_getElem hlt] at huk
      exact Option.some.inj huk
    have ev : es[x].val = uv := by
      rw [List.getElem?_map, Array.getElem?_toList, Array.getElem?_eq_getElem hlt] at huv
      exact Option.some.inj huv
    rw [← ek] at ruk
    rw [← ev] at ruv
    obtain ⟨o1, ho1, hx1, hd1⟩ := at_ sm I'
    refine wpAny_bind (wpAny_dictEntries ho1 hd1 ?_)
    rw [Array.getElem?_eq_getElem hlt]
    refine wpAny_bind (wpAny_holding (wpAny_bind (rk.run (b := 0 + piled (ps.take x) + 1) hg' hr' he' sm I' ruk (by omega) fun H1 s1 c1 I1 =>
      wpAny_bind (rv.run (b := 0 + piled (ps.take x) + (t.1.length + 3)) hg' hr' he' (Same.trans sm c1) I1 ruv (by omega) fun H2 s2 c2 I2 => wpAny_pure ?_))))
    have sm2 := Same.trans (Same.trans sm c1) c2
    obtain ⟨o2, ho2, hx2, hd2⟩ := at_ sm2 I2
    refine wpAny_bind (wpAny_dictEpoch ho2 hd2 ?_)
    rw [if_neg (by simp)]
    have e1 : (ps.take x).toArray.push (pairT t) = (ps.take (x + 1)).toArray := by
      rw [List.take_add_one, hp]
      simp
    have e2 : 0 + piled (ps.take x) + (t.1.length + t.2.length + 4) = 0 + piled (ps.take (x + 1)) := by omega
    refine wpAny_pure ⟨x + 1, H2, hrest, hlt, ?_, sm2, I2⟩
    show ((ps.take x).toArray.push (pairT t), _) = _
    rw [e1, e2]
  · rintro _ s' ⟨i, H', hr2, hi, rfl, sm, I'⟩
    have hin : i = es.size := by
      rcases Nat.lt_or_ge i es.size with h | h
      · have e : es.size - i = (es.size - (i + 1)) + 1 := by omega
        rw [e, List.range'_succ] at hr2; exact nomatch hr2
      · exact Nat.le_antisymm hi h
    rw [hin, ← lps, List.take_length]
    refine wpAny_bind (wpAny_mkStr (wpAny_pure ?_) (by simpa [dictText] using hsz))
    refine ⟨_, _, rfl, .str _, H', I'.tok _, ⟨_, rfl⟩, ?_⟩
    have h1 := k H' sm
    simpa [dictText] using h1
/-! ### len, isinstance, items -/
theorem FixV.raw {X : Cx} {pins : List (Addr × Obj)} {σ : L2.St} {H : Hp} {s : Shared} {d : Addr} {ks vs : List V} (I : Inv X pins σ H s) (h : FixV X.prog X.w H d ks vs) : (d == sysModules) = false ∧ ∃ es ep, es.size ≤ sizeLine ∧ ks.length = es.size ∧ vs.length = es.size ∧ Vals ks (es.toList.map (·.key)) ∧ Vals vs (es.toList.map (·.val)) ∧
    ∀ {pins' : List (Addr × Obj)} {σ' : L2.St} {H' : Hp} {s' : Shared}, Same H H' → Inv X pins' σ' H' s' → s'.heap.DictRaw d es ep := by
  obtain ⟨h1, es, ep, h2, h3, h4, h5, h6, h7⟩ := h.get I
  exact ⟨h1, es, ep, h2, h3, h4, h5, h6, fun s1 I1 => h7 s1 I1⟩
def rLenF (P : Program) (w : World) : List V → Hp → VK → Prop := fun xs H Q => ∃ (d : Addr) (ks vs : List V), xs = [.ref d] ∧ FixV P w H d ks vs ∧ Q (.int ks.length) H
theorem len_raw {prog : Program} {w : World} {A : Around} {E : Value → Shared → Prop} {s : Shared} {d : Addr} {es : Array DictEntry} {ep : Nat} {Q : Value → Shared → Prop} (hd : (d == sysModules) = false) (hm : s.heap.DictRaw d es ep) (hfit : (es.size : Int) < 2 ^ 63)
    (h : Q (.int es.size (s.toks + 1)) { s with toks := s.toks + 1 + 1 }) : wpAny (model prog w) A (call (.builtin "len") [.ref d]) Q E s := by
  refine PySem.Calls.call_function_entry PySem.kind_len PySem.plain_len PySem.entry_len (PySem.args_len1 _) ?_
  unfold Builtin.«len»
  refine wpAny_bind (m := oneArg "len" _) (wpAny_pure ?_)
  refine wpAny_bind (m := callSpecial? (.ref d) (Str.ofString "__len__")) (wpAny_callSpecial?_slot (name := Str.ofString "__len__") hm.typeIs PySem.F.slot_dict_len
    (call_len_raw hd hm ?_))
  show wpAny _ _ _ _ _ { s with toks := s.toks + 1 }
  refine wpAny_bind (wpAny_holding (wpAny_pure ?_))
  refine wpAny_bind (wpAny_letGo ?_)
  show wpAny _ _ (if ((es.size : Nat) : Int) < 0 then _ else _) _ _ _
  rw [if_neg (by omega)]
  show wpAny _ _ (if ((es.size : Nat) : Int) ≥ 2 ^ 63 then _ else _) _ _ _
  rw [if_neg (by omega)]
  exact wpAny_bind (wpAny_mkInt (wpAny_pure ⟨_, rfl, h⟩))
theorem call_lenF {X : Cx} : CallR X (.builtin "len") (rLenF X.prog X.w) := by
  intro pins s σ H xs us Q I r h
  obtain ⟨d, ks, vs, rfl, hF, q⟩ := h
  obtain ⟨ua, rfl, ra⟩ := vals1 r
  cases ra
  obtain ⟨hs, es, ep, hz, lk, _, _, _, hm⟩ := hF.raw I
  rw [sizeLine_eq] at hz
  refine len_raw hs (hm (Same.refl H) I) (by omega) ?_
  rw [← lk]
  exact ⟨.int ks.length, H, I.tok (s.toks + 1 + 1), ⟨_, rfl⟩, q⟩
/-- isinstance(x, dict) -/
def rIsF (P : Program) (w : World) : List V → Hp → VK → Prop := fun xs H Q => ∃ (d : Addr) (ks vs : List V), xs = [.ref d, .ty "dict"] ∧ FixV P w H d ks vs ∧ Q (.bl true) H
theorem call_isF {X : Cx} : CallR X (.builtin "isinstance") (rIsF X.prog X.w) := by
  intro pins s σ H xs us Q I r h
  obtain ⟨d, ks, vs, rfl, hF, q⟩ := h
  obtain ⟨u1, u2, rfl, r1, r2⟩ := vals2 r
  cases (show u1 = Value.ref d from r1)
  have e2 := (ClsV.ty "dict").eq r2
  subst e2
  obtain ⟨_, es, ep, _, _, _, _, _, hm⟩ := hF.raw I
  obtain ⟨o, h1, h2, _⟩ := hm (Same.refl H) I
  have e : PySem.W.kitOne X.K (.type "dict") (.type "dict") = some true := kit_ty (show kitB "dict" "dict" = some true by decide +kernel)
  exact PySem.W.kia_one PySem.W.kitx_dict I.kIn ⟨o, h1, h2.1⟩ e (fun z => nomatch z) fun tk => ⟨.bl true, H, I.tok tk, rfl, q⟩
/-- for k, v in d.items() -/
def FixX (P : Program) (w : World) (d : Addr) (x : HO) (ks vs : List V) : Prop := (∃ od kvs, x = .frz od (.dK kvs) ∧ ks = kvs.map (fun kv => kV kv.1) ∧ vs = kvs.map (·.2)) ∨ ∃ es ep, x = rawO P w d es ep ks vs
theorem FixV.x {P : Program} {w : World} {H : Hp} {d : Addr} {ks vs : List V} (h : FixV P w H d ks vs) : ∃ x, H d = some x ∧ FixX P w d x ks vs := by
  rcases h with ⟨od, kvs, h, e⟩ | ⟨es, ep, h⟩
  · exact ⟨_, h, .inl ⟨od, kvs, rfl, e⟩⟩
  · exact ⟨_, h, .inr ⟨es, ep, rfl⟩⟩
theorem FixX.raw {X : Cx} {d : Addr} {x : HO} {ks vs : List V} (h : FixX X.prog X.w d x ks vs) {pins : List (Addr × Obj)} {σ : L2.St} {H : Hp} {s : Shared} (I : Inv X pins σ H s) (hd : H d = some x) : (d == sysModules) = false ∧ ∃ es ep, es.size ≤ sizeLine ∧ ks.length = es.size ∧ vs.length = es.size ∧ Vals ks (es.toList.map (·.key)) ∧ Vals vs (es.toList.map (·.val)) ∧
    ∀ {X' : Cx} {pins' : List (Addr × Obj)} {σ' : L2.St} {H' : Hp} {s' : Shared}, H' d = some x → Inv X' pins' σ' H' s' → s'.heap.DictRaw d es ep := by
  have hF : FixV X.prog X.w H d ks vs := by
    rcases h with ⟨od, kvs, rfl, e⟩ | ⟨es, ep, rfl⟩
    · exact .inl ⟨od, kvs, hd, e⟩
    · exact .inr ⟨es, ep, hd⟩
  obtain ⟨h1, es, ep, h2, h3, h4, h5, h6, h7⟩ := hF.raw I
  refine ⟨h1, es, ep, h2, h3, h4, h5, h6, fun {X' pins' σ' H' s'} hd' I' => ?_⟩
  obtain ⟨o, ho, hx, hdat⟩ := h7 (Same.refl H) I
  rcases h with ⟨od, kvs, rfl, e⟩ | ⟨es2, ep2, rfl⟩
  · obtain ⟨q1, _⟩ := I.hok d _ hd
    rw [ho] at q1
    cases q1
    obtain ⟨q2, _⟩ := I'.hok d _ hd'
    exact ⟨o, q2, hx, hdat⟩
  · obtain ⟨⟨_, ⟨o2, q1, q2, q3⟩, _⟩, _⟩ := I.hok d _ hd
    rw [ho] at q1
    cases q1
    rw [hdat] at q3
    cases q3
    obtain ⟨⟨_, q, _⟩, _⟩ := I'.hok d _ hd'
    exact q
def ItF (d : Addr) (x : HO) (ks vs : List V) : It :=
  ⟨fun i H => H d = some x ∧ i < ks.length, fun i H y H' => ∃ T k v, y = .ref T ∧ H T = none ∧ ks[i]? = some k ∧ vs[i]? = some v ∧ H' = upd H T (.tup [k, v]), fun i H => H d = some x ∧ ks.length ≤ i⟩
theorem walk_F {d : Addr} {x : HO} {ks vs : List V} : Walk (ItF d x ks vs) ks.length (fun H => H d = some x) (fun i H y H' => ∃ T k v, y = .ref T ∧ H T = none ∧ ks[i]? = some k ∧ vs[i]? = some v ∧ H' = upd H T (.tup [k, v])) :=
  ⟨fun i _ hi q => ⟨q, hi⟩, fun _ q => ⟨q, Nat.le_refl _⟩, fun _ _ _ _ _ q y => y⟩
theorem turn_F {P : Program} {w : World} {K : PySem.W.Frag} {d : Addr} {x : HO} {ks vs : List V} {es : Array DictEntry} {ep : Nat} {elts : List Expr} {kk : Nat} {tpos : Pos} (it : Addr) (lk : ks.length = es.size) (lv : vs.length = es.size) (v1 : Vals ks (es.toList.map (·.key))) (v2 : Vals vs (es.toList.map (·.val)))
    (hr : ∀ {X : Cx} {pins' : List (Addr × Obj)} {σ' : L2.St} {H' : Hp} {s' : Shared}, H' d = some x → Inv X pins' σ' H' s' → s'.heap.DictRaw d es ep) : Turn P w K (.Tuple elts kk tpos) (ItF d x ks vs) [it] it (fun i h => ∃ ok ov, IsItemIter h it d i es.size ep ok ov) where
  mem := by simp
  obj := fun i h st b hb => by
    obtain rfl : b = it := by simpa using hb
    obtain ⟨ok, ov, e⟩ := st
    exact ⟨_, e, fun v z => nomatch z⟩
  keep := fun i h h' st k => let ⟨ok, ov, e⟩ := st; ⟨ok, ov, k it (by simp) _ e⟩
  item := by
    intro X hP hw hK hc i pins s σ H E I hf st hg
    have hm := hr hg.1 I
    subst hP hw hK
    obtain ⟨hd, hi⟩ := hg
    obtain ⟨ok, ov, he⟩ := st
    have lt : it < s.heap.objs.size := Heap.lt_size he
    have ile : i < es.size := by omega
    refine wpAny_pyNext_items_item_raw he hm ile fun h' ho hT hz hk => ?_
    refine ⟨_, rfl, wpAny_letOwnedTupleGo_items (s := { s with heap := h' }) ho fun h2 he2 sb => ?_⟩
    have T2 : h2.get? s.heap.objs.size = some { cls := .type "tuple", data := .seq #[es[i].key, es[i].val] } := (sb.2 _ (Nat.ne_of_gt lt)).trans hT
    obtain ⟨uk, huk, ruk⟩ := v1.get (i := i) (x := ks[i]) (List.getElem?_eq_getElem hi)
    obtain ⟨uv, huv, ruv⟩ := v2.get (i := i) (x := vs[i]'(by omega)) (List.getElem?_eq_getElem (by omega))
    have ek : es[i].key = uk := by
      rw [List.getElem?_map, Array.getElem?_toList, Array.getElem?_eq_getElem ile] at huk
      exact Option.some.inj huk
    have ev : es[i].val = uv := by
      rw [List.getElem?_map, Array.getElem?_toList, Array.getElem?_eq_getElem ile] at huv
      exact Option.some.inj huv
    rw [← ek] at ruk
    rw [← ev] at ruv
    have nw : ObjOk X.prog X.w (upd H s.heap.objs.size (.tup [ks[i], vs[i]'(by omega)])) h2 s.heap.objs.size (.tup [ks[i], vs[i]'(by omega)]) :=
      ⟨by show 2 ≤ sizeLine; decide, [es[i].key, es[i].val], .cons ruk (.cons ruv .nil), ⟨_, T2, rfl, _, rfl⟩⟩
    have J : Inv X pins σ (upd H s.heap.objs.size (.tup [ks[i], vs[i]'(by omega)])) { s with heap := h2 } :=
      I.turnedNew (t' := s.toks) (ch := [it]) (fun b ob hb e => (sb.2 b (by simpa using hb)).trans (hk b ob (by simpa using hb) e)) hf (Nat.le_refl _) nw
    refine ⟨.ref s.heap.objs.size, _, J, rfl, ⟨_, _, _, rfl, I.hok.fresh (Nat.le_refl _), List.getElem?_eq_getElem hi, List.getElem?_eq_getElem (by omega), rfl⟩, ⟨es[i].key, es[i].val, he2⟩, fun b hb => ?_⟩
    obtain rfl : b = it := by simpa using hb
    rw [upd_ne (Nat.ne_of_lt lt)]
    exact (hf b (by simp)).1
  done := by
    intro X hP hw hK hc i pins s σ H E I hf st hg
    have hm := hr hg.1 I
    subst hP hw hK
    obtain ⟨hd, hi⟩ := hg
    obtain ⟨f0, f1, f2, f3, f4, f5⟩ := hf it (by simp)
    obtain ⟨ok, ov, he⟩ := st
    exact wpAny_pyNext_items_end_raw (I.ok.hd hc) he hm (by omega) fun h' eb => ⟨rfl, I.turned (t' := s.toks) (fun b ob hb e => eb b ob hb e) f0 f1 f3 f4 f5⟩
  self := fun A i s Q E st h => let ⟨_, _, e⟩ := st; PySem.W.kcp_self e h
def iItemsF (P : Program) (w : World) (td : TE) : TI := fun σ H R => td σ H fun y H1 => ∃ d x ks vs, y = .ref d ∧ H1 d = some x ∧ FixX P w d x ks vs ∧ R (ItF d x ks vs) H1
theorem pi_itemsF {X : Cx} {e : Expr} {td : TE} {apos cpos tpos : Pos} {elts : List Expr} {kk : Nat} (he : PE X e td) (hbase : attributeBase e "items" X.env (eval e X.env) = eval e X.env := by rfl) (hline : (apos.endLine == cpos.line) = true := by rfl) :
    PI X (.Tuple elts kk tpos) (.Call (.Attribute e "items" apos) [] [] cpos) (iItemsF X.prog X.w td) := by
  refine ⟨fun pins s σ H R I h => ?_⟩
  refine wpAny_Call_method (T := "dict") (id := "dict.items") hbase rfl hline PySem.F.plainAttrs_dict PySem.F.slot_dict_items PySem.F.type_dict_items (thn (he.run pins s σ H _ I h) fun u s1 ⟨y, H1, I1, rx, d, x, ks, vs, ex, hd, hx, q⟩ => ?_)
  subst ex
  obtain rfl : u = Value.ref d := rx
  obtain ⟨hs, es, ep, hz, lk, lv, v1, v2, hr⟩ := hx.raw I1 hd
  have hm := hr hd I1
  obtain ⟨od, ho, hx1, hdat⟩ := id hm
  refine ⟨hm.typeIs, ?_, ?_⟩
  · intro b e
    cases e
    exact ⟨od, ho, hx1.2.1⟩
  have J : Inv X pins σ H1 { s1 with heap := s1.heap.push { cls := .type "dict_items", data := .fields #[.ref d] } } := I1.kept (t' := s1.toks) fun b ob z => Heap.get?_push_of_some _ z
  have fin : wpAny (model X.prog X.w) X.A (pyIter (.ref s1.heap.objs.size)) (PIE X pins σ (.Tuple elts kk tpos) R) X.xe { s1 with heap := s1.heap.push { cls := .type "dict_items", data := .fields #[.ref d] } } := by
    refine wpAny_pyIter_items_raw (d := d) ⟨_, Heap.get?_push_size _ rfl, rfl, rfl⟩ (hm.push _) (pi_one (tk := s1.toks) J _ (turn_F (ep := ep) _ lk lv v1 v2 hr) ⟨.none, .none, ?_⟩ q)
    · exact Heap.get?_push_size _ rfl
  show wpAny _ _ (callWith cpos (.builtin "dict.items") [.ref d] [] []) _ X.xe s1
  exact method_meetsIn PySem.F.slot_dict_items PySem.F.entry_dict_items rfl (PySem.evalArgs_none ⟨rfl, hm.typeIs, PySem.F.args_dict_items_1 _, _, meets_dict_items_raw d hs, ⟨⟨_, _, hm⟩, fin⟩⟩)
/-! ### {None: v}, {"a": v, True: v} -/
theorem rawO_ok {P : Program} {w : World} {H : Hp} {h : Heap} {d : Addr} {es : Array DictEntry} {ep : Nat} {ks vs : List V} (hs : (d == sysModules) = false) (m : h.DictRaw d es ep) (v1 : Vals ks (es.toList.map (·.key))) (v2 : Vals vs (es.toList.map (·.val))) (hz : es.size ≤ 1000) : ObjOk P w H h d (rawO P w d es ep ks vs) := by
  have ⟨o, e, _⟩ := m
  refine ⟨⟨hs, m, v1, v2, hz⟩, ⟨o, e⟩, fun h1 h2 q k => ?_⟩
  obtain ⟨q1, ⟨o1, e1, r⟩, q2⟩ := q
  exact ⟨q1, ⟨o1, k _ e1, r⟩, q2⟩
def tNonF (P : Program) (w : World) (tk tv : TE) : TE := fun σ H Q => ∀ p, H p = none → tPairs [(tk, tv)] σ (upd H p (.dK [])) fun ps H2 => H2 p = some (.dK []) ∧ ∃ v, ps = [(.non, v)] ∧ ∀ x, FixV P w (upd H2 p x) p [.non] [v] → Q (.ref p) (upd H2 p x)
theorem pe_nonF {X : Cx} {pos : Pos} {k v : Expr} {tk tv : TE} (h : PPs X pos [some k] [v] [(tk, tv)]) : PE X (.Dict [some k] [v] pos) (tNonF X.prog X.w tk tv) := by
  refine ⟨fun pins s σ H Q I q => ?_⟩
  have new := I.hok.fresh (Nat.le_refl s.heap.objs.size)
  have J := I.laid (a := s.heap.objs.size) (o := .dK []) (h' := s.heap.push { cls := .type "dict", data := .dict #[] }) (t' := s.toks) (fun _ _ z => Heap.get?_push_of_some _ z) (Nat.le_refl _) (dk_empty s.heap I.big)
  refine wpAny_Dict_walk (knd := leafKind X.prog X.w) rfl rfl (by simp) (by show 1 ≤ 15; decide) (thn (h.run pins _ σ _ _ J (q _ new)) fun ws s2 ⟨ps, H2, J2, rel, e, v, ep, q2⟩ => ?_)
  subst ep
  obtain ⟨_, hsys, vs0, r0, dd⟩ := dk_of J2.hok e
  cases r0
  cases rel with
  | @cons _ q0 _ _ c r =>
    cases r
    obtain ⟨k0, v0⟩ := q0
    obtain ⟨c1, c2⟩ := c
    cases (show k0 = Value.none from c1)
    refine ⟨[(Leaf.none, v0)], ⟨rfl, rfl, True.intro⟩, leaf_nil dd, fun h' d2 sb => ?_⟩
    obtain ⟨ob, es, ep, z1, z2, z3, z4, z5, z6⟩ := d2
    have v12 : Vals [V.non] (es.toList.map (·.key)) ∧ Vals [v] (es.toList.map (·.val)) ∧ es.size ≤ 1000 := by
      have hsz : es.size = es.toList.length := by rw [Array.length_toList]
      rw [hsz]
      generalize es.toList = l at z5
      cases z5 with
      | @cons e _ _ _ b1 b2 b3 =>
        cases b3
        refine ⟨.cons ?_ .nil, .cons ?_ .nil, by simp⟩
        · show RelV .non e.key
          have b1 : Leaf.isOf .none e.key = true := b1
          cases q : e.key with
          | none => rfl
          | _ => rw [q] at b1; exact absurd b1 Bool.false_ne_true
        · show RelV v e.val
          rw [b2]
          exact c2
    refine ⟨.ref s.heap.objs.size, _, d_write J2 (by rw [e]; exact True.intro) sb ⟨ob, z1⟩ (rawO_ok hsys ⟨ob, z1, z2, z3⟩ v12.1 v12.2.1 v12.2.2), rfl, q2 _ (.inr ⟨es, ep, upd_same⟩)⟩
def tAbF (P : Program) (w : World) (z : Str) (t1 t2 t3 t4 : TE) : TE := fun σ H Q => ∀ p, H p = none → tPairs [(t1, t2), (t3, t4)] σ (upd H p (.dK [])) fun ps H2 => H2 p = some (.dK []) ∧ ∃ v1 v2, ps = [(.str z, v1), (.bl true, v2)] ∧ ∀ x k, (k = .int 1 ∨ k = .bl true) → FixV P w (upd H2 p x) p [.str z, k] [v1, v2] → Q (.ref p) (upd H2 p x)
theorem pe_abF {X : Cx} {pos : Pos} {z : Str} {k1 k2 e1 e2 : Expr} {t1 t2 t3 t4 : TE} (h : PPs X pos [some k1, some k2] [e1, e2] [(t1, t2), (t3, t4)]) : PE X (.Dict [some k1, some k2] [e1, e2] pos) (tAbF X.prog X.w z t1 t2 t3 t4) := by
  refine ⟨fun pins s σ H Q I q => ?_⟩
  have new := I.hok.fresh (Nat.le_refl s.heap.objs.size)
  have J := I.laid (a := s.heap.objs.size) (o := .dK []) (h' := s.heap.push { cls := .type "dict", data := .dict #[] }) (t' := s.toks) (fun _ _ z => Heap.get?_push_of_some _ z) (Nat.le_refl _) (dk_empty s.heap I.big)
  refine wpAny_Dict_walk (knd := leafKind X.prog X.w) rfl rfl (by simp) (by show 2 ≤ 15; decide) (thn (h.run pins _ σ _ _ J (q _ new)) fun ws s2 ⟨ps, H2, J2, rel, e, v1, v2, ep, q2⟩ => ?_)
  subst ep
  obtain ⟨_, hsys, vs0, r0, dd⟩ := dk_of J2.hok e
  cases r0
  cases rel with
  | @cons _ q0 _ _ c r =>
    cases r with
    | @cons _ q1 _ _ c' r =>
    cases r
    obtain ⟨k0, v0⟩ := q0
    obtain ⟨k0', v0'⟩ := q1
    obtain ⟨c1, c2⟩ := c
    obtain ⟨c3, c4⟩ := c'
    obtain ⟨tk, rfl⟩ := (show ∃ t, k0 = Value.str z t from c1)
    cases (show k0' = Value.bool true from c3)
    have ki : Leaf.isOf (.text z) (.str z tk) = true := by
      show Value.isStrOf z (.str z tk) = true
      simp [Value.isStrOf]
    refine ⟨[(Leaf.text z, v0), (Leaf.num 1, v0')], ⟨ki, rfl, rfl, rfl, True.intro⟩, leaf_nil dd, fun h' d2 sb => ?_⟩
    obtain ⟨ob, es, ep, z1, z2, z3, z4, z5, z6⟩ := d2
    have v12 : ∃ k, (k = V.int 1 ∨ k = V.bl true) ∧ Vals [V.str z, k] (es.toList.map (·.key)) ∧ Vals [v1, v2] (es.toList.map (·.val)) ∧ es.size ≤ 1000 := by
      have hsz : es.size = es.toList.length := by rw [Array.length_toList]
      rw [hsz]
      generalize es.toList = l at z5
      have z5 : Pairs (leafKind X.prog X.w) l [(Leaf.text z, v0), (Leaf.num 1, v0')] := z5
      cases z5 with
      | @cons e _ _ _ b1 b2 b3 =>
        cases b3 with
        | @cons e' _ _ _ b4 b5 b6 =>
        cases b6
        have b4 : Leaf.isOf (.num 1) e'.key = true := b4
        obtain ⟨tz, hz⟩ := Value.isStrOf_shape (show Value.isStrOf z e.key = true from b1)
        have f1 : RelV (.str z) e.key := ⟨tz, hz⟩
        have f2 : RelV v1 e.val := by rw [b2]; exact c2
        have f3 : RelV v2 e'.val := by rw [b5]; exact c4
        cases q : e'.key with
        | int j t =>
          rw [q] at b4
          have : j = 1 := of_decide_eq_true b4
          subst this
          exact ⟨.int 1, .inl rfl, .cons f1 (.cons ⟨t, q⟩ .nil), .cons f2 (.cons f3 .nil), by simp⟩
        | bool b =>
          rw [q] at b4
          have : b = true := by
            cases b with
            | true => rfl
            | false => exact absurd b4 (by decide)
          subst this
          exact ⟨.bl true, .inr rfl, .cons f1 (.cons q .nil), .cons f2 (.cons f3 .nil), by simp⟩
        | _ => rw [q] at b4; exact absurd b4 Bool.false_ne_true
    obtain ⟨k, hk, w1, w2, w3⟩ := v12
    refine ⟨.ref s.heap.objs.size, _, d_write J2 (by rw [e]; exact True.intro) sb ⟨ob, z1⟩ (rawO_ok hsys ⟨ob, z1, z2, z3⟩ w1 w2 w3), rfl, q2 _ k hk (.inr ⟨es, ep, upd_same⟩)⟩
end SE
/-! reprs within reprs: flat data, tuples that hold objects. -/
namespace SE
open PySem PySem.Spec PyProof.Rows L2
inductive FlatV : V → PyData → Prop
  | non : FlatV .non .none
  | bl (b : Bool) : FlatV (.bl b) (.bool b)
  | int (i : Int) : FlatV (.int i) (.int i)
  | str (x : Str) : FlatV (.str x) (.str x)
section
variable {X : Cx} {g : List Code} {n : Nat} {H : Hp}
theorem ruq_flat {v : V} {d : PyData} (h : FlatV v d) (hs : d.showable = true) : RUQ X g n v d.shown H := by
  constructor
  intro A pins σ H' s u b E Q hg hr he sm I r hb k
  have un := hr.un
  have go : ∀ {t : Str}, d.shown = t → ReprK X.prog X.w [] s.heap 0 u t → wpAny (model X.prog X.w) A (pyReprUnder b u) Q E s := fun {t} e hk => by
    subst e
    exact hk b hb A g E s Q hg (fun c hc => nomatch hc) (by omega) (fun _ _ z => z) (fun h' tk keep => k H' _ (fun _ _ z => z) (I.kept (t' := tk) keep))
  cases h with
  | non =>
    cases (show u = Value.none from r)
    exact go (by simp only [PyData.shown]) (.of_is ReprIs.none _ _ _)
  | bl b =>
    cases (show u = Value.bool b from r)
    exact go (by simp only [PyData.shown]) (.of_is (ReprIs.bool b) _ _ _)
  | int i =>
    obtain ⟨t, rfl⟩ := (show ∃ t, u = Value.int i t from r)
    exact go (by simp only [PyData.shown]) (.of_is (ReprIs.int t (by simpa [PyData.showable] using hs)) _ _ _)
  | str x =>
    obtain ⟨t, rfl⟩ := (show ∃ t, u = Value.str x t from r)
    have hz : (reprText x).length ≤ sizeLine := by
      simp only [PyData.shown] at hb
      omega
    exact go (by simp only [PyData.shown]) (.of_is (ReprIs.str x t hz) _ _ _)
theorem urep_depth {A : Around} {args : Args} : (A.under (.builtin "tuple.__repr__.under" args)).depth ≤ A.depth + 1 := by
  simp [Around.under, Code.weight, Code.isCreation, Code.isGuard, Code.isCaller, Code.frames, Code.isFrame, guardIds]
theorem RoomQ.urep {k : Nat} {A : Around} (r : RoomQ X (k + 1) A) (args : Args) : RoomQ X k (A.under (.builtin "tuple.__repr__.under" args)) :=
  ⟨⟨by have := r.rm.dp; have := urep_depth (A := A) (args := args); omega, by have := r.un; rw [units_under_tuple_repr_under]; omega⟩, r.hh⟩
theorem Env0.urep {P : Program} {w : World} {K : PySem.W.Frag} {mg : Str → Option Value} {base : Heap} {A : Around} {outer : List Env} {s : Shared} {H : Hp} (e : Env0 P w K mg base A outer s H) (args : Args) :
    Env0 P w K mg base (A.under (.builtin "tuple.__repr__.under" args)) outer s H := ⟨by first | exact e.frames | (simpa [Around.under, Code.envs, Code.isFrame, pushEnvs] using e.frames), e.mod, e.bs, e.bsz, e.funs, e.frf, e.hok, e.bare⟩
/-- a tuple within another repr -/
theorem ruq_tup {a : Addr} {vs : List V} {ts : List Str} (ha : SqT X.K H a vs) (hc : Clear g a) (hlen : vs.length = ts.length)
    (hT : ∀ (i : Nat) (y : V), vs[i]? = some y → ∃ t, ts[i]? = some t ∧ ∀ rest, RUQ X (.builtin "tuple.__repr__.under" ⟨.ref a :: rest, []⟩ :: g) n y t H) : RUQ X g (n + 1) (.ref a) (tupleText ts) H := by
  constructor
  intro A pins σ H' s u b E Q hg hr he sm I r hb k
  cases r
  have ha' := Same.tup sm ha
  obtain ⟨its, rv, ⟨o, ho, hcl, m, hd⟩, _⟩ := I.tuple ha'
  have hu := hr.units
  have lv := rv.length
  have hp := piled_le_tupleText ts
  refine wpAny_pyReprUnder_ref (by omega) (wpAny_pyReprObjUnder_twin (twin := "tuple.__repr__.under") ⟨o, ho, hcl⟩ PySem.F.slot_tuple_repr rfl hr.units0 ?_)
  refine call_twin_own (PySem.F.quiet_tuple_repr_under _) PySem.F.entry_tuple_repr_under PySem.F.check_tuple_repr_under ⟨o, ho, hcl⟩ PySem.F.slot_tuple_repr (PySem.F.args_tuple_repr_1 _) ?_
  rw [tuple_repr_tree, tupleReprUnderWay_eq]
  refine wpOwn_bind (wpOwn_stackTailAny hg (tupGuardF_off _) (tupGuardF_pos _) ?_)
  have hn : (g.any fun c => tupGuardF (.ref a) (c, default)) = false := by
    rw [List.any_eq_false]
    intro c hcm
    rw [tupGuardF_of_clear hc c hcm]
    exact Bool.false_ne_true
  rw [hn]
  show wpOwn _ _ _ (tupleReprRest b (.ref a)) _ _ s
  refine wpOwn_of_wpAny ?_
  unfold tupleReprRest Builtin.Tuple.tupleItemsOf
  refine wpAny_bind (wpAny_bind (wpAny_seqItems ho hd (wpAny_pure ?_)))
  rw [← Array.forIn_toList]
  refine wpAny_bind (tup_foldQ (H := H') (n := n) (guards_under_guard (isGuard_tuple_repr_under ⟨[.ref a, rawInt b], []⟩) hg) (RoomQ.urep hr _) (fun s' H' e => Env0.urep (he _ _ e) _) vs _ ts #[] b s H' _ rv hlen (fun i y hy => by
    obtain ⟨t, ht, q⟩ := hT i y hy
    exact ⟨t, ht, (q _).same sm⟩) (by omega) (fun _ _ z => z) I fun H2 s2 sm2 I2 => ?_)
  have hsz2 : ts.length = its.toArray.size := by rw [List.size_toArray]; omega
  refine wpAny_bind (wpAny_mkStr (wpAny_pure ?_) (by have : (tupleText ts).length ≤ sizeLine := by omega
                                                     simpa [tupleText, hsz2] using this))
  have k2 := k H2 _ sm2 (I2.tok (s2.toks + 1))
  refine ⟨⟨_, _, rfl⟩, _, _, rfl, ?_⟩
  simpa [tupleText, hsz2] using k2
end
end SE
namespace SE
open PySem PySem.Spec PyProof.Rows L2
/-! ### what are no blocks -/
def ElV (K : PySem.W.Frag) (C : Addr) (H : Hp) (x : V) (b : Bool) : Prop := (∃ e o, x = .ref e ∧ EffV K C H e o ∧ b = blkM o) ∨ (NoEff K C H x ∧ b = false)
def BadB (P : Program) (w : World) (K : PySem.W.Frag) (C : Addr) (H : Hp) (v : V) : Prop :=
  (∃ t, TyX K H v t ∧ PySem.W.kitOne K t (.type "dict") = some false) ∨
  ∃ d ks vs, v = .ref d ∧ FixV P w H d ks vs ∧ vs.length = ks.length ∧ ((ks.length = 0 ∨ 8 < ks.length) ∨
    (1 ≤ ks.length ∧ ks.length ≤ 8 ∧ ∃ bs : List Bool, bs.length = ks.length ∧ false ∈ bs ∧ ∀ (i : Nat) (k x : V), ks[i]? = some k → vs[i]? = some x → ∃ dk b, FlatV k dk ∧ OkD dk ∧ ElV K C H x b ∧ bs[i]? = some (itemD dk && b)))
theorem FlatV.dpx {K : PySem.W.Frag} {H : Hp} {k : V} {d : PyData} (h : FlatV k d) : DpX K H k d := by
  cases h with
  | non => exact .non
  | bl b => exact .bl b
  | int i => exact .int i
  | str x => exact .str x
theorem NoEff.same {K : PySem.W.Frag} {C : Addr} {H H' : Hp} {v : V} (h : NoEff K C H v) (s : Same H H') : NoEff K C H' v := by
  obtain ⟨d, a, b⟩ := h
  exact ⟨d, DpX.same s _ _ a, b⟩
theorem ElV.same {K : PySem.W.Frag} {C : Addr} {H H' : Hp} {x : V} {b : Bool} (h : ElV K C H x b) (s : Same H H') : ElV K C H' x b := by
  rcases h with ⟨e, o, h1, h2, h3⟩ | ⟨h1, h2⟩
  · exact .inl ⟨e, o, h1, h2.same s, h3⟩
  · exact .inr ⟨h1.same s, h2⟩
theorem bl_take' {bs : List Bool} {j : Nat} {b : Bool} (h : bs[j]? = some b) : (bs.take j).map V.bl ++ [V.bl b] = (bs.take (j + 1)).map V.bl := by
  rw [List.take_add_one, h, List.map_append]
  rfl
section
variable {P : Program} {w : World} {K : PySem.W.Frag} {mg : Str → Option Value} {base : Heap} {C CB CW CN CL : Addr}
def spAbX (P : Program) (w : World) (K : PySem.W.Frag) (C : Addr) : Sp := fun vs H Q _ => ∃ v, vs = [v] ∧ BadB P w K C H v ∧ ∀ H', Same H H' → Q (.bl false) H'
theorem has_abX (D : Def K mg "are_blocks" sAreBlocks) (GI : Has P w K mg base "is_item" 1 ["value"] [] (spX K itemD)) (GB : Has P w K mg base "is_block" 4 ["value"] [] (spIb K C)) (mc : ∃ t, mg "MOST_BLOCKS" = some (.int 8 t)) (B : Blt mg) (md : mg "dict" = none) : Has P w K mg base "are_blocks" 5 ["value"] [] (spAbX P w K C) := by
  obtain ⟨tm, hM⟩ := mc
  refine has_of D scAb (fun _ _ _ _ _ _ us hl => match us, hl with | [_], _ => rfl) (fun xs H Q E h => ?_) (fun f cv A out s H xs Q E hr h => ?_)
  · obtain ⟨v, rfl, _⟩ := h
    rfl
  · obtain ⟨v, rfl, hb, k⟩ := h
    have hr1 : Room 1 _ := hr.mono (by decide)
    refine ⟨_, pss_cons (ps_if (PW.pt (pw_or (pt_not (pt_val (pe_callB (call_isi.or call_isF) (by rfl) B.isi (by decide +kernel) (pa_cons (pv 0) (pa_cons (pe_bltn (v := .ty "dict") (by rfl) md (by decide +kernel) rfl) pa_nil)))))
        (pw_or1 (pt_not (pt_chain op_le op_le pe_int (pe_callB call_lenF (by rfl) B.len PySem.boot_len (pa_cons (pv 0) pa_nil)) (pe_glob (v := .int 8) rfl hM ⟨_, rfl⟩)))))) (pss_one (ps_ret pe_bl)) pss_nil)
      (pss_one (ps_ret (pe_callB (cr_all rfl) (by rfl) B.all (by decide +kernel) (pa_cons
        (pe_lc (own := [("name", 1), ("effect", 2)]) (g := gTup K 2 (gCons (gName 1) (gCons (gName 2) gNil))) (tt := tYes) (te := tAndV (tCall (spX K itemD) [] E0 (tCons (tVar 1) tNil)) (tCall (spIb K C) [] E0 (tCons (tVar 2) tNil))) rfl scAb.nd (pi_itemsF (pv 0)) (blkOk_by (own := [("name", 1), ("effect", 2)]) (N := nAb) (sc := defScope sAreBlocks) (by decide +kernel))
          (fun _ _ _ _ _ => pg_tup (by rfl) (pgs_cons (pg_name (i := 1) scAb.nd rfl (.inl rfl)) (pgs_cons (pg_name (i := 2) scAb.nd rfl (.inl rfl)) pgs_nil))) (fun _ _ _ _ _ => pts_nil) (fun _ _ _ _ _ => pe_and (pe_has GI hr1 (pa_cons (pv 1) pa_nil)) (pe_one (pe_has GB hr (pa_cons (pv 2) pa_nil))))) pa_nil)))), ?_⟩
    rcases hb with ⟨t, ht, hk⟩ | ⟨d, ks, vs, rfl, hF, lv, hb⟩
    · exact ⟨_, rfl, .inl ⟨_, .ty "dict", t, .type "dict", false, rfl, .ty _, ht, hk, false, rfl, iteT (iteT (k H (Same.refl H)))⟩⟩
    · refine ⟨_, rfl, .inr ⟨d, ks, vs, rfl, hF, true, rfl, iteF ?_⟩⟩
      rcases hb with (h0 | h9) | ⟨h1, h8, bs, lb, mb, hE⟩
      · refine ⟨_, rfl, d, ks, vs, rfl, hF, 1, _, rfl, rfl, false, ?_, iteF ⟨false, rfl, iteT (k H (Same.refl H))⟩⟩
        exact congrArg V.bl (decide_eq_false (by omega))
      · refine ⟨_, rfl, d, ks, vs, rfl, hF, 1, _, rfl, rfl, true, ?_, iteT ⟨_, 8, rfl, rfl, false, ?_, iteT (k H (Same.refl H))⟩⟩
        · exact congrArg V.bl (decide_eq_true (by omega))
        · exact congrArg V.bl (decide_eq_false (by omega))
      · refine ⟨_, rfl, d, ks, vs, rfl, hF, 1, _, rfl, rfl, true, ?_, iteT ⟨_, 8, rfl, rfl, true, ?_, iteF ?_⟩⟩
        · exact congrArg V.bl (decide_eq_true (by omega))
        · exact congrArg V.bl (decide_eq_true (by omega))
        obtain ⟨x, hx, hxx⟩ := hF.x
        refine ⟨_, rfl, d, x, ks, vs, rfl, hx, hxx, fun DD hDD => lc_it walk_F (fun j H2 => H2 DD = some (.lst ((bs.take j).map V.bl)) ∧ Same H H2) ⟨upd_same, Same.new hDD⟩ (fun j H2 _ q => q.2 _ _ hx) ?_ ?_⟩
        · rintro j y H2 H3 hj ⟨h2, s2⟩ ⟨T', kk, vv, rfl, nT, hk, hv, rfl⟩
          obtain ⟨dk, b, f1, f2, f3, f4⟩ := hE j kk vv hk hv
          have sT : Same H2 (upd H2 T' (.tup [kk, vv])) := Same.new nT
          have fin : ∀ {H4 : Hp}, Same (upd H2 T' (.tup [kk, vv])) H4 → ∃ acc, H4 DD = some (.lst acc) ∧ acc.length < sizeLine ∧ (upd H4 DD (.lst (acc ++ [V.bl (itemD dk && b)]))) DD = some (.lst ((bs.take (j + 1)).map V.bl)) ∧ Same H (upd H4 DD (.lst (acc ++ [V.bl (itemD dk && b)]))) := fun {H4} s4 => by
            have s24 := sT.trans s4
            refine ⟨_, s24 _ _ h2, ?_, by rw [upd_same, bl_take' f4], Same.free2 (s2.trans s24) hDD⟩
            rw [List.length_map, List.length_take, sizeLine_eq]
            omega
          refine ⟨T', _, rfl, .of upd_same, rfl, _, _, rfl, _, _, rfl, rfl, rfl, yes_in ⟨_, rfl, kk, dk, rfl, f1.dpx, f2, fun H4 s4 => ⟨itemD dk, rfl, ?_⟩⟩⟩
          cases hi : itemD dk with
          | false =>
            rw [hi] at fin
            exact iteF (fin s4)
          | true =>
            rw [hi] at fin
            refine iteT ?_
            rcases f3.same (s2.trans (sT.trans s4)) with ⟨e, o, rfl, q1, rfl⟩ | ⟨q1, rfl⟩
            · exact ⟨_, rfl, _, rfl, .inl ⟨e, o, rfl, q1, fin s4⟩⟩
            · exact ⟨_, rfl, _, rfl, .inr ⟨q1, fin s4⟩⟩
        · rintro H2 ⟨h2, s2⟩
          rw [← lb, List.take_length] at h2
          refine ⟨DD, _, rfl, .of h2, ?_⟩
          have e : bs.all id = false := List.all_eq_false.mpr ⟨false, mb, by decide⟩
          rw [e]
          exact k H2 s2
/-! ### check_blocks -/
theorem HasX.or2 {x : Str} {k : Nat} {ps : List Str} {dvs dvs2 : List V} {sp1 sp2 : Sp} (h1 : HasX P w K mg base x k ps dvs sp1) (h2 : HasX P w K mg base x k ps dvs2 sp2) : HasX P w K mg base x k ps dvs (fun vs H Q E => sp1 vs H Q E ∨ sp2 vs H Q E) := by
  obtain ⟨f1, fd1, ds1, F1, m1, kp1, b1, v1, st1, U1⟩ := h1
  obtain ⟨f2, fd2, ds2, F2, m2, kp2, b2, v2, st2, U2⟩ := h2
  obtain rfl : f1 = f2 := Value.ref.inj (Option.some.inj (m1.symm.trans m2))
  have ef : fd1 = fd2 := by
    obtain ⟨_, _, _, _, _, _, _, _, _, _, l1, _⟩ := U1.ex
    obtain ⟨_, _, _, _, _, _, _, _, _, _, l2, _⟩ := U2.ex
    have := Option.some.inj (l1.symm.trans l2)
    simp only [Obj.mk.injEq, Data.func.injEq] at this
    first
      | exact this.2.2.1
      | (injection this with _ _ q; exact Data.func.inj q)
  subst ef
  exact ⟨f1, fd1, ds1, ⟨fun vs H Q E h => h.elim (F1.len vs H Q E) (F2.len vs H Q E), fun A outer s H args us vs Q E hr he hb hv h => h.elim (F1.run A outer s H args us vs Q E hr he hb hv) (F2.run A outer s H args us vs Q E hr he hb hv)⟩, m1, kp1, b1, v1, st1, U1⟩
def spCbX (P : Program) (w : World) (K : PySem.W.Frag) (C CB : Addr) : Sp := fun vs H Q E => ∃ v, vs = [v] ∧ BadB P w K C H v ∧ bad CB H v E
theorem hasX_cbX (D : Def K mg "check_blocks" sCheckBlocks) (G : Has P w K mg base "are_blocks" 5 ["value"] [] (spAbX P w K C)) (T : XcC P w K mg base "InvalidBlocks" "value" CB) : HasX P w K mg base "check_blocks" 6 ["blocks"] [] (spCbX P w K C CB) := by
  refine hasX_of D scCb (fun _ _ _ _ _ _ us hl => match us, hl with | [_], _ => rfl) (fun xs H Q E h => ?_) (fun f cv A out s H xs Q E hr h => ?_)
  · obtain ⟨v, rfl, _⟩ := h
    rfl
  · obtain ⟨v, rfl, hb, k⟩ := h
    have hr2 : Room 2 _ := hr.mono (by decide)
    refine ⟨_, pss_one (ps_if (pt_not (pt_val (pe_has G hr (pa_cons (pv 0) pa_nil)))) (pss_one (ps_raiseX rfl T hr2 tkX (pa_cons (pv 0) pa_nil))) pss_nil), ?_⟩
    exact ⟨_, rfl, v, rfl, hb, fun H1 s1 => ⟨false, rfl, iteT ⟨_, rfl, mk_red fun dd hdd => k dd _ (s1.trans (Same.new hdd)) (s1.free hdd) upd_same⟩⟩⟩
/-! ### check_stack, of any data -/
def stkD (d : PyData) : Bool := wordD d && (match d with | .tuple ds => decide (ds.length ≤ 30) | _ => true)
def spCstX (K : PySem.W.Frag) (CW : Addr) : Sp := fun vs H Q E => ∃ v d, vs = [v] ∧ DpX K H v d ∧ OkD d ∧ ((stkD d = true ∧ ∀ H', Same H H' → Q .non H') ∨ (stkD d = false ∧ bad CW H v E))
theorem word_tup {d : PyData} (h : wordD d = true) : ∃ ds, d = .tuple ds := by
  cases d with
  | tuple ds => exact ⟨ds, rfl⟩
  | _ => cases h
theorem hasX_cst (D : Def K mg "check_stack" sCheckStack) (G : Has P w K mg base "is_word" 2 ["value"] [] (spX K wordD)) (mc : ∃ t, mg "MOST_STACK_ITEMS" = some (.int 30 t)) (B : Blt mg) (T : XcC P w K mg base "InvalidWord" "value" CW) : HasX P w K mg base "check_stack" 3 ["stack"] [] (spCstX K CW) := by
  obtain ⟨tm, hM⟩ := mc
  refine hasX_of D scCst (fun _ _ _ _ _ _ us hl => match us, hl with | [_], _ => rfl) (fun xs H Q E h => ?_) (fun f cv A out s H xs Q E hr h => ?_)
  · obtain ⟨v, d, rfl, _⟩ := h
    rfl
  · obtain ⟨v, d, rfl, hd, ok, h⟩ := h
    refine ⟨_, pss_one (ps_if (PW.pt (pw_or (pt_not (pt_val (pe_has G hr (pa_cons (pv 0) pa_nil)))) (pw_or1 (pt_cmpR op_gt (pe_callB call_len_seq (by rfl) B.len PySem.boot_len (pa_cons (pv 0) pa_nil)) (pe_glob (v := .int 30) rfl hM ⟨_, rfl⟩) (nomark _))))) (pss_one (ps_raiseX rfl T hr tkX (pa_cons (pv 0) pa_nil))) pss_nil), ?_⟩
    refine ⟨_, rfl, v, d, rfl, hd, ok, fun H1 s1 => ⟨wordD d, rfl, ?_⟩⟩
    cases hw : wordD d with
    | false =>
      rcases h with ⟨e, _⟩ | ⟨e, k⟩
      · unfold stkD at e
        rw [hw] at e
        cases e
      · exact iteT (iteT ⟨_, rfl, mk_red fun dd hdd => k dd _ (s1.trans (Same.new hdd)) (s1.free hdd) upd_same⟩)
    | true =>
      obtain ⟨ds, rfl⟩ := word_tup hw
      have hd1 := DpX.same s1 _ _ hd
      cases hd1 with
      | @tup t xs _ hT ha =>
      refine iteF ⟨_, rfl, t, _, rfl, .inr hT, _, 30, rfl, rfl, _, rfl, ?_⟩
      have ll := ha.len
      have e2 : stkD (.tuple ds) = decide (ds.length ≤ 30) := by
        unfold stkD
        rw [hw, Bool.true_and]
      rw [e2] at h
      rcases h with ⟨e, k⟩ | ⟨e, k⟩
      · have := of_decide_eq_true e
        rw [show decide (((xs.length : Nat) : Int) > 30) = false from decide_eq_false (by omega)]
        exact iteF (k _ s1)
      · have := of_decide_eq_false e
        rw [show decide (((xs.length : Nat) : Int) > 30) = true from decide_eq_true (by omega)]
        exact iteT ⟨_, rfl, mk_red fun dd hdd => k dd _ (s1.trans (Same.new hdd)) (s1.free hdd) upd_same⟩
end
end SE
namespace SE
open PySem PySem.Spec PyProof.Rows L2
section
variable {P : Program} {w : World} {K : PySem.W.Frag} {mg : Str → Option Value} {base : Heap} {C CB CW CN CL Z : Addr}
/-! ### where a search is refused -/
def GoodBl (K : PySem.W.Frag) (C : Addr) (H : Hp) (u : V) : Prop := ∃ d bs, u = .ref d ∧ BlkD K C H d bs ∧ BlkOk bs
def GoodSt (K : PySem.W.Frag) (H : Hp) (v : V) : Prop := ∃ d, DpX K H v d ∧ OkD d ∧ stkD d = true
def BadSt (K : PySem.W.Frag) (CW : Addr) (v : V) (H : Hp) (E : XK) : Prop := ∃ d, DpX K H v d ∧ OkD d ∧ stkD d = false ∧ bad CW H v E
theorem GoodBl.same {H H' : Hp} {u : V} (h : GoodBl K C H u) (s : Same H H') : GoodBl K C H' u := by
  obtain ⟨d, bs, a, b, c⟩ := h
  exact ⟨d, bs, a, b.same s, c⟩
theorem GoodSt.same {H H' : Hp} {v : V} (h : GoodSt K H v) (s : Same H H') : GoodSt K H' v := by
  obtain ⟨d, a, b⟩ := h
  exact ⟨d, DpX.same s _ _ a, b⟩
theorem BadSt.go {H H' : Hp} {v : V} {E : XK} (h : BadSt K CW v H E) (s : Same H H') : BadSt K CW v H' E := by
  obtain ⟨d, a, b, c, e⟩ := h
  exact ⟨d, DpX.same s _ _ a, b, c, e.go s⟩
def BadTwo (P : Program) (w : World) (K : PySem.W.Frag) (C CB CW : Addr) (u v : V) (H : Hp) (E : XK) : Prop := (BadB P w K C H u ∧ bad CB H u E) ∨ (GoodBl K C H u ∧ BadSt K CW v H E)
def BadSea (P : Program) (w : World) (K : PySem.W.Frag) (C CB CW : Addr) (u v x : V) (H : Hp) (E : XK) : Prop := BadTwo P w K C CB CW u v H E ∨ (GoodBl K C H u ∧ GoodSt K H v ∧ BadSt K CW x H E)
def spCb2 (P : Program) (w : World) (K : PySem.W.Frag) (C CB : Addr) : Sp := fun vs H Q E => spCb K C CB vs H Q E ∨ spCbX P w K C CB vs H Q E
/-- what check_blocks and check_stack do in turn -/
theorem two_bad {u v : V} {H : Hp} {E : XK} {Q : VK} (h : BadTwo P w K C CB CW u v H E) : spCb2 P w K C CB [u] H (fun y H1 => y = .non ∧ spCstX K CW [v] H1 (fun _ _ => False) E) E := by
  rcases h with ⟨a, b⟩ | ⟨⟨d, bs, rfl, a, b⟩, c⟩
  · exact .inr ⟨u, rfl, a, b⟩
  · refine .inl ⟨d, rfl, .inl ⟨bs, a, b, fun H' s' => ⟨rfl, ?_⟩⟩⟩
    obtain ⟨d2, e1, e2, e3, e4⟩ := c.go s'
    exact ⟨v, d2, rfl, e1, e2, .inr ⟨e3, e4⟩⟩
def spCseX (P : Program) (w : World) (K : PySem.W.Frag) (C CB CW : Addr) : Sp := fun vs H Q E => ∃ u v x, vs = [u, v, x] ∧ BadSea P w K C CB CW u v x H E
theorem hasX_cse (D : Def K mg "check_search" sCheckSearch) (GB : HasX P w K mg base "check_blocks" 6 ["blocks"] [] (spCb2 P w K C CB)) (GS : HasX P w K mg base "check_stack" 3 ["stack"] [] (spCstX K CW)) : HasX P w K mg base "check_search" 7 ["blocks", "start", "goal"] [] (spCseX P w K C CB CW) := by
  refine hasX_of D scCse (fun _ _ _ _ _ _ us hl => match us, hl with | [_, _, _], _ => rfl) (fun xs H Q E h => ?_) (fun f cv A out s H xs Q E hr h => ?_)
  · obtain ⟨u, v, x, rfl, _⟩ := h
    rfl
  · obtain ⟨u, v, x, rfl, h⟩ := h
    have hr3 : Room 3 _ := hr.mono (by decide)
    refine ⟨_, pss_cons (ps_expr (pe_hasX GB hr tkX (pa_cons (pv 0) pa_nil))) (pss_cons (ps_expr (pe_hasX GS hr3 tkX (pa_cons (pv 1) pa_nil))) (pss_cons (ps_expr (pe_hasX GS hr3 tkX (pa_cons (pv 2) pa_nil))) pss_never)), ?_⟩
    rcases h with (⟨a, b⟩ | ⟨⟨d, bs, rfl, a, b⟩, c⟩) | ⟨⟨d, bs, rfl, a, b⟩, g, c⟩
    · exact ⟨_, rfl, .inr ⟨u, rfl, a, b⟩⟩
    · refine ⟨_, rfl, .inl ⟨d, rfl, .inl ⟨bs, a, b, fun H' s' => ?_⟩⟩⟩
      obtain ⟨d2, e1, e2, e3, e4⟩ := c.go s'
      exact ⟨_, rfl, v, d2, rfl, e1, e2, .inr ⟨e3, e4⟩⟩
    · refine ⟨_, rfl, .inl ⟨d, rfl, .inl ⟨bs, a, b, fun H' s' => ?_⟩⟩⟩
      obtain ⟨d2, e1, e2, e3⟩ := g.same s'
      refine ⟨_, rfl, v, d2, rfl, e1, e2, .inl ⟨e3, fun H2 s2 => ?_⟩⟩
      obtain ⟨d3, f1, f2, f3, f4⟩ := c.go (s'.trans s2)
      exact ⟨_, rfl, x, d3, rfl, f1, f2, .inr ⟨f3, f4⟩⟩
/-! ### reach, check -/
def spReX (P : Program) (w : World) (K : PySem.W.Frag) (C CB CW : Addr) : Sp := fun vs H Q E => ∃ u v, vs = [u, v] ∧ BadTwo P w K C CB CW u v H E
theorem hasX_re (D : Def K mg "reach" sReach) (GB : HasX P w K mg base "check_blocks" 6 ["blocks"] [] (spCb2 P w K C CB)) (GS : HasX P w K mg base "check_stack" 3 ["stack"] [] (spCstX K CW)) : HasX P w K mg base "reach" 8 ["blocks", "start"] [] (spReX P w K C CB CW) := by
  refine hasX_of D scRe (fun _ _ _ _ _ _ us hl => match us, hl with | [_, _], _ => rfl) (fun xs H Q E h => ?_) (fun f cv A out s H xs Q E hr h => ?_)
  · obtain ⟨u, v, rfl, _⟩ := h
    rfl
  · obtain ⟨u, v, rfl, h⟩ := h
    have hr3 : Room 3 _ := hr.mono (by decide)
    have hr6 : Room 6 _ := hr.mono (by decide)
    refine ⟨_, pss_cons (ps_expr (pe_hasX GB hr6 tkX (pa_cons (pv 0) pa_nil))) (pss_cons (ps_expr (pe_hasX GS hr3 tkX (pa_cons (pv 1) pa_nil))) pss_never), ?_⟩
    rcases h with ⟨a, b⟩ | ⟨⟨d, bs, rfl, a, b⟩, c⟩
    · exact ⟨_, rfl, .inr ⟨u, rfl, a, b⟩⟩
    · refine ⟨_, rfl, .inl ⟨d, rfl, .inl ⟨bs, a, b, fun H' s' => ?_⟩⟩⟩
      obtain ⟨d2, e1, e2, e3, e4⟩ := c.go s'
      exact ⟨_, rfl, v, d2, rfl, e1, e2, .inr ⟨e3, e4⟩⟩
def spIt : Sp := fun vs H Q _ => vs = [V.non] ∧ Q (.bl false) H
abbrev nIt : List Str := ["value", "edges", "skips", "ends", "edge"]
theorem scIt : FnScope nIt ["value"] (defScope sIsTable) := ⟨rfl, rfl, rfl, by decide +kernel, rfl, by decide +kernel, by decide +kernel⟩
theorem has_it (D : Def K mg "is_table" sIsTable) (B : Blt mg) : Has P w K mg base "is_table" 1 ["value"] [] spIt := by
  refine has_of D scIt (fun _ _ _ _ _ _ us hl => match us, hl with | [_], _ => rfl) (fun xs H Q E h => ?_) (fun f cv A out s H xs Q E hr h => ?_)
  · obtain ⟨rfl, _⟩ := h
    rfl
  · obtain ⟨rfl, k⟩ := h
    refine ⟨_, pss_cons (ps_if (PW.pt (pw_or (pt_not (pt_val (pe_callB call_isi (by rfl) B.isi (by decide +kernel) (pa_cons (pv 0) (pa_cons (pe_bltn (v := .ty "tuple") (by rfl) B.tup (by decide +kernel) rfl) pa_nil)))))
        (pw_or1 (pt_cmpR op_ne (pe_callB call_len_seq (by rfl) B.len PySem.boot_len (pa_cons (pv 0) pa_nil)) pe_int (nomark _))))) (pss_one (ps_ret pe_bl)) pss_nil) pss_never, ?_⟩
    exact ⟨_, rfl, _, .ty "tuple", .type "NoneType", .type "tuple", false, rfl, .ty _, (DpX.non (K := K) (H := H)).ty, kit_tup .none, false, rfl, iteT (iteT k)⟩
def spChX (P : Program) (w : World) (K : PySem.W.Frag) (C CB CW : Addr) : Sp := fun vs H Q E => ∃ u v, vs = [u, v, .non] ∧ (BadTwo P w K C CB CW u v H E ∨ (GoodBl K C H u ∧ GoodSt K H v ∧ ∀ H', Same H H' → Q (.bl false) H'))
abbrev nCh : List Str := ["blocks", "start", "table", "reader", "name", "pops", "pushes"]
abbrev pCh : List Str := ["blocks", "start", "table"]
theorem scCh : FnScope nCh pCh (defScope sCheck) := ⟨rfl, rfl, rfl, by decide +kernel, rfl, by decide +kernel, by decide +kernel⟩
theorem hasX_ch (D : Def K mg "check" sCheck) (GB : HasX P w K mg base "check_blocks" 6 ["blocks"] [] (spCb2 P w K C CB)) (GS : HasX P w K mg base "check_stack" 3 ["stack"] [] (spCstX K CW)) (GT : Has P w K mg base "is_table" 1 ["value"] [] spIt) : HasX P w K mg base "check" 7 pCh [] (spChX P w K C CB CW) := by
  refine hasX_of D scCh (fun _ _ _ _ _ _ us hl => match us, hl with | [_, _, _], _ => rfl) (fun xs H Q E h => ?_) (fun f cv A out s H xs Q E hr h => ?_)
  · obtain ⟨u, v, rfl, _⟩ := h
    rfl
  · obtain ⟨u, v, rfl, h⟩ := h
    have hr1 : Room 1 _ := hr.mono (by decide)
    have hr3 : Room 3 _ := hr.mono (by decide)
    refine ⟨_, pss_cons (ps_expr (pe_hasX GB hr tkX (pa_cons (pv 0) pa_nil))) (pss_cons (ps_expr (pe_hasX GS hr3 tkX (pa_cons (pv 1) pa_nil)))
      (pss_cons (ps_if (pt_not (pt_val (pe_has GT hr1 (pa_cons (pv 2) pa_nil)))) (pss_one (ps_ret pe_bl)) pss_nil) pss_never)), ?_⟩
    rcases h with (⟨a, b⟩ | ⟨⟨d, bs, rfl, a, b⟩, c⟩) | ⟨⟨d, bs, rfl, a, b⟩, g, k⟩
    · exact ⟨_, rfl, .inr ⟨u, rfl, a, b⟩⟩
    · refine ⟨_, rfl, .inl ⟨d, rfl, .inl ⟨bs, a, b, fun H' s' => ?_⟩⟩⟩
      obtain ⟨d2, e1, e2, e3, e4⟩ := c.go s'
      exact ⟨_, rfl, v, d2, rfl, e1, e2, .inr ⟨e3, e4⟩⟩
    · refine ⟨_, rfl, .inl ⟨d, rfl, .inl ⟨bs, a, b, fun H' s' => ?_⟩⟩⟩
      obtain ⟨d2, e1, e2, e3⟩ := g.same s'
      exact ⟨_, rfl, v, d2, rfl, e1, e2, .inl ⟨e3, fun H2 s2 => ⟨_, rfl, rfl, false, rfl, iteT (k _ (s'.trans s2))⟩⟩⟩
/-! ### is_reachable, least_blocks, route -/
theorem hasX_lb (D : Def K mg "least_blocks" sLeastBlocks) (G : HasX P w K mg base "check_search" 7 pGs [] (spCseX P w K C CB CW)) : HasX P w K mg base "least_blocks" 9 pGs [] (spCseX P w K C CB CW) := by
  refine hasX_of D scLb (fun _ _ _ _ _ _ us hl => match us, hl with | [_, _, _], _ => rfl) (fun xs H Q E h => ?_) (fun f cv A out s H xs Q E hr h => ?_)
  · obtain ⟨u, v, x, rfl, _⟩ := h
    rfl
  · obtain ⟨u, v, x, rfl, h⟩ := h
    have hr7 : Room 7 _ := hr.mono (by decide)
    refine ⟨_, pss_cons (ps_expr (pe_hasX G hr7 tkX (pa_cons (pv 0) (pa_cons (pv 1) (pa_cons (pv 2) pa_nil))))) pss_never, ?_⟩
    exact ⟨_, rfl, _, rfl, _, rfl, u, v, x, rfl, h⟩
theorem hasX_ir (D : Def K mg "is_reachable" sIsReachable) (G : HasX P w K mg base "least_blocks" 9 pGs [] (spCseX P w K C CB CW)) : HasX P w K mg base "is_reachable" 10 pGs [] (spCseX P w K C CB CW) := by
  refine hasX_of D scIr (fun _ _ _ _ _ _ us hl => match us, hl with | [_, _, _], _ => rfl) (fun xs H Q E h => ?_) (fun f cv A out s H xs Q E hr h => ?_)
  · obtain ⟨u, v, x, rfl, _⟩ := h
    rfl
  · obtain ⟨u, v, x, rfl, h⟩ := h
    refine ⟨_, pss_one (ps_ret (pe_cmpR op_notN (pe_hasX G hr tkX (pa_cons (pv 0) (pa_cons (pv 1) (pa_cons (pv 2) pa_nil)))) pe_non (nomark _))), ?_⟩
    exact ⟨_, rfl, _, rfl, _, rfl, u, v, x, rfl, h⟩
def spRtX (P : Program) (w : World) (K : PySem.W.Frag) (C CB CW : Addr) : Sp := fun vs H Q E => ∃ u v x y, vs = [u, v, x, y] ∧ BadSea P w K C CB CW u v x H E
theorem hasX_rtX (D : DefK K mg "route" sRoute [("most", .int 1000)]) (G : HasX P w K mg base "check_search" 7 pGs [] (spCseX P w K C CB CW)) : KHasM P w K mg base (L2.CX P w) "route" sRoute pRt 9 (spRtX P w K C CB CW) := by
  obtain ⟨f, fd, F, FD, hmg⟩ := D
  refine ⟨f, fd, F.okX scRt (fun vs H Q E h => ?_) (fun cv A out s H vs Q E hr h => ?_), FD, hmg⟩
  · obtain ⟨u, v, x, y, rfl, _⟩ := h
    rfl
  · obtain ⟨u, v, x, y, rfl, h⟩ := h
    have hr7 : Room 7 _ := hr.mono (by decide)
    refine ⟨_, pss_cons (ps_expr (pe_hasX G hr7 tkX (pa_cons (pv 0) (pa_cons (pv 1) (pa_cons (pv 2) pa_nil))))) pss_never, ?_⟩
    exact ⟨_, rfl, _, rfl, _, rfl, u, v, x, rfl, h⟩
theorem KHasM.or2 {x : Str} {st : Stmt} {ps : List Str} {k : Nat} {sp1 sp2 : Sp} (h1 : KHasM P w K mg base (L2.CX P w) x st ps k sp1) (h2 : KHasM P w K mg base (L2.CX P w) x st ps k sp2) : KHasM P w K mg base (L2.CX P w) x st ps k (fun vs H Q E => sp1 vs H Q E ∨ sp2 vs H Q E) := by
  obtain ⟨f1, fd1, F1, U1, m1⟩ := h1
  obtain ⟨f2, fd2, F2, U2, m2⟩ := h2
  obtain rfl : f1 = f2 := Value.ref.inj (Option.some.inj (m1.symm.trans m2))
  have ef : fd1 = fd2 := by
    obtain ⟨_, _, _, _, _, _, _, _, _, _, e1, l1, _⟩ := U1.ex
    obtain ⟨_, _, _, _, _, _, _, _, _, _, e2, l2, _⟩ := U2.ex
    have := Option.some.inj (l1.symm.trans l2)
    simp only [Obj.mk.injEq, Data.func.injEq] at this
    first
      | exact this.2.2.1
      | (injection this with _ _ q; exact Data.func.inj q)
  subst ef
  exact ⟨f1, fd1, ⟨fun vs H Q E h => h.elim (F1.len vs H Q E) (F2.len vs H Q E), fun A outer s H args us vs Q E hr he hb hv h => h.elim (F1.run A outer s H args us vs Q E hr he hb hv) (F2.run A outer s H args us vs Q E hr he hb hv)⟩, U1, m1⟩
end
end SE
namespace SE
open PySem PySem.Spec PyProof.Rows L2
section
variable {P : Program} {w : World} {K : PySem.W.Frag} {mg : Str → Option Value} {base : Heap} {C : Addr}
/-! ### __repr__ while a list's repr is under way -/
def spReprM (K : PySem.W.Frag) (C : Addr) (g : List Code) : Sp := fun vs H Q _ => ∃ (e : Addr) (o : Eff), vs = [.ref e] ∧ EffV K C H e o ∧ EffOk o ∧ GuM K g H ∧ Q (.str (shownE o)) H
theorem ok_reprM {f : Addr} {fd : FuncData} {g : List Code} (F : Fun K "__repr__" "Effect.__repr__" sRepr f fd) (T : EC K mg C) : GOkG P w K mg base g 1 f fd ["self"] (spReprM K C g) := by
  obtain ⟨oc, od, kV, doc, pm, an, cv, ct, osl, rfl, look, hcode⟩ := F.ex
  refine gok_ofG look hcode scRp (fun vs H Q E h => ?_) (fun A out s H vs Q E hgu hr h => ?_)
  · obtain ⟨e, o, rfl, _⟩ := h
    rfl
  · obtain ⟨e, o, rfl, h, ok, hc, k⟩ := h
    have body : ∃ t, PSs (cxOf CX0 P w K mg base ["self"] "Effect.__repr__" (defScope sRepr) f cv A out s H E).nox (defBody sRepr) t ∧ t { nx := fun _ H2 => Q .non H2, rt := Q } (start ["self"] [.ref e]) H := by
      refine ⟨_, pss_cons (ps_if (pt_cmpR op_isN (pe_fld (pv 0) rfl) pe_non (nomark _)) (pss_one (ps_ret pe_str)) pss_nil)
        (pss_one (ps_ret (pe_joined (.cons pe_str (.cons (pe_fmtM hgu hr.units (pe_fld (pv 0) rfl)) (.cons pe_str (.cons (pe_fmtM hgu hr.units (pe_fld (pv 0) rfl)) (.cons pe_str (.cons (pe_fmtR (pe_fld (pv 0) rfl)) (.cons pe_str .nil)))))))))), ?_⟩
      cases o with
      | none =>
        obtain ⟨dx, h1⟩ := NevAt.ex h
        exact ⟨_, rfl, e, C, dx, _, _, rfl, h1, T.cl, T.nN, eF_needs _ _ _, rfl, true, rfl, iteT k⟩
      | some o =>
        obtain ⟨xs, ys, p⟩ := o
        obtain ⟨dx, u, v, h1, h2, h3⟩ := EffAt.ex h
        obtain ⟨i1, i2, l1, l2, p0, p1⟩ := ok
        have n1 := nice_tuple (nice_strs i1)
        have n2 := nice_tuple (nice_strs i2)
        have z1 := n1.shownLe
        have z2 := n2.shownLe
        rw [List.length_map] at z1 z2
        have tl : (toString p : Str).length ≤ 13 := by
          have := PyData.shown_int_le (i := p) (by omega)
          exact this
        have big : ∀ m : Nat, m ≤ 400000 → m ≤ sizeLine := fun m hm => by
          rw [sizeLine_eq]
          omega
        have w0 : (Str.empty : Str).length = 0 := by decide +kernel
        have w1 : ("Effect(" : Str).length = 7 := by decide +kernel
        have w2 : (", " : Str).length = 2 := by decide +kernel
        have w3 : (", peak=" : Str).length = 7 := by decide +kernel
        have w4 : (")" : Str).length = 1 := by decide +kernel
        have lg : p.natAbs.log2 < 1920 := PySem.Flt.log2_lt_of (by decide) (Nat.lt_of_lt_of_le (show p.natAbs < 2 ^ 17 by show _ < 131072; omega) (Nat.pow_le_pow_right (by decide) (by decide)))
        refine ⟨_, rfl, e, C, dx, _, _, rfl, h1, T.cl, T.nN, eF_needs _ _ _, rfl, false, rfl, iteF ?_⟩
        refine ⟨_, rfl, big _ ?_, _, rfl, e, C, dx, _, _, rfl, h1, T.cl, T.nN, eF_needs _ _ _, u, xs, rfl, h2, hc, big _ (by omega), _, rfl, big _ ?_, _, rfl, big _ ?_, _, rfl, e, C, dx, _, _, rfl, h1, T.cl, T.nL, eF_leaves _ _ _, v, ys, rfl, h3, hc, big _ (by omega), _, rfl, big _ ?_, _, rfl, big _ ?_, _, rfl, e, C, dx, _, _, rfl, h1, T.cl, T.nH, eF_high _ _ _, .inr ⟨p, rfl, lg, _, rfl, big _ ?_, _, rfl, big _ ?_, k⟩⟩
        all_goals (simp only [len_add, w0, w1, w2, w3, w4]; omega)
    obtain ⟨t, a, b⟩ := body
    exact ⟨t, a.nox, b⟩
theorem ok_reprH {f : Addr} {fd : FuncData} {g : List Code} (F : Fun K "__repr__" "Effect.__repr__" sRepr f fd) (T : EC K mg C) : GOkH P w K mg base g 1 f fd ["self"] (spReprM K C g) := by
  obtain ⟨oc, od, kV, doc, pm, an, cv, ct, osl, rfl, look, hcode⟩ := F.ex
  refine gok_ofH look hcode scRp (fun vs H Q E h => ?_) (fun A out s H vs Q E p0 hgu hr h => ?_)
  · obtain ⟨e, o, rfl, _⟩ := h
    rfl
  · obtain ⟨e, o, rfl, h, ok, hc, k⟩ := h
    have body : ∃ t, PSs (L2H.cxH CX0 P w K mg base ["self"] "Effect.__repr__" (defScope sRepr) f cv A out s H E p0).nox (defBody sRepr) t ∧ t { nx := fun _ H2 => Q .non H2, rt := Q } (start ["self"] [.ref e]) H := by
      refine ⟨_, pss_cons (ps_if (pt_cmpR op_isN (pe_fld (pv 0) rfl) pe_non (nomark _)) (pss_one (ps_ret pe_str)) pss_nil)
        (pss_one (ps_ret (pe_joined (.cons pe_str (.cons (pe_fmtM hgu (roomH_units hr) (pe_fld (pv 0) rfl)) (.cons pe_str (.cons (pe_fmtM hgu (roomH_units hr) (pe_fld (pv 0) rfl)) (.cons pe_str (.cons (pe_fmtR (pe_fld (pv 0) rfl)) (.cons pe_str .nil)))))))))), ?_⟩
      cases o with
      | none =>
        obtain ⟨dx, h1⟩ := NevAt.ex h
        exact ⟨_, rfl, e, C, dx, _, _, rfl, h1, T.cl, T.nN, eF_needs _ _ _, rfl, true, rfl, iteT k⟩
      | some o =>
        obtain ⟨xs, ys, p⟩ := o
        obtain ⟨dx, u, v, h1, h2, h3⟩ := EffAt.ex h
        obtain ⟨i1, i2, l1, l2, p0, p1⟩ := ok
        have n1 := nice_tuple (nice_strs i1)
        have n2 := nice_tuple (nice_strs i2)
        have z1 := n1.shownLe
        have z2 := n2.shownLe
        rw [List.length_map] at z1 z2
        have tl : (toString p : Str).length ≤ 13 := by
          have := PyData.shown_int_le (i := p) (by omega)
          exact this
        have big : ∀ m : Nat, m ≤ 400000 → m ≤ sizeLine := fun m hm => by
          rw [sizeLine_eq]
          omega
        have w0 : (Str.empty : Str).length = 0 := by decide +kernel
        have w1 : ("Effect(" : Str).length = 7 := by decide +kernel
        have w2 : (", " : Str).length = 2 := by decide +kernel
        have w3 : (", peak=" : Str).length = 7 := by decide +kernel
        have w4 : (")" : Str).length = 1 := by decide +kernel
        have lg : p.natAbs.log2 < 1920 := PySem.Flt.log2_lt_of (by decide) (Nat.lt_of_lt_of_le (show p.natAbs < 2 ^ 17 by show _ < 131072; omega) (Nat.pow_le_pow_right (by decide) (by decide)))
        refine ⟨_, rfl, e, C, dx, _, _, rfl, h1, T.cl, T.nN, eF_needs _ _ _, rfl, false, rfl, iteF ?_⟩
        refine ⟨_, rfl, big _ ?_, _, rfl, e, C, dx, _, _, rfl, h1, T.cl, T.nN, eF_needs _ _ _, u, xs, rfl, h2, hc, big _ (by omega), _, rfl, big _ ?_, _, rfl, big _ ?_, _, rfl, e, C, dx, _, _, rfl, h1, T.cl, T.nL, eF_leaves _ _ _, v, ys, rfl, h3, hc, big _ (by omega), _, rfl, big _ ?_, _, rfl, big _ ?_, _, rfl, e, C, dx, _, _, rfl, h1, T.cl, T.nH, eF_high _ _ _, .inr ⟨p, rfl, lg, _, rfl, big _ ?_, _, rfl, big _ ?_, k⟩⟩
        all_goals (simp only [len_add, w0, w1, w2, w3, w4]; omega)
    obtain ⟨t, a, b⟩ := body
    exact ⟨t, a.nox, b⟩
def ReprHasM (P : Program) (w : World) (K : PySem.W.Frag) (mg : Str → Option Value) (base : Heap) (C : Addr) : Prop := ∃ f fd, (∀ g, GOkG P w K mg base g 1 f fd ["self"] (spReprM K C g)) ∧ (∀ g, GOkH P w K mg base g 1 f fd ["self"] (spReprM K C g)) ∧ PySem.W.findIn K (.ref C) "__repr__" = some (some (.ref f)) ∧ PySem.W.isFn K (.ref f) = true ∧ Binds K fd ["self"] []
end
end SE
namespace SE
open PySem PySem.Spec PyProof.Rows L2
def ShD (d : PyData) : Prop := d.showable = true ∧ d.depth ≤ 20 ∧ d.shown.length ≤ sizeLine
end SE
namespace SE
open PySem PySem.Spec PyProof.Rows L2
/-! ### reprs of what are no blocks -/
inductive RepEl (K : PySem.W.Frag) (C : Addr) (H : Hp) : V → Str → Prop
  | flat {v : V} {d : PyData} (h : FlatV v d) (hs : d.showable = true) : RepEl K C H v d.shown
  | eff {e : Addr} {o : Eff} (h : EffV K C H e o) (ok : EffOk o) : RepEl K C H (.ref e) (shownE o)
  | dat {v : V} {d : PyData} (h : Dp K H v d) (hs : d.showable = true) (hn : noLst d = true) (hd : d.depth ≤ 20) : RepEl K C H v d.shown
theorem RepEl.same {K : PySem.W.Frag} {C : Addr} {H H' : Hp} {v : V} {t : Str} (h : RepEl K C H v t) (s : Same H H') : RepEl K C H' v t := by
  cases h with
  | flat h hs => exact .flat h hs
  | eff h ok => exact .eff (h.same s) ok
  | dat h hs hn hd => exact .dat (dpSame s _ _ h) hs hn hd
def ShB (P : Program) (w : World) (K : PySem.W.Frag) (C : Addr) (H : Hp) (v : V) (t : Str) : Prop :=
  (∃ d, DpX K H v d ∧ ShD d ∧ t = d.shown) ∨
  (∃ (d : Addr) (ks vs : List V) (ts : List (Str × Str)), v = .ref d ∧ FixV P w H d ks vs ∧ ks.length = ts.length ∧ (∀ (i : Nat) (k x : V), ks[i]? = some k → vs[i]? = some x → ∃ t : Str × Str, ts[i]? = some t ∧ RepEl K C H k t.1 ∧ RepEl K C H x t.2) ∧ (dictText (ts.map pairT)).length ≤ sizeLine ∧ t = dictText (ts.map pairT)) ∨
  (∃ (L T e : Addr) (o : Eff) (z : Str), v = .ref L ∧ H L = some (.lst [.ref T]) ∧ SqT K H T [.str z, .ref e] ∧ EffV K C H e o ∧ EffOk o ∧ (listText [tupleText [reprText z, shownE o]]).length ≤ sizeLine ∧ t = listText [tupleText [reprText z, shownE o]])
theorem ShB.same {P : Program} {w : World} {K : PySem.W.Frag} {C : Addr} {H H' : Hp} {v : V} {t : Str} (h : ShB P w K C H v t) (s : Same H H') : ShB P w K C H' v t := by
  rcases h with ⟨d, h1, h2⟩ | ⟨d, ks, vs, ts, h1, h2, h3, h4, h5⟩ | ⟨L, T, e, o, z, h1, h2, h3, h4, h5⟩
  · exact .inl ⟨d, DpX.same s _ _ h1, h2⟩
  · refine .inr (.inl ⟨d, ks, vs, ts, h1, h2.same s, h3, fun i k x a b => ?_, h5⟩)
    obtain ⟨t, q1, q2, q3⟩ := h4 i k x a b
    exact ⟨t, q1, q2.same s, q3.same s⟩
  · exact .inr (.inr ⟨L, T, e, o, z, h1, s _ _ h2, Same.tup s h3, h4.same s, h5⟩)
def rRepBB (P : Program) (w : World) (K : PySem.W.Frag) (C : Addr) : List V → Hp → VK → Prop := fun vs H Q => ∃ v t, vs = [v] ∧ ShB P w K C H v t ∧ ∀ H', Same H H' → Q (.str t) H'
section
variable {X : Cx} {C : Addr}
theorem call_repBQ {f : Addr} {fd : FuncData} (F : ∀ g, CallQ X g 1 f fd (spReprM X.K C g)) (r1 : PySem.W.findIn X.K (.ref C) "__repr__" = some (some (.ref f))) (r2 : PySem.W.isFn X.K (.ref f) = true) (r3 : Binds X.K fd ["self"] []) (hgu : X.A.guards = some []) (hr : RoomQ X 6 X.A) : CallR X (.builtin "repr") (rRepBB X.prog X.w X.K C) := by
  intro pins s σ H xs us Q I r h
  obtain ⟨v, t, rfl, hv, k⟩ := h
  have own : ∀ {g : List Code} {e : Addr} {o : Eff}, GuM X.K g H → EffV X.K C H e o → EffOk o → RUQ X g 1 (.ref e) (shownE o) H := fun {g e o} hg hE ok =>
    ruq_own (sp := spReprM X.K C) (F _) r1 r2 r3 hE.ins fun H' s => ⟨e, o, rfl, hE.same s, ok, hg.same s, rfl, Same.refl _⟩
  rcases hv with ⟨d, h1, ⟨q1, q2, q3⟩, rfl⟩ | ⟨d, ks, vs, ts, rfl, h1, h2, h3, h4, rfl⟩ | ⟨L, T, e, o, z, rfl, h1, h2, h3, h4, h5, rfl⟩
  · exact call_repX hgu hr.units pins s σ H _ us Q I r ⟨v, d, rfl, h1, q1, q2, q3, k H (Same.refl H)⟩
  · obtain ⟨x, hx, hdx⟩ := h1.dct
    have el : ∀ {v : V} {t : Str}, RepEl X.K C H v t → RUQ X [.builtin "dict.__repr__" ⟨[.ref d], []⟩] 1 v t H := fun {v t} q => by
      cases q with
      | flat h hs => exact ruq_flat h hs
      | eff h ok => exact own (GuM.nil.dct hx hdx) h ok
      | dat h hs hn hd => exact ruq_dpD (args := []) hx hdx (fun H' s => dpSame s _ _ h) hs hn hd rfl
    refine call_repD (n := 1) hgu (hr.mono (by decide)) pins s σ H _ us Q I r ⟨d, ks, vs, ts, rfl, h1, h2, h4, fun i kk x hk hx => ?_, k⟩
    obtain ⟨t, ht, e1, e2⟩ := h3 i kk x hk hx
    exact ⟨t, ht, el e1, el e2⟩
  · refine call_reprRQ (n := 2) hgu (hr.mono (by decide)) pins s σ H _ us Q I r ⟨L, _, _, rfl, h1, rfl, h5, fun i y hy => ?_, k⟩
    cases i with
    | succ i => cases hy
    | zero =>
      cases hy
      refine ⟨_, rfl, fun rest => ?_⟩
      have LT : T ≠ L := fun q => by
        obtain ⟨_, its, nL, rL, lL, eL⟩ := I.lstM h1
        obtain ⟨its2, rv, ⟨o2, ho, hc, _⟩, _⟩ := I.tuple h2
        rw [q, eL] at ho
        cases ho
        simp at hc
      refine ruq_tup (n := 1) h2 ?_ rfl fun i y hy => ?_
      · exact Clear.cons (Clear.nil _) (Ne.symm LT)
      · have gm : ∀ rest2, GuM X.K (.builtin "tuple.__repr__.under" ⟨.ref T :: rest2, []⟩ :: [.builtin "list.__repr__.loop" ⟨.ref L :: rest, []⟩]) H := fun rest2 => GuM.tupM (GuM.nil.lst h1) (e := e) (by simp) h2
        cases i with
        | zero =>
          cases hy
          refine ⟨_, rfl, fun rest2 => ?_⟩
          have := ruq_flat (X := X) (g := .builtin "tuple.__repr__.under" ⟨.ref T :: rest2, []⟩ :: [.builtin "list.__repr__.loop" ⟨.ref L :: rest, []⟩]) (n := 1) (H := H) (.str z) rfl
          simpa only [PyData.shown] using this
        | succ i =>
          cases i with
          | zero =>
            cases hy
            exact ⟨_, rfl, fun rest2 => own (gm rest2) h3 h4⟩
          | succ i => cases hy
theorem call_repB (RP : ReprHasM X.prog X.w X.K X.mg X.base C) (hgu : X.A.guards = some []) (hr : Room 6 X.A) : CallR X (.builtin "repr") (rRepBB X.prog X.w X.K C) := by
  obtain ⟨f, fd, F, _, r1, r2, r3⟩ := RP
  exact call_repBQ (fun g => callQ_calm (F g) hr.hd) r1 r2 r3 hgu ⟨L2H.roomH_of hr, rfl⟩
theorem call_repBH (RP : ReprHasM X.prog X.w X.K X.mg X.base C) (hgu : X.A.guards = some []) (hr : L2H.RoomH 6 X.A) (hc : ∃ p, p ∈ X.pn) : CallR X (.builtin "repr") (rRepBB X.prog X.w X.K C) := by
  obtain ⟨f, fd, _, F, r1, r2, r3⟩ := RP
  exact call_repBQ (fun g => callQ_hot (F g) hc) r1 r2 r3 hgu ⟨hr, rfl⟩
theorem hot_suite {a : Addr} {oe : Obj} {pn : List (Addr × Obj)} : ∃ p, p ∈ (X.suite a ((a, oe) :: pn)).pn := ⟨(a, oe), List.mem_cons_self⟩
end
end SE
namespace SE
open PySem PySem.Spec PyProof.Rows L2
section
variable {P : Program} {w : World} {K : PySem.W.Frag} {mg : Str → Option Value} {base : Heap} {C CB CW CN CL CS Z : Addr}
/-- a new list of these -/
def outL (Q : VK) (H : Hp) (vs : List V) : Prop := ∀ (l : Addr) (H' : Hp), Same H H' → H l = none → H' l = some (.lst vs) → Q (.ref l) H'
theorem outL.go {Q : VK} {H H' : Hp} {vs : List V} (h : outL Q H vs) (s : Same H H') : outL Q H' vs := fun l H2 s2 n e => h l H2 (s.trans s2) (s.free n) e
theorem outL.new {Q : VK} {H : Hp} {vs : List V} (h : outL Q H vs) {l : Addr} (n : H l = none) : Q (.ref l) (upd H l (.lst vs)) := h l _ (Same.new n) n upd_same
theorem HasX.orH {x : Str} {k j : Nat} {ps : List Str} {dvs dvs2 : List V} {sp1 sp2 : Sp} (h1 : HasX P w K mg base x k ps dvs sp1) (h2 : Has P w K mg base x j ps dvs2 sp2) (hj : j ≤ k) :
    HasX P w K mg base x k ps dvs (fun vs H Q E => sp1 vs H Q E ∨ sp2 vs H Q E) := by
  obtain ⟨f1, fd1, ds1, F1, m1, kp1, b1, v1, st1, U1⟩ := h1
  obtain ⟨f2, fd2, ds2, F2, m2, kp2, b2, v2, st2, U2⟩ := h2
  obtain rfl : f1 = f2 := Value.ref.inj (Option.some.inj (m1.symm.trans m2))
  have ef : fd1 = fd2 := by
    obtain ⟨_, _, _, _, _, _, _, _, _, _, l1, _⟩ := U1.ex
    obtain ⟨_, _, _, _, _, _, _, _, _, _, l2, _⟩ := U2.ex
    have := Option.some.inj (l1.symm.trans l2)
    simp only [Obj.mk.injEq, Data.func.injEq] at this
    first
      | exact this.2.2.1
      | (injection this with _ _ q; exact Data.func.inj q)
  subst ef
  have F2 := F2.mono hj
  refine ⟨f1, fd1, ds1, ⟨fun vs H Q E h => h.elim (F1.len vs H Q E) (F2.len vs H Q E), fun A outer s H args us vs Q E hr he hb hv h => ?_⟩, m1, kp1, b1, v1, st1, U1⟩
  rcases h with h | h
  · exact F1.run A outer s H args us vs Q E hr he hb hv h
  · refine codeAny_mono (F2.run A outer s H args us vs Q E hr he hb hv h) fun r s' q => ?_
    cases r with
    | ok fl => cases fl <;> exact q
    | error e => exact q.elim
/-! ### _law_raised -/
abbrev nRd : List Str := ["_law_door", "_law_blocks", "_law_start", "_law_goal", "_law_greatest", "e"]
abbrev pRd : List Str := ["_law_door", "_law_blocks", "_law_start", "_law_goal", "_law_greatest"]
theorem scRd : FnScope nRd pRd (defScope sLawRaised) := ⟨rfl, rfl, rfl, by decide +kernel, rfl, by decide +kernel, by decide +kernel⟩
def tsR (P : Program) (w : World) (K : PySem.W.Frag) (C CS : Addr) (z : Str) (CX : Addr) : Addr → Value → Option Addr → TS := fun a cls d =>
  tRet (tLst (tCons (tC (.str z)) (tCons (tCB (rRepBB P w K C) (tCons (tXf a cls d CX "value" (tVar 5)) tNil)) (tCons (tCB (rIsX K CX a cls d) (tCons (tVar 5) (tCons (tC (.ref CS)) tNil))) tNil))))
def spRe2 (P : Program) (w : World) (K : PySem.W.Frag) (C CB CW : Addr) : Sp := fun vs H Q E => spReX P w K C CB CW vs H Q E ∨ spRe K C vs H Q E
def spIr2 (P : Program) (w : World) (K : PySem.W.Frag) (C CB CW : Addr) (g : Option Nat → V) : Sp := fun vs H Q E => spCseX P w K C CB CW vs H Q E ∨ spLb K C g vs H Q E
def spRt2 (P : Program) (w : World) (K : PySem.W.Frag) (C CB CW CN CL : Addr) : Sp := fun vs H Q E => spRtX P w K C CB CW vs H Q E ∨ spRt K C CN CL vs H Q E
def tbRd (P : Program) (w : World) (K : PySem.W.Frag) (C CB CW CN CL : Addr) (W : WX) : TS :=
  tIfS (tTest (tOp rEq (tVar 0) (tC (.int 0)))) (tDrop (tCallS (spRe2 P w K C CB CW) (WE W) (tCons (tVar 1) (tCons (tVar 2) tNil))))
  (tIfS (tTest (tOp rEq (tVar 0) (tC (.int 1)))) (tDrop (tCallS (spChX P w K C CB CW) (WE W) (tCons (tVar 1) (tCons (tVar 2) (tCons (tC .non) tNil)))))
  (tIfS (tTest (tOp rEq (tVar 0) (tC (.int 2)))) (tDrop (tCallS (spIr2 P w K C CB CW someV) (WE W) (tCons (tVar 1) (tCons (tVar 2) (tCons (tVar 3) tNil)))))
  (tIfS (tTest (tOp rEq (tVar 0) (tC (.int 3)))) (tDrop (tCallS (spIr2 P w K C CB CW optN) (WE W) (tCons (tVar 1) (tCons (tVar 2) (tCons (tVar 3) tNil)))))
    (tDrop (tKwS 3 1 (spRt2 P w K C CB CW CN CL) (fun vs zs => vs ++ zs) (WE W) (tCons (tVar 1) (tCons (tVar 2) (tCons (tVar 3) tNil))) (tCons (tVar 4) tNil))))))
structure RdX (P : Program) (w : World) (K : PySem.W.Frag) (mg : Str → Option Value) (base : Heap) (CB CW CN CS : Addr) : Prop where
  xb : XcC P w K mg base "InvalidBlocks" "value" CB
  xw : XcC P w K mg base "InvalidWord" "value" CW
  xn : XcC P w K mg base "InvalidNumber" "value" CN
  gS : mg "StackError" = some (.ref CS)
  kb : PySem.W.kitOne K (.ref CB) (.ref CS) = some true
  kw : PySem.W.kitOne K (.ref CW) (.ref CS) = some true
  kn : PySem.W.kitOne K (.ref CN) (.ref CS) = some true
  wb : PySem.W.exmOne K (.ref CW) (.ref CB) = some false
  nb : PySem.W.exmOne K (.ref CN) (.ref CB) = some false
  nw : PySem.W.exmOne K (.ref CN) (.ref CW) = some false
/-- what a search is given -/
def SeaIn (K : PySem.W.Frag) (C : Addr) (H : Hp) (u v x : V) (bs : Blk) (ns zs ys : List Str) : Prop := ∃ d a b, u = .ref d ∧ v = .ref a ∧ x = .ref b ∧ BlkD K C H d bs ∧ BlkOk bs ∧ NsOf bs ns ∧ SqT K H a (zs.map V.str) ∧ zs.length ≤ 30 ∧ (∀ z ∈ zs, Item z) ∧ SqT K H b (ys.map V.str) ∧ ys.length ≤ 30 ∧ (∀ z ∈ ys, Item z)
def spRd (P : Program) (w : World) (K : PySem.W.Frag) (C : Addr) : Sp := fun vs H Q _ => ∃ (dr : Int) (u v x y : V), vs = [.int dr, u, v, x, y] ∧ 0 ≤ dr ∧ dr ≤ 4 ∧
  ((BadB P w K C H u ∧ ∃ t, ShB P w K C H u t ∧ outL Q H [.str "blocks", .str t, .bl true]) ∨
   (GoodBl K C H u ∧ ∃ d, DpX K H v d ∧ OkD d ∧ stkD d = false ∧ ShD d ∧ outL Q H [.str "word", .str d.shown, .bl true]) ∨
   (2 ≤ dr ∧ GoodBl K C H u ∧ GoodSt K H v ∧ ∃ d, DpX K H x d ∧ OkD d ∧ stkD d = false ∧ ShD d ∧ outL Q H [.str "word", .str d.shown, .bl true]) ∨
   (dr = 0 ∧ (∃ d a bs ns zs fu r, u = .ref d ∧ v = .ref a ∧ BlkD K C H d bs ∧ BlkOk bs ∧ NsOf bs ns ∧ SqT K H a (zs.map V.str) ∧ zs.length ≤ 30 ∧ (∀ z ∈ zs, Item z) ∧ searchM fu (rulesM bs ns) zs [] = some r ∧ r.R.costs.length ≤ capA) ∧ ∀ H', Same H H' → Q .non H') ∨
   (dr = 1 ∧ GoodBl K C H u ∧ GoodSt K H v ∧ ∀ H', Same H H' → Q .non H') ∨
   ((dr = 2 ∨ dr = 3) ∧ (∃ bs ns zs ys fu r, SeaIn K C H u v x bs ns zs ys ∧ searchM fu (rulesM bs ns) zs [ys] = some r) ∧ ∀ H', Same H H' → Q .non H') ∨
   (dr = 4 ∧ ∃ bs ns zs ys fu r dm, SeaIn K C H u v x bs ns zs ys ∧ searchM fu (rulesM bs ns) zs [ys] = some r ∧ DpX K H y dm ∧
      ((betD 0 5000 dm = false ∧ ShD dm ∧ outL Q H [.str "number", .str dm.shown, .bl true]) ∨
       (∃ k : Int, dm = .int k ∧ y = .int k ∧ 0 ≤ k ∧ k ≤ 5000 ∧ (leastM r (rulesM bs ns).length = none ∨ ∃ j : Nat, leastM r (rulesM bs ns).length = some j ∧ (j : Int) ≤ k ∧ ∃ names, namesTo fu r (rulesM bs ns).length = some names) ∧ ∀ H', Same H H' → Q .non H'))))
theorem ghas_rd (D : Def K mg "_law_raised" sLawRaised) (RP : ReprHasM P w K mg base C) (RX : RdX P w K mg base CB CW CN CS) (GRe : HasX P w K mg base "reach" 8 ["blocks", "start"] [] (spRe2 P w K C CB CW)) (GCh : HasX P w K mg base "check" 7 pCh [] (spChX P w K C CB CW))
    (GIr : HasX P w K mg base "is_reachable" 10 pGs [] (spIr2 P w K C CB CW someV)) (GLb : HasX P w K mg base "least_blocks" 9 pGs [] (spIr2 P w K C CB CW optN)) (GRt : KHasM P w K mg base (L2.CX P w) "route" sRoute pRt 9 (spRt2 P w K C CB CW CN CL)) (B : Blt mg) (mp : mg "repr" = none) :
    GHas P w K mg base "_law_raised" 11 pRd (spRd P w K C) := by
  obtain ⟨f0, fd0, F0, kb0, m0, kp0⟩ := GRt.kb 3 (fun D doc pm an cv ct us ws h1 h2 => match us, ws, h1, h2 with | [_, _, _], [_], _, _ => rfl)
  refine ghas_of D scRd (fun _ _ _ _ _ _ us hl => match us, hl with | [_, _, _, _, _], _ => rfl) (fun xs H Q E h => ?_) (fun f cv A out s H xs Q E hgu hr h => ?_)
  · obtain ⟨dr, u, v, x, y, rfl, _⟩ := h
    rfl
  · have hr6 : Room 6 _ := hr.mono (by decide)
    have hr7 : Room 7 _ := hr.mono (by decide)
    have hr8 : Room 8 _ := hr.mono (by decide)
    have hr9 : Room 9 _ := hr.mono (by decide)
    refine ⟨_, (pss_cons (ps_try_asL (i := 5) (tm := tbRd P w K C CB CW CN CL) (cl := [(.ref CB, tsR P w K C CS "blocks" CB), (.ref CW, tsR P w K C CS "word" CW), (.ref CN, tsR P w K C CS "number" CN)]) (out := fun _ _ _ _ => False) rfl rfl scRd.nd rfl rfl takes0
        (fun W pn xe tk _ => pss_one (ps_if (pt_cmpR op_eq (pv 0) pe_int (nomark _)) (pss_one (ps_expr (pe_hasS GRe hr8 tk (pa_cons (pv 1) (pa_cons (pv 2) pa_nil))))) (pss_one (ps_if (pt_cmpR op_eq (pv 0) pe_int (nomark _)) (pss_one (ps_expr (pe_hasS GCh hr7 tk (pa_cons (pv 1) (pa_cons (pv 2) (pa_cons pe_non pa_nil)))))) (pss_one (ps_if (pt_cmpR op_eq (pv 0) pe_int (nomark _)) (pss_one (ps_expr (pe_hasS GIr hr tk (pa_cons (pv 1) (pa_cons (pv 2) (pa_cons (pv 3) pa_nil)))))) (pss_one (ps_if (pt_cmpR op_eq (pv 0) pe_int (nomark _)) (pss_one (ps_expr (pe_hasS GLb hr9 tk (pa_cons (pv 1) (pa_cons (pv 2) (pa_cons (pv 3) pa_nil)))))) (pss_one (ps_expr (pe_kwS (ex := WE W) F0 hr9 m0 kp0 kb0 (fun σ => passAt tk σ) (pa_cons (pv 1) (pa_cons (pv 2) (pa_cons (pv 3) pa_nil))) (pk_cons (pv 4) pk_nil))))))))))))
        (.cons ⟨rfl, by decide, .inl RX.xb.gC⟩ (fun a oe cls d pn hz hf => pss_one (ps_ret (pe_lst (pa_cons pe_str (pa_cons (pe_callB (call_repBH RP hgu ⟨hr6.dp, hr6.un⟩ hot_suite) (by rfl) mp (by decide +kernel) (pa_cons (pe_xf RX.xb.xf RX.xb.noF hz hf (pv 5)) pa_nil)) (pa_cons (pe_callB (call_isX RX.xb hz hf) (by rfl) B.isi (by decide +kernel) (pa_cons (pv 5) (pa_cons (pe_glob (v := .ref CS) rfl RX.gS rfl) pa_nil))) pa_nil)))))) (.cons ⟨rfl, by decide, .inl RX.xw.gC⟩ (fun a oe cls d pn hz hf => pss_one (ps_ret (pe_lst (pa_cons pe_str (pa_cons (pe_callB (call_repBH RP hgu ⟨hr6.dp, hr6.un⟩ hot_suite) (by rfl) mp (by decide +kernel) (pa_cons (pe_xf RX.xw.xf RX.xw.noF hz hf (pv 5)) pa_nil)) (pa_cons (pe_callB (call_isX RX.xw hz hf) (by rfl) B.isi (by decide +kernel) (pa_cons (pv 5) (pa_cons (pe_glob (v := .ref CS) rfl RX.gS rfl) pa_nil))) pa_nil)))))) (.cons ⟨rfl, by decide, .inl RX.xn.gC⟩ (fun a oe cls d pn hz hf => pss_one (ps_ret (pe_lst (pa_cons pe_str (pa_cons (pe_callB (call_repBH RP hgu ⟨hr6.dp, hr6.un⟩ hot_suite) (by rfl) mp (by decide +kernel) (pa_cons (pe_xf RX.xn.xf RX.xn.noF hz hf (pv 5)) pa_nil)) (pa_cons (pe_callB (call_isX RX.xn hz hf) (by rfl) B.isi (by decide +kernel) (pa_cons (pv 5) (pa_cons (pe_glob (v := .ref CS) rfl RX.gS rfl) pa_nil))) pa_nil)))))) .nil))))
      (pss_one (ps_ret pe_non))), ?_⟩
    have go : ∀ (D : Ends), (∀ x H', Q x H' → D.rt x H') → (∀ σ H', Q .non H' → D.nx σ H') → tbRd P w K C CB CW CN CL (wAsL K 5 (fun _ _ _ _ => False) D [(.ref CB, tsR P w K C CS "blocks" CB), (.ref CW, tsR P w K C CS "word" CW), (.ref CN, tsR P w K C CS "number" CN)]) D (start nRd xs) H := by
      intro D kk nx
      obtain ⟨dr, u, v, x, y, rfl, d0, d4, h⟩ := h
      have tr : ∀ {i j : Int}, i = j → V.bl (decide (V.int i = V.int j)) = V.bl true := fun e => congrArg V.bl (decide_eq_true (congrArg V.int e))
      have fl : ∀ {i j : Int}, i ≠ j → V.bl (decide (V.int i = V.int j)) = V.bl false := fun e => congrArg V.bl (decide_eq_false fun z => e (V.int.inj z))
      have blk : ∀ {t : Str}, ShB P w K C H u t → outL Q H [.str "blocks", .str t, .bl true] → bad CB H u (WE (wAsL K 5 (fun _ _ _ _ => False) D [(.ref CB, tsR P w K C CS "blocks" CB), (.ref CW, tsR P w K C CS "word" CW), (.ref CN, tsR P w K C CS "number" CN)]) [some (.int dr), some u, some v, some x, some y, none]) := fun {t} hs r dd H2 s2 nd hx => by
        refine ⟨true, RX.xb.te, fun _ a na => ?_, fun z => Bool.noConfusion z⟩
        refine ⟨_, rfl, rfl, rfl, dd, _, u, rfl, hx, by simp [List.lookup], u, t, rfl, hs.same s2, fun H3 s3 => ?_⟩
        exact ⟨_, rfl, .ref CS, .ref CS, true, dd, _, rfl, rfl, fun u r => r, RX.kb, rfl, s3 _ _ hx, (by show 3 ≤ sizeLine; decide), fun l hl => kk _ _ ((r.go (s2.trans s3)).new hl)⟩
      have word : ∀ {v' : V} {d : PyData}, DpX K H v' d → ShD d → outL Q H [.str "word", .str d.shown, .bl true] → bad CW H v' (WE (wAsL K 5 (fun _ _ _ _ => False) D [(.ref CB, tsR P w K C CS "blocks" CB), (.ref CW, tsR P w K C CS "word" CW), (.ref CN, tsR P w K C CS "number" CN)]) [some (.int dr), some u, some v, some x, some y, none]) := fun {v' d} hd sh r dd H2 s2 nd hx => by
        refine ⟨false, RX.wb, fun z => Bool.noConfusion z, fun _ => ⟨true, RX.xw.te, fun _ a na => ?_, fun z => Bool.noConfusion z⟩⟩
        refine ⟨_, rfl, rfl, rfl, dd, _, v', rfl, hx, by simp [List.lookup], v', _, rfl, .inl ⟨d, DpX.same s2 _ _ hd, sh, rfl⟩, fun H3 s3 => ?_⟩
        exact ⟨_, rfl, .ref CS, .ref CS, true, dd, _, rfl, rfl, fun u r => r, RX.kw, rfl, s3 _ _ hx, (by show 3 ≤ sizeLine; decide), fun l hl => kk _ _ ((r.go (s2.trans s3)).new hl)⟩
      have numb : ∀ {v' : V} {d : PyData}, DpX K H v' d → ShD d → outL Q H [.str "number", .str d.shown, .bl true] → bad CN H v' (WE (wAsL K 5 (fun _ _ _ _ => False) D [(.ref CB, tsR P w K C CS "blocks" CB), (.ref CW, tsR P w K C CS "word" CW), (.ref CN, tsR P w K C CS "number" CN)]) [some (.int dr), some u, some v, some x, some y, none]) := fun {v' d} hd sh r dd H2 s2 nd hx => by
        refine ⟨false, RX.nb, fun z => Bool.noConfusion z, fun _ => ⟨false, RX.nw, fun z => Bool.noConfusion z, fun _ => ⟨true, RX.xn.te, fun _ a na => ?_, fun z => Bool.noConfusion z⟩⟩⟩
        refine ⟨_, rfl, rfl, rfl, dd, _, v', rfl, hx, by simp [List.lookup], v', _, rfl, .inl ⟨d, DpX.same s2 _ _ hd, sh, rfl⟩, fun H3 s3 => ?_⟩
        exact ⟨_, rfl, .ref CS, .ref CS, true, dd, _, rfl, rfl, fun u r => r, RX.kn, rfl, s3 _ _ hx, (by show 3 ≤ sizeLine; decide), fun l hl => kk _ _ ((r.go (s2.trans s3)).new hl)⟩
      have path : ∀ {σ : L2.St} {EE : XK}, σ = [some (.int dr), some u, some v, some x, some y, none] → EE = WE (wAsL K 5 (fun _ _ _ _ => False) D [(.ref CB, tsR P w K C CS "blocks" CB), (.ref CW, tsR P w K C CS "word" CW), (.ref CN, tsR P w K C CS "number" CN)]) σ →
          ((dr = 0 ∧ spRe2 P w K C CB CW [u, v] H (fun _ H' => D.nx σ H') EE) ∨ (dr = 1 ∧ spChX P w K C CB CW [u, v, .non] H (fun _ H' => D.nx σ H') EE) ∨ (dr = 2 ∧ spIr2 P w K C CB CW someV [u, v, x] H (fun _ H' => D.nx σ H') EE) ∨ (dr = 3 ∧ spIr2 P w K C CB CW optN [u, v, x] H (fun _ H' => D.nx σ H') EE) ∨
            (dr = 4 ∧ spRt2 P w K C CB CW CN CL [u, v, x, y] H (fun _ H' => D.nx σ H') EE)) → tbRd P w K C CB CW CN CL (wAsL K 5 (fun _ _ _ _ => False) D [(.ref CB, tsR P w K C CS "blocks" CB), (.ref CW, tsR P w K C CS "word" CW), (.ref CN, tsR P w K C CS "number" CN)]) D (start nRd [.int dr, u, v, x, y]) H := by
        rintro σ EE rfl rfl (⟨rfl, q⟩ | ⟨rfl, q⟩ | ⟨rfl, q⟩ | ⟨rfl, q⟩ | ⟨rfl, q⟩)
        · exact ⟨_, rfl, rfl, true, tr rfl, iteT ⟨_, rfl, _, rfl, q⟩⟩
        · exact ⟨_, rfl, rfl, false, fl (by decide), iteF ⟨_, rfl, rfl, true, tr rfl, iteT ⟨_, rfl, _, rfl, q⟩⟩⟩
        · exact ⟨_, rfl, rfl, false, fl (by decide), iteF ⟨_, rfl, rfl, false, fl (by decide), iteF ⟨_, rfl, rfl, true, tr rfl, iteT ⟨_, rfl, _, rfl, _, rfl, q⟩⟩⟩⟩
        · exact ⟨_, rfl, rfl, false, fl (by decide), iteF ⟨_, rfl, rfl, false, fl (by decide), iteF ⟨_, rfl, rfl, false, fl (by decide), iteF ⟨_, rfl, rfl, true, tr rfl, iteT ⟨_, rfl, _, rfl, _, rfl, q⟩⟩⟩⟩⟩
        · exact ⟨_, rfl, rfl, false, fl (by decide), iteF ⟨_, rfl, rfl, false, fl (by decide), iteF ⟨_, rfl, rfl, false, fl (by decide), iteF ⟨_, rfl, rfl, false, fl (by decide), iteF ⟨_, rfl, _, rfl, _, rfl, _, rfl, rfl, rfl, q⟩⟩⟩⟩⟩
      have five : dr = 0 ∨ dr = 1 ∨ dr = 2 ∨ dr = 3 ∨ dr = 4 := by omega
      have two : BadTwo P w K C CB CW u v H (WE (wAsL K 5 (fun _ _ _ _ => False) D [(.ref CB, tsR P w K C CS "blocks" CB), (.ref CW, tsR P w K C CS "word" CW), (.ref CN, tsR P w K C CS "number" CN)]) [some (.int dr), some u, some v, some x, some y, none]) → tbRd P w K C CB CW CN CL (wAsL K 5 (fun _ _ _ _ => False) D [(.ref CB, tsR P w K C CS "blocks" CB), (.ref CW, tsR P w K C CS "word" CW), (.ref CN, tsR P w K C CS "number" CN)]) D (start nRd [.int dr, u, v, x, y]) H := fun bt => by
        refine path rfl rfl ?_
        rcases five with q | q | q | q | q
        · exact .inl ⟨q, .inl ⟨u, v, rfl, bt⟩⟩
        · exact .inr (.inl ⟨q, u, v, rfl, .inl bt⟩)
        · exact .inr (.inr (.inl ⟨q, .inl ⟨u, v, x, rfl, .inl bt⟩⟩))
        · exact .inr (.inr (.inr (.inl ⟨q, .inl ⟨u, v, x, rfl, .inl bt⟩⟩)))
        · exact .inr (.inr (.inr (.inr ⟨q, .inl ⟨u, v, x, y, rfl, .inl bt⟩⟩)))
      rcases h with ⟨hb, t, ht, r⟩ | ⟨hg, d, hd, od, sd, sh, r⟩ | ⟨d2, hg, gs, d, hd, od, sd, sh, r⟩ | ⟨q, ⟨d, a, bs, ns, zs, fu, r, rfl, rfl, h1, h2, h3, h4, h5, h6, h7, h8⟩, k⟩ | ⟨q, hg, gs, k⟩ | ⟨q, ⟨bs, ns, zs, ys, fu, r, ⟨d, a, b, rfl, rfl, rfl, h1, h2, h3, h4, h5, h6, h7, h8, h9⟩, hs⟩, k⟩ | ⟨q, bs, ns, zs, ys, fu, r, dm, ⟨d, a, b, rfl, rfl, rfl, h1, h2, h3, h4, h5, h6, h7, h8, h9⟩, hs, hy, h⟩
      · exact two (.inl ⟨hb, blk ht r⟩)
      · exact two (.inr ⟨hg, d, hd, od, sd, word hd sh r⟩)
      · have bt : BadSea P w K C CB CW u v x H (WE (wAsL K 5 (fun _ _ _ _ => False) D [(.ref CB, tsR P w K C CS "blocks" CB), (.ref CW, tsR P w K C CS "word" CW), (.ref CN, tsR P w K C CS "number" CN)]) [some (.int dr), some u, some v, some x, some y, none]) := .inr ⟨hg, gs, d, hd, od, sd, word hd sh r⟩
        refine path rfl rfl ?_
        rcases five with q | q | q | q | q
        · omega
        · omega
        · exact .inr (.inr (.inl ⟨q, .inl ⟨u, v, x, rfl, bt⟩⟩))
        · exact .inr (.inr (.inr (.inl ⟨q, .inl ⟨u, v, x, rfl, bt⟩⟩)))
        · exact .inr (.inr (.inr (.inr ⟨q, .inl ⟨u, v, x, y, rfl, bt⟩⟩)))
      · exact path rfl rfl (.inl ⟨q, .inr ⟨d, a, bs, ns, zs, fu, r, rfl, h1, h2, h3, h4, h5, h6, h7, h8, fun t H' s' _ => nx _ _ (k H' s')⟩⟩)
      · exact path rfl rfl (.inr (.inl ⟨q, u, v, rfl, .inr ⟨hg, gs, fun H' s' => nx _ _ (k H' s')⟩⟩))
      · rcases q with q | q
        · exact path rfl rfl (.inr (.inr (.inl ⟨q, .inr ⟨d, a, b, bs, ns, zs, ys, fu, r, rfl, h1, h2, h3, h4, h5, h6, h7, h8, h9, hs, fun H' s' => nx _ _ (k H' s')⟩⟩)))
        · exact path rfl rfl (.inr (.inr (.inr (.inl ⟨q, .inr ⟨d, a, b, bs, ns, zs, ys, fu, r, rfl, h1, h2, h3, h4, h5, h6, h7, h8, h9, hs, fun H' s' => nx _ _ (k H' s')⟩⟩))))
      · refine path rfl rfl (.inr (.inr (.inr (.inr ⟨q, .inr ⟨d, a, b, bs, ns, zs, ys, y, dm, fu, r, rfl, h1, h2, h3, h4, h5, h6, h7, h8, h9, hy, hs, ?_⟩⟩))))
        rcases h with ⟨e, sh, r⟩ | ⟨kk, rfl, rfl, k0, k1, e, k⟩
        · exact .inl ⟨e, numb hy sh r⟩
        · refine .inr ⟨kk, rfl, rfl, k0, k1, ?_⟩
          rcases e with e | ⟨j, e, le, names, hn⟩
          · exact .inl ⟨e, fun H' s' => nx _ _ (k H' s')⟩
          · exact .inr ⟨j, e, .inr ⟨le, names, hn, fun l H' s' _ _ => nx _ _ (k H' s')⟩⟩
    exact go _ (fun x H' q => q) (fun σ H' q => q)
end
end SE
namespace SE
open PySem PySem.Spec PyProof.Rows L2
/-! ### the values that are no blocks -/
abbrev sA : Str := "a"
abbrev sB : Str := "b"
abbrev sX : Str := "x"
def itB (z : Str) : Bool := decide (1 ≤ z.length ∧ z.length ≤ 8) && z.cps.toList.all fun c => decide (97 ≤ c ∧ c ≤ 122)
theorem itB_ok {z : Str} (h : itB z = true) : Item z := by
  unfold itB at h
  rw [Bool.and_eq_true, List.all_eq_true] at h
  have h1 := of_decide_eq_true h.1
  exact ⟨h1.1, h1.2, fun c m => of_decide_eq_true (h.2 c m)⟩
theorem lp_bd (xs ys : List Str) : 0 ≤ lp xs ys ∧ lp xs ys ≤ ys.length := by
  unfold lp
  split <;> omega
theorem eo_lp {xs ys : List Str} (i1 : ∀ z ∈ xs, Item z) (i2 : ∀ z ∈ ys, Item z) (l1 : xs.length ≤ 1000) (l2 : ys.length ≤ 1000) : EffOk (some (xs, ys, lp xs ys)) := by
  have := lp_bd xs ys
  exact ⟨i1, i2, l1, l2, this.1, by omega⟩
theorem repl_item {x : Str} (h : itB x = true) (n : Nat) : ∀ z ∈ List.replicate n x, Item z := fun z m => by
  rw [(List.mem_replicate.mp m).2]
  exact itB_ok h
theorem one_item {x : Str} (h : itB x = true) : ∀ z ∈ [x], Item z := fun z m => by
  rw [List.mem_singleton.mp m]
  exact itB_ok h
def oG : Eff := some ([sA], [sB], lp [sA] [sB])
theorem oG_ok : EffOk oG := eo_lp (one_item (by decide +kernel)) (one_item (by decide +kernel)) (by decide) (by decide)
inductive En
  | eff (o : Eff)
  | flat (d : PyData)
  | tt
def blkE : En → Bool
  | .eff o => blkM o
  | .flat _ => false
  | .tt => false
def ttD : PyData := .tuple [.tuple [.str sA], .tuple [.str sB]]
def txE : En → Str
  | .eff o => shownE o
  | .flat d => d.shown
  | .tt => ttD.shown
def EnV (K : PySem.W.Frag) (C : Addr) (H : Hp) (x : V) : En → Prop
  | .eff o => ∃ e, x = .ref e ∧ EffV K C H e o
  | .flat d => FlatV x d
  | .tt => ∃ a b c, x = .ref a ∧ SqT K H a [.ref b, .ref c] ∧ SqT K H b [.str sA] ∧ SqT K H c [.str sB]
abbrev Ents := List (PyData × En)
def entsT (L : Ents) : Str := dictText (L.map fun q => pairT (q.1.shown, txE q.2))
def enOk : En → Prop
  | .eff o => EffOk o
  | .flat d => d.showable = true
  | .tt => True
structure LOk (L : Ents) : Prop where
  bad : L.length = 0 ∨ 8 < L.length ∨ (1 ≤ L.length ∧ L.length ≤ 8 ∧ ∃ q ∈ L, (itemD q.1 && blkE q.2) = false)
  ky : ∀ q ∈ L, OkD q.1 ∧ q.1.showable = true
  el : ∀ q ∈ L, enOk q.2
  sz : (entsT L).length ≤ sizeLine
  ok : okA (entsT L) = true
inductive EntV (K : PySem.W.Frag) (C : Addr) (H : Hp) : List V → List V → Ents → Prop
  | nil : EntV K C H [] [] []
  | cons {k x : V} {ks vs : List V} {dk : PyData} {en : En} {L : Ents} : FlatV k dk → EnV K C H x en → EntV K C H ks vs L → EntV K C H (k :: ks) (x :: vs) ((dk, en) :: L)
section
variable {K : PySem.W.Frag} {C : Addr} {H H' : Hp} {p : Addr}
theorem EntV.len {ks vs : List V} {L : Ents} (h : EntV K C H ks vs L) : ks.length = L.length ∧ vs.length = L.length := by
  induction h with
  | nil => exact ⟨rfl, rfl⟩
  | cons _ _ _ ih => exact ⟨by rw [List.length_cons, List.length_cons, ih.1], by rw [List.length_cons, List.length_cons, ih.2]⟩
theorem EntV.at {ks vs : List V} {L : Ents} (h : EntV K C H ks vs L) : ∀ (i : Nat) (k x : V), ks[i]? = some k → vs[i]? = some x → ∃ dk en, L[i]? = some (dk, en) ∧ FlatV k dk ∧ EnV K C H x en := by
  induction h with
  | nil => intro i k x hk; cases hk
  | cons h1 h2 _ ih =>
    intro i k x hk hx
    cases i with
    | zero =>
      cases hk
      cases hx
      exact ⟨_, _, rfl, h1, h2⟩
    | succ i => exact ih i k x hk hx
theorem sqT_but {a : Addr} {xs : List V} (pl : Pool H p) (b : But p H H') (h : SqT K H a xs) : SqT K H' a xs := by
  obtain ⟨m, s, e, _⟩ := pl.ex
  have ne : ∀ {u : HO}, H a = some u → (∀ zs, u ≠ .lst zs) → a ≠ p := fun {u} q n z => by
    rw [z, e] at q
    exact n _ (Option.some.inj q).symm
  rcases h with (h | ⟨u, h⟩) | h
  · exact .inl (.inl (b _ _ (ne h fun _ z => by cases z) h))
  · exact .inl (.inr ⟨u, b _ _ (ne h fun _ z => by cases z) h⟩)
  · exact .inr h
theorem ins_but {a dx : Addr} {fs : List (Str × V)} (pl : Pool H p) (b : But p H H') (h : H a = some (.ins C dx fs)) : H' a = some (.ins C dx fs) := by
  obtain ⟨m, s, e, _⟩ := pl.ex
  exact b _ _ (fun z => by rw [z, e] at h; cases h) h
theorem EffV.but {e : Addr} {o : Eff} (pl : Pool H p) (b : But p H H') (h : EffV K C H e o) : EffV K C H' e o := by
  cases o with
  | none =>
    obtain ⟨dx, h1⟩ := NevAt.ex h
    exact ⟨dx, ins_but pl b h1⟩
  | some B =>
    obtain ⟨dx, u, v, h1, h2, h3⟩ := EffAt.ex h
    exact ⟨dx, u, v, ins_but pl b h1, sqT_but pl b h2, sqT_but pl b h3⟩
theorem EnV.same {x : V} {en : En} (h : EnV K C H x en) (s : Same H H') : EnV K C H' x en := by
  cases en with
  | eff o =>
    obtain ⟨e, h1, h2⟩ := h
    exact ⟨e, h1, h2.same s⟩
  | flat d => exact h
  | tt =>
    obtain ⟨a, b, c, h1, h2, h3, h4⟩ := h
    exact ⟨a, b, c, h1, Same.tup s h2, Same.tup s h3, Same.tup s h4⟩
theorem EnV.but {x : V} {en : En} (pl : Pool H p) (bt : But p H H') (h : EnV K C H x en) : EnV K C H' x en := by
  cases en with
  | eff o =>
    obtain ⟨e, h1, h2⟩ := h
    exact ⟨e, h1, h2.but pl bt⟩
  | flat d => exact h
  | tt =>
    obtain ⟨a, b, c, h1, h2, h3, h4⟩ := h
    exact ⟨a, b, c, h1, sqT_but pl bt h2, sqT_but pl bt h3, sqT_but pl bt h4⟩
theorem EntV.imp {ks vs : List V} {L : Ents} (f : ∀ {x en}, EnV K C H x en → EnV K C H' x en) (h : EntV K C H ks vs L) : EntV K C H' ks vs L := by
  induction h with
  | nil => exact .nil
  | cons h1 h2 _ ih => exact .cons h1 (f h2) ih
end
inductive BV (P : Program) (w : World) (K : PySem.W.Frag) (C : Addr) (H : Hp) : V → Prop
  | non : BV P w K C H .non
  | str : BV P w K C H (.str "blocks")
  | lst {L T e : Addr} : H L = some (.lst [.ref T]) → SqT K H T [.str sA, .ref e] → EffV K C H e oG → BV P w K C H (.ref L)
  | fix {d : Addr} {ks vs : List V} {L : Ents} : FixV P w H d ks vs → EntV K C H ks vs L → LOk L → BV P w K C H (.ref d)
section
variable {P : Program} {w : World} {K : PySem.W.Frag} {C : Addr} {H H' : Hp} {p : Addr}
theorem FixV.but {d : Addr} {ks vs : List V} (pl : Pool H p) (b : But p H H') (h : FixV P w H d ks vs) : FixV P w H' d ks vs := by
  obtain ⟨m, s, e, _⟩ := pl.ex
  have ne : ∀ {u : HO}, H d = some u → (∀ zs, u ≠ .lst zs) → d ≠ p := fun {u} q n z => by
    rw [z, e] at q
    exact n _ (Option.some.inj q).symm
  rcases h with ⟨od, kvs, h, e1⟩ | ⟨es, ep, h⟩
  · exact .inl ⟨od, kvs, b _ _ (ne h fun _ z => by cases z) h, e1⟩
  · exact .inr ⟨es, ep, b _ _ (ne h fun _ z => by cases z) h⟩
theorem BV.same {v : V} (h : BV P w K C H v) (s : Same H H') : BV P w K C H' v := by
  cases h with
  | non => exact .non
  | str => exact .str
  | lst h1 h2 h3 => exact .lst (s _ _ h1) (Same.tup s h2) (h3.same s)
  | fix h1 h2 h3 => exact .fix (h1.same s) (h2.imp fun z => z.same s) h3
theorem BV.but {v : V} (pl : Pool H p) (b : But p H H') (h : BV P w K C H v) : BV P w K C H' v := by
  cases h with
  | non => exact .non
  | str => exact .str
  | lst h1 h2 h3 =>
    obtain ⟨m, s, e, _⟩ := pl.ex
    exact .lst (b _ _ (fun z => by rw [z, e] at h1; cases h1) h1) (sqT_but pl b h2) (h3.but pl b)
  | fix h1 h2 h3 => exact .fix (h1.but pl b) (h2.imp fun z => z.but pl b) h3
theorem EnV.el (kC : ∀ d : PyData, PySem.W.kitOne K (.type (tyD d)) (.ref C) = some false) {x : V} {en : En} (h : EnV K C H x en) : ElV K C H x (blkE en) := by
  cases en with
  | eff o =>
    obtain ⟨e, rfl, h2⟩ := h
    exact .inl ⟨e, o, rfl, h2, rfl⟩
  | flat d => exact .inr ⟨⟨d, FlatV.dpx h, kC d⟩, rfl⟩
  | tt =>
    obtain ⟨a, b, c, rfl, h2, h3, h4⟩ := h
    exact .inr ⟨⟨ttD, .tup h2 (.cons (.tup h3 (.cons (.str _) .nil)) (.cons (.tup h4 (.cons (.str _) .nil)) .nil)), kC ttD⟩, rfl⟩
theorem EnV.rep {x : V} {en : En} (h : EnV K C H x en) (ok : enOk en) : RepEl K C H x (txE en) := by
  cases en with
  | eff o =>
    obtain ⟨e, rfl, h2⟩ := h
    exact .eff h2 ok
  | flat d => exact .flat h ok
  | tt =>
    obtain ⟨a, b, c, rfl, h2, h3, h4⟩ := h
    exact .dat (d := ttD) (.tup h2 (.cons (.tup h3 (.cons (.str _) .nil)) (.cons (.tup h4 (.cons (.str _) .nil)) .nil))) (by decide +kernel) (by decide +kernel) (by decide +kernel)
theorem BV.ok (kC : ∀ d : PyData, PySem.W.kitOne K (.type (tyD d)) (.ref C) = some false) {v : V} (h : BV P w K C H v) : BadB P w K C H v ∧ ∃ t, ShB P w K C H v t ∧ okA t = true := by
  cases h with
  | non => exact ⟨.inl ⟨_, DpX.ty .non, kit_ty (show kitB "NoneType" "dict" = some false by decide +kernel)⟩, _, .inl ⟨.none, .non, ⟨by decide +kernel, by decide +kernel, by decide +kernel⟩, rfl⟩, by decide +kernel⟩
  | str => exact ⟨.inl ⟨_, DpX.ty (.str _), kit_ty (show kitB "str" "dict" = some false by decide +kernel)⟩, _, .inl ⟨.str "blocks", .str _, ⟨by decide +kernel, by decide +kernel, by decide +kernel⟩, rfl⟩, by decide +kernel⟩
  | @lst L T e h1 h2 h3 =>
    exact ⟨.inl ⟨_, ty_lst (.of h1), kit_ty (show kitB "list" "dict" = some false by decide +kernel)⟩, _, .inr (.inr ⟨L, T, e, oG, sA, rfl, h1, h2, h3, oG_ok, by decide +kernel, rfl⟩), by decide +kernel⟩
  | @fix d ks vs L h1 h2 h3 =>
    obtain ⟨l1, l2⟩ := h2.len
    have hb : ∀ (i : Nat) (k x : V), ks[i]? = some k → vs[i]? = some x → ∃ dk b, FlatV k dk ∧ OkD dk ∧ ElV K C H x b ∧ (L.map fun q => itemD q.1 && blkE q.2)[i]? = some (itemD dk && b) := fun i k x hk hx => by
      obtain ⟨dk, en, q1, q2, q3⟩ := h2.at i k x hk hx
      exact ⟨dk, blkE en, q2, (h3.ky _ (List.mem_of_getElem? q1)).1, q3.el kC, by rw [List.getElem?_map, q1]; rfl⟩
    refine ⟨.inr ⟨d, ks, vs, rfl, h1, by rw [l1, l2], ?_⟩, entsT L, .inr (.inl ⟨d, ks, vs, L.map fun q => (q.1.shown, txE q.2), rfl, h1, by rw [List.length_map, l1], fun i k x hk hx => ?_, ?_, ?_⟩), h3.ok⟩
    · rw [l1]
      rcases h3.bad with q | q | ⟨q1, q2, q, mq, eq⟩
      · exact .inl (.inl q)
      · exact .inl (.inr q)
      · exact .inr ⟨q1, q2, _, List.length_map .., List.mem_map.mpr ⟨q, mq, eq⟩, hb⟩
    · obtain ⟨dk, en, q1, q2, q3⟩ := h2.at i k x hk hx
      have m := List.mem_of_getElem? q1
      exact ⟨_, by rw [List.getElem?_map, q1]; rfl, .flat q2 (h3.ky _ m).2, q3.rep (h3.el _ m)⟩
    · rw [List.map_map]
      exact h3.sz
    · rw [List.map_map]
      rfl
end
/-! ### the entries -/
theorem ok_pair {k : PyData} {en : En} (b : (itemD k && blkE en) = false) (o : OkD k) (sh : k.showable = true) (e : enOk en) (sz : (entsT [(k, en)]).length ≤ sizeLine) (ok : okA (entsT [(k, en)]) = true) : LOk [(k, en)] where
  bad := .inr (.inr ⟨by simp, by simp, _, List.mem_singleton_self _, b⟩)
  ky := fun q m => by
    rw [List.mem_singleton.mp m]
    exact ⟨o, sh⟩
  el := fun q m => by
    rw [List.mem_singleton.mp m]
    exact e
  sz := sz
  ok := ok
theorem ok_two {k1 k2 : PyData} {en1 en2 : En} (b : (itemD k2 && blkE en2) = false) (o1 : OkD k1) (o2 : OkD k2) (s1 : k1.showable = true) (s2 : k2.showable = true) (e1 : enOk en1) (e2 : enOk en2) (sz : (entsT [(k1, en1), (k2, en2)]).length ≤ sizeLine) (ok : okA (entsT [(k1, en1), (k2, en2)]) = true) : LOk [(k1, en1), (k2, en2)] where
  bad := .inr (.inr ⟨by simp, by simp, _, List.mem_cons_of_mem _ (List.mem_singleton_self _), b⟩)
  ky := fun q m => by
    rcases List.mem_cons.mp m with rfl | m
    · exact ⟨o1, s1⟩
    · rw [List.mem_singleton.mp m]
      exact ⟨o2, s2⟩
  el := fun q m => by
    rcases List.mem_cons.mp m with rfl | m
    · exact e1
    · rw [List.mem_singleton.mp m]
      exact e2
  sz := sz
  ok := ok
theorem ok_nil : LOk [] := ⟨.inl rfl, fun q m => (by cases m), fun q m => (by cases m), by decide +kernel, by decide +kernel⟩
end SE
namespace SE
open PySem PySem.Spec PyProof.Rows L2
/-- the value of e, from now on locked -/
def tFrz (te : TE) : TE := fun σ H Q => te σ H fun x H1 => ∃ d u, x = .ref d ∧ H1 d = some u ∧ Mut (some u) ∧ ∀ od, Q x (upd H1 d (.frz od u))
section
variable {X : Cx}
theorem pe_frz {e : Expr} {te : TE} (h : PE X e te) : PE X e (tFrz te) := by
  refine ⟨fun pins s σ H Q I hw => thn (h.run pins s σ H _ I hw) fun v s1 ⟨x, H1, I1, r, d, u, ex, hd, mu, q⟩ => ?_⟩
  obtain ⟨od, I2⟩ := I1.lock hd mu
  exact ⟨x, _, I2, r, q od⟩
end
end SE
namespace SE
open PySem PySem.Spec PyProof.Rows L2
/-! ### _law_bad_blocks -/
theorem merge_new : ∀ (more kvs : List (Key × V)), (∀ q ∈ more, valV kvs q.1 = none) → (more.map (·.1)).Pairwise (· ≠ ·) → mergeK kvs more = kvs ++ more
  | [], kvs, _, _ => by simp [mergeK]
  | q :: more, kvs, h, p => by
    obtain ⟨p1, p2⟩ := List.pairwise_cons.mp p
    have e := putK_new q.2 (h q List.mem_cons_self)
    show mergeK (putK kvs q.1 q.2) more = _
    rw [e, merge_new more _ (fun r m => ?_) p2, List.append_assoc]
    · rfl
    · rw [valV_snoc _ _ _ _ (h q List.mem_cons_self), if_neg (fun z => p1 r.1 (List.mem_map_of_mem m) z.symm)]
      exact h r (List.mem_cons_of_mem _ m)
section
variable {P : Program} {w : World} {K : PySem.W.Frag} {C : Addr}
theorem sqT_mv {H : Hp} {p b : Addr} {x : HO} {kvs : List (Key × V)} {xs : List V} (hd : H p = some (.dK kvs)) (h : SqT K H b xs) : SqT K (upd H p x) b xs := by
  have ne : ∀ {u : HO}, H b = some u → (∀ zs, u ≠ .dK zs) → b ≠ p := fun {u} q n z => by
    rw [z, hd] at q
    exact n _ (Option.some.inj q).symm
  rcases h with (h | ⟨u, h⟩) | h
  · exact .inl (.inl (by rw [upd_ne (ne h fun _ z => by cases z)]; exact h))
  · exact .inl (.inr ⟨u, by rw [upd_ne (ne h fun _ z => by cases z)]; exact h⟩)
  · exact .inr h
theorem EnV.mv {H : Hp} {p : Addr} {x : HO} {kvs : List (Key × V)} {y : V} {en : En} (hd : H p = some (.dK kvs)) (h : EnV K C H y en) : EnV K C (upd H p x) y en := by
  cases en with
  | eff o =>
    obtain ⟨e, h1, h2⟩ := h
    exact ⟨e, h1, EffV.mvD (.inl ⟨_, hd⟩) h2⟩
  | flat d => exact h
  | tt =>
    obtain ⟨a, b, c, h1, h2, h3, h4⟩ := h
    exact ⟨a, b, c, h1, sqT_mv hd h2, sqT_mv hd h3, sqT_mv hd h4⟩
theorem fz0 {σ : L2.St} {H : Hp} {Q : VK} (h : ∀ p H', Same H H' → FixV P w H' p [] [] → Q (.ref p) H') : tFrz tDNewK σ H Q := fun p hp =>
  ⟨p, _, rfl, upd_same, trivial, fun od => h p _ (by rw [upd_upd]; exact Same.new hp) (.inl ⟨od, [], upd_same, rfl, rfl⟩)⟩
/-- {z: y}, locked, once y is there -/
theorem fzE {H H2 : Hp} {p : Addr} {Q : VK} {z y : V} {k : Key} (hk : z = kV k) (hp : H p = none) (s : Same (upd H p (.dK [])) H2) (q : ∀ H', Same H H' → FixV P w H' p [z] [y] → (∀ en, EnV K C H2 y en → EnV K C H' y en) → Q (.ref p) H') :
    H2 p = some (.dK []) ∧ ∃ kvs : List (Key × V), [(z, y)] = kvs.map (fun kv => (kV kv.1, kv.2)) ∧ kvs.length ≤ 15 ∧ (∃ d u, V.ref p = .ref d ∧ (upd H2 p (.dK (mergeK [] kvs))) d = some u ∧ Mut (some u) ∧ ∀ od, Q (.ref p) (upd (upd H2 p (.dK (mergeK [] kvs))) d (.frz od u))) := by
  subst hk
  have hpp := s _ _ (upd_same (H := H) (a := p) (o := .dK []))
  refine ⟨hpp, [(k, y)], rfl, by simp, p, _, rfl, upd_same, trivial, fun od => ?_⟩
  rw [upd_upd]
  exact q _ (Same.free2 ((Same.new hp).trans s) hp) (.inl ⟨od, [(k, y)], upd_same, rfl, rfl⟩) fun en h => h.mv hpp
theorem fzE2 {H H2 : Hp} {p : Addr} {Q : VK} {z1 y1 z2 y2 : V} {k1 k2 : Key} (hk1 : z1 = kV k1) (hk2 : z2 = kV k2) (ne : k1 ≠ k2) (hp : H p = none) (s : Same (upd H p (.dK [])) H2) (q : ∀ H', Same H H' → FixV P w H' p [z1, z2] [y1, y2] → Q (.ref p) H') :
    H2 p = some (.dK []) ∧ ∃ kvs : List (Key × V), [(z1, y1), (z2, y2)] = kvs.map (fun kv => (kV kv.1, kv.2)) ∧ kvs.length ≤ 15 ∧ (∃ d u, V.ref p = .ref d ∧ (upd H2 p (.dK (mergeK [] kvs))) d = some u ∧ Mut (some u) ∧ ∀ od, Q (.ref p) (upd (upd H2 p (.dK (mergeK [] kvs))) d (.frz od u))) := by
  subst hk1 hk2
  have hpp := s _ _ (upd_same (H := H) (a := p) (o := .dK []))
  have em : mergeK [] [(k1, y1), (k2, y2)] = [(k1, y1), (k2, y2)] := merge_new _ [] (fun q m => rfl) (by simp [ne])
  refine ⟨hpp, [(k1, y1), (k2, y2)], rfl, by simp, p, _, rfl, upd_same, trivial, fun od => ?_⟩
  rw [upd_upd, em]
  exact q _ (Same.free2 ((Same.new hp).trans s) hp) (.inl ⟨od, [(k1, y1), (k2, y2)], upd_same, rfl, rfl⟩)
theorem fz1 {σ : L2.St} {H : Hp} {Q : VK} {z y : V} {k : Key} {tv : TE} (hk : z = kV k) (hv : ∀ H R, R y H → tv σ H R) (h : ∀ p H', Same H H' → FixV P w H' p [z] [y] → Q (.ref p) H') : tFrz (tDisp [(tC z, tv)]) σ H Q := by
  intro p hp
  subst hk
  refine hv _ _ ⟨upd_same, [(k, y)], rfl, by simp, p, _, rfl, upd_same, trivial, fun od => ?_⟩
  rw [upd_upd, upd_upd]
  exact h p _ (Same.new hp) (.inl ⟨od, [(k, y)], upd_same, rfl, rfl⟩)
theorem fz2 {σ : L2.St} {H : Hp} {Q : VK} {z1 y1 z2 y2 : V} {k1 k2 : Key} {t1 t2 : TE} (hk1 : z1 = kV k1) (hk2 : z2 = kV k2) (ne : k1 ≠ k2) (hv1 : ∀ H R, R y1 H → t1 σ H R) (hv2 : ∀ H R, R y2 H → t2 σ H R) (h : ∀ p H', Same H H' → FixV P w H' p [z1, z2] [y1, y2] → Q (.ref p) H') : tFrz (tDisp [(tC z1, t1), (tC z2, t2)]) σ H Q := by
  intro p hp
  refine hv1 _ _ (hv2 _ _ ?_)
  exact fzE2 hk1 hk2 ne hp (Same.refl _) fun H' s f => h p H' s f
theorem nonF {σ : L2.St} {H : Hp} {Q : VK} {y : V} {tv : TE} (hv : ∀ H R, R y H → tv σ H R) (h : ∀ p H', Same H H' → FixV P w H' p [.non] [y] → Q (.ref p) H') : tNonF P w (tC .non) tv σ H Q := by
  intro p hp
  refine hv _ _ ⟨upd_same, y, rfl, fun x f => ?_⟩
  exact h p _ (by rw [upd_upd]; exact Same.new hp) f
theorem abF {σ : L2.St} {H : Hp} {Q : VK} {z : Str} {y1 y2 : V} {t1 t2 : TE} (hv1 : ∀ H R, R y1 H → t1 σ H R) (hv2 : ∀ H R, R y2 H → t2 σ H R) (h : ∀ p H' k, (k = .int 1 ∨ k = .bl true) → Same H H' → FixV P w H' p [.str z, k] [y1, y2] → Q (.ref p) H') : tAbF P w z (tC (.str z)) t1 (tC (.bl true)) t2 σ H Q := by
  intro p hp
  refine hv1 _ _ (hv2 _ _ ⟨upd_same, y1, y2, rfl, fun x k hk f => ?_⟩)
  exact h p _ k hk (by rw [upd_upd]; exact Same.new hp) f
end
end SE
namespace SE
open PySem PySem.Spec PyProof.Rows L2
/-! ### what the entries are -/
def oP : Eff := some (List.replicate 9 sA, [], lp (List.replicate 9 sA) [])
def oQ : Eff := some ([], List.replicate 9 sA, lp [] (List.replicate 9 sA))
theorem oP_ok : EffOk oP := eo_lp (repl_item (by decide +kernel) 9) (fun z m => by cases m) (by decide) (by decide)
theorem oQ_ok : EffOk oQ := eo_lp (fun z m => by cases m) (repl_item (by decide +kernel) 9) (by decide) (by decide)
def okd (d : PyData) : Bool := layE d && decide (d.depth ≤ 20) && d.showable && d.intsShort 13 && decide (d.weight ≤ 100000)
theorem okd_ok {d : PyData} (h : okd d = true) : OkD d := by
  unfold okd at h
  simp only [Bool.and_eq_true, decide_eq_true_eq] at h
  exact ⟨h.1.1.1.1, h.1.1.1.2, h.1.1.2, h.1.2, h.2⟩
theorem okA1 : LOk [(.str "A", .eff oG)] := ok_pair (by decide +kernel) (okd_ok (by decide +kernel)) (by decide +kernel) oG_ok (by decide +kernel) (by decide +kernel)
theorem okE1 : LOk [(.str "", .eff oG)] := ok_pair (by decide +kernel) (okd_ok (by decide +kernel)) (by decide +kernel) oG_ok (by decide +kernel) (by decide +kernel)
theorem okN1 : LOk [(.str "ninechars", .eff oG)] := ok_pair (by decide +kernel) (okd_ok (by decide +kernel)) (by decide +kernel) oG_ok (by decide +kernel) (by decide +kernel)
theorem okI1 : LOk [(.int 5, .eff oG)] := ok_pair (by decide +kernel) (okd_ok (by decide +kernel)) (by decide +kernel) oG_ok (by decide +kernel) (by decide +kernel)
theorem okAN : LOk [(.str sA, .flat .none)] := ok_pair (by decide +kernel) (okd_ok (by decide +kernel)) (by decide +kernel) (by decide +kernel : PyData.none.showable = true) (by decide +kernel) (by decide +kernel)
theorem okAP : LOk [(.str sA, .eff oP)] := ok_pair (by decide +kernel) (okd_ok (by decide +kernel)) (by decide +kernel) oP_ok (by decide +kernel) (by decide +kernel)
theorem okAQ : LOk [(.str sA, .eff oQ)] := ok_pair (by decide +kernel) (okd_ok (by decide +kernel)) (by decide +kernel) oQ_ok (by decide +kernel) (by decide +kernel)
theorem okAT : LOk [(.str sA, .tt)] := ok_pair (by decide +kernel) (okd_ok (by decide +kernel)) (by decide +kernel) trivial (by decide +kernel) (by decide +kernel)
theorem okNo : LOk [(.none, .eff oG)] := ok_pair (by decide +kernel) (okd_ok (by decide +kernel)) (by decide +kernel) oG_ok (by decide +kernel) (by decide +kernel)
theorem ok5 : LOk [(.str sA, .eff oG), (.str sB, .flat (.int 5))] := ok_two (by decide +kernel) (okd_ok (by decide +kernel)) (okd_ok (by decide +kernel)) (by decide +kernel) (by decide +kernel) oG_ok (by decide +kernel : (PyData.int 5).showable = true) (by decide +kernel) (by decide +kernel)
theorem okab : LOk [(.str sA, .eff oG), (.str "a b", .eff oG)] := ok_two (by decide +kernel) (okd_ok (by decide +kernel)) (okd_ok (by decide +kernel)) (by decide +kernel) (by decide +kernel) oG_ok oG_ok (by decide +kernel) (by decide +kernel)
theorem okT1 : LOk [(.str sA, .eff oG), (.int 1, .eff oG)] := ok_two (by decide +kernel) (okd_ok (by decide +kernel)) (okd_ok (by decide +kernel)) (by decide +kernel) (by decide +kernel) oG_ok oG_ok (by decide +kernel) (by decide +kernel)
theorem okT2 : LOk [(.str sA, .eff oG), (.bool true, .eff oG)] := ok_two (by decide +kernel) (okd_ok (by decide +kernel)) (okd_ok (by decide +kernel)) (by decide +kernel) (by decide +kernel) oG_ok oG_ok (by decide +kernel) (by decide +kernel)
def nm9 (i : Nat) : Str := ("n" : Str) ++ (⟨#[97 + i]⟩ : Str)
def l9 (l : List Nat) : Ents := l.map fun i => (.str (nm9 i), .eff oG)
theorem key9 : ∀ i < 9, okd (.str (nm9 i)) = true ∧ (PyData.str (nm9 i)).showable = true := by decide +kernel
theorem okL9 : LOk (l9 (List.range 9)) where
  bad := .inr (.inl (by decide +kernel))
  ky := fun q m => by
    obtain ⟨i, mi, rfl⟩ := List.mem_map.mp m
    have := key9 i (List.mem_range.mp mi)
    exact ⟨okd_ok this.1, this.2⟩
  el := fun q m => by
    obtain ⟨i, mi, rfl⟩ := List.mem_map.mp m
    exact oG_ok
  sz := by decide +kernel
  ok := by decide +kernel
theorem ent9 {K : PySem.W.Frag} {C : Addr} {H : Hp} {e : Addr} (h : EffV K C H e oG) : ∀ l : List Nat, EntV K C H ((l.map fun i => ((Sum.inr (nm9 i) : Key), V.ref e)).map fun kv => kV kv.1) ((l.map fun i => ((Sum.inr (nm9 i) : Key), V.ref e)).map (·.2)) (l9 l)
  | [] => .nil
  | i :: l => .cons (.str _) ⟨e, rfl, h⟩ (ent9 h l)
theorem letters9 : ∀ j < 9, ("abcdefghi" : Str).cps[j]? = some (97 + j) := by decide +kernel
end SE
namespace SE
open PySem PySem.Spec PyProof.Rows L2
/-! ### _law_bad_blocks, the function -/
section
variable {P : Program} {w : World} {K : PySem.W.Frag} {mg : Str → Option Value} {base : Heap} {C : Addr}
def spBad (P : Program) (w : World) (K : PySem.W.Frag) (C : Addr) : Sp := fun xs H Q _ => ∃ p : Addr, xs = [.ref p] ∧ ∀ (l : Addr) (vs : List V) (H' : Hp), Same H H' → H l = none → H' l = some (.lst vs) → vs.length = 17 → (∀ v ∈ vs, BV P w K C H' v) → Q (.ref l) H'
abbrev nBad : List Str := ["_law_pool_here", "_law_good", "_law_nine", "_law_some", "_law_letter"]
theorem scBad : FnScope nBad ["_law_pool_here"] (defScope sLawBadBlocks) := ⟨rfl, rfl, rfl, by decide +kernel, rfl, by decide +kernel, by decide +kernel⟩
theorem has_bad (D : Def K mg "_law_bad_blocks" sLawBadBlocks) (T : EC K mg C) (M : Makes P w K mg base C) (md : mg "dict" = none) : Has P w K mg base "_law_bad_blocks" 6 ["_law_pool_here"] [] (spBad P w K C) := by
  refine has_of D scBad (fun _ _ _ _ _ _ us hl => match us, hl with | [_], _ => rfl) (fun xs H Q E h => ?_) (fun f cv A out s H xs Q E hr h => ?_)
  · obtain ⟨p, rfl, _⟩ := h
    rfl
  · obtain ⟨p, rfl, k⟩ := h
    refine ⟨_, (Evl.pss_cut (ps_set (i := 1) scBad.nd rfl (.inr rfl) (pe_eff2 M T.mgE hr (pa_cons (pe_tup (pa_cons pe_str pa_nil)) (pa_cons (pe_tup (pa_cons pe_str pa_nil)) pa_nil))))
      (Evl.pss_cut (ps_set (i := 2) scBad.nd rfl (.inl rfl) (pe_frz (pe_callTy (call_dictP rfl) (by rfl) md (by decide +kernel) (pa_cons (pe_lc (own := [("_law_letter", 4)]) (g := gName 4) (tt := tYes) (te := tTup (tCons (tOp _ (tC (.str "n")) (tVar 4)) (tCons (tVar 1) tNil))) rfl scBad.nd (pi_str pe_str) (blkOk_by (own := [("_law_letter", 4)]) (N := nBad) (sc := defScope sLawBadBlocks) (by decide +kernel)) (fun _ _ _ _ _ => (pg_name (i := 4) scBad.nd rfl (.inl rfl))) (fun _ _ _ _ _ => pts_nil) (fun _ _ _ _ _ => (pe_tup (pa_cons (pe_op op_add_str pe_str (pv 4)) (pa_cons (pv 1) pa_nil))))) pa_nil))))
      (Evl.pss_cut (ps_set (i := 3) scBad.nd rfl (.inl rfl) (pe_lst (pa_cons pe_non (pa_cons (pe_frz pe_dnewK) (pa_cons (pe_lst (pa_cons (pe_tup (pa_cons pe_str (pa_cons (pv 1) pa_nil))) pa_nil)) (pa_cons (pv 2)
        (pa_cons (pe_frz (pe_disp (trs := [(tC (.str "A"), tVar 1)]) (pps_cons pe_str (pv 1) pps_nil) (by rfl) (by rfl) (fun z => by cases z) (by decide)))
        (pa_cons (pe_frz (pe_disp (trs := [(tC (.str ""), tVar 1)]) (pps_cons pe_str (pv 1) pps_nil) (by rfl) (by rfl) (fun z => by cases z) (by decide)))
        (pa_cons (pe_frz (pe_disp (trs := [(tC (.str "ninechars"), tVar 1)]) (pps_cons pe_str (pv 1) pps_nil) (by rfl) (by rfl) (fun z => by cases z) (by decide)))
        (pa_cons (pe_frz (pe_disp (trs := [(tC (.int 5), tVar 1)]) (pps_cons pe_int (pv 1) pps_nil) (by rfl) (by rfl) (fun z => by cases z) (by decide)))
        (pa_cons (pe_frz (pe_disp (trs := [(tC (.str sA), tC .non)]) (pps_cons pe_str pe_non pps_nil) (by rfl) (by rfl) (fun z => by cases z) (by decide))) pa_nil)))))))))))
      (Evl.pss_cut (ps_set (i := 3) scBad.nd rfl (.inl rfl) (pe_op op_cat (pv 3) (pe_lst (pa_cons
        (pe_frz (pe_disp (pps_cons pe_str (pe_eff2 M T.mgE hr (pa_cons (pe_op op_repS (pe_tup (pa_cons pe_str pa_nil)) pe_int) (pa_cons (pe_tup pa_nil) pa_nil))) pps_nil) (by rfl) (by rfl) (fun z => by cases z) (by decide)))
        (pa_cons (pe_frz (pe_disp (pps_cons pe_str (pe_eff2 M T.mgE hr (pa_cons (pe_tup pa_nil) (pa_cons (pe_op op_repS (pe_tup (pa_cons pe_str pa_nil)) pe_int) pa_nil))) pps_nil) (by rfl) (by rfl) (fun z => by cases z) (by decide)))
        (pa_cons (pe_frz (pe_disp (pps_cons pe_str (pe_tup (pa_cons (pe_tup (pa_cons pe_str pa_nil)) (pa_cons (pe_tup (pa_cons pe_str pa_nil)) pa_nil))) pps_nil) (by rfl) (by rfl) (fun z => by cases z) (by decide)))
        (pa_cons (pe_nonF (tk := tC .non) (tv := tVar 1) (pps_cons pe_non (pv 1) pps_nil)) pa_nil)))))))
      (pss_one (ps_ret (pe_op op_cat (pv 3) (pe_lst (pa_cons
        (pe_frz (pe_disp (trs := [(tC (.str sA), tVar 1), (tC (.str sB), tC (.int 5))]) (pps_cons pe_str (pv 1) (pps_cons pe_str pe_int pps_nil)) (by rfl) (by rfl) (fun z => by cases z) (by decide)))
        (pa_cons (pe_frz (pe_disp (trs := [(tC (.str sA), tVar 1), (tC (.str "a b"), tVar 1)]) (pps_cons pe_str (pv 1) (pps_cons pe_str (pv 1) pps_nil)) (by rfl) (by rfl) (fun z => by cases z) (by decide)))
        (pa_cons pe_str (pa_cons (pe_abF (z := sA) (t1 := tC (.str sA)) (t2 := tVar 1) (t3 := tC (.bl true)) (t4 := tVar 1) (pps_cons pe_str (pv 1) (pps_cons pe_bl (pv 1) pps_nil))) pa_nil)))))))))))), ?_⟩
    -- good
    refine ⟨fun σ H1 => ∃ e, σ = [some (.ref p), some (.ref e), none, none, none] ∧ Same H H1 ∧ EffV K C H1 e oG, ?_, ?_⟩
    · refine ⟨(by show 1 ≤ sizeLine; decide), fun t1 ht1 => ⟨(by show 1 ≤ sizeLine; decide), fun t2 ht2 => ?_⟩⟩
      have s1 : Same H (upd H t1 (.tup [.str sA])) := Same.new ht1
      have h1 : SqT K (upd H t1 (.tup [.str sA])) t1 [.str sA] := .of upd_same
      generalize upd H t1 (.tup [.str sA]) = H2 at s1 h1 ht2 ⊢
      have s2 : Same H2 (upd H2 t2 (.tup [.str sB])) := Same.new ht2
      have h2 : SqT K (upd H2 t2 (.tup [.str sB])) t2 [.str sB] := .of upd_same
      generalize upd H2 t2 (.tup [.str sB]) = H3 at s2 h2 ⊢
      exact ⟨t1, t2, [sA], [sB], rfl, Same.tup s2 h1, h2, by decide, by decide, one_item (by decide +kernel), one_item (by decide +kernel), fun e H4 s4 ne hE => ⟨e, rfl, (s1.trans s2).trans s4, hE⟩⟩
    rintro σ H1 ⟨e, rfl, s1, hE⟩
    -- nine
    refine ⟨fun σ H2 => ∃ n, σ = [some (.ref p), some (.ref e), some (.ref n), none, none] ∧ Same H1 H2 ∧ BV P w K C H2 (.ref n), ?_, ?_⟩
    · refine ⟨_, rfl, fun D hD => lc_it walk_str (fun j H3 => ∃ ps : List Addr, H3 D = some (.lst (ps.map V.ref)) ∧ Paired (fun q (kv : Key × V) => SqT K H3 q [kV kv.1, kv.2]) ps ((List.range j).map fun i => ((Sum.inr (nm9 i) : Key), V.ref e)) ∧ ps.length = j ∧ Same H1 H3) ⟨[], upd_same, .nil, rfl, Same.new hD⟩ (fun _ _ _ _ => trivial) ?_ ?_⟩
      · rintro j x H3 H4 hj ⟨ps, h3, pP, lp, s3⟩ ⟨rfl, c, hc, rfl⟩
        have j9 : j < 9 := hj
        have e9 := letters9 j j9
        rw [hc] at e9
        cases e9
        refine ⟨rfl, yes_in ⟨_, rfl, _, _, rfl, rfl, (by show 1 + 1 ≤ sizeLine; decide), _, rfl, (by show 2 ≤ sizeLine; decide), fun t ht => ?_⟩⟩
        have s4 := Same.new (o := .tup [.str (nm9 j), .ref e]) ht
        have d4 := s4 _ _ h3
        refine ⟨ps.map V.ref, d4, by rw [List.length_map, lp, sizeLine_eq]; omega, ps ++ [t], by rw [upd_same, List.map_append]; rfl, ?_, by rw [List.length_append, List.length_singleton, lp], Same.free2 (s3.trans s4) hD⟩
        rw [List.range_succ, List.map_append]
        exact Paired.snoc2 (Paired.mapP pP fun _ _ z => tup_updL d4 (Same.tup s4 z)) (tup_updL d4 (.of upd_same))
      · rintro H3 ⟨ps, h3, pP, lp, s3⟩
        rw [show ("abcdefghi" : Str).cps.size = 9 by decide +kernel] at pP
        refine ⟨D, ps, _, rfl, .of h3, pP, fun u hu => ?_⟩
        have em : mergeK [] ((List.range 9).map fun i => ((Sum.inr (nm9 i) : Key), V.ref e)) = (List.range 9).map fun i => ((Sum.inr (nm9 i) : Key), V.ref e) := by
          refine merge_new _ [] (fun q m => rfl) ?_
          rw [List.map_map]
          have nd : ((List.range 9).map nm9).Nodup := by decide +kernel
          have e2 : ((fun kv : Key × V => kv.1) ∘ fun i => ((Sum.inr (nm9 i) : Key), V.ref e)) = (fun z => (Sum.inr z : Key)) ∘ nm9 := rfl
          rw [show ((·.1) ∘ fun i => ((Sum.inr (nm9 i) : Key), V.ref e)) = (fun z => (Sum.inr z : Key)) ∘ nm9 from rfl, ← List.map_map]
          exact List.pairwise_map.mpr (List.Pairwise.imp (fun h e => h (Sum.inr.inj e)) nd)
        refine ⟨u, _, rfl, upd_same, trivial, fun od => ?_⟩
        rw [upd_upd]
        have sF : Same H3 (upd H3 u (.frz od (.dK (mergeK [] ((List.range 9).map fun i => ((Sum.inr (nm9 i) : Key), V.ref e)))))) := Same.new hu
        refine ⟨u, rfl, s3.trans sF, ?_⟩
        exact .fix (.inl ⟨od, _, upd_same, rfl, rfl⟩) (by rw [em]; exact ent9 (hE.same (s3.trans sF)) _) okL9
    rintro σ H2 ⟨n, rfl, s2, bn⟩
    have hE2 := hE.same s2
    -- some
    refine ⟨fun σ H3 => ∃ l vs, σ = [some (.ref p), some (.ref e), some (.ref n), some (.ref l), none] ∧ Same H2 H3 ∧ H3 l = some (.lst vs) ∧ vs.length = 9 ∧ ∀ v ∈ vs, BV P w K C H3 v, ?_, ?_⟩
    · refine fun d1 hd1 => ⟨d1, _, rfl, upd_same, trivial, fun od1 => ?_⟩
      rw [upd_upd]
      have q1 : Same H2 (upd H2 d1 (.frz od1 (.dK []))) := Same.new hd1
      have f1 : FixV P w (upd H2 d1 (.frz od1 (.dK []))) d1 [] [] := .inl ⟨od1, [], upd_same, rfl, rfl⟩
      generalize upd H2 d1 (.frz od1 (.dK [])) = G1 at q1 f1 ⊢
      refine ⟨_, rfl, (by show 2 ≤ sizeLine; decide), fun T hT => ⟨(by show 1 ≤ sizeLine; decide), fun L hL => ?_⟩⟩
      have q2 : Same G1 (upd (upd G1 T (.tup [.str sA, .ref e])) L (.lst [.ref T])) := (Same.new hT).trans (Same.new hL)
      have f2 : BV P w K C (upd (upd G1 T (.tup [.str sA, .ref e])) L (.lst [.ref T])) (.ref L) := .lst upd_same (Same.tup (Same.new hL) (.of upd_same)) ((hE2.same q1).same q2)
      generalize upd (upd G1 T (.tup [.str sA, .ref e])) L (.lst [.ref T]) = G2 at q2 f2 ⊢
      refine ⟨_, rfl, ?_⟩
      refine fun d4 hd4 => ⟨_, rfl, upd_same, [(.inr "A", .ref e)], rfl, by simp, d4, _, rfl, upd_same, trivial, fun odd4 => ?_⟩
      rw [upd_upd, upd_upd]
      have q4 : Same G2 (upd G2 d4 (.frz odd4 (.dK (mergeK [] [(.inr "A", .ref e)])))) := Same.new hd4
      have f4 : FixV P w (upd G2 d4 (.frz odd4 (.dK (mergeK [] [(.inr "A", .ref e)])))) d4 [.str "A"] [.ref e] := .inl ⟨odd4, _, upd_same, rfl, rfl⟩
      generalize upd G2 d4 (.frz odd4 (.dK (mergeK [] [(.inr "A", .ref e)]))) = G4 at q4 f4 ⊢
      refine fun d5 hd5 => ⟨_, rfl, upd_same, [(.inr "", .ref e)], rfl, by simp, d5, _, rfl, upd_same, trivial, fun odd5 => ?_⟩
      rw [upd_upd, upd_upd]
      have q5 : Same G4 (upd G4 d5 (.frz odd5 (.dK (mergeK [] [(.inr "", .ref e)])))) := Same.new hd5
      have f5 : FixV P w (upd G4 d5 (.frz odd5 (.dK (mergeK [] [(.inr "", .ref e)])))) d5 [.str ""] [.ref e] := .inl ⟨odd5, _, upd_same, rfl, rfl⟩
      generalize upd G4 d5 (.frz odd5 (.dK (mergeK [] [(.inr "", .ref e)]))) = G5 at q5 f5 ⊢
      refine fun d6 hd6 => ⟨_, rfl, upd_same, [(.inr "ninechars", .ref e)], rfl, by simp, d6, _, rfl, upd_same, trivial, fun odd6 => ?_⟩
      rw [upd_upd, upd_upd]
      have q6 : Same G5 (upd G5 d6 (.frz odd6 (.dK (mergeK [] [(.inr "ninechars", .ref e)])))) := Same.new hd6
      have f6 : FixV P w (upd G5 d6 (.frz odd6 (.dK (mergeK [] [(.inr "ninechars", .ref e)])))) d6 [.str "ninechars"] [.ref e] := .inl ⟨odd6, _, upd_same, rfl, rfl⟩
      generalize upd G5 d6 (.frz odd6 (.dK (mergeK [] [(.inr "ninechars", .ref e)]))) = G6 at q6 f6 ⊢
      refine fun d7 hd7 => ⟨_, rfl, upd_same, [(.inl 5, .ref e)], rfl, by simp, d7, _, rfl, upd_same, trivial, fun odd7 => ?_⟩
      rw [upd_upd, upd_upd]
      have q7 : Same G6 (upd G6 d7 (.frz odd7 (.dK (mergeK [] [(.inl 5, .ref e)])))) := Same.new hd7
      have f7 : FixV P w (upd G6 d7 (.frz odd7 (.dK (mergeK [] [(.inl 5, .ref e)])))) d7 [.int 5] [.ref e] := .inl ⟨odd7, _, upd_same, rfl, rfl⟩
      generalize upd G6 d7 (.frz odd7 (.dK (mergeK [] [(.inl 5, .ref e)]))) = G7 at q7 f7 ⊢
      refine fun d8 hd8 => ⟨upd_same, [(.inr sA, .non)], rfl, by simp, d8, _, rfl, upd_same, trivial, fun odd8 => ?_⟩
      rw [upd_upd, upd_upd]
      have q8 : Same G7 (upd G7 d8 (.frz odd8 (.dK (mergeK [] [(.inr sA, .non)])))) := Same.new hd8
      have f8 : FixV P w (upd G7 d8 (.frz odd8 (.dK (mergeK [] [(.inr sA, .non)])))) d8 [.str sA] [.non] := .inl ⟨odd8, _, upd_same, rfl, rfl⟩
      generalize upd G7 d8 (.frz odd8 (.dK (mergeK [] [(.inr sA, .non)]))) = G8 at q8 f8 ⊢
      refine ⟨(by show 9 ≤ sizeLine; decide), fun l hl => ?_⟩
      have q9 : Same G8 (upd G8 l (.lst [.non, .ref d1, .ref L, .ref n, .ref d4, .ref d5, .ref d6, .ref d7, .ref d8])) := Same.new hl
      have r7 := q8.trans q9
      have r6 := q7.trans r7
      have r5 := q6.trans r6
      have r4 := q5.trans r5
      have r2 := q4.trans r4
      have r1 := q2.trans r2
      have r0 := q1.trans r1
      have eF := hE2.same r0
      have en : ∀ {H : Hp}, EffV K C H e oG → EnV K C H (.ref e) (.eff oG) := fun h => ⟨e, rfl, h⟩
      refine ⟨l, _, rfl, r0, upd_same, rfl, fun v m => ?_⟩
      simp only [List.mem_cons, List.not_mem_nil, or_false] at m
      rcases m with rfl | rfl | rfl | rfl | rfl | rfl | rfl | rfl | rfl
      · exact .non
      · exact .fix (f1.same r1) .nil ok_nil
      · exact f2.same r2
      · exact bn.same r0
      · exact .fix (f4.same r4) (.cons (.str _) (en eF) .nil) okA1
      · exact .fix (f5.same r5) (.cons (.str _) (en eF) .nil) okE1
      · exact .fix (f6.same r6) (.cons (.str _) (en eF) .nil) okN1
      · exact .fix (f7.same r7) (.cons (.int _) (en eF) .nil) okI1
      · exact .fix (f8.same q9) (.cons (en := .flat .none) (.str _) .non .nil) okAN
    rintro σ H3 ⟨l3, vs3, rfl, s3, hl3, n3, b3⟩
    have hE3 := hE2.same s3
    refine ⟨fun σ H4 => ∃ l vs, σ = [some (.ref p), some (.ref e), some (.ref n), some (.ref l), none] ∧ Same H3 H4 ∧ H4 l = some (.lst vs) ∧ vs.length = 13 ∧ ∀ v ∈ vs, BV P w K C H4 v, ?_, ?_⟩
    · refine ⟨_, rfl, fun p1 hp1 => ⟨(by show 1 ≤ sizeLine; decide), fun t1 ht1 => ?_⟩⟩
      -- nine pops
      have a1 : Same (upd H3 p1 (.dK [])) (upd (upd H3 p1 (.dK [])) t1 (.tup [.str sA])) := Same.new ht1
      have h1 : SqT K (upd (upd H3 p1 (.dK [])) t1 (.tup [.str sA])) t1 [.str sA] := .of upd_same
      generalize upd (upd H3 p1 (.dK [])) t1 (.tup [.str sA]) = J1 at a1 h1 ⊢
      refine ⟨t1, 9, _, rfl, rfl, h1, by decide, by decide, fun t2 J2 a2 h2 => ⟨(by show 0 ≤ sizeLine; decide), fun t3 ht3 => ?_⟩⟩
      have a3 : Same J2 (upd J2 t3 (.tup [])) := Same.new ht3
      have h3 : SqT K (upd J2 t3 (.tup [])) t3 [] := .of upd_same
      generalize upd J2 t3 (.tup []) = J3 at a3 h3 ⊢
      refine ⟨t2, t3, List.replicate 9 sA, [], rfl, Same.tup a3 (by rw [List.map_replicate]; exact h2), h3, by decide, by decide, repl_item (by decide +kernel) 9, fun z m => (by cases m), fun e1 J4 a4 ne1 hE1 => ?_⟩
      have cp1 : Same (upd H3 p1 (.dK [])) J4 := ((a1.trans a2).trans a3).trans a4
      have hhp1 : J4 p1 = some (.dK []) := cp1 _ _ upd_same
      refine ⟨hhp1, [(.inr sA, .ref e1)], rfl, by simp, p1, _, rfl, upd_same, trivial, fun odp1 => ?_⟩
      rw [upd_upd]
      have q1 : Same H3 (upd J4 p1 (.frz odp1 (.dK (mergeK [] [(.inr sA, .ref e1)])))) := Same.free2 ((Same.new hp1).trans cp1) hp1
      have f1 : FixV P w (upd J4 p1 (.frz odp1 (.dK (mergeK [] [(.inr sA, .ref e1)])))) p1 [.str sA] [.ref e1] := .inl ⟨odp1, _, upd_same, rfl, rfl⟩
      have m1 : EnV K C (upd J4 p1 (.frz odp1 (.dK (mergeK [] [(.inr sA, .ref e1)])))) (.ref e1) (.eff oP) := EnV.mv hhp1 ⟨e1, rfl, hE1⟩
      generalize upd J4 p1 (.frz odp1 (.dK (mergeK [] [(.inr sA, .ref e1)]))) = G1 at q1 f1 m1 ⊢
      have b1 : BV P w K C G1 (.ref p1) := .fix f1 (.cons (.str _) m1 .nil) okAP
      clear m1 cp1 hhp1 hE1 a4 a3 h3 h2 a2 a1 h1
      -- nine pushes
      refine fun p2 hp2 => ⟨(by show 0 ≤ sizeLine; decide), fun t1 ht1 => ⟨(by show 1 ≤ sizeLine; decide), fun t2 ht2 => ?_⟩⟩
      have a1 : Same (upd G1 p2 (.dK [])) (upd (upd G1 p2 (.dK [])) t1 (.tup [])) := Same.new ht1
      have h1 : SqT K (upd (upd G1 p2 (.dK [])) t1 (.tup [])) t1 [] := .of upd_same
      generalize upd (upd G1 p2 (.dK [])) t1 (.tup []) = J1 at a1 h1 ht2 ⊢
      have a2 : Same J1 (upd J1 t2 (.tup [.str sA])) := Same.new ht2
      have h2 : SqT K (upd J1 t2 (.tup [.str sA])) t2 [.str sA] := .of upd_same
      generalize upd J1 t2 (.tup [.str sA]) = J2 at a2 h2 ⊢
      refine ⟨t2, 9, _, rfl, rfl, h2, by decide, by decide, fun t3 J3 a3 h3 => ?_⟩
      refine ⟨t1, t3, [], List.replicate 9 sA, rfl, Same.tup (a2.trans a3) h1, by rw [List.map_replicate]; exact h3, by decide, by decide, fun z m => (by cases m), repl_item (by decide +kernel) 9, fun e2 J4 a4 ne2 hE2' => ?_⟩
      have cp2 : Same (upd G1 p2 (.dK [])) J4 := ((a1.trans a2).trans a3).trans a4
      have hhp2 : J4 p2 = some (.dK []) := cp2 _ _ upd_same
      refine ⟨hhp2, [(.inr sA, .ref e2)], rfl, by simp, p2, _, rfl, upd_same, trivial, fun odp2 => ?_⟩
      rw [upd_upd]
      have q2 : Same G1 (upd J4 p2 (.frz odp2 (.dK (mergeK [] [(.inr sA, .ref e2)])))) := Same.free2 ((Same.new hp2).trans cp2) hp2
      have f2 : FixV P w (upd J4 p2 (.frz odp2 (.dK (mergeK [] [(.inr sA, .ref e2)])))) p2 [.str sA] [.ref e2] := .inl ⟨odp2, _, upd_same, rfl, rfl⟩
      have m2 : EnV K C (upd J4 p2 (.frz odp2 (.dK (mergeK [] [(.inr sA, .ref e2)])))) (.ref e2) (.eff oQ) := EnV.mv hhp2 ⟨e2, rfl, hE2'⟩
      generalize upd J4 p2 (.frz odp2 (.dK (mergeK [] [(.inr sA, .ref e2)]))) = G2 at q2 f2 m2 ⊢
      have b2 : BV P w K C G2 (.ref p2) := .fix f2 (.cons (.str _) m2 .nil) okAQ
      clear m2 cp2 hhp2 hE2' a4 a3 h3 h2 a2 a1 h1
      -- a tuple of tuples
      refine fun p3 hp3 => ⟨(by show 1 ≤ sizeLine; decide), fun t1 ht1 => ⟨(by show 1 ≤ sizeLine; decide), fun t2 ht2 => ⟨(by show 2 ≤ sizeLine; decide), fun t3 ht3 => ?_⟩⟩⟩
      have a1 : Same (upd G2 p3 (.dK [])) (upd (upd G2 p3 (.dK [])) t1 (.tup [.str sA])) := Same.new ht1
      have h1 : SqT K (upd (upd G2 p3 (.dK [])) t1 (.tup [.str sA])) t1 [.str sA] := .of upd_same
      generalize upd (upd G2 p3 (.dK [])) t1 (.tup [.str sA]) = J1 at a1 h1 ht2 ht3 ⊢
      have a2 : Same J1 (upd J1 t2 (.tup [.str sB])) := Same.new ht2
      have h2 : SqT K (upd J1 t2 (.tup [.str sB])) t2 [.str sB] := .of upd_same
      generalize upd J1 t2 (.tup [.str sB]) = J2 at a2 h2 ht3 ⊢
      have a3 : Same J2 (upd J2 t3 (.tup [.ref t1, .ref t2])) := Same.new ht3
      have h3 : SqT K (upd J2 t3 (.tup [.ref t1, .ref t2])) t3 [.ref t1, .ref t2] := .of upd_same
      generalize upd J2 t3 (.tup [.ref t1, .ref t2]) = J3 at a3 h3 ⊢
      have cp3 : Same (upd G2 p3 (.dK [])) J3 := (a1.trans a2).trans a3
      have hhp3 : J3 p3 = some (.dK []) := cp3 _ _ upd_same
      refine ⟨hhp3, [(.inr sA, .ref t3)], rfl, by simp, p3, _, rfl, upd_same, trivial, fun odp3 => ?_⟩
      rw [upd_upd]
      have q3 : Same G2 (upd J3 p3 (.frz odp3 (.dK (mergeK [] [(.inr sA, .ref t3)])))) := Same.free2 ((Same.new hp3).trans cp3) hp3
      have f3 : FixV P w (upd J3 p3 (.frz odp3 (.dK (mergeK [] [(.inr sA, .ref t3)])))) p3 [.str sA] [.ref t3] := .inl ⟨odp3, _, upd_same, rfl, rfl⟩
      have m3 : EnV K C (upd J3 p3 (.frz odp3 (.dK (mergeK [] [(.inr sA, .ref t3)])))) (.ref t3) (.tt) := EnV.mv hhp3 ⟨t3, t1, t2, rfl, h3, Same.tup (a2.trans a3) h1, Same.tup a3 h2⟩
      generalize upd J3 p3 (.frz odp3 (.dK (mergeK [] [(.inr sA, .ref t3)]))) = G3 at q3 f3 m3 ⊢
      have b3' : BV P w K C G3 (.ref p3) := .fix f3 (.cons (.str _) m3 .nil) okAT
      clear m3 cp3 hhp3 a3 h3 h2 a2 a1 h1
      refine fun p4 hp4 => ⟨_, rfl, upd_same, .ref e, rfl, fun x4 f4 => ?_⟩
      rw [upd_upd] at f4 ⊢
      have q4 : Same G3 (upd G3 p4 x4) := Same.new hp4
      generalize upd G3 p4 x4 = G4 at q4 f4 ⊢
      refine ⟨(by show 4 ≤ sizeLine; decide), fun l hl => ?_⟩
      have s4 := ((q1.trans q2).trans q3).trans q4
      have q5 : Same G4 (upd G4 l (.lst [.ref p1, .ref p2, .ref p3, .ref p4])) := Same.new hl
      refine ⟨l3, l, vs3, _, rfl, rfl, (s4.trans q5) _ _ hl3, upd_same, by rw [n3, sizeLine_eq]; simp, fun l5 hl5 => ?_⟩
      have q6 := Same.new (o := .lst (vs3 ++ [.ref p1, .ref p2, .ref p3, .ref p4])) hl5
      have rF := q5.trans q6
      have eF := hE3.same (s4.trans rF)
      have en : EnV K C _ (.ref e) (.eff oG) := ⟨e, rfl, eF⟩
      refine ⟨l5, _, rfl, s4.trans rF, upd_same, by rw [List.length_append, n3]; rfl, fun v m => ?_⟩
      rcases List.mem_append.mp m with m | m
      · exact (b3 v m).same (s4.trans rF)
      simp only [List.mem_cons, List.not_mem_nil, or_false] at m
      rcases m with rfl | rfl | rfl | rfl
      · exact b1.same (((q2.trans q3).trans q4).trans rF)
      · exact b2.same ((q3.trans q4).trans rF)
      · exact b3'.same (q4.trans rF)
      · exact .fix (f4.same rF) (.cons .non en .nil) okNo
    rintro σ H4 ⟨l4, vs4, rfl, s4, hl4, n4, b4⟩
    have hE4 := hE3.same s4
    refine ⟨_, rfl, ?_⟩
    refine fun p1 hp1 => ⟨_, rfl, upd_same, [(.inr sA, .ref e), (.inr sB, .int 5)], rfl, by simp, p1, _, rfl, upd_same, trivial, fun odp1 => ?_⟩
    rw [upd_upd, upd_upd]
    have q1 : Same H4 (upd H4 p1 (.frz odp1 (.dK (mergeK [] [(.inr sA, .ref e), (.inr sB, .int 5)])))) := Same.new hp1
    have emp1 : mergeK [] ([(.inr sA, .ref e), (.inr sB, .int 5)] : List (Key × V)) = [(.inr sA, .ref e), (.inr sB, .int 5)] := merge_new _ [] (fun q m => rfl) (by simp; decide)
    have f1 : FixV P w (upd H4 p1 (.frz odp1 (.dK (mergeK [] [(.inr sA, .ref e), (.inr sB, .int 5)])))) p1 [.str sA, .str sB] [.ref e, .int 5] := .inl ⟨odp1, _, upd_same, by rw [emp1]; rfl, by rw [emp1]; rfl⟩
    generalize upd H4 p1 (.frz odp1 (.dK (mergeK [] [(.inr sA, .ref e), (.inr sB, .int 5)]))) = G1 at q1 f1 ⊢
    refine fun p2 hp2 => ⟨_, rfl, _, rfl, upd_same, [(.inr sA, .ref e), (.inr "a b", .ref e)], rfl, by simp, p2, _, rfl, upd_same, trivial, fun odp2 => ?_⟩
    rw [upd_upd, upd_upd]
    have q2 : Same G1 (upd G1 p2 (.frz odp2 (.dK (mergeK [] [(.inr sA, .ref e), (.inr "a b", .ref e)])))) := Same.new hp2
    have emp2 : mergeK [] ([(.inr sA, .ref e), (.inr "a b", .ref e)] : List (Key × V)) = [(.inr sA, .ref e), (.inr "a b", .ref e)] := merge_new _ [] (fun q m => rfl) (by simp; decide)
    have f2 : FixV P w (upd G1 p2 (.frz odp2 (.dK (mergeK [] [(.inr sA, .ref e), (.inr "a b", .ref e)])))) p2 [.str sA, .str "a b"] [.ref e, .ref e] := .inl ⟨odp2, _, upd_same, by rw [emp2]; rfl, by rw [emp2]; rfl⟩
    generalize upd G1 p2 (.frz odp2 (.dK (mergeK [] [(.inr sA, .ref e), (.inr "a b", .ref e)]))) = G2 at q2 f2 ⊢
    refine fun p3 hp3 => ⟨_, rfl, _, rfl, upd_same, _, _, rfl, fun x3 kk hk f3 => ?_⟩
    rw [upd_upd] at f3 ⊢
    have q3 : Same G2 (upd G2 p3 x3) := Same.new hp3
    generalize upd G2 p3 x3 = G3 at q3 f3 ⊢
    refine ⟨(by show 4 ≤ sizeLine; decide), fun l hl => ?_⟩
    have s5 := (q1.trans q2).trans q3
    have q5 : Same G3 (upd G3 l (.lst [.ref p1, .ref p2, .str "blocks", .ref p3])) := Same.new hl
    refine ⟨l4, l, vs4, _, rfl, rfl, (s5.trans q5) _ _ hl4, upd_same, by rw [n4, sizeLine_eq]; simp, fun l5 hl5 => ?_⟩
    have q6 := Same.new (o := .lst (vs4 ++ [.ref p1, .ref p2, .str "blocks", .ref p3])) hl5
    have rF := q5.trans q6
    have eF := hE4.same (s5.trans rF)
    have en : EnV K C _ (.ref e) (.eff oG) := ⟨e, rfl, eF⟩
    have sH := (((s1.trans s2).trans s3).trans s4).trans s5
    refine k l5 _ _ (sH.trans rF) (by cases z : H l5 with | none => rfl | some o => exact absurd ((sH.trans q5) _ _ z) (by rw [hl5]; simp)) upd_same (by rw [List.length_append, n4]; rfl) fun v m => ?_
    rcases List.mem_append.mp m with m | m
    · exact (b4 v m).same (s5.trans rF)
    simp only [List.mem_cons, List.not_mem_nil, or_false] at m
    rcases m with rfl | rfl | rfl | rfl
    · exact .fix (f1.same ((q2.trans q3).trans rF)) (.cons (.str _) en (.cons (en := .flat (.int 5)) (.str _) (.int 5) .nil)) ok5
    · exact .fix (f2.same (q3.trans rF)) (.cons (.str _) en (.cons (.str _) en .nil)) okab
    · exact .str
    · rcases hk with rfl | rfl
      · exact .fix (f3.same rF) (.cons (.str _) en (.cons (.int _) en .nil)) okT1
      · exact .fix (f3.same rF) (.cons (.str _) en (.cons (.bl _) en .nil)) okT2
end
end SE
namespace SE
open PySem PySem.Spec PyProof.Rows L2
/-! ### what the law's blocks reach -/
theorem rising_pw : ∀ {r : List Str} {p : Str}, risingS p r = true → (p :: r).Pairwise fun a b => ¬ b.cps.toList < a.cps.toList
  | [], p, _ => by simp
  | x :: r, p, h => by
    unfold risingS at h
    rw [Bool.and_eq_true, ltCps_eq] at h
    have ih := rising_pw h.2
    have px : ¬ x.cps.toList < p.cps.toList := by simpa using h.1
    refine List.pairwise_cons.mpr ⟨fun y my => ?_, ih⟩
    rcases List.mem_cons.mp my with e | my
    · rw [e]; exact px
    · have xy := (List.pairwise_cons.mp ih).1 y my
      intro q
      exact px (List.lt_of_le_of_lt (List.not_lt.mp xy) q)
theorem sorted_pw {ys : List Str} (h : sortedS ys = true) : ys.Pairwise fun a b => ¬ b.cps.toList < a.cps.toList := by
  cases ys with
  | nil => exact .nil
  | cons x r => exact rising_pw h
theorem sorted_uniq {ms ns : List Str} (p : ms.Perm ns) (h : sortedS ms = true) (h2 : sortedS ns = true) : ms = ns := by
  refine p.eq_of_pairwise (le := fun a b => ¬ b.cps.toList < a.cps.toList) (fun a b _ _ h1 h2 => ?_) (sorted_pw h) (sorted_pw h2)
  have e : a.cps.toList = b.cps.toList := List.le_antisymm (List.not_lt.mp h1) (List.not_lt.mp h2)
  cases a
  cases b
  exact congrArg _ (Array.toList_inj.mp e)
theorem ns_one {x : Str} {o : Eff} : NsOf [(x, o)] [x] := fun ms p _ => List.perm_singleton.mp p
def okS (fu : Nat) (rules : List Rule) (zs : List Str) (gs : List (List Str)) (f : SR → Bool) : Bool := match searchM fu rules zs gs with
  | some r => f r
  | none => false
theorem okS_ok {fu : Nat} {rules : List Rule} {zs : List Str} {gs : List (List Str)} {f : SR → Bool} (h : okS fu rules zs gs f = true) : ∃ r, searchM fu rules zs gs = some r ∧ f r = true := by
  unfold okS at h
  cases e : searchM fu rules zs gs with
  | none => rw [e] at h; cases h
  | some r => rw [e] at h; exact ⟨r, rfl, h⟩
def a8 : List Str := List.replicate 8 sA
def b8 : List Str := List.replicate 8 sB
def a30 : List Str := List.replicate 30 sA
def b30 : List Str := List.replicate 30 sB
def oA : Eff := some (a8, b8, lp a8 b8)
def bs8 : Blk := (List.range 8).map fun j => (nm9 j, oA)
def ns8 : List Str := (List.range 8).map nm9
def rs8 : List Rule := (List.range 8).map fun j => (nm9 j, a8, b8)
theorem rules8 : rulesM bs8 ns8 = rs8 := by decide +kernel
theorem nm9_item : ∀ j < 8, itB (nm9 j) = true := by decide +kernel
theorem oA_ok : EffOk oA := eo_lp (repl_item (by decide +kernel) 8) (repl_item (by decide +kernel) 8) (by decide) (by decide)
theorem blk8 : BlkOk bs8 where
  l0 := by decide +kernel
  l1 := by decide +kernel
  ok := fun b m => by
    obtain ⟨j, mj, rfl⟩ := List.mem_map.mp m
    exact ⟨itB_ok (nm9_item j (List.mem_range.mp mj)), (by decide +kernel : blkM oA = true), oA_ok⟩
  nd := by decide +kernel
theorem ns_of8 : NsOf bs8 ns8 := fun ms p s => sorted_uniq (show ms.Perm ns8 from p) s (by decide +kernel)
theorem fact8 : okS 400 rs8 a30 [b30] (fun r => (leastM r rs8.length).isNone) = true := by decide +kernel
theorem fact80 : okS 400 rs8 a30 [] (fun r => decide (r.R.costs.length ≤ capA)) = true := by decide +kernel
def bsG : Blk := [(sX, oG)]
def rsG : List Rule := [(sX, [sA], [sB])]
theorem rulesG : rulesM bsG [sX] = rsG := by decide +kernel
theorem blkG : BlkOk bsG where
  l0 := by decide
  l1 := by decide
  ok := fun b m => by
    rw [List.mem_singleton.mp m]
    exact ⟨itB_ok (by decide +kernel), by decide +kernel, oG_ok⟩
  nd := by decide +kernel
abbrev sC : Str := "c"
theorem factG0 : okS 400 rsG [sA] [] (fun r => decide (r.R.costs.length ≤ capA)) = true := by decide +kernel
theorem factGa : okS 400 rsG [sA] [[sA]] (fun r => decide (leastM r rsG.length = some 0) && decide (namesTo 400 r rsG.length = some [])) = true := by decide +kernel
theorem factGc : okS 400 rsG [sA] [[sC]] (fun _ => true) = true := by decide +kernel
def bsN : Blk := [(sX, none)]
theorem rulesN : rulesM bsN [sX] = [] := by decide +kernel
theorem blkN : BlkOk bsN where
  l0 := by decide
  l1 := by decide
  ok := fun b m => by
    rw [List.mem_singleton.mp m]
    exact ⟨itB_ok (by decide +kernel), rfl, trivial⟩
  nd := by decide +kernel
theorem factN : okS 400 [] [] [[sA]] (fun r => (leastM r 0).isNone) = true := by decide +kernel
theorem isNone_eq {α : Type} {o : Option α} (h : o.isNone = true) : o = none := by
  cases o with
  | none => rfl
  | some _ => cases h
theorem fact8' : ∃ r, searchM 400 (rulesM bs8 ns8) a30 [b30] = some r ∧ leastM r (rulesM bs8 ns8).length = none := by
  rw [rules8]
  obtain ⟨r, h, q⟩ := okS_ok fact8
  exact ⟨r, h, isNone_eq q⟩
theorem fact80' : ∃ r, searchM 400 (rulesM bs8 ns8) a30 [] = some r ∧ r.R.costs.length ≤ capA := by
  rw [rules8]
  obtain ⟨r, h, q⟩ := okS_ok fact80
  exact ⟨r, h, of_decide_eq_true q⟩
theorem factG0' : ∃ r, searchM 400 (rulesM bsG [sX]) [sA] [] = some r ∧ r.R.costs.length ≤ capA := by
  rw [rulesG]
  obtain ⟨r, h, q⟩ := okS_ok factG0
  exact ⟨r, h, of_decide_eq_true q⟩
theorem factGa' : ∃ r, searchM 400 (rulesM bsG [sX]) [sA] [[sA]] = some r ∧ leastM r (rulesM bsG [sX]).length = some 0 ∧ namesTo 400 r (rulesM bsG [sX]).length = some [] := by
  rw [rulesG]
  obtain ⟨r, h, q⟩ := okS_ok factGa
  rw [Bool.and_eq_true] at q
  exact ⟨r, h, of_decide_eq_true q.1, of_decide_eq_true q.2⟩
theorem factGc' : ∃ r, searchM 400 (rulesM bsG [sX]) [sA] [[sC]] = some r := by
  rw [rulesG]
  obtain ⟨r, h, q⟩ := okS_ok factGc
  exact ⟨r, h⟩
theorem factN' : ∃ r, searchM 400 (rulesM bsN [sX]) [] [[sA]] = some r ∧ leastM r (rulesM bsN [sX]).length = none := by
  rw [rulesN]
  obtain ⟨r, h, q⟩ := okS_ok factN
  exact ⟨r, h, isNone_eq q⟩
end SE
/-! own ==, != with whatever stands beside on the right. -/
namespace SE
open PySem PySem.Spec PyProof.Rows L2
section
variable {prog : Program} {w : World} {A : Around} {E : Value → Shared → Prop} {s : Shared} {K : PySem.W.Frag} {x C f : Addr} {ox : Obj} {od : Option Obj} {b tb : Value} {Q : Value → Shared → Prop}
theorem ne_any (hu : A.units + 1 < cLine) (X : K.In s.heap) (I : PySem.W.InstAt s.heap x ox C od) (hb : PySem.W.Looks (model prog w) s.heap (typeOf b) tb) (hnf : PySem.W.notFirst K C tb = true) (hm : PySem.W.mroIn K C (.type "object") = some true)
    (hn : PySem.W.findIn K (.ref C) "__ne__" = some (some (.builtin "object.__ne__"))) (hs : PySem.W.findIn K (.ref C) "__eq__" = some (some (.ref f))) (hf : PySem.W.isFn K (.ref f) = true)
    (h : wpAny (model prog w) A.in1 (call (.ref f) [.ref x, b]) (fun r s2 => ∃ b, r = .bool b ∧ Q (.bool (!b)) s2) E s) : wpAny (model prog w) A (richCompare .NotEq (.ref x) b) Q E s := by
  have one : wpAny (model prog w) A (tryCompare (.ref x) (cmpInfo .NotEq).2.1 b) (fun r s2 => ∃ v, r = some v ∧ Q v s2) E s := by
    unfold tryCompare
    refine wpAny_bind (bound_slot X I hn PySem.F.cmp_object.ne.bind (ne_call hu X I hm hs hf (wpAny_mono h (fun v s2 z => ?_) fun _ _ z => z)))
    obtain ⟨b, rfl, q⟩ := z
    exact ⟨b, rfl, wpAny_pure ⟨_, rfl, q⟩⟩
  unfold richCompare
  simp only [oneThing_ref]
  refine wpAny_holding (wpAny_bind (wpAny_cRoomFor (Nat.lt_of_succ_lt hu) (wpAny_bind (I.type.here (wpAny_bind (hb.here ?_))))))
  have fin : wpAny (model prog w) A (tryCompare (.ref x) (cmpInfo .NotEq).2.1 b) (fun r s2 => ∃ v, r = some v ∧ Q v s2) E s := one
  split
  · rename_i q
    have e : PySem.W.subIn K tb (.ref C) = some false := by
      rcases Bool.or_eq_true_iff.mp hnf with e | e
      · rw [beq_iff_eq.mp e] at q; simp at q
      · exact beq_iff_eq.mp e
    refine wpAny_bind ((PySem.W.looks_subIn X e).here ?_)
    simp only [Bool.false_eq_true, if_false]
    refine wpAny_bind (wpAny_mono one (fun r s' z => ?_) fun _ _ e => e)
    obtain ⟨v, rfl, hq⟩ := z
    exact wpAny_pure hq
  · refine wpAny_bind (wpAny_pure ?_)
    simp only [Bool.false_eq_true, if_false]
    refine wpAny_bind (wpAny_mono one (fun r s' z => ?_) fun _ _ e => e)
    obtain ⟨v, rfl, hq⟩ := z
    exact wpAny_pure hq
end
/-- what an own == promises of any value beside it -/
def spEqW (R : Addr → V → Bool → Hp → Prop) : Sp := fun vs H Q _ => ∃ (a : Addr) (y : V) (c : Bool), vs = [.ref a, y] ∧ R a y c H ∧ ∀ H', Same H H' → Q (.bl c) H'
def rCmpW (K : PySem.W.Frag) (C : Addr) (R : Addr → V → Bool → Hp → Prop) (neg : Bool) : R2 := fun x y H Q => ∃ (a : Addr) (c : Bool) (dx : Addr) (fs : List (Str × V)) (t : Value), x = .ref a ∧ H a = some (.ins C dx fs) ∧ TyX K H y t ∧ PySem.W.notFirst K C t = true ∧ R a y c H ∧ ∀ H', Same H H' → Q (.bl (c != neg)) H'
section
variable {X : Cx} {n : Nat} {C f : Addr} {fd : FuncData} {ps : List Str} {R : Addr → V → Bool → Hp → Prop}
theorem op_eqW (F : FnOk X.prog X.w X.K X.mg X.base CX0 n f fd ps (spEqW R)) (hs : PySem.W.findIn X.K (.ref C) "__eq__" = some (some (.ref f))) (hf : PySem.W.isFn X.K (.ref f) = true) (hb : Binds X.K fd ps []) (hr : Room n X.A) : OpR X (compareOp .Eq) (rCmpW X.K C R false) := by
  intro pins s σ H x y u v Q I rx ry hq
  obtain ⟨a, c, dx, fs, t, rfl, ha, ty, nf, hR, k⟩ := hq
  cases rx
  obtain ⟨P, Z, p, _⟩ := kit_of I ry ty
  obtain ⟨mA, J, _⟩ := ins_get I.hok ha
  obtain ⟨od, J, _⟩ := J.look
  obtain ⟨m, hF⟩ := I.fr
  show wpAny (model X.prog X.w) X.A (richCompare .Eq (.ref a) v) (EP X pins σ Q) X.xe s
  refine PySem.W.cmp_K (op := .Eq) (tb := t) hr.units0 hF I.ok.mod.kin J (Z.ty _ _ I.kIn p) nf hs hf ?_
  have hsp : spEqW R [.ref a, y] H (fun z H' => z = .bl c ∧ Same H H') (fun _ _ _ => False) := ⟨a, y, c, rfl, hR, fun H' e => ⟨rfl, e⟩⟩
  have hl := F.len _ _ _ _ hsp
  refine wpAny_call (codeAny_mono (F.run X.A X.stack s H ⟨[.ref a, v], []⟩ [.ref a, v] [.ref a, y] _ _ hr I.env0 (by simpa using hb s [.ref a, v] I.kIn (by simpa using hl)) (.cons rfl (.cons ry .nil)) hsp) fun r s2 hq => ?_)
  cases r with
  | error e => exact hq.elim
  | ok fl =>
    cases fl with
    | ret z =>
      obtain ⟨y, H2, I2, rz, ez, ex⟩ := I.after hq
      subst ez
      cases rz
      refine ⟨.bl c, H2, I2, rfl, ?_⟩
      have q := k H2 ex
      rw [show (c != false) = c by cases c <;> rfl] at q
      exact q
    | next => exact hq.elim
    | brk => exact hq.elim
    | cont => exact hq.elim
theorem op_neW (F : FnOk X.prog X.w X.K X.mg X.base CX0 n f fd ps (spEqW R)) (hs : PySem.W.findIn X.K (.ref C) "__eq__" = some (some (.ref f))) (hf : PySem.W.isFn X.K (.ref f) = true) (hb : Binds X.K fd ps []) (hm : PySem.W.mroIn X.K C (.type "object") = some true)
    (hn : PySem.W.findIn X.K (.ref C) "__ne__" = some (some (.builtin "object.__ne__"))) (hr : Room (n + 1) X.A) : OpR X (compareOp .NotEq) (rCmpW X.K C R true) := by
  intro pins s σ H x y u v Q I rx ry hq
  obtain ⟨a, c, dx, fs, t, rfl, ha, ty, nf, hR, k⟩ := hq
  cases rx
  obtain ⟨P, Z, p, _⟩ := kit_of I ry ty
  obtain ⟨mA, J, _⟩ := ins_get I.hok ha
  obtain ⟨od, J, _⟩ := J.look
  show wpAny (model X.prog X.w) X.A (richCompare .NotEq (.ref a) v) (EP X pins σ Q) X.xe s
  refine ne_any (tb := t) (by have := hr.in1.units0; exact this) I.kIn J (Z.ty _ _ I.kIn p) nf hm hn hs hf ?_
  have hsp : spEqW R [.ref a, y] H (fun z H' => z = .bl c ∧ Same H H') (fun _ _ _ => False) := ⟨a, y, c, rfl, hR, fun H' e => ⟨rfl, e⟩⟩
  have hl := F.len _ _ _ _ hsp
  refine wpAny_call (codeAny_mono (F.run X.A.in1 X.stack s H ⟨[.ref a, v], []⟩ [.ref a, v] [.ref a, y] _ _ hr.in1 I.env0.in1 (by simpa using hb s [.ref a, v] I.kIn (by simpa using hl)) (.cons rfl (.cons ry .nil)) hsp) fun r s2 hq => ?_)
  cases r with
  | error e => exact hq.elim
  | ok fl =>
    cases fl with
    | ret z =>
      obtain ⟨y, H2, I2, rz, ez, ex⟩ := I.after hq
      subst ez
      cases rz
      refine ⟨c, rfl, .bl (!c), H2, I2, rfl, ?_⟩
      have q := k H2 ex
      rw [show (c != true) = !c by cases c <;> rfl] at q
      exact q
    | next => exact hq.elim
    | brk => exact hq.elim
    | cont => exact hq.elim
end
/-- a built-in type that is no own class -/
theorem sub_ty {K : PySem.W.Frag} {C : Addr} {T : String} {l : List Value} (h : PySem.W.subIn K (.type T) (.ref C) = some false) : PySem.W.notFirst K C (.type T) = true := by
  unfold PySem.W.notFirst
  rw [h]
  simp
theorem kit_ty0 {K : PySem.W.Frag} {C : Addr} {T : String} (h : PySem.W.subIn K (.type T) (.ref C) = some false) (h2 : PySem.W.typeIn K (.ref C) = some (.type "type")) (h3 : PySem.W.hasDictIn K C = true) : PySem.W.kitOne K (.type T) (.ref C) = some false := by
  obtain ⟨cd, hc, _⟩ := PySem.W.any_some h3
  unfold PySem.W.kitOne
  rw [if_neg (by simp)]
  show (if ((PySem.W.clsIn K C).isSome && PySem.W.typeIn K (.ref C) == some (.type "type")) = true then PySem.W.subIn K (.type T) (.ref C) else none) = some false
  rw [if_pos (by rw [hc, h2]; rfl)]
  exact h
theorem sub_of {K : PySem.W.Frag} {C : Addr} {T : String} {l : List Value} (h : fastBuiltinMro T = some l) (h2 : ∀ v ∈ l, ∃ T', v = .type T') : PySem.W.subIn K (.type T) (.ref C) = some false := by
  show (fastBuiltinMro T).map (·.contains (.ref C)) = some false
  rw [h]
  simp only [Option.map_some, Option.some.injEq]
  rw [Bool.eq_false_iff]
  intro q
  obtain ⟨T', e⟩ := h2 _ (List.contains_iff_mem.mp q)
  cases e
end SE
namespace SE
open PySem PySem.Spec PyProof.Rows L2
/-! ### the law's values -/
theorem oks_lay {x : Str} (h : okA x = true) : PyData.strOk x = true := by
  unfold PyData.strOk
  rw [← Array.all_toList]
  exact h
theorem kC_of {K : PySem.W.Frag} {C : Addr} (h2 : PySem.W.typeIn K (.ref C) = some (.type "type")) (h3 : PySem.W.hasDictIn K C = true) : ∀ d : PyData, PySem.W.kitOne K (.type (tyD d)) (.ref C) = some false := fun d => by
  have two : ∀ T : String, fastBuiltinMro T = some [.type T, .type "object"] → PySem.W.kitOne K (.type T) (.ref C) = some false := fun T h => kit_ty0 (sub_of h fun v m => by
    simp only [List.mem_cons, List.not_mem_nil, or_false] at m
    rcases m with rfl | rfl
    · exact ⟨_, rfl⟩
    · exact ⟨_, rfl⟩) h2 h3
  cases d with
  | none => exact two _ rfl
  | int _ => exact two _ rfl
  | str _ => exact two _ rfl
  | list _ => exact two _ rfl
  | tuple _ => exact two _ rfl
  | dict _ => exact two _ rfl
  | bool _ => exact kit_ty0 (sub_of (l := [.type "bool", .type "int", .type "object"]) rfl fun v m => by
      simp only [List.mem_cons, List.not_mem_nil, or_false] at m
      rcases m with rfl | rfl | rfl
      · exact ⟨_, rfl⟩
      · exact ⟨_, rfl⟩
      · exact ⟨_, rfl⟩) h2 h3
theorem shp_twob {n x : Str} {b : Bool} (hn : okA n = true) (h : okA x = true) : SeqAt.shaped (.list [.str n, .str x, .bool b]) = true := by
  have h1 := oks_lay hn
  have h2 := oks_lay h
  simp [SeqAt.shaped, PyData.canLay0, PyData.canLayAll0, PyData.depth, PyData.depthAll, h1, h2]
inductive OV (K : PySem.W.Frag) (H : Hp) : V → PyData → Prop
  | flat {v : V} {d : PyData} : FlatV v d → OV K H v d
  | lst {a : Addr} : H a = some (.lst [.str sA]) → OV K H (.ref a) (.list [.str sA])
  | tup {a : Addr} {xs : List V} {ds : List PyData} : SqT K H a xs → Paired FlatV xs ds → OV K H (.ref a) (.tuple ds)
  | emp {a : Addr} : H a = some (.dK []) → OV K H (.ref a) (.dict [])
def oddDs : List PyData := [.none, .str sA, .list [.str sA], .tuple [.str "A"], .tuple (List.replicate 31 (.str sA)), .tuple [.int 5], .int 7, .dict [], .tuple [.str sA, .none]]
def numDs : List PyData := [.int (-1), .int 5001, .bool true, .none, .str "1", .tuple [.int 1]]
def shT (d : PyData) : Bool := d.showable && decide (d.depth ≤ 20) && decide (d.shown.length ≤ sizeLine) && okA d.shown
theorem shT_ok {d : PyData} (h : shT d = true) : ShD d ∧ okA d.shown = true := by
  unfold shT at h
  simp only [Bool.and_eq_true, decide_eq_true_eq] at h
  exact ⟨⟨h.1.1.1, h.1.1.2, h.1.2⟩, h.2⟩
theorem odd_ok {d : PyData} (m : d ∈ oddDs) : OkD d ∧ stkD d = false ∧ ShD d ∧ okA d.shown = true := by
  have q : (oddDs.all fun d => okd d && (!stkD d) && shT d) = true := by decide +kernel
  have h := List.all_eq_true.mp q d m
  rw [Bool.and_eq_true, Bool.and_eq_true] at h
  exact ⟨okd_ok h.1.1, by simpa using h.1.2, (shT_ok h.2).1, (shT_ok h.2).2⟩
theorem num_ok {d : PyData} (m : d ∈ numDs) : betD 0 5000 d = false ∧ ShD d ∧ okA d.shown = true := by
  have q : (numDs.all fun d => (!betD 0 5000 d) && shT d) = true := by decide +kernel
  have h := List.all_eq_true.mp q d m
  rw [Bool.and_eq_true] at h
  exact ⟨by simpa using h.1, (shT_ok h.2).1, (shT_ok h.2).2⟩
theorem flat_repl : ∀ n : Nat, Paired FlatV (List.replicate n (V.str sA)) (List.replicate n (.str sA))
  | 0 => .nil
  | n + 1 => .cons (.str _) (flat_repl n)
section
variable {K : PySem.W.Frag} {C : Addr} {H H' : Hp} {p : Addr}
theorem flats_dpx : ∀ {xs : List V} {ds : List PyData}, Paired FlatV xs ds → DpXs K H xs ds
  | [], [], .nil => .nil
  | _ :: _, _ :: _, .cons a b => .cons a.dpx (flats_dpx b)
theorem OV.dp {v : V} {d : PyData} (h : OV K H v d) : DpX K H v d := by
  cases h with
  | flat h => exact h.dpx
  | lst h => exact .lst (.of h) (.cons (.str _) .nil)
  | tup h q => exact .tup h (flats_dpx q)
  | emp h => exact .emp h
theorem OV.same {v : V} {d : PyData} (h : OV K H v d) (s : Same H H') : OV K H' v d := by
  cases h with
  | flat h => exact .flat h
  | lst h => exact .lst (s _ _ h)
  | tup h q => exact .tup (Same.tup s h) q
  | emp h => exact .emp (s _ _ h)
theorem OV.but {v : V} {d : PyData} (pl : Pool H p) (b : But p H H') (h : OV K H v d) : OV K H' v d := by
  obtain ⟨m, s, e, _⟩ := pl.ex
  cases h with
  | flat h => exact .flat h
  | lst h => exact .lst (b _ _ (fun z => by rw [z, e] at h; cases h) h)
  | tup h q => exact .tup (sqT_but pl b h) q
  | emp h => exact .emp (b _ _ (fun z => by rw [z, e] at h; cases h) h)
theorem ov_pick : ∀ {vs : List V} {ds : List PyData} {n : Nat}, Paired (OV K H) vs ds → n < vs.length → ∃ v d, vs[n]? = some v ∧ d ∈ ds ∧ OV K H v d
  | [], [], n, .nil, h => absurd h (Nat.not_lt_zero _)
  | v :: _, d :: _, 0, .cons a b, h => ⟨v, d, rfl, List.mem_cons_self, a⟩
  | _ :: _, _ :: _, n + 1, .cons a b, h => by
    obtain ⟨v, d, h1, h2, h3⟩ := ov_pick (n := n) b (by rw [List.length_cons] at h; omega)
    exact ⟨v, d, h1, List.mem_cons_of_mem _ h2, h3⟩
theorem ov_at {vs : List V} {ds : List PyData} {r : Int} (h : Paired (OV K H) vs ds) (h0 : 0 ≤ r) (h1 : r < vs.length) : ∃ v d, atI vs r = some v ∧ d ∈ ds ∧ OV K H v d := by
  obtain ⟨n, rfl⟩ : ∃ n : Nat, r = (n : Int) := ⟨r.toNat, by omega⟩
  obtain ⟨v, d, q1, q2, q3⟩ := ov_pick h (n := n) (by omega)
  exact ⟨v, d, atI_nat q1, q2, q3⟩
theorem ne_same {x y : V} {d : PyData} {Q : VK} (hx : Dp K H x d) (hy : Dp K H y d) (sh : SeqAt.shaped d = true) (q : Q (.bl false) H) : rNeD K x y H Q := ⟨d, d, hx, hy, sh, sh, by rw [SeqAt.eqv_refl _ (SeqAt.canLay_of_shaped sh)]; exact q⟩
theorem ne_word {x t : Str} {l L : Addr} {Q : VK} (hl : H l = some (.lst [.str x, .str t, .bl true])) (hL : H L = none) (hx : okA x = true) (ht : okA t = true) (q : ∀ H', Same H H' → Q (.bl false) H') :
    rNeD K (.ref l) (.ref L) (upd H L (.lst [.str x, .str t, .bl true])) Q := by
  have c := Same.new (o := .lst [.str x, .str t, .bl true]) hL
  exact ne_same (d := .list [.str x, .str t, .bool true]) (.lst (.of (c _ _ hl)) (.cons (.str _) (.cons (.str _) (.cons (.bl _) .nil)))) (.lst (.of upd_same) (.cons (.str _) (.cons (.str _) (.cons (.bl _) .nil)))) (shp_twob hx ht) (q _ c)
/-- what a turn keeps -/
structure LK (P : Program) (w : World) (K : PySem.W.Frag) (C : Addr) (Hs : Hp) (p e lb : Addr) (vb : List V) (v vm : V) (d dm : PyData) (H : Hp) : Prop where
  pool : Pool H p
  sm : Same Hs H
  ef : EffV K C H e oG
  lb : H lb = some (.lst vb)
  nb : vb.length = 17
  bv : ∀ u ∈ vb, BV P w K C H u
  ov : OV K H v d
  on : OV K H vm dm
variable {P : Program} {w : World}
theorem LK.same {Hs : Hp} {e lb : Addr} {vb : List V} {v vm : V} {d dm : PyData} (h : LK P w K C Hs p e lb vb v vm d dm H) (s : Same H H') : LK P w K C Hs p e lb vb v vm d dm H' :=
  ⟨h.pool.same s, h.sm.trans s, h.ef.same s, s _ _ h.lb, h.nb, fun u m => (h.bv u m).same s, h.ov.same s, h.on.same s⟩
theorem lst_but {l : Addr} {vs : List V} (pl : Pool H p) (b : But p H H') (h : H l = some (.lst vs)) (n : vs.length ≠ 2) : H' l = some (.lst vs) := by
  obtain ⟨m, s, e, _⟩ := pl.ex
  refine b _ _ (fun z => n ?_) h
  rw [z, e] at h
  have := HO.lst.inj (Option.some.inj h)
  rw [← this]
  rfl
theorem LK.but {Hs : Hp} {e lb : Addr} {vb : List V} {v vm : V} {d dm : PyData} (h : LK P w K C Hs p e lb vb v vm d dm H) (hp : Hs p = none) (b : But p H H') (p' : Pool H' p) : LK P w K C Hs p e lb vb v vm d dm H' :=
  ⟨p', fun c o q => b c o (ne_of_none q hp) (h.sm c o q), h.ef.but h.pool b, lst_but h.pool b h.lb (by rw [h.nb]; decide), h.nb, fun u m => (h.bv u m).but h.pool b, h.ov.but h.pool b, h.on.but h.pool b⟩
/-- {"x": good} -/
theorem blkG_at {d e : Addr} (hd : H d = some (.dK [(Sum.inr sX, .ref e)])) (h : EffV K C H e oG) : BlkD K C H d bsG := ⟨_, hd, .cons ⟨rfl, e, rfl, h⟩ .nil⟩
theorem dpx_strs : ∀ zs : List Str, DpXs K H (zs.map V.str) (zs.map PyData.str)
  | [] => .nil
  | z :: zs => .cons (.str z) (dpx_strs zs)
theorem good_st {a : Addr} {zs : List Str} (h : SqT K H a (zs.map V.str)) (ok : okd (.tuple (zs.map .str)) = true) (st : stkD (.tuple (zs.map .str)) = true) : GoodSt K H (.ref a) :=
  ⟨_, .tup h (dpx_strs zs), okd_ok ok, st⟩
end
end SE
namespace SE
open PySem PySem.Spec PyProof.Rows L2
section
variable {P : Program} {w : World} {K : PySem.W.Frag} {mg : Str → Option Value} {base : Heap} {C Z CB CW CN CL CS : Addr}
/-! ### law -/
def spLaw (K : PySem.W.Frag) : Sp := fun xs H Q _ => ∃ (a : Addr) (ns : List Int), xs = [.ref a] ∧ SqL K H a (ns.map V.int) ∧ ns.length ≤ 63 ∧ ∀ H', Q (.bl true) H'
abbrev nLaw : List Str := ["_law_script", "_law_good", "_law_eight", "_law_k", "_law_pool_here", "_law_bad", "_law_odd", "_law_number", "_law_door", "_law_blocks", "_law_found", "_law_letter"]
theorem scLaw : FnScope nLaw ["_law_script"] (defScope sLaw) := ⟨rfl, rfl, rfl, by decide +kernel, rfl, by decide +kernel, by decide +kernel⟩
theorem letters8 : ∀ j < 8, ("abcdefgh" : Str).cps[j]? = some (97 + j) := by decide +kernel
theorem eight_ok {H : Hp} {d8 t2 t4 : Addr} {j : Int} (h0 : 0 ≤ j) (h4 : j ≤ 4) (hB : BlkD K C H d8 bs8) (hA : SqT K H t2 (a30.map V.str)) (hG : SqT K H t4 (b30.map V.str)) {Q : VK} {E : XK} (q : ∀ H', Same H H' → Q .non H') : spRd P w K C [.int j, .ref d8, .ref t2, .ref t4, .int 5000] H Q E := by
  have ia : ∀ z ∈ a30, Item z := repl_item (by decide +kernel) 30
  have ib : ∀ z ∈ b30, Item z := repl_item (by decide +kernel) 30
  have sI : SeaIn K C H (.ref d8) (.ref t2) (.ref t4) bs8 ns8 a30 b30 := ⟨d8, t2, t4, rfl, rfl, rfl, hB, blk8, ns_of8, hA, by decide, ia, hG, by decide, ib⟩
  obtain ⟨r, hs, hl⟩ := fact8'
  refine ⟨j, .ref d8, .ref t2, .ref t4, .int 5000, rfl, h0, h4, ?_⟩
  have five : j = 0 ∨ j = 1 ∨ (j = 2 ∨ j = 3) ∨ j = 4 := by omega
  rcases five with e | e | e | e
  · obtain ⟨r0, hs0, hc0⟩ := fact80'
    exact .inr (.inr (.inr (.inl ⟨e, ⟨d8, t2, bs8, ns8, a30, 400, r0, rfl, rfl, hB, blk8, ns_of8, hA, by decide, ia, hs0, hc0⟩, q⟩)))
  · exact .inr (.inr (.inr (.inr (.inl ⟨e, ⟨d8, bs8, rfl, hB, blk8⟩, good_st hA (by decide +kernel) (by decide +kernel), q⟩))))
  · exact .inr (.inr (.inr (.inr (.inr (.inl ⟨e, ⟨bs8, ns8, a30, b30, 400, r, sI, hs⟩, q⟩)))))
  · exact .inr (.inr (.inr (.inr (.inr (.inr ⟨e, bs8, ns8, a30, b30, 400, r, .int 5000, sI, hs, .int _, .inr ⟨5000, rfl, rfl, by decide, by decide, .inl hl, q⟩⟩)))))
theorem ok_law {f : Addr} {fd : FuncData} (F : Fun K "law" "law" sLaw f fd) (T : EC K mg C) (M : Makes P w K mg base C) (NV : NeverHas P w K mg base C) (RP : ReprHasM P w K mg base C)
    (GPl : Has P w K mg base "_law_pool" 1 ["_law_script", "_law_k"] [] (spPool K)) (GT : Has P w K mg base "_law_take" 1 ["_law_pool_here", "_law_many"] [] spTake)
    (GB : Has P w K mg base "_law_bad_blocks" 6 ["_law_pool_here"] [] (spBad P w K C)) (GRt : KHasM P w K mg base (L2.CX P w) "route" sRoute pRt 9 (spRt2 P w K C CB CW CN CL)) (GO : GHas P w K mg base "_law_raised" 11 pRd (spRd P w K C))
    (kC : ∀ d : PyData, PySem.W.kitOne K (.type (tyD d)) (.ref C) = some false)
    (B : Blt mg) (mr : mg "range" = none) (mx : mg "max" = none) (mn : mg "min" = none) (mp : mg "repr" = none) (md : mg "dict" = none) : GOk P w K mg base 12 f fd ["_law_script"] (spLaw K) := by
  obtain ⟨f0, fd0, F0, kb0, m0, kp0⟩ := GRt.kb 3 (fun D doc pm an cv ct us ws h1 h2 => match us, ws, h1, h2 with | [_, _, _], [_], _, _ => rfl)
  obtain ⟨f1, fd1, ds1, F1, hd1, hb1, m1, kp1⟩ := GRt.ds 3 rfl (fun D doc pm an cv ct us ks h1 h2 => match us, ks, h1, h2 with | [_, _, _], [_], _, _ => ⟨_, _, _, _, _, _, rfl, rfl, rfl⟩)
  have F0 := fnOk_calm F0
  have F1 := fnOk_calm F1
  refine gok_mk F scLaw (fun xs H Q E h => ?_) (fun cv A out s H xs Q E hgu hr h => ?_)
  · obtain ⟨a, ns, rfl, _⟩ := h
    rfl
  · obtain ⟨a, ns, rfl, hS, hlen, k⟩ := h
    have hr1 : Room 1 _ := hr.mono (by decide)
    have hr5 : Room 5 _ := hr.mono (by decide)
    have hr6 : Room 6 _ := hr.mono (by decide)
    have hr9 : Room 9 _ := hr.mono (by decide)
    refine ⟨_, (Evl.pss_cut (ps_set (i := 1) scLaw.nd rfl (.inl rfl) (pe_eff2 M T.mgE hr5 (pa_cons (pe_tup (pa_cons pe_str pa_nil)) (pa_cons (pe_tup (pa_cons pe_str pa_nil)) pa_nil))))
      (Evl.pss_cut (ps_set (i := 2) scLaw.nd rfl (.inr rfl) (pe_callTy (call_dictP rfl) (by rfl) md (by decide +kernel) (pa_cons (pe_lc (own := [("_law_letter", 11)]) (g := gName 11) (tt := tYes) (te := tTup (tCons (tOp _ (tC (.str "n")) (tVar 11)) (tCons (tEff2 K C (tCons (tOp (rRepS K) (tTup (tCons (tC (.str "a")) tNil)) (tC (.int 8))) (tCons (tOp (rRepS K) (tTup (tCons (tC (.str "b")) tNil)) (tC (.int 8))) tNil))) tNil))) rfl scLaw.nd (pi_str pe_str) (blkOk_by (own := [("_law_letter", 11)]) (N := nLaw) (sc := defScope sLaw) (by decide +kernel)) (fun _ _ _ _ _ => (pg_name (i := 11) scLaw.nd rfl (.inl rfl))) (fun _ _ _ _ _ => pts_nil) (fun _ _ _ _ _ => (pe_tup (pa_cons (pe_op op_add_str pe_str (pv 11)) (pa_cons (pe_eff2 M T.mgE hr5 (pa_cons (pe_op op_repS (pe_tup (pa_cons pe_str pa_nil)) pe_int) (pa_cons (pe_op op_repS (pe_tup (pa_cons pe_str pa_nil)) pe_int) pa_nil))) pa_nil))))) pa_nil)))
      (Evl.pss_cut (ps_if (pt_cmpR (op_neD hr.units) (pe_lc (own := [("_law_door", 8)]) (g := gName 8) (tt := tYes) (te := tCall (spRd P w K C) [] E0 (tCons (tVar 8) (tCons (tVar 2) (tCons (tOp (rRepS K) (tTup (tCons (tC (.str "a")) tNil)) (tC (.int 30))) (tCons (tOp (rRepS K) (tTup (tCons (tC (.str "b")) tNil)) (tC (.int 30))) (tCons (tC (.int 5000)) tNil)))))) rfl scLaw.nd (pi_range1 (by rfl) mr (pa_cons pe_int pa_nil)) (blkOk_by (own := [("_law_door", 8)]) (N := nLaw) (sc := defScope sLaw) (by decide +kernel)) (fun _ _ _ _ _ => (pg_name (i := 8) scLaw.nd rfl (.inl rfl))) (fun _ _ _ _ _ => pts_nil) (fun _ _ _ _ _ => (pe_ghas GO hgu hr (pa_cons (pv 8) (pa_cons (pv 2) (pa_cons (pe_op op_repS (pe_tup (pa_cons pe_str pa_nil)) pe_int) (pa_cons (pe_op op_repS (pe_tup (pa_cons pe_str pa_nil)) pe_int) (pa_cons pe_int pa_nil)))))))) (pe_op op_rep (pe_lst (pa_cons pe_non pa_nil)) pe_int) (nomark _)) (pss_one (ps_ret pe_bl)) pss_nil)
      (Evl.pss_cut (ps_if (PW.pt (pw_or (pt_cmpR (op_neD hr.units) (pe_kwS (ex := fun _ => E0) F0 hr9 m0 kp0 kb0 (fun σ => pass0At) (pa_cons (pe_disp (trs := [(tC (.str sX), tVar 1)]) (pps_cons pe_str (pv 1) pps_nil) (by rfl) (by rfl) (fun z => by cases z) (by decide)) (pa_cons (pe_tup (pa_cons pe_str pa_nil)) (pa_cons (pe_tup (pa_cons pe_str pa_nil)) pa_nil))) (pk_cons pe_int pk_nil)) (pe_lst pa_nil) (nomark _)) (pw_or1 (pt_cmpR op_notN (pe_call F1 hr9 (by rfl) m1 kp1 hb1 hd1 pass0 (pa_cons (pe_disp (pps_cons pe_str (pe_never0 NV T.mgE hr6) pps_nil) (by rfl) (by rfl) (fun z => by cases z) (by decide)) (pa_cons (pe_tup pa_nil) (pa_cons (pe_tup (pa_cons pe_str pa_nil)) pa_nil)))) pe_non (nomark _))))) (pss_one (ps_ret pe_bl)) pss_nil)
      (pss_cons (ps_for PassesOwn.never rfl (pi_range1 (by rfl) mr (pa_cons (pe_callB (call_max2 rfl) (by rfl) mx (by decide +kernel) (pa_cons pe_int (pa_cons (pe_callB (call_min2 rfl) (by rfl) mn (by decide +kernel) (pa_cons (pe_callB call_len_seq (by rfl) B.len PySem.boot_len (pa_cons (pv 0) pa_nil)) (pa_cons pe_int pa_nil))) pa_nil))) pa_nil)) (pg_name (i := 3) scLaw.nd rfl (.inl rfl)) (pss_cons (ps_set (i := 4) scLaw.nd rfl (.inl rfl) (pe_has GPl hr1 (pa_cons (pv 0) (pa_cons (pv 3) pa_nil)))) (Evl.pss_cut (ps_set (i := 5) scLaw.nd rfl (.inl rfl) (pe_has GB hr6 (pa_cons (pv 4) pa_nil))) (Evl.pss_cut (ps_set (i := 6) scLaw.nd rfl (.inl rfl) (pe_ix ix_list (pe_lst (pa_cons pe_non (pa_cons pe_str (pa_cons (pe_lst (pa_cons pe_str pa_nil)) (pa_cons (pe_tup (pa_cons pe_str pa_nil)) (pa_cons (pe_op op_repS (pe_tup (pa_cons pe_str pa_nil)) pe_int) (pa_cons (pe_tup (pa_cons pe_int pa_nil)) (pa_cons pe_int (pa_cons pe_dnewK (pa_cons (pe_tup (pa_cons pe_str (pa_cons pe_non pa_nil))) pa_nil)))))))))) (pe_has GT hr1 (pa_cons (pv 4) (pa_cons pe_int pa_nil))) (fun _ _ => rfl))) (Evl.pss_cut (ps_set (i := 7) scLaw.nd rfl (.inl rfl) (pe_ix ix_list (pe_lst (pa_cons (pe_un un_neg pe_int) (pa_cons pe_int (pa_cons pe_bl (pa_cons pe_non (pa_cons pe_str (pa_cons (pe_tup (pa_cons pe_int pa_nil)) pa_nil))))))) (pe_has GT hr1 (pa_cons (pv 4) (pa_cons pe_int pa_nil))) (fun _ _ => rfl))) (Evl.pss_cut (ps_for PassesOwn.never rfl (pi_range1 (by rfl) mr (pa_cons pe_int pa_nil)) (pg_name (i := 8) scLaw.nd rfl (.inl rfl)) (Evl.pss_cut (ps_for PassesOwn.never rfl (pi_list (pe_lst (pa_cons (pe_ix ix_list (pv 5) (pe_has GT hr1 (pa_cons (pv 4) (pa_cons (pe_callB call_len_seq (by rfl) B.len PySem.boot_len (pa_cons (pv 5) pa_nil)) pa_nil))) (fun _ _ => rfl)) (pa_cons (pe_ix ix_list (pv 5) (pe_has GT hr1 (pa_cons (pv 4) (pa_cons (pe_callB call_len_seq (by rfl) B.len PySem.boot_len (pa_cons (pv 5) pa_nil)) pa_nil))) (fun _ _ => rfl)) pa_nil)))) (pg_name (i := 9) scLaw.nd rfl (.inl rfl)) (pss_one (ps_if (pt_cmpR (op_neD hr.units) (pe_ghas GO hgu hr (pa_cons (pv 8) (pa_cons (pv 9) (pa_cons (pv 6) (pa_cons (pv 6) (pa_cons (pv 7) pa_nil)))))) (pe_lst (pa_cons pe_str (pa_cons (pe_callB (call_repB RP hgu hr6) (by rfl) mp (by decide +kernel) (pa_cons (pv 9) pa_nil)) (pa_cons pe_bl pa_nil)))) (nomark _)) (pss_one (ps_ret pe_bl)) pss_nil))) (Evl.pss_cut (ps_if (pt_cmpR (op_neD hr.units) (pe_ghas GO hgu hr (pa_cons (pv 8) (pa_cons (pe_disp (trs := [(tC (.str sX), tVar 1)]) (pps_cons pe_str (pv 1) pps_nil) (by rfl) (by rfl) (fun z => by cases z) (by decide)) (pa_cons (pv 6) (pa_cons pe_non (pa_cons (pv 7) pa_nil)))))) (pe_lst (pa_cons pe_str (pa_cons (pe_callB (call_repB RP hgu hr6) (by rfl) mp (by decide +kernel) (pa_cons (pv 6) pa_nil)) (pa_cons pe_bl pa_nil)))) (nomark _)) (pss_one (ps_ret pe_bl)) pss_nil) (Evl.pss_cut (ps_set (i := 10) scLaw.nd rfl (.inl rfl) (pe_ghas GO hgu hr (pa_cons (pv 8) (pa_cons (pe_disp (trs := [(tC (.str sX), tVar 1)]) (pps_cons pe_str (pv 1) pps_nil) (by rfl) (by rfl) (fun z => by cases z) (by decide)) (pa_cons (pe_tup (pa_cons pe_str pa_nil)) (pa_cons (pv 6) (pa_cons (pv 7) pa_nil))))))) (pss_one (ps_if (PW.pt (pw_and (pt_cmpR op_gt (pv 8) pe_int (nomark _)) (pw_and1 (pt_cmpR (op_neD hr.units) (pv 10) (pe_lst (pa_cons pe_str (pa_cons (pe_callB (call_repB RP hgu hr6) (by rfl) mp (by decide +kernel) (pa_cons (pv 6) pa_nil)) (pa_cons pe_bl pa_nil)))) (nomark _))))) (pss_one (ps_ret pe_bl)) pss_nil)))))) (Evl.pss_cut (ps_if (pt_cmpR (op_neD hr.units) (pe_ghas GO hgu hr (pa_cons pe_int (pa_cons (pe_disp (trs := [(tC (.str sX), tVar 1)]) (pps_cons pe_str (pv 1) pps_nil) (by rfl) (by rfl) (fun z => by cases z) (by decide)) (pa_cons (pe_tup (pa_cons pe_str pa_nil)) (pa_cons (pe_tup (pa_cons pe_str pa_nil)) (pa_cons (pv 7) pa_nil)))))) (pe_lst (pa_cons pe_str (pa_cons (pe_callB (call_repB RP hgu hr6) (by rfl) mp (by decide +kernel) (pa_cons (pv 7) pa_nil)) (pa_cons pe_bl pa_nil)))) (nomark _)) (pss_one (ps_ret pe_bl)) pss_nil) (pss_one (ps_if (pt_cmpR op_notN (pe_ghas GO hgu hr (pa_cons pe_int (pa_cons (pe_disp (trs := [(tC (.str sX), tVar 1)]) (pps_cons pe_str (pv 1) pps_nil) (by rfl) (by rfl) (fun z => by cases z) (by decide)) (pa_cons (pe_tup (pa_cons pe_str pa_nil)) (pa_cons (pe_tup (pa_cons pe_str pa_nil)) (pa_cons pe_int pa_nil)))))) pe_non (nomark _)) (pss_one (ps_ret pe_bl)) pss_nil)))))))))
      (pss_one (ps_ret pe_bl))))))), ?_⟩
    -- good
    refine ⟨fun σ H1 => ∃ e, σ = [some (.ref a), some (.ref e), none, none, none, none, none, none, none, none, none, none] ∧ Same H H1 ∧ EffV K C H1 e oG, ?_, ?_⟩
    · refine ⟨(by show 1 ≤ sizeLine; decide), fun t1 ht1 => ⟨(by show 1 ≤ sizeLine; decide), fun t2 ht2 => ?_⟩⟩
      have s1 : Same H (upd H t1 (.tup [.str sA])) := Same.new ht1
      have h1 : SqT K (upd H t1 (.tup [.str sA])) t1 [.str sA] := .of upd_same
      generalize upd H t1 (.tup [.str sA]) = H2 at s1 h1 ht2 ⊢
      have s2 : Same H2 (upd H2 t2 (.tup [.str sB])) := Same.new ht2
      have h2 : SqT K (upd H2 t2 (.tup [.str sB])) t2 [.str sB] := .of upd_same
      generalize upd H2 t2 (.tup [.str sB]) = H3 at s2 h2  ⊢
      exact ⟨t1, t2, [sA], [sB], rfl, Same.tup s2 h1, h2, by decide, by decide, one_item (by decide +kernel), one_item (by decide +kernel), fun e H4 s4 ne hE => ⟨e, rfl, (s1.trans s2).trans s4, hE⟩⟩
    rintro σ H1 ⟨e, rfl, s1, hE1⟩
    -- eight
    refine ⟨fun σ H2 => ∃ d8, σ = [some (.ref a), some (.ref e), some (.ref d8), none, none, none, none, none, none, none, none, none] ∧ Same H1 H2 ∧ BlkD K C H2 d8 bs8, ?_, ?_⟩
    · refine ⟨_, rfl, fun D hD => lc_it walk_str (fun j H3 => ∃ (ps : List Addr) (kvs : List (Key × V)), H3 D = some (.lst (ps.map V.ref)) ∧ Paired (fun q kv => SqT K H3 q [kV kv.1, kv.2]) ps kvs ∧ BlkH K C H3 kvs ((List.range j).map fun j => (nm9 j, oA)) ∧ ps.length = j ∧ Same H1 H3) ⟨[], [], upd_same, .nil, .nil, rfl, Same.new hD⟩ (fun _ _ _ _ => trivial) ?_ ?_⟩
      · rintro j x H3 H4 hj ⟨ps, kvs, h3, pP, pB, lp, s3⟩ ⟨rfl, c, hc, rfl⟩
        have j8 : j < 8 := hj
        have e8 := letters8 j j8
        rw [hc] at e8
        cases e8
        refine ⟨rfl, yes_in ⟨_, rfl, _, _, rfl, rfl, (by show 1 + 1 ≤ sizeLine; decide), (by show 1 ≤ sizeLine; decide), fun t1 ht1 => ?_⟩⟩
        have c1 : Same H4 (upd H4 t1 (.tup [.str sA])) := Same.new ht1
        have h1 : SqT K (upd H4 t1 (.tup [.str sA])) t1 [.str sA] := .of upd_same
        generalize upd H4 t1 (.tup [.str sA]) = J1 at c1 h1  ⊢
        refine ⟨t1, 8, _, rfl, rfl, h1, by decide, by decide, fun t2 J2 c2 h2 => ⟨(by show 1 ≤ sizeLine; decide), fun t3 ht3 => ?_⟩⟩
        have c3 : Same J2 (upd J2 t3 (.tup [.str sB])) := Same.new ht3
        have h3' : SqT K (upd J2 t3 (.tup [.str sB])) t3 [.str sB] := .of upd_same
        generalize upd J2 t3 (.tup [.str sB]) = J3 at c3 h3'  ⊢
        refine ⟨t3, 8, _, rfl, rfl, h3', by decide, by decide, fun t4 J4 c4 h4 => ?_⟩
        have ha : SqT K J4 t2 (a8.map V.str) := Same.tup (c3.trans c4) h2
        have hb : SqT K J4 t4 (b8.map V.str) := h4
        refine ⟨t2, t4, a8, b8, rfl, ha, hb, by decide, by decide, repl_item (by decide +kernel) 8, repl_item (by decide +kernel) 8, fun e2 J5 c5 ne2 hE2 => ⟨(by show 2 ≤ sizeLine; decide), fun t5 ht5 => ?_⟩⟩
        have hE2 : EffV K C J5 e2 oA := hE2
        have c6 : Same J5 (upd J5 t5 (.tup [.str (("n" : Str) ++ (⟨#[97 + j]⟩ : Str)), .ref e2])) := Same.new ht5
        have h6 : SqT K (upd J5 t5 (.tup [.str (("n" : Str) ++ (⟨#[97 + j]⟩ : Str)), .ref e2])) t5 [.str (("n" : Str) ++ (⟨#[97 + j]⟩ : Str)), .ref e2] := .of upd_same
        generalize upd J5 t5 (.tup [.str (("n" : Str) ++ (⟨#[97 + j]⟩ : Str)), .ref e2]) = J6 at c6 h6  ⊢
        have h6 : SqT K J6 t5 [.str (nm9 j), .ref e2] := h6
        have c16 := ((((c1.trans c2).trans c3).trans c4).trans c5).trans c6
        have hD4 := c16 _ _ h3
        have tp : ∀ b xs, SqT K J6 b xs → SqT K (upd J6 D (.lst (ps.map V.ref ++ [.ref t5]))) b xs := fun b xs z => tup_updL hD4 z
        have ep : ∀ {b : Addr} {o : Eff}, EffV K C J6 b o → EffV K C (upd J6 D (.lst (ps.map V.ref ++ [.ref t5]))) b o := fun {b o} z => by
          have n1 : ∀ {b dx fs}, J6 b = some (.ins C dx fs) → upd J6 D (.lst (ps.map V.ref ++ [.ref t5])) b = some (.ins C dx fs) := fun {b dx fs} z => by
            rw [upd_ne (fun e => by rw [e, hD4] at z; cases z)]
            exact z
          cases o with
          | none =>
            obtain ⟨dx, h1⟩ := NevAt.ex z
            exact ⟨dx, n1 h1⟩
          | some B =>
            obtain ⟨dx, u, v, h1, h2, h3⟩ := EffAt.ex z
            exact ⟨dx, u, v, n1 h1, tp _ _ h2, tp _ _ h3⟩
        refine ⟨ps.map V.ref, hD4, by rw [List.length_map, lp, sizeLine_eq]; omega, ps ++ [t5], kvs ++ [((Sum.inr (nm9 j) : Key), V.ref e2)], by rw [upd_same, List.map_append]; rfl, Paired.snoc2 (Paired.mapP pP fun _ _ z => tp _ _ (Same.tup c16 z)) (tp _ _ h6), ?_, by rw [List.length_append, List.length_singleton, lp], Same.free2 (s3.trans c16) hD⟩
        rw [List.range_succ, List.map_append]
        refine Paired.snoc2 (Paired.mapP (pB.same c16) fun _ _ z => ⟨z.1, z.2.elim fun t w => ⟨t, w.1, ep w.2⟩⟩) ⟨rfl, e2, rfl, ep ?_⟩
        exact hE2.same c6
      · rintro H3 ⟨ps, kvs, h3, pP, pB, lp, s3⟩
        rw [show ("abcdefgh" : Str).cps.size = 8 by decide +kernel] at pB
        refine ⟨D, ps, kvs, rfl, .of h3, pP, fun u hu => ?_⟩
        have em : mergeK [] kvs = kvs := by
          refine merge_new kvs [] (fun q m => rfl) ?_
          have z := pB.keys
          rw [z]
          exact List.pairwise_map.mpr (List.Pairwise.imp (fun h e => h (Sum.inr.inj e)) blk8.nd)
        rw [em]
        have c1 : Same H3 (upd H3 u (.dK kvs)) := Same.new hu
        exact ⟨u, rfl, s3.trans c1, kvs, upd_same, pB.same c1⟩
    rintro σ H2 ⟨d8, rfl, s2, hB2⟩
    -- the five doors
    refine ⟨fun σ H3 => σ = [some (.ref a), some (.ref e), some (.ref d8), none, none, none, none, none, none, none, none, none] ∧ Same H2 H3, ?_, ?_⟩
    · refine ⟨5, rfl, by decide, by decide, fun D hD => lc_range (lo := 0) (n := (5 : Int).toNat) (fun j H3 => H3 D = some (.lst (List.replicate j V.non)) ∧ Same H2 H3) ⟨upd_same, Same.new hD⟩ ?_ ?_⟩
      · rintro j H3 hj ⟨h3, s3⟩
        have j5 : j < 5 := hj
        refine ⟨rfl, yes_in ⟨_, rfl, _, rfl, (by show 1 ≤ sizeLine; decide), fun t1 ht1 => ?_⟩⟩
        have c1 : Same H3 (upd H3 t1 (.tup [.str sA])) := Same.new ht1
        have h1 : SqT K (upd H3 t1 (.tup [.str sA])) t1 [.str sA] := .of upd_same
        generalize upd H3 t1 (.tup [.str sA]) = J1 at c1 h1  ⊢
        refine ⟨t1, 30, _, rfl, rfl, h1, by decide, by decide, fun t2 J2 c2 h2 => ⟨(by show 1 ≤ sizeLine; decide), fun t3 ht3 => ?_⟩⟩
        have c3 : Same J2 (upd J2 t3 (.tup [.str sB])) := Same.new ht3
        have h3' : SqT K (upd J2 t3 (.tup [.str sB])) t3 [.str sB] := .of upd_same
        generalize upd J2 t3 (.tup [.str sB]) = J3 at c3 h3'  ⊢
        refine ⟨t3, 30, _, rfl, rfl, h3', by decide, by decide, fun t4 J4 c4 h4 => ?_⟩
        have c14 := ((c1.trans c2).trans c3).trans c4
        refine eight_ok (E := E0) (by omega) (by omega) (hB2.same (s3.trans c14)) (show SqT K J4 t2 (a30.map V.str) from Same.tup (c3.trans c4) h2) (show SqT K J4 t4 (b30.map V.str) from h4) fun H5 s5 => ?_
        refine ⟨List.replicate j V.non, (c14.trans s5) _ _ h3, by rw [List.length_replicate, sizeLine_eq]; omega, ?_, Same.free2 (s3.trans (c14.trans s5)) hD⟩
        rw [upd_same, List.replicate_succ']
      · rintro H3 ⟨h3, s3⟩
        refine ⟨(by show 1 ≤ sizeLine; decide), fun L hL => ⟨L, 5, [.non], rfl, rfl, upd_same, by decide, by decide, by decide, fun R hR => ?_⟩⟩
        have c1 : Same H3 (upd H3 L (.lst [.non])) := Same.new hL
        have c2 := c1.trans (Same.new (o := .lst (List.replicate (5 : Int).toNat [V.non]).flatten) hR)
        refine ne_same (d := .list [.none, .none, .none, .none, .none]) (.lst (.of (c2 _ _ h3)) (.cons .non (.cons .non (.cons .non (.cons .non (.cons .non .nil)))))) (.lst (.of upd_same) (.cons .non (.cons .non (.cons .non (.cons .non (.cons .non .nil)))))) (by decide +kernel) ?_
        exact ⟨false, rfl, iteF ⟨rfl, s3.trans c2⟩⟩
    rintro σ H3 ⟨rfl, s3⟩
    have hE3 := (hE1.same s2).same s3
    have hB3 := hB2.same s3
    -- two routes
    refine ⟨fun σ H4 => σ = [some (.ref a), some (.ref e), some (.ref d8), none, none, none, none, none, none, none, none, none] ∧ Same H3 H4, ?_, ?_⟩
    · refine fun p hp => ⟨_, rfl, upd_same, [(Sum.inr sX, .ref e)], rfl, by simp, ?_⟩
      rw [upd_upd]
      have c0 : Same H3 (upd H3 p (.dK (mergeK [] [(Sum.inr sX, V.ref e)]))) := Same.new hp
      have hB : BlkD K C (upd H3 p (.dK (mergeK [] [(Sum.inr sX, V.ref e)]))) p bsG := blkG_at upd_same (hE3.same c0)
      generalize upd H3 p (.dK (mergeK [] [(Sum.inr sX, V.ref e)])) = J0 at c0 hB  ⊢
      refine ⟨(by show 1 ≤ sizeLine; decide), fun t1 ht1 => ⟨(by show 1 ≤ sizeLine; decide), fun t2 ht2 => ?_⟩⟩
      have c1 : Same J0 (upd J0 t1 (.tup [.str sA])) := Same.new ht1
      have h1 : SqT K (upd J0 t1 (.tup [.str sA])) t1 [.str sA] := .of upd_same
      generalize upd J0 t1 (.tup [.str sA]) = J1 at c1 h1 ht2 ⊢
      have c2 : Same J1 (upd J1 t2 (.tup [.str sA])) := Same.new ht2
      have h2 : SqT K (upd J1 t2 (.tup [.str sA])) t2 [.str sA] := .of upd_same
      generalize upd J1 t2 (.tup [.str sA]) = J2 at c2 h2  ⊢
      obtain ⟨r, hs, hl, hn⟩ := factGa'
      refine ⟨rfl, rfl, .inr ⟨p, t1, t2, bsG, [sX], [sA], [sA], .int 0, .int 0, 400, r, rfl, hB.same (c1.trans c2), blkG, ns_one, Same.tup c2 h1, by decide, one_item (by decide +kernel), h2, by decide, one_item (by decide +kernel), .int _, hs, .inr ⟨0, rfl, rfl, by decide, by decide, .inr ⟨0, hl, .inr ⟨by decide, [], hn, fun l J3 c3 nl hl3 => ?_⟩⟩⟩⟩⟩
      refine ⟨(by show 0 ≤ sizeLine; decide), fun L hL => ?_⟩
      have c4 : Same J3 (upd J3 L (.lst [])) := Same.new hL
      refine ne_same (d := .list []) (.lst (.of (c4 _ _ hl3)) .nil) (.lst (.of upd_same) .nil) (by decide +kernel) ⟨false, rfl, iteF ?_⟩
      generalize upd J3 L (.lst []) = J4 at c4 ⊢
      have s4 := (((c0.trans c1).trans c2).trans c3).trans c4
      refine fun q hq => ⟨rfl, rfl, fun e2 J5 c5 he2 => ?_⟩
      have hqq : J5 q = some (.dK []) := c5 _ _ upd_same
      refine ⟨hqq, [(Sum.inr sX, .ref e2)], rfl, by simp, ?_⟩
      have c6 : Same J4 (upd J5 q (.dK (mergeK [] [(Sum.inr sX, V.ref e2)]))) := Same.free2 ((Same.new hq).trans c5) hq
      have hN : BlkD K C (upd J5 q (.dK (mergeK [] [(Sum.inr sX, V.ref e2)]))) q bsN := ⟨_, upd_same, .cons ⟨rfl, e2, rfl, EffV.mvD (o := none) (.inl ⟨_, hqq⟩) he2⟩ .nil⟩
      generalize upd J5 q (.dK (mergeK [] [(Sum.inr sX, V.ref e2)])) = J6 at c6 hN ⊢
      refine ⟨(by show 0 ≤ sizeLine; decide), fun t3 ht3 => ⟨(by show 1 ≤ sizeLine; decide), fun t4 ht4 => ?_⟩⟩
      have c7 : Same J6 (upd J6 t3 (.tup [])) := Same.new ht3
      have h3 : SqT K (upd J6 t3 (.tup [])) t3 [] := .of upd_same
      generalize upd J6 t3 (.tup []) = J7 at c7 h3 ht4 ⊢
      have c8 : Same J7 (upd J7 t4 (.tup [.str sA])) := Same.new ht4
      have h4 : SqT K (upd J7 t4 (.tup [.str sA])) t4 [.str sA] := .of upd_same
      generalize upd J7 t4 (.tup [.str sA]) = J8 at c8 h4  ⊢
      obtain ⟨r2, hs2, hl2⟩ := factN'
      refine .inr ⟨q, t3, t4, bsN, [sX], [], [sA], .int 1000, .int 1000, 400, r2, rfl, hN.same (c7.trans c8), blkN, ns_one, Same.tup c8 h3, by decide, fun z m => (by cases m), h4, by decide, one_item (by decide +kernel), .int _, hs2, .inr ⟨1000, rfl, rfl, by decide, by decide, .inl ⟨hl2, fun J9 c9 => ?_⟩⟩⟩
      exact ⟨rfl, false, rfl, iteF ⟨rfl, (((s4.trans c6).trans c7).trans c8).trans c9⟩⟩
    rintro σ H4 ⟨rfl, s4⟩
    have hE := hE3.same s4
    have hS1 := Same.seq ((((s1.trans s2).trans s3).trans s4)) hS
    clear hE1 hE3 hB2 hB3 s1 s2 s3 s4
    refine ⟨_, rfl, a, _, rfl, .inl hS1, _, 8, rfl, 1, _, rfl, ?_⟩
    have hN : ∀ n : Nat, (1 : Int) ≤ (if (if (8 : Int) < (n : Int) then 8 else (n : Int)) > 1 then (if (8 : Int) < (n : Int) then 8 else (n : Int)) else 1) ∧ (if (if (8 : Int) < (n : Int) then 8 else (n : Int)) > 1 then (if (8 : Int) < (n : Int) then 8 else (n : Int)) else 1) ≤ 8 := by
      intro n
      split <;> split <;> omega
    have hN1 := hN (ns.map V.int).length
    generalize hM : (if (if (8 : Int) < ((ns.map V.int).length : Int) then 8 else ((ns.map V.int).length : Int)) > 1 then (if (8 : Int) < ((ns.map V.int).length : Int) then 8 else ((ns.map V.int).length : Int)) else 1) = N at hN1
    refine ⟨N, by rw [← hM], by omega, by omega, for_range (lo := 0) (n := N.toNat) (fun i σ H5 => ∃ (y3 y4 y5 y6 y7 y8 y9 y10 y11 : Option V), σ = [some (.ref a), some (.ref e), some (.ref d8), y3, y4, y5, y6, y7, y8, y9, y10, y11] ∧ Same H4 H5) ⟨_, _, _, _, _, _, _, _, _, rfl, Same.refl H4⟩ ?_ ?_⟩
    rotate_left
    · rintro σ H5 ⟨y3, y4, y5, y6, y7, y8, y9, y10, y11, rfl, s5⟩
      exact k _
    rintro i σ Hs hi ⟨y3, y4, y5, y6, y7, y8, y9, y10, y11, rfl, ss⟩
    have hEs := hE.same ss
    refine ⟨_, rfl, _, rfl, a, ns, 0 + i, rfl, Same.seq ss hS1, by omega, by omega, fun p H5 s5 hp p5 => ?_⟩
    -- bad
    refine ⟨fun σ H6 => ∃ lb vb, σ = [some (.ref a), some (.ref e), some (.ref d8), some (.int (0 + i)), some (.ref p), some (.ref lb), y6, y7, y8, y9, y10, y11] ∧ LK P w K C Hs p e lb vb .non .non .none .none H6, ?_, ?_⟩
    · refine ⟨_, rfl, p, rfl, fun lb vb H6 s6 nl hl nb bv => ⟨lb, vb, rfl, p5.same s6, s5.trans s6, hEs.same (s5.trans s6), hl, nb, bv, .flat .non, .flat .non⟩⟩
    rintro σ H6 ⟨lb, vb, rfl, l6⟩
    clear p5 s5 hEs
    -- odd
    refine ⟨fun σ H7 => ∃ v d, σ = [some (.ref a), some (.ref e), some (.ref d8), some (.int (0 + i)), some (.ref p), some (.ref lb), some v, y7, y8, y9, y10, y11] ∧ d ∈ oddDs ∧ LK P w K C Hs p e lb vb v .non d .none H7, ?_, ?_⟩
    · refine ⟨(by show 1 ≤ sizeLine; decide), fun L1 hL1 => ⟨(by show 1 ≤ sizeLine; decide), fun T1 hT1 => ⟨(by show 1 ≤ sizeLine; decide), fun T2 hT2 => ?_⟩⟩⟩
      have c1 : Same H6 (upd H6 L1 (.lst [.str sA])) := Same.new hL1
      have h1 : (upd H6 L1 (.lst [.str sA])) L1 = some (.lst [.str sA]) := upd_same
      generalize upd H6 L1 (.lst [.str sA]) = J1 at c1 h1 hT1 hT2 ⊢
      have c2 : Same J1 (upd J1 T1 (.tup [.str "A"])) := Same.new hT1
      have h2 : SqT K (upd J1 T1 (.tup [.str "A"])) T1 [.str "A"] := .of upd_same
      generalize upd J1 T1 (.tup [.str "A"]) = J2 at c2 h2 hT2 ⊢
      have c3 : Same J2 (upd J2 T2 (.tup [.str sA])) := Same.new hT2
      have h3 : SqT K (upd J2 T2 (.tup [.str sA])) T2 [.str sA] := .of upd_same
      generalize upd J2 T2 (.tup [.str sA]) = J3 at c3 h3  ⊢
      refine ⟨T2, 31, _, rfl, rfl, h3, by decide, by decide, fun T3 J4 c4 h4 => ⟨(by show 1 ≤ sizeLine; decide), fun T4 hT4 => fun D1 hD1 => ⟨(by show 2 ≤ sizeLine; decide), fun T5 hT5 => ⟨(by show 9 ≤ sizeLine; decide), fun L hL => ?_⟩⟩⟩⟩
      have c5 : Same J4 (upd J4 T4 (.tup [.int 5])) := Same.new hT4
      have h5 : SqT K (upd J4 T4 (.tup [.int 5])) T4 [.int 5] := .of upd_same
      generalize upd J4 T4 (.tup [.int 5]) = J5 at c5 h5 hD1 hT5 hL ⊢
      have c6 : Same J5 (upd J5 D1 (.dK [])) := Same.new hD1
      have h6 : (upd J5 D1 (.dK [])) D1 = some (.dK []) := upd_same
      generalize upd J5 D1 (.dK []) = J6 at c6 h6 hT5 hL ⊢
      have c7 : Same J6 (upd J6 T5 (.tup [.str sA, .non])) := Same.new hT5
      have h7 : SqT K (upd J6 T5 (.tup [.str sA, .non])) T5 [.str sA, .non] := .of upd_same
      generalize upd J6 T5 (.tup [.str sA, .non]) = J7 at c7 h7 hL ⊢
      have c8 : Same J7 (upd J7 L (.lst [.non, .str sA, .ref L1, .ref T1, .ref T3, .ref T4, .int 7, .ref D1, .ref T5])) := Same.new hL
      have h8 : (upd J7 L (.lst [.non, .str sA, .ref L1, .ref T1, .ref T3, .ref T4, .int 7, .ref D1, .ref T5])) L = some (.lst [.non, .str sA, .ref L1, .ref T1, .ref T3, .ref T4, .int 7, .ref D1, .ref T5]) := upd_same
      generalize upd J7 L (.lst [.non, .str sA, .ref L1, .ref T1, .ref T3, .ref T4, .int 7, .ref D1, .ref T5]) = J8 at c8 h8  ⊢
      have c78 := c7.trans c8
      have c58 := (c6.trans c78)
      have c48 := c5.trans c58
      have c28 := (c3.trans c4).trans c48
      have c18 := c2.trans c28
      have l8 := l6.same (c1.trans c18)
      have pr : Paired (OV K J8) [.non, .str sA, .ref L1, .ref T1, .ref T3, .ref T4, .int 7, .ref D1, .ref T5] oddDs :=
        .cons (.flat .non) (.cons (.flat (.str _)) (.cons (.lst (c18 _ _ h1)) (.cons (.tup (Same.tup c28 h2) (.cons (.str _) .nil)) (.cons (.tup (Same.tup c48 h4) (flat_repl 31)) (.cons (.tup (Same.tup c58 h5) (.cons (.int _) .nil)) (.cons (.flat (.int _)) (.cons (.emp (c78 _ _ h6)) (.cons (.tup (Same.tup c8 h7) (.cons (.str _) (.cons .non .nil))) .nil))))))))
      refine ⟨_, rfl, p, 9, rfl, l8.pool, by decide, by decide, fun r1 J9 b9 p9 r0 r9 => ?_⟩
      obtain ⟨v, d, hat, md, hv⟩ := ov_at pr r0 (by show r1 < 9; exact r9)
      have l9 := l8.but hp b9 p9
      exact ⟨L, _, r1, v, rfl, rfl, .of (lst_but l8.pool b9 h8 (by simp)), hat, v, d, rfl, md, l9.pool, l9.sm, l9.ef, l9.lb, l9.nb, l9.bv, hv.but l8.pool b9, l9.on⟩
    rintro σ H7 ⟨v, d, rfl, md, l7⟩
    obtain ⟨dOk, dSt, dSh, dA⟩ := odd_ok md
    -- the number
    refine ⟨fun σ H8 => ∃ vm dm, σ = [some (.ref a), some (.ref e), some (.ref d8), some (.int (0 + i)), some (.ref p), some (.ref lb), some v, some vm, y8, y9, y10, y11] ∧ dm ∈ numDs ∧ LK P w K C Hs p e lb vb v vm d dm H8, ?_, ?_⟩
    · refine ⟨1, rfl, (by show 1 ≤ sizeLine; decide), fun T1 hT1 => ⟨(by show 6 ≤ sizeLine; decide), fun L hL => ?_⟩⟩
      have c1 : Same H7 (upd H7 T1 (.tup [.int 1])) := Same.new hT1
      have h1 : SqT K (upd H7 T1 (.tup [.int 1])) T1 [.int 1] := .of upd_same
      generalize upd H7 T1 (.tup [.int 1]) = J1 at c1 h1 hL ⊢
      have c2 : Same J1 (upd J1 L (.lst [.int (-1), .int 5001, .bl true, .non, .str "1", .ref T1])) := Same.new hL
      have h2 : (upd J1 L (.lst [.int (-1), .int 5001, .bl true, .non, .str "1", .ref T1])) L = some (.lst [.int (-1), .int 5001, .bl true, .non, .str "1", .ref T1]) := upd_same
      generalize upd J1 L (.lst [.int (-1), .int 5001, .bl true, .non, .str "1", .ref T1]) = J2 at c2 h2  ⊢
      have l8 := l7.same (c1.trans c2)
      have pr : Paired (OV K J2) [.int (-1), .int 5001, .bl true, .non, .str "1", .ref T1] numDs :=
        .cons (.flat (.int _)) (.cons (.flat (.int _)) (.cons (.flat (.bl _)) (.cons (.flat .non) (.cons (.flat (.str _)) (.cons (.tup (Same.tup c2 h1) (.cons (.int _) .nil)) .nil)))))
      refine ⟨_, rfl, p, 6, rfl, l8.pool, by decide, by decide, fun r1 J9 b9 p9 r0 r6 => ?_⟩
      obtain ⟨vm, dm, hat, mm, hv⟩ := ov_at pr r0 (by show r1 < 6; exact r6)
      have l9 := l8.but hp b9 p9
      exact ⟨L, _, r1, vm, rfl, rfl, .of (lst_but l8.pool b9 h2 (by simp)), hat, vm, dm, rfl, mm, l9.pool, l9.sm, l9.ef, l9.lb, l9.nb, l9.bv, l9.ov, hv.but l8.pool b9⟩
    rintro σ H8 ⟨vm, dm, rfl, mm, l8⟩
    obtain ⟨mB, mSh, mA⟩ := num_ok mm
    clear l7 l6
    -- the doors
    refine ⟨fun σ H9 => ∃ y8 y9 y10, σ = [some (.ref a), some (.ref e), some (.ref d8), some (.int (0 + i)), some (.ref p), some (.ref lb), some v, some vm, y8, y9, y10, y11] ∧ LK P w K C Hs p e lb vb v vm d dm H9, ?_, ?_⟩
    · refine ⟨5, rfl, by decide, by decide, for_range (lo := 0) (n := (5 : Int).toNat) (fun j σ H9 => ∃ y8 y9 y10, σ = [some (.ref a), some (.ref e), some (.ref d8), some (.int (0 + i)), some (.ref p), some (.ref lb), some v, some vm, y8, y9, y10, y11] ∧ LK P w K C Hs p e lb vb v vm d dm H9) ⟨y8, y9, y10, rfl, l8⟩ ?_ ?_⟩
      rotate_left
      · rintro σ H9 ⟨y8, y9, y10, rfl, l9⟩
        exact ⟨y8, y9, y10, rfl, l9⟩
      clear l8
      rintro j σ H9 hj ⟨y8, y9, y10, rfl, l9⟩
      have j5 : j < 5 := hj
      -- two bad blocks
      refine ⟨fun σ G => ∃ y9, σ = [some (.ref a), some (.ref e), some (.ref d8), some (.int (0 + i)), some (.ref p), some (.ref lb), some v, some vm, some (.int (0 + j)), y9, y10, y11] ∧ LK P w K C Hs p e lb vb v vm d dm G, ?_, ?_⟩
      · have pick : ∀ {G : Hp} {r : Int}, LK P w K C Hs p e lb vb v vm d dm G → 0 ≤ r → r < vb.length → ∃ u, atI vb r = some u ∧ u ∈ vb := fun {G r} l h0 h1 => by
          obtain ⟨n, rfl⟩ : ∃ n : Nat, r = (n : Int) := ⟨r.toNat, by omega⟩
          have hn : n < vb.length := by omega
          exact ⟨vb[n], atI_nat (List.getElem?_eq_getElem hn), List.getElem_mem hn⟩
        have nb := l9.nb
        refine ⟨_, rfl, _, rfl, _, rfl, lb, vb, rfl, .inl (.of l9.lb), p, _, rfl, l9.pool, by omega, by omega, fun r1 G1 b1 p1 r10 r11 => ?_⟩
        have l1 := l9.but hp b1 p1
        obtain ⟨u1, at1, m1⟩ := pick l1 r10 r11
        refine ⟨lb, vb, r1, u1, rfl, rfl, .of l1.lb, at1, _, rfl, _, rfl, _, rfl, lb, vb, rfl, .inl (.of l1.lb), p, _, rfl, l1.pool, by omega, by omega, fun r2 G2 b2 p2 r20 r21 => ?_⟩
        have l2 := l1.but hp b2 p2
        obtain ⟨u2, at2, m2⟩ := pick l2 r20 r21
        refine ⟨lb, vb, r2, u2, rfl, rfl, .of l2.lb, at2, (by show 2 ≤ sizeLine; decide), fun L hL => ?_⟩
        have c3 : Same G2 (upd G2 L (.lst [u1, u2])) := Same.new hL
        have h3 : (upd G2 L (.lst [u1, u2])) L = some (.lst [u1, u2]) := upd_same
        generalize upd G2 L (.lst [u1, u2]) = G3 at c3 h3  ⊢
        have l3 := l2.same c3
        refine ⟨L, rfl, ⟨_, .of h3⟩, for_list (K := K) (a := L) (xs := [u1, u2]) (fun n σ G => ∃ y9, σ = [some (.ref a), some (.ref e), some (.ref d8), some (.int (0 + i)), some (.ref p), some (.ref lb), some v, some vm, some (.int (0 + j)), y9, y10, y11] ∧ LK P w K C Hs p e lb vb v vm d dm G ∧ G L = some (.lst [u1, u2])) ⟨y9, rfl, l3, h3⟩ ?_ ?_ ?_⟩
        · rintro n σ G hn ⟨y9, rfl, lg, hg⟩
          exact .of hg
        · rintro n u σ G hu ⟨y9, rfl, lg, hg⟩
          have mu : u ∈ vb := by
            have := List.mem_of_getElem? hu
            simp only [List.mem_cons, List.not_mem_nil, or_false] at this
            rcases this with rfl | rfl
            · exact m1
            · exact m2
          obtain ⟨hb, t, ht, tA⟩ := (lg.bv u mu).ok kC
          refine ⟨_, rfl, _, rfl, _, rfl, _, rfl, _, rfl, 0 + (j : Int), u, v, v, vm, rfl, by omega, by omega, .inl ⟨hb, t, ht, fun l G4 c4 nl hl => ?_⟩⟩
          refine ⟨_, rfl, u, t, rfl, ht.same c4, fun G5 c5 => ⟨(by show 3 ≤ sizeLine; decide), fun L2 hL2 => ?_⟩⟩
          refine ne_word (c5 _ _ hl) hL2 (by decide +kernel) tA fun G6 c6 => ⟨false, rfl, iteF ⟨some u, rfl, lg.same ((c4.trans c5).trans c6), ((c4.trans c5).trans c6) _ _ hg⟩⟩
        · rintro σ G ⟨y9, rfl, lg, hg⟩
          exact ⟨y9, rfl, lg⟩
      rintro σ G ⟨z9, rfl, lg⟩
      clear l9
      -- the start
      refine ⟨fun σ G1 => σ = [some (.ref a), some (.ref e), some (.ref d8), some (.int (0 + i)), some (.ref p), some (.ref lb), some v, some vm, some (.int (0 + j)), z9, y10, y11] ∧ LK P w K C Hs p e lb vb v vm d dm G1, ?_, ?_⟩
      · refine ⟨_, rfl, fun q hq => ⟨_, rfl, upd_same, [(Sum.inr sX, .ref e)], rfl, by simp, ?_⟩⟩
        rw [upd_upd]
        have c1 : Same G (upd G q (.dK (mergeK [] [(Sum.inr sX, V.ref e)]))) := Same.new hq
        have hB : BlkD K C (upd G q (.dK (mergeK [] [(Sum.inr sX, V.ref e)]))) q bsG := blkG_at upd_same (lg.ef.same c1)
        generalize upd G q (.dK (mergeK [] [(Sum.inr sX, V.ref e)])) = G1 at c1 hB  ⊢
        have l1 := lg.same c1
        refine ⟨_, rfl, _, rfl, 0 + (j : Int), .ref q, v, .non, vm, rfl, by omega, by omega, .inr (.inl ⟨⟨q, bsG, rfl, hB, blkG⟩, d, l1.ov.dp, dOk, dSt, dSh, fun l G2 c2 nl hl => ?_⟩)⟩
        have l2 := l1.same c2
        refine ⟨_, rfl, v, d.shown, rfl, .inl ⟨d, l2.ov.dp, dSh, rfl⟩, fun G3 c3 => ⟨(by show 3 ≤ sizeLine; decide), fun L2 hL2 => ?_⟩⟩
        exact ne_word (c3 _ _ hl) hL2 (by decide +kernel) dA fun G4 c4 => ⟨false, rfl, iteF ⟨rfl, l2.same (c3.trans c4)⟩⟩
      rintro σ G1 ⟨rfl, l1⟩
      clear lg
      -- the goal
      refine ⟨fun σ G2 => ∃ z10, σ = [some (.ref a), some (.ref e), some (.ref d8), some (.int (0 + i)), some (.ref p), some (.ref lb), some v, some vm, some (.int (0 + j)), z9, some z10, y11] ∧ LK P w K C Hs p e lb vb v vm d dm G2 ∧ (2 ≤ j → ∃ l, z10 = .ref l ∧ G2 l = some (.lst [.str "word", .str d.shown, .bl true])), ?_, ?_⟩
      · refine ⟨_, rfl, fun q hq => ⟨_, rfl, upd_same, [(Sum.inr sX, .ref e)], rfl, by simp, ?_⟩⟩
        rw [upd_upd]
        have c0 : Same G1 (upd G1 q (.dK (mergeK [] [(Sum.inr sX, V.ref e)]))) := Same.new hq
        have hB : BlkD K C (upd G1 q (.dK (mergeK [] [(Sum.inr sX, V.ref e)]))) q bsG := blkG_at upd_same (l1.ef.same c0)
        generalize upd G1 q (.dK (mergeK [] [(Sum.inr sX, V.ref e)])) = J0 at c0 hB  ⊢
        refine ⟨(by show 1 ≤ sizeLine; decide), fun t1 ht1 => ?_⟩
        have c1 : Same J0 (upd J0 t1 (.tup [.str sA])) := Same.new ht1
        have h1 : SqT K (upd J0 t1 (.tup [.str sA])) t1 [.str sA] := .of upd_same
        generalize upd J0 t1 (.tup [.str sA]) = J1 at c1 h1  ⊢
        have l2 := l1.same (c0.trans c1)
        have hB1 := hB.same c1
        have gB : GoodBl K C J1 (.ref q) := ⟨q, bsG, rfl, hB1, blkG⟩
        have gS : GoodSt K J1 (.ref t1) := good_st (zs := [sA]) h1 (by decide +kernel) (by decide +kernel)
        refine ⟨_, rfl, _, rfl, 0 + (j : Int), .ref q, .ref t1, v, vm, rfl, by omega, by omega, ?_⟩
        by_cases e2 : 2 ≤ j
        · exact .inr (.inr (.inl ⟨by omega, gB, gS, d, l2.ov.dp, dOk, dSt, dSh, fun l J2 c2 nl hl => ⟨_, rfl, l2.same c2, fun _ => ⟨l, rfl, hl⟩⟩⟩))
        · by_cases e0 : j = 0
          · obtain ⟨r, hs, hc⟩ := factG0'
            exact .inr (.inr (.inr (.inl ⟨by omega, ⟨q, t1, bsG, [sX], [sA], 400, r, rfl, rfl, hB1, blkG, ns_one, h1, by decide, one_item (by decide +kernel), hs, hc⟩, fun J2 c2 => ⟨_, rfl, l2.same c2, fun z => absurd z e2⟩⟩)))
          · exact .inr (.inr (.inr (.inr (.inl ⟨by omega, gB, gS, fun J2 c2 => ⟨_, rfl, l2.same c2, fun z => absurd z e2⟩⟩))))
      rintro σ G2 ⟨z10, rfl, l2, hz⟩
      clear l1
      by_cases e2 : 2 ≤ j
      · obtain ⟨l, rfl, hl⟩ := hz e2
        refine ⟨_, rfl, 0 + (j : Int), 1, rfl, rfl, true, congrArg V.bl (decide_eq_true (by omega)), iteT ?_⟩
        refine ⟨_, rfl, _, rfl, v, d.shown, rfl, .inl ⟨d, l2.ov.dp, dSh, rfl⟩, fun G3 c3 => ⟨(by show 3 ≤ sizeLine; decide), fun L2 hL2 => ?_⟩⟩
        exact ne_word (c3 _ _ hl) hL2 (by decide +kernel) dA fun G4 c4 => ⟨false, rfl, iteF ⟨_, _, _, rfl, l2.same (c3.trans c4)⟩⟩
      · exact ⟨_, rfl, 0 + (j : Int), 1, rfl, rfl, false, congrArg V.bl (decide_eq_false (by omega)), iteF (iteF ⟨_, _, _, rfl, l2⟩)⟩
    rintro σ G ⟨z8, z9, z10, rfl, lg⟩
    clear l8
    -- the number, refused
    refine ⟨fun σ G1 => σ = [some (.ref a), some (.ref e), some (.ref d8), some (.int (0 + i)), some (.ref p), some (.ref lb), some v, some vm, z8, z9, z10, y11] ∧ LK P w K C Hs p e lb vb v vm d dm G1, ?_, ?_⟩
    · refine fun q hq => ⟨_, rfl, upd_same, [(Sum.inr sX, .ref e)], rfl, by simp, ?_⟩
      rw [upd_upd]
      have c0 : Same G (upd G q (.dK (mergeK [] [(Sum.inr sX, V.ref e)]))) := Same.new hq
      have hB : BlkD K C (upd G q (.dK (mergeK [] [(Sum.inr sX, V.ref e)]))) q bsG := blkG_at upd_same (lg.ef.same c0)
      generalize upd G q (.dK (mergeK [] [(Sum.inr sX, V.ref e)])) = J0 at c0 hB  ⊢
      refine ⟨(by show 1 ≤ sizeLine; decide), fun t1 ht1 => ⟨(by show 1 ≤ sizeLine; decide), fun t2 ht2 => ?_⟩⟩
      have c1 : Same J0 (upd J0 t1 (.tup [.str sA])) := Same.new ht1
      have h1 : SqT K (upd J0 t1 (.tup [.str sA])) t1 [.str sA] := .of upd_same
      generalize upd J0 t1 (.tup [.str sA]) = J1 at c1 h1 ht2 ⊢
      have c2 : Same J1 (upd J1 t2 (.tup [.str sC])) := Same.new ht2
      have h2 : SqT K (upd J1 t2 (.tup [.str sC])) t2 [.str sC] := .of upd_same
      generalize upd J1 t2 (.tup [.str sC]) = J2 at c2 h2  ⊢
      have l2 := lg.same ((c0.trans c1).trans c2)
      obtain ⟨r, hs⟩ := factGc'
      have sI : SeaIn K C J2 (.ref q) (.ref t1) (.ref t2) bsG [sX] [sA] [sC] := ⟨q, t1, t2, rfl, rfl, rfl, hB.same (c1.trans c2), blkG, ns_one, Same.tup c2 h1, by decide, one_item (by decide +kernel), h2, by decide, one_item (by decide +kernel)⟩
      refine ⟨_, rfl, 4, .ref q, .ref t1, .ref t2, vm, rfl, by decide, by decide, .inr (.inr (.inr (.inr (.inr (.inr ⟨rfl, bsG, [sX], [sA], [sC], 400, r, dm, sI, hs, l2.on.dp, .inl ⟨mB, mSh, fun l J3 c3 nl hl => ?_⟩⟩)))))⟩
      have l3 := l2.same c3
      refine ⟨_, rfl, vm, dm.shown, rfl, .inl ⟨dm, l3.on.dp, mSh, rfl⟩, fun J4 c4 => ⟨(by show 3 ≤ sizeLine; decide), fun L2 hL2 => ?_⟩⟩
      exact ne_word (c4 _ _ hl) hL2 (by decide +kernel) mA fun J5 c5 => ⟨false, rfl, iteF ⟨rfl, l3.same (c4.trans c5)⟩⟩
    rintro σ G1 ⟨rfl, l1⟩
    clear lg
    refine fun q hq => ⟨_, rfl, upd_same, [(Sum.inr sX, .ref e)], rfl, by simp, ?_⟩
    rw [upd_upd]
    have c0 : Same G1 (upd G1 q (.dK (mergeK [] [(Sum.inr sX, V.ref e)]))) := Same.new hq
    have hB : BlkD K C (upd G1 q (.dK (mergeK [] [(Sum.inr sX, V.ref e)]))) q bsG := blkG_at upd_same (l1.ef.same c0)
    generalize upd G1 q (.dK (mergeK [] [(Sum.inr sX, V.ref e)])) = J0 at c0 hB  ⊢
    refine ⟨(by show 1 ≤ sizeLine; decide), fun t1 ht1 => ⟨(by show 1 ≤ sizeLine; decide), fun t2 ht2 => ?_⟩⟩
    have c1 : Same J0 (upd J0 t1 (.tup [.str sA])) := Same.new ht1
    have h1 : SqT K (upd J0 t1 (.tup [.str sA])) t1 [.str sA] := .of upd_same
    generalize upd J0 t1 (.tup [.str sA]) = J1 at c1 h1 ht2 ⊢
    have c2 : Same J1 (upd J1 t2 (.tup [.str sA])) := Same.new ht2
    have h2 : SqT K (upd J1 t2 (.tup [.str sA])) t2 [.str sA] := .of upd_same
    generalize upd J1 t2 (.tup [.str sA]) = J2 at c2 h2  ⊢
    have l2 := l1.same ((c0.trans c1).trans c2)
    obtain ⟨r, hs, hl, hn⟩ := factGa'
    have sI : SeaIn K C J2 (.ref q) (.ref t1) (.ref t2) bsG [sX] [sA] [sA] := ⟨q, t1, t2, rfl, rfl, rfl, hB.same (c1.trans c2), blkG, ns_one, Same.tup c2 h1, by decide, one_item (by decide +kernel), h2, by decide, one_item (by decide +kernel)⟩
    refine ⟨4, .ref q, .ref t1, .ref t2, .int 0, rfl, by decide, by decide, .inr (.inr (.inr (.inr (.inr (.inr ⟨rfl, bsG, [sX], [sA], [sA], 400, r, .int 0, sI, hs, .int _, .inr ⟨0, rfl, rfl, by decide, by decide, .inr ⟨0, hl, by decide, [], hn⟩, fun J3 c3 => ?_⟩⟩)))))⟩
    exact ⟨rfl, false, rfl, iteF ⟨_, _, _, _, _, _, _, _, _, rfl, ss.trans (l2.same c3).sm⟩⟩
end
end SE
namespace SE
open PySem PySem.Spec PyProof.Rows L2
section
/-! ### what the top has left -/
theorem scI_LimitExceeded : FnScope ["self", "limit"] ["self", "limit"] (defScope (inClass sLimitexceeded 0)) := ⟨rfl, rfl, rfl, by decide +kernel, rfl, by decide +kernel, by decide +kernel⟩
theorem scI_InvalidBlocks : FnScope ["self", "value"] ["self", "value"] (defScope (inClass sInvalidblocks 0)) := ⟨rfl, rfl, rfl, by decide +kernel, rfl, by decide +kernel, by decide +kernel⟩
theorem scI_InvalidWord : FnScope ["self", "value"] ["self", "value"] (defScope (inClass sInvalidword 0)) := ⟨rfl, rfl, rfl, by decide +kernel, rfl, by decide +kernel, by decide +kernel⟩
theorem scI_InvalidNumber : FnScope ["self", "value"] ["self", "value"] (defScope (inClass sInvalidnumber 0)) := ⟨rfl, rfl, rfl, by decide +kernel, rfl, by decide +kernel, by decide +kernel⟩
theorem kit_below {K : PySem.W.Frag} {C S : Addr} (h1 : PySem.W.subIn K (.ref C) (.ref S) = some true) (h2 : PySem.W.typeIn K (.ref S) = some (.type "type")) (h3 : PySem.W.hasDictIn K S = true) : PySem.W.kitOne K (.ref C) (.ref S) = some true := by
  obtain ⟨cd, hc, _⟩ := PySem.W.any_some h3
  unfold PySem.W.kitOne
  split
  · rfl
  · show (if ((PySem.W.clsIn K S).isSome && PySem.W.typeIn K (.ref S) == some (.type "type")) = true then PySem.W.subIn K (.ref C) (.ref S) else none) = some true
    rw [if_pos (by rw [hc, h2]; rfl)]
    exact h1
theorem def_mk {K : PySem.W.Frag} {h : Heap} {mg : Str → Option Value} {x : Str} {st : Stmt} {f : Addr} {oc : Value} {od an : Option Addr} {osl : Array (Option Value)} {kV doc pm cdv ct : Value} (X : K.In h) (G : h.Ns mainGlobals mg)
    (a : PySem.W.nsIn K mainGlobals x = some (some (.ref f))) (l : K.lookup f = some ⟨oc, od, .func (PySem.W.fnOf x x (defArgs st) (defBody st) (defScope st) .none kV doc pm an cdv ct), osl⟩)
    (c : PySem.W.codeIn K cdv x = true) (k : PySem.W.keepIn K (.ref f) = true) : Def K mg x st := ⟨f, _, fun_mk l c k, PySem.W.mg_of X G a⟩
theorem defk_mk {K : PySem.W.Frag} {h : Heap} {mg : Str → Option Value} {x y : Str} {st : Stmt} {f d : Addr} {oc : Value} {od an : Option Addr} {osl : Array (Option Value)} {doc pm cdv ct : Value} (X : K.In h) (G : h.Ns mainGlobals mg)
    (a : PySem.W.nsIn K mainGlobals x = some (some (.ref f))) (l : K.lookup f = some ⟨oc, od, .func (PySem.W.fnOf x x (defArgs st) (defBody st) (defScope st) .none (.ref d) doc pm an cdv ct), osl⟩)
    (c : PySem.W.codeIn K cdv x = true) (k : PySem.W.keepIn K (.ref f) = true) (n : PySem.W.nsIn K d y = some (some .none)) : DefK K mg x st [(y, .non)] := by
  refine ⟨f, _, fun_mk l c k, ⟨⟨oc, od, .none, .ref d, doc, pm, an, cdv, ct, osl, rfl, l, c, .inl ⟨rfl, rfl⟩, .inr ⟨d, rfl, fun q hq => ?_⟩⟩, k⟩, PySem.W.mg_of X G a⟩
  rw [List.mem_singleton.mp hq]
  exact ⟨.none, n, rfl⟩
theorem defki_mk {K : PySem.W.Frag} {h : Heap} {mg : Str → Option Value} {x y : Str} {i : Int} {tk : Tok} {st : Stmt} {f d : Addr} {oc : Value} {od an : Option Addr} {osl : Array (Option Value)} {doc pm cdv ct : Value} (X : K.In h) (G : h.Ns mainGlobals mg)
    (a : PySem.W.nsIn K mainGlobals x = some (some (.ref f))) (l : K.lookup f = some ⟨oc, od, .func (PySem.W.fnOf x x (defArgs st) (defBody st) (defScope st) .none (.ref d) doc pm an cdv ct), osl⟩)
    (c : PySem.W.codeIn K cdv x = true) (k : PySem.W.keepIn K (.ref f) = true) (n : PySem.W.nsIn K d y = some (some (.int i tk))) : DefK K mg x st [(y, .int i)] := by
  refine ⟨f, _, fun_mk l c k, ⟨⟨oc, od, .none, .ref d, doc, pm, an, cdv, ct, osl, rfl, l, c, .inl ⟨rfl, rfl⟩, .inr ⟨d, rfl, fun q hq => ?_⟩⟩, k⟩, PySem.W.mg_of X G a⟩
  rw [List.mem_singleton.mp hq]
  exact ⟨_, n, tk, rfl⟩
theorem init_mk {K : PySem.W.Frag} {x q y : Str} {st : Stmt} {f d : Addr} {oc : Value} {od an : Option Addr} {osl : Array (Option Value)} {doc pm cdv ct : Value}
    (l : K.lookup f = some ⟨oc, od, .func (PySem.W.fnOf x q (defArgs st) (defBody st) (defScope st) .none (.ref d) doc pm an cdv ct), osl⟩) (c : PySem.W.codeIn K cdv q = true) (k : PySem.W.keepIn K (.ref f) = true) (n : PySem.W.nsIn K d y = some (some .none)) :
    FunD K x q (defArgs st) (defBody st) (defScope st) [] [(y, .non)] f (PySem.W.fnOf x q (defArgs st) (defBody st) (defScope st) .none (.ref d) doc pm an cdv ct) := by
  refine ⟨⟨oc, od, .none, .ref d, doc, pm, an, cdv, ct, osl, rfl, l, c, .inl ⟨rfl, rfl⟩, .inr ⟨d, rfl, fun z hz => ?_⟩⟩, k⟩
  rw [List.mem_singleton.mp hz]
  exact ⟨.none, n, rfl⟩
set_option maxHeartbeats 4000000 in
theorem all_mk {l : PySem.W.OpenLaw} {w : World} {K : PySem.W.Frag} {h : Heap} {mg : Str → Option Value} {fa gI dI C D fL gP0 qP0 gP1 qP1 gP2 qP2 gM0 qM0 gR gQI Z gWt gEg gUs gGo gAl gPa gLp gLs gWy gNt gTb S CX0 gX0 NX0 CX1 gX1 NX1 CX2 gX2 NX2 CY0 gY0 NY0 : Addr} {tk1 tk2 tk3 tk4 tk5 tk6 tk7 : Tok} (X : K.In h) (G : h.Ns mainGlobals mg) (hfa : mg "law" = some (.ref fa))
    {odI anI : Option Addr} {slI : Array (Option Value)} {ocI dcI pmI cdI ctI : Value}
    {odP0 anP0 : Option Addr} {slP0 : Array (Option Value)} {ocP0 kVP0 dcP0 pmP0 cdP0 ctP0 : Value}
    {rP0 : List Value}
    {odP1 anP1 : Option Addr} {slP1 : Array (Option Value)} {ocP1 kVP1 dcP1 pmP1 cdP1 ctP1 : Value}
    {rP1 : List Value}
    {odP2 anP2 : Option Addr} {slP2 : Array (Option Value)} {ocP2 kVP2 dcP2 pmP2 cdP2 ctP2 : Value}
    {rP2 : List Value}
    {odM0 anM0 : Option Addr} {slM0 : Array (Option Value)} {ocM0 kVM0 dcM0 pmM0 cdM0 ctM0 : Value}
    {rM0 : List Value}
    {odR anR : Option Addr} {slR : Array (Option Value)} {ocR kVR dcR pmR cdR ctR : Value}
    {odQI anQI : Option Addr} {slQI : Array (Option Value)} {ocQI kVQI dcQI pmQI cdQI ctQI : Value}
    {odWt anWt : Option Addr} {slWt : Array (Option Value)} {ocWt kVWt dcWt pmWt cdWt ctWt : Value}
    {odEg anEg : Option Addr} {slEg : Array (Option Value)} {ocEg kVEg dcEg pmEg cdEg ctEg : Value}
    {odUs anUs : Option Addr} {slUs : Array (Option Value)} {ocUs kVUs dcUs pmUs cdUs ctUs : Value}
    {odGo anGo : Option Addr} {slGo : Array (Option Value)} {ocGo kVGo dcGo pmGo cdGo ctGo : Value}
    {odAl anAl : Option Addr} {slAl : Array (Option Value)} {ocAl kVAl dcAl pmAl cdAl ctAl : Value}
    {odPa anPa : Option Addr} {slPa : Array (Option Value)} {ocPa kVPa dcPa pmPa cdPa ctPa : Value}
    {odLp anLp : Option Addr} {slLp : Array (Option Value)} {ocLp kVLp dcLp pmLp cdLp ctLp : Value}
    {odLs anLs : Option Addr} {slLs : Array (Option Value)} {ocLs kVLs dcLs pmLs cdLs ctLs : Value}
    {odWy anWy : Option Addr} {slWy : Array (Option Value)} {ocWy kVWy dcWy pmWy cdWy ctWy : Value}
    {odNt anNt : Option Addr} {slNt : Array (Option Value)} {ocNt kVNt dcNt pmNt cdNt ctNt : Value}
    {odTb anTb : Option Addr} {slTb : Array (Option Value)} {ocTb kVTb dcTb pmTb cdTb ctTb : Value}
    {nmX0 qX0 : Str} {bsX0 : List Value} {snX0 : List Str} {subX0 : List Value} {abX0 : Bool} {colX0 : Option Bool} {ddX0 odX0 anX0 : Option Addr} {m0X0 m1X0 m2X0 m3X0 m5X0 : Option Value} {slX0 : Array (Option Value)} {ocX0 kVX0 dcX0 pmX0 cdX0 ctX0 : Value}
    {nmX1 qX1 : Str} {bsX1 : List Value} {snX1 : List Str} {subX1 : List Value} {abX1 : Bool} {colX1 : Option Bool} {ddX1 odX1 anX1 : Option Addr} {m0X1 m1X1 m2X1 m3X1 m5X1 : Option Value} {slX1 : Array (Option Value)} {ocX1 kVX1 dcX1 pmX1 cdX1 ctX1 : Value}
    {nmX2 qX2 : Str} {bsX2 : List Value} {snX2 : List Str} {subX2 : List Value} {abX2 : Bool} {colX2 : Option Bool} {ddX2 odX2 anX2 : Option Addr} {m0X2 m1X2 m2X2 m3X2 m5X2 : Option Value} {slX2 : Array (Option Value)} {ocX2 kVX2 dcX2 pmX2 cdX2 ctX2 : Value}
    {nmY0 qY0 : Str} {bsY0 : List Value} {snY0 : List Str} {subY0 : List Value} {abY0 : Bool} {colY0 : Option Bool} {ddY0 odY0 anY0 : Option Addr} {m0Y0 m1Y0 m2Y0 m3Y0 m5Y0 : Option Value} {slY0 : Array (Option Value)} {ocY0 kVY0 dcY0 pmY0 cdY0 ctY0 : Value}
    {odL anL : Option Addr} {slL : Array (Option Value)} {ocL kVL dcL pmL cdL ctL : Value} {es : Array DictEntry} {n : Nat} {uP uQ : Value}
    (d_is_whole : Def K mg "is_whole" sIsWhole)
    (d_is_between : Def K mg "is_between" sIsBetween)
    (d_check_between : Def K mg "check_between" sCheckBetween)
    (d_is_item : Def K mg "is_item" sIsItem)
    (d_is_word : Def K mg "is_word" sIsWord)
    (d_check_word : Def K mg "check_word" sChkWord)
    (d_least_peak : Def K mg "least_peak" sLeastPeak)
    (d_has_at_most : Def K mg "has_at_most" sHasAtMost)
    (d_is_block : Def K mg "is_block" sIsBlock)
    (d_are_blocks : Def K mg "are_blocks" sAreBlocks)
    (d_check_blocks : Def K mg "check_blocks" sCheckBlocks)
    (d_check_stack : Def K mg "check_stack" sCheckStack)
    (d_check_search : Def K mg "check_search" sCheckSearch)
    (d_rules_of : Def K mg "rules_of" sRulesOf)
    (d_goal_search : Def K mg "goal_search" sGoalSearch)
    (d_reach : Def K mg "reach" sReach)
    (d_is_table : Def K mg "is_table" sIsTable)
    (d_check : Def K mg "check" sCheck)
    (d_is_reachable : Def K mg "is_reachable" sIsReachable)
    (d_least_blocks : Def K mg "least_blocks" sLeastBlocks)
    (d__law_pool : Def K mg "_law_pool" sPool)
    (d__law_take : Def K mg "_law_take" sTake)
    (d__law_bad_blocks : Def K mg "_law_bad_blocks" sLawBadBlocks)
    (d__law_raised : Def K mg "_law_raised" sLawRaised)
    (z_isinstance : PySem.W.nsIn K mainGlobals "isinstance" = some none)
    (z_str : PySem.W.nsIn K mainGlobals "str" = some none)
    (z_len : PySem.W.nsIn K mainGlobals "len" = some none)
    (z_all : PySem.W.nsIn K mainGlobals "all" = some none)
    (z_tuple : PySem.W.nsIn K mainGlobals "tuple" = some none)
    (z_list : PySem.W.nsIn K mainGlobals "list" = some none)
    (z_enumerate : PySem.W.nsIn K mainGlobals "enumerate" = some none)
    (z_range : PySem.W.nsIn K mainGlobals "range" = some none)
    (z_abs : PySem.W.nsIn K mainGlobals "abs" = some none)
    (z_int : PySem.W.nsIn K mainGlobals "int" = some none)
    (z_bool : PySem.W.nsIn K mainGlobals "bool" = some none)
    (z_max : PySem.W.nsIn K mainGlobals "max" = some none)
    (z_min : PySem.W.nsIn K mainGlobals "min" = some none)
    (z_repr : PySem.W.nsIn K mainGlobals "repr" = some none)
    (z_sorted : PySem.W.nsIn K mainGlobals "sorted" = some none)
    (z_dict : PySem.W.nsIn K mainGlobals "dict" = some none)
    (cL : PySem.W.nsIn K mainGlobals "LETTERS" = some (some (.str abc tk1)))
    (cM : PySem.W.nsIn K mainGlobals "MOST_LETTERS" = some (some (.int 8 tk2)))
    (cS : PySem.W.nsIn K mainGlobals "MOST_STEPS" = some (some (.int 1000 tk3)))
    (cB : PySem.W.nsIn K mainGlobals "MOST_BLOCKS" = some (some (.int 8 tk4)))
    (cBI : PySem.W.nsIn K mainGlobals "MOST_BLOCK_ITEMS" = some (some (.int 8 tk5)))
    (cSI : PySem.W.nsIn K mainGlobals "MOST_STACK_ITEMS" = some (some (.int 30 tk6)))
    (cNA : PySem.W.nsIn K mainGlobals "MOST_NAMES" = some (some (.int 5000 tk7)))
    (cO : PySem.W.nsIn K mainGlobals "OPPOSITES" = some (some (.ref D)))
    (lO : K.lookup D = some ⟨.type "dict", none, .dict es n, #[]⟩)
    (kO : PySem.W.KeysLit w.params es.toList)
    (wO : (D == sysModules) = false)
    (pO : PySem.W.nsIn K D "push" = some (some uP))
    (qO : PySem.W.nsIn K D "pop" = some (some uQ))
    (rP : RelV (.str "pop") uP)
    (rQ : RelV (.str "push") uQ)
    (aC : PySem.W.nsIn K mainGlobals "Effect" = some (some (.ref C)))
    (pg : PySem.W.plainGet K C Str.empty = true)
    (hd : PySem.W.hasDictIn K C = true)
    (po : PySem.W.plainOver K C = true)
    (sa : PySem.W.findIn K (.ref C) "__setattr__" = some (some (.builtin "object.__setattr__")))
    (nN : PySem.W.findIn K (.ref C) "needs" = some none)
    (nL : PySem.W.findIn K (.ref C) "leaves" = some none)
    (nH : PySem.W.findIn K (.ref C) "highest" = some none)
    (mkC : PySem.W.makesIn K C = true)
    (keC : PySem.W.keepIn K (.ref C) = true)
    (aI : PySem.W.findIn K (.ref C) "__init__" = some (some (.ref gI)))
    (iI : PySem.W.isFn K (.ref gI) = true)
    (lI : K.lookup gI = some ⟨ocI, odI, .func (PySem.W.fnOf "__init__" "Effect.__init__" (defArgs sInit) (defBody sInit) (defScope sInit) .none (.ref dI) dcI pmI anI cdI ctI), slI⟩)
    (cI : PySem.W.codeIn K cdI "Effect.__init__" = true)
    (kI : PySem.W.keepIn K (.ref gI) = true)
    (nI : PySem.W.nsIn K dI "peak" = some (some .none))
    (aP0 : PySem.W.findIn K (.ref C) "pops" = some (some (.ref qP0)))
    (bP0 : PySem.W.specialIn K (.ref qP0) "__get__" = some (some (.builtin "property.__get__")))
    (tP0 : PySem.W.takesIn K (.ref qP0) = some true)
    (uP0 : PySem.W.recIn K qP0 "property" = some (.ref gP0 :: rP0))
    (lP0 : K.lookup gP0 = some ⟨ocP0, odP0, .func (PySem.W.fnOf "pops" "Effect.pops" (defArgs sPops) (defBody sPops) (defScope sPops) .none kVP0 dcP0 pmP0 anP0 cdP0 ctP0), slP0⟩)
    (cP0 : PySem.W.codeIn K cdP0 "Effect.pops" = true)
    (kP0 : PySem.W.keepIn K (.ref gP0) = true)
    (aP1 : PySem.W.findIn K (.ref C) "pushes" = some (some (.ref qP1)))
    (bP1 : PySem.W.specialIn K (.ref qP1) "__get__" = some (some (.builtin "property.__get__")))
    (tP1 : PySem.W.takesIn K (.ref qP1) = some true)
    (uP1 : PySem.W.recIn K qP1 "property" = some (.ref gP1 :: rP1))
    (lP1 : K.lookup gP1 = some ⟨ocP1, odP1, .func (PySem.W.fnOf "pushes" "Effect.pushes" (defArgs sPushes) (defBody sPushes) (defScope sPushes) .none kVP1 dcP1 pmP1 anP1 cdP1 ctP1), slP1⟩)
    (cP1 : PySem.W.codeIn K cdP1 "Effect.pushes" = true)
    (kP1 : PySem.W.keepIn K (.ref gP1) = true)
    (aP2 : PySem.W.findIn K (.ref C) "is_never" = some (some (.ref qP2)))
    (bP2 : PySem.W.specialIn K (.ref qP2) "__get__" = some (some (.builtin "property.__get__")))
    (tP2 : PySem.W.takesIn K (.ref qP2) = some true)
    (uP2 : PySem.W.recIn K qP2 "property" = some (.ref gP2 :: rP2))
    (lP2 : K.lookup gP2 = some ⟨ocP2, odP2, .func (PySem.W.fnOf "is_never" "Effect.is_never" (defArgs sIsNever) (defBody sIsNever) (defScope sIsNever) .none kVP2 dcP2 pmP2 anP2 cdP2 ctP2), slP2⟩)
    (cP2 : PySem.W.codeIn K cdP2 "Effect.is_never" = true)
    (kP2 : PySem.W.keepIn K (.ref gP2) = true)
    (rdC : PySem.W.readsIn K C (.type "type") = true)
    (gaC : PySem.W.specialIn K (.ref C) "__getattribute__" = some (some (.builtin "type.__getattribute__")))
    (aM0 : PySem.W.findCls K (.ref C) (.type "type") "never" = some (.get (.builtin "classmethod.__get__") (.ref qM0) .none (.ref C)))
    (uM0 : PySem.W.recIn K qM0 "classmethod" = some (.ref gM0 :: rM0))
    (fM0 : PySem.W.fnIn K gM0 = true)
    (lM0 : K.lookup gM0 = some ⟨ocM0, odM0, .func (PySem.W.fnOf "never" "Effect.never" (defArgs sNever) (defBody sNever) (defScope sNever) .none kVM0 dcM0 pmM0 anM0 cdM0 ctM0), slM0⟩)
    (cM0 : PySem.W.codeIn K cdM0 "Effect.never" = true)
    (kM0 : PySem.W.keepIn K (.ref gM0) = true)
    (aR : PySem.W.findIn K (.ref C) "__repr__" = some (some (.ref gR)))
    (iR : PySem.W.isFn K (.ref gR) = true)
    (lR : K.lookup gR = some ⟨ocR, odR, .func (PySem.W.fnOf "__repr__" "Effect.__repr__" (defArgs sRepr) (defBody sRepr) (defScope sRepr) .none kVR dcR pmR anR cdR ctR), slR⟩)
    (cR : PySem.W.codeIn K cdR "Effect.__repr__" = true)
    (kR : PySem.W.keepIn K (.ref gR) = true)
    (e1 : PySem.W.findIn K (.ref C) "__class__" = some (some (.builtin "object.__class__")))
    (e2 : PySem.W.specialIn K (.builtin "object.__class__") "__get__" = some (some (.builtin "getset_descriptor.__get__")))
    (e3 : PySem.W.takesIn K (.builtin "object.__class__") = some true)
    (e4 : PySem.W.mroIn K C (.type "object") = some true)
    (tCE : PySem.W.typeIn K (.ref C) = some (.type "type"))
    (e_route : DefK K mg "route" sRoute [("most", .int 1000)])
    (aZ : PySem.W.nsIn K mainGlobals "Search" = some (some (.ref Z)))
    (pgZ : PySem.W.plainGet K Z Str.empty = true)
    (hdZ : PySem.W.hasDictIn K Z = true)
    (poZ : PySem.W.plainOver K Z = true)
    (saZ : PySem.W.findIn K (.ref Z) "__setattr__" = some (some (.builtin "object.__setattr__")))
    (zRu : PySem.W.findIn K (.ref Z) "rules" = some none)
    (zWo : PySem.W.findIn K (.ref Z) "words" = some none)
    (zSt : PySem.W.findIn K (.ref Z) "states" = some none)
    (zCo : PySem.W.findIn K (.ref Z) "costs" = some none)
    (zMa : PySem.W.findIn K (.ref Z) "makers" = some none)
    (zOn : PySem.W.findIn K (.ref Z) "onward" = some none)
    (zSe : PySem.W.findIn K (.ref Z) "settled" = some none)
    (zOg : PySem.W.findIn K (.ref Z) "origins" = some none)
    (zVi : PySem.W.findIn K (.ref Z) "visitors" = some none)
    (zWa : PySem.W.findIn K (.ref Z) "waiting" = some none)
    (zEn : PySem.W.findIn K (.ref Z) "end" = some none)
    (zBa : PySem.W.findIn K (.ref Z) "bases" = some none)
    (mkZ : PySem.W.makesIn K Z = true)
    (keZ : PySem.W.keepIn K (.ref Z) = true)
    (aQI : PySem.W.findIn K (.ref Z) "__init__" = some (some (.ref gQI)))
    (iQI : PySem.W.isFn K (.ref gQI) = true)
    (lQI : K.lookup gQI = some ⟨ocQI, odQI, .func (PySem.W.fnOf "__init__" "Search.__init__" (defArgs sSeInit) (defBody sSeInit) (defScope sSeInit) .none kVQI dcQI pmQI anQI cdQI ctQI), slQI⟩)
    (cQI : PySem.W.codeIn K cdQI "Search.__init__" = true)
    (kQI : PySem.W.keepIn K (.ref gQI) = true)
    (aWt : PySem.W.findIn K (.ref Z) "add_waiting" = some (some (.ref gWt)))
    (iWt : PySem.W.isFn K (.ref gWt) = true)
    (lWt : K.lookup gWt = some ⟨ocWt, odWt, .func (PySem.W.fnOf "add_waiting" "Search.add_waiting" (defArgs sSeWait) (defBody sSeWait) (defScope sSeWait) .none kVWt dcWt pmWt anWt cdWt ctWt), slWt⟩)
    (cWt : PySem.W.codeIn K cdWt "Search.add_waiting" = true)
    (kWt : PySem.W.keepIn K (.ref gWt) = true)
    (aEg : PySem.W.findIn K (.ref Z) "add_edge" = some (some (.ref gEg)))
    (iEg : PySem.W.isFn K (.ref gEg) = true)
    (lEg : K.lookup gEg = some ⟨ocEg, odEg, .func (PySem.W.fnOf "add_edge" "Search.add_edge" (defArgs sSeEdge) (defBody sSeEdge) (defScope sSeEdge) .none kVEg dcEg pmEg anEg cdEg ctEg), slEg⟩)
    (cEg : PySem.W.codeIn K cdEg "Search.add_edge" = true)
    (kEg : PySem.W.keepIn K (.ref gEg) = true)
    (aUs : PySem.W.findIn K (.ref Z) "use_rule" = some (some (.ref gUs)))
    (iUs : PySem.W.isFn K (.ref gUs) = true)
    (lUs : K.lookup gUs = some ⟨ocUs, odUs, .func (PySem.W.fnOf "use_rule" "Search.use_rule" (defArgs sSeUse) (defBody sSeUse) (defScope sSeUse) .none kVUs dcUs pmUs anUs cdUs ctUs), slUs⟩)
    (cUs : PySem.W.codeIn K cdUs "Search.use_rule" = true)
    (kUs : PySem.W.keepIn K (.ref gUs) = true)
    (aGo : PySem.W.findIn K (.ref Z) "go_on" = some (some (.ref gGo)))
    (iGo : PySem.W.isFn K (.ref gGo) = true)
    (lGo : K.lookup gGo = some ⟨ocGo, odGo, .func (PySem.W.fnOf "go_on" "Search.go_on" (defArgs sSeGo) (defBody sSeGo) (defScope sSeGo) .none kVGo dcGo pmGo anGo cdGo ctGo), slGo⟩)
    (cGo : PySem.W.codeIn K cdGo "Search.go_on" = true)
    (kGo : PySem.W.keepIn K (.ref gGo) = true)
    (aAl : PySem.W.findIn K (.ref Z) "settle_all" = some (some (.ref gAl)))
    (iAl : PySem.W.isFn K (.ref gAl) = true)
    (lAl : K.lookup gAl = some ⟨ocAl, odAl, .func (PySem.W.fnOf "settle_all" "Search.settle_all" (defArgs sSeAll) (defBody sSeAll) (defScope sSeAll) .none kVAl dcAl pmAl anAl cdAl ctAl), slAl⟩)
    (cAl : PySem.W.codeIn K cdAl "Search.settle_all" = true)
    (kAl : PySem.W.keepIn K (.ref gAl) = true)
    (aPa : PySem.W.findIn K (.ref Z) "add_path" = some (some (.ref gPa)))
    (iPa : PySem.W.isFn K (.ref gPa) = true)
    (lPa : K.lookup gPa = some ⟨ocPa, odPa, .func (PySem.W.fnOf "add_path" "Search.add_path" (defArgs sSePath) (defBody sSePath) (defScope sSePath) .none kVPa dcPa pmPa anPa cdPa ctPa), slPa⟩)
    (cPa : PySem.W.codeIn K cdPa "Search.add_path" = true)
    (kPa : PySem.W.keepIn K (.ref gPa) = true)
    (aLp : PySem.W.findIn K (.ref Z) "last_place" = some (some (.ref gLp)))
    (iLp : PySem.W.isFn K (.ref gLp) = true)
    (lLp : K.lookup gLp = some ⟨ocLp, odLp, .func (PySem.W.fnOf "last_place" "Search.last_place" (defArgs sSeLast) (defBody sSeLast) (defScope sSeLast) .none kVLp dcLp pmLp anLp cdLp ctLp), slLp⟩)
    (cLp : PySem.W.codeIn K cdLp "Search.last_place" = true)
    (kLp : PySem.W.keepIn K (.ref gLp) = true)
    (aLs : PySem.W.findIn K (.ref Z) "least" = some (some (.ref gLs)))
    (iLs : PySem.W.isFn K (.ref gLs) = true)
    (lLs : K.lookup gLs = some ⟨ocLs, odLs, .func (PySem.W.fnOf "least" "Search.least" (defArgs sSeLeast) (defBody sSeLeast) (defScope sSeLeast) .none kVLs dcLs pmLs anLs cdLs ctLs), slLs⟩)
    (cLs : PySem.W.codeIn K cdLs "Search.least" = true)
    (kLs : PySem.W.keepIn K (.ref gLs) = true)
    (aWy : PySem.W.findIn K (.ref Z) "way" = some (some (.ref gWy)))
    (iWy : PySem.W.isFn K (.ref gWy) = true)
    (lWy : K.lookup gWy = some ⟨ocWy, odWy, .func (PySem.W.fnOf "way" "Search.way" (defArgs sSeWay) (defBody sSeWay) (defScope sSeWay) .none kVWy dcWy pmWy anWy cdWy ctWy), slWy⟩)
    (cWy : PySem.W.codeIn K cdWy "Search.way" = true)
    (kWy : PySem.W.keepIn K (.ref gWy) = true)
    (aNt : PySem.W.findIn K (.ref Z) "names_to" = some (some (.ref gNt)))
    (iNt : PySem.W.isFn K (.ref gNt) = true)
    (lNt : K.lookup gNt = some ⟨ocNt, odNt, .func (PySem.W.fnOf "names_to" "Search.names_to" (defArgs sSeNames) (defBody sSeNames) (defScope sSeNames) .none kVNt dcNt pmNt anNt cdNt ctNt), slNt⟩)
    (cNt : PySem.W.codeIn K cdNt "Search.names_to" = true)
    (kNt : PySem.W.keepIn K (.ref gNt) = true)
    (aTb : PySem.W.findIn K (.ref Z) "table" = some (some (.ref gTb)))
    (iTb : PySem.W.isFn K (.ref gTb) = true)
    (lTb : K.lookup gTb = some ⟨ocTb, odTb, .func (PySem.W.fnOf "table" "Search.table" (defArgs sSeTable) (defBody sSeTable) (defScope sSeTable) .none kVTb dcTb pmTb anTb cdTb ctTb), slTb⟩)
    (cTb : PySem.W.codeIn K cdTb "Search.table" = true)
    (kTb : PySem.W.keepIn K (.ref gTb) = true)
    (aS : PySem.W.nsIn K mainGlobals "StackError" = some (some (.ref S)))
    (tS : PySem.W.typeIn K (.ref S) = some (.type "type"))
    (hS : PySem.W.hasDictIn K S = true)
    (cg : PySem.W.specialIn K (.builtin "object.__class__") "__get__" = some (some (.builtin "getset_descriptor.__get__")))
    (ct : PySem.W.takesIn K (.builtin "object.__class__") = some true)
    (aX0 : PySem.W.nsIn K mainGlobals "InvalidBlocks" = some (some (.ref CX0)))
    (xX0 : K.lookup CX0 = some (excClassObj nmX0 qX0 CX0 NX0 bsX0 [.ref S, .type "ValueError", .type "Exception", .type "BaseException", .type "object"] true snX0 subX0 abX0 colX0 ddX0 m0X0 m1X0 m2X0 m3X0 m5X0 "ValueError.__new__"))
    (saX0 : PySem.W.findIn K (.ref CX0) "__setattr__" = some (some (.builtin "object.__setattr__")))
    (gaX0 : PySem.W.findIn K (.ref CX0) "__getattribute__" = some (some (.builtin "BaseException.__getattribute__")))
    (ggX0 : PySem.W.findIn K (.ref CX0) "__getattr__" = some none)
    (nfX0 : PySem.W.findIn K (.ref CX0) "value" = some none)
    (iiX0 : PySem.W.findIn K (.ref CX0) "__init__" = some (some (.ref gX0)))
    (tiX0 : PySem.W.typeIn K (.ref gX0) = some (.type "function"))
    (lX0 : K.lookup gX0 = some ⟨ocX0, odX0, .func (PySem.W.fnOf "__init__" "InvalidBlocks.__init__" (defArgs (inClass sInvalidblocks 0)) (defBody (inClass sInvalidblocks 0)) (defScope (inClass sInvalidblocks 0)) .none kVX0 dcX0 pmX0 anX0 cdX0 ctX0), slX0⟩)
    (cX0 : PySem.W.codeIn K cdX0 "InvalidBlocks.__init__" = true)
    (kX0 : PySem.W.keepIn K (.ref gX0) = true)
    (kCX0 : PySem.W.keepIn K (.ref CX0) = true)
    (eCX0 : PySem.W.subIn K (.ref CX0) (.type "BaseException") = some true)
    (tCX0 : PySem.W.typeIn K (.ref CX0) = some (.type "type"))
    (hCX0 : PySem.W.hasDictIn K CX0 = true)
    (sCX0 : PySem.W.subIn K (.ref CX0) (.ref CX0) = some true)
    (sSX0 : PySem.W.subIn K (.ref CX0) (.ref S) = some true)
    (ccX0 : PySem.W.findIn K (.ref CX0) "__class__" = some (some (.builtin "object.__class__")))
    (moX0 : PySem.W.mroIn K CX0 (.type "object") = some true)
    (aX1 : PySem.W.nsIn K mainGlobals "InvalidWord" = some (some (.ref CX1)))
    (xX1 : K.lookup CX1 = some (excClassObj nmX1 qX1 CX1 NX1 bsX1 [.ref S, .type "ValueError", .type "Exception", .type "BaseException", .type "object"] true snX1 subX1 abX1 colX1 ddX1 m0X1 m1X1 m2X1 m3X1 m5X1 "ValueError.__new__"))
    (saX1 : PySem.W.findIn K (.ref CX1) "__setattr__" = some (some (.builtin "object.__setattr__")))
    (gaX1 : PySem.W.findIn K (.ref CX1) "__getattribute__" = some (some (.builtin "BaseException.__getattribute__")))
    (ggX1 : PySem.W.findIn K (.ref CX1) "__getattr__" = some none)
    (nfX1 : PySem.W.findIn K (.ref CX1) "value" = some none)
    (iiX1 : PySem.W.findIn K (.ref CX1) "__init__" = some (some (.ref gX1)))
    (tiX1 : PySem.W.typeIn K (.ref gX1) = some (.type "function"))
    (lX1 : K.lookup gX1 = some ⟨ocX1, odX1, .func (PySem.W.fnOf "__init__" "InvalidWord.__init__" (defArgs (inClass sInvalidword 0)) (defBody (inClass sInvalidword 0)) (defScope (inClass sInvalidword 0)) .none kVX1 dcX1 pmX1 anX1 cdX1 ctX1), slX1⟩)
    (cX1 : PySem.W.codeIn K cdX1 "InvalidWord.__init__" = true)
    (kX1 : PySem.W.keepIn K (.ref gX1) = true)
    (kCX1 : PySem.W.keepIn K (.ref CX1) = true)
    (eCX1 : PySem.W.subIn K (.ref CX1) (.type "BaseException") = some true)
    (tCX1 : PySem.W.typeIn K (.ref CX1) = some (.type "type"))
    (hCX1 : PySem.W.hasDictIn K CX1 = true)
    (sCX1 : PySem.W.subIn K (.ref CX1) (.ref CX1) = some true)
    (sSX1 : PySem.W.subIn K (.ref CX1) (.ref S) = some true)
    (ccX1 : PySem.W.findIn K (.ref CX1) "__class__" = some (some (.builtin "object.__class__")))
    (moX1 : PySem.W.mroIn K CX1 (.type "object") = some true)
    (aX2 : PySem.W.nsIn K mainGlobals "InvalidNumber" = some (some (.ref CX2)))
    (xX2 : K.lookup CX2 = some (excClassObj nmX2 qX2 CX2 NX2 bsX2 [.ref S, .type "ValueError", .type "Exception", .type "BaseException", .type "object"] true snX2 subX2 abX2 colX2 ddX2 m0X2 m1X2 m2X2 m3X2 m5X2 "ValueError.__new__"))
    (saX2 : PySem.W.findIn K (.ref CX2) "__setattr__" = some (some (.builtin "object.__setattr__")))
    (gaX2 : PySem.W.findIn K (.ref CX2) "__getattribute__" = some (some (.builtin "BaseException.__getattribute__")))
    (ggX2 : PySem.W.findIn K (.ref CX2) "__getattr__" = some none)
    (nfX2 : PySem.W.findIn K (.ref CX2) "value" = some none)
    (iiX2 : PySem.W.findIn K (.ref CX2) "__init__" = some (some (.ref gX2)))
    (tiX2 : PySem.W.typeIn K (.ref gX2) = some (.type "function"))
    (lX2 : K.lookup gX2 = some ⟨ocX2, odX2, .func (PySem.W.fnOf "__init__" "InvalidNumber.__init__" (defArgs (inClass sInvalidnumber 0)) (defBody (inClass sInvalidnumber 0)) (defScope (inClass sInvalidnumber 0)) .none kVX2 dcX2 pmX2 anX2 cdX2 ctX2), slX2⟩)
    (cX2 : PySem.W.codeIn K cdX2 "InvalidNumber.__init__" = true)
    (kX2 : PySem.W.keepIn K (.ref gX2) = true)
    (kCX2 : PySem.W.keepIn K (.ref CX2) = true)
    (eCX2 : PySem.W.subIn K (.ref CX2) (.type "BaseException") = some true)
    (tCX2 : PySem.W.typeIn K (.ref CX2) = some (.type "type"))
    (hCX2 : PySem.W.hasDictIn K CX2 = true)
    (sCX2 : PySem.W.subIn K (.ref CX2) (.ref CX2) = some true)
    (sSX2 : PySem.W.subIn K (.ref CX2) (.ref S) = some true)
    (ccX2 : PySem.W.findIn K (.ref CX2) "__class__" = some (some (.builtin "object.__class__")))
    (moX2 : PySem.W.mroIn K CX2 (.type "object") = some true)
    (aY0 : PySem.W.nsIn K mainGlobals "LimitExceeded" = some (some (.ref CY0)))
    (xY0 : K.lookup CY0 = some (excClassObj nmY0 qY0 CY0 NY0 bsY0 [.type "OverflowError", .type "ArithmeticError", .type "Exception", .type "BaseException", .type "object"] true snY0 subY0 abY0 colY0 ddY0 m0Y0 m1Y0 m2Y0 m3Y0 m5Y0 "OverflowError.__new__"))
    (saY0 : PySem.W.findIn K (.ref CY0) "__setattr__" = some (some (.builtin "object.__setattr__")))
    (gaY0 : PySem.W.findIn K (.ref CY0) "__getattribute__" = some (some (.builtin "BaseException.__getattribute__")))
    (ggY0 : PySem.W.findIn K (.ref CY0) "__getattr__" = some none)
    (nfY0 : PySem.W.findIn K (.ref CY0) "limit" = some none)
    (iiY0 : PySem.W.findIn K (.ref CY0) "__init__" = some (some (.ref gY0)))
    (tiY0 : PySem.W.typeIn K (.ref gY0) = some (.type "function"))
    (lY0 : K.lookup gY0 = some ⟨ocY0, odY0, .func (PySem.W.fnOf "__init__" "LimitExceeded.__init__" (defArgs (inClass sLimitexceeded 0)) (defBody (inClass sLimitexceeded 0)) (defScope (inClass sLimitexceeded 0)) .none kVY0 dcY0 pmY0 anY0 cdY0 ctY0), slY0⟩)
    (cY0 : PySem.W.codeIn K cdY0 "LimitExceeded.__init__" = true)
    (kY0 : PySem.W.keepIn K (.ref gY0) = true)
    (kCY0 : PySem.W.keepIn K (.ref CY0) = true)
    (ccY0 : PySem.W.findIn K (.ref CY0) "__class__" = some (some (.builtin "object.__class__")))
    (n10 : PySem.W.subIn K (.ref CX1) (.ref CX0) = some false)
    (n20 : PySem.W.subIn K (.ref CX2) (.ref CX0) = some false)
    (n21 : PySem.W.subIn K (.ref CX2) (.ref CX1) = some false)
    (aL : PySem.W.nsIn K mainGlobals "law" = some (some (.ref fL)))
    (lL : K.lookup fL = some ⟨ocL, odL, .func (PySem.W.fnOf "law" "law" (defArgs sLaw) (defBody sLaw) (defScope sLaw) .none kVL dcL pmL anL cdL ctL), slL⟩)
    (ckL : PySem.W.codeIn K cdL "law" = true)
    (kL : PySem.W.keepIn K (.ref fL) = true) :
    ∃ fd : FuncData, (∀ (s : Shared) (v : Value), BindsTo s fd ⟨[v], []⟩ [("_law_script", v)]) ∧ ∀ base : Heap, K.In base → base.Ns mainGlobals mg → GOk l.prog w K mg base 12 fa fd ["_law_script"] (spLaw K) := by
  have e := hfa.symm.trans (PySem.W.mg_of X G aL)
  cases e
  have F := fun_mk (st := sLaw) lL ckL kL
  have m_isinstance : mg "isinstance" = none := PySem.W.mg_none_of X G z_isinstance
  have m_str : mg "str" = none := PySem.W.mg_none_of X G z_str
  have m_len : mg "len" = none := PySem.W.mg_none_of X G z_len
  have m_all : mg "all" = none := PySem.W.mg_none_of X G z_all
  have m_tuple : mg "tuple" = none := PySem.W.mg_none_of X G z_tuple
  have m_list : mg "list" = none := PySem.W.mg_none_of X G z_list
  have m_enumerate : mg "enumerate" = none := PySem.W.mg_none_of X G z_enumerate
  have m_range : mg "range" = none := PySem.W.mg_none_of X G z_range
  have m_abs : mg "abs" = none := PySem.W.mg_none_of X G z_abs
  have m_int : mg "int" = none := PySem.W.mg_none_of X G z_int
  have m_bool : mg "bool" = none := PySem.W.mg_none_of X G z_bool
  have m_max : mg "max" = none := PySem.W.mg_none_of X G z_max
  have m_min : mg "min" = none := PySem.W.mg_none_of X G z_min
  have m_repr : mg "repr" = none := PySem.W.mg_none_of X G z_repr
  have m_sorted : mg "sorted" = none := PySem.W.mg_none_of X G z_sorted
  have m_dict : mg "dict" = none := PySem.W.mg_none_of X G z_dict
  have B : Blt mg := ⟨m_isinstance, m_str, m_len, m_all, m_tuple, m_list, m_enumerate⟩
  have Co : Cons K w mg := ⟨⟨_, PySem.W.mg_of X G cL⟩, ⟨_, PySem.W.mg_of X G cM⟩, ⟨_, PySem.W.mg_of X G cS⟩, ⟨D, es, n, uP, uQ, PySem.W.mg_of X G cO, ⟨lO, kO, wO⟩, pO, rP, qO, rQ⟩⟩
  have T : EC K mg C := ⟨⟨pg, hd, po, sa⟩, nN, nL, nH, PySem.W.mg_of X G aC⟩
  refine ⟨PySem.W.fnOf "law" "law" (defArgs sLaw) (defBody sLaw) (defScope sLaw) .none kVL dcL pmL anL cdL ctL, fun s v => .of_eq rfl, fun base _ _ => ?_⟩
  have gTake := has_take (P := l.prog) (w := w) (base := base) d__law_take
  have gPool := has_pool (P := l.prog) (w := w) (base := base) d__law_pool m_len m_abs m_int
  have gItem := has_isItem (P := l.prog) (w := w) (base := base) d_is_item B Co
  have gIsWord := has_isWord d_is_word gItem B
  have gCw := has_chkWord d_check_word gIsWord
  have gWh := has_whole (P := l.prog) (w := w) (base := base) d_is_whole B m_int m_bool
  have gLe := has_least (P := l.prog) (w := w) (base := base) d_least_peak B m_max
  have gM := (⟨gI, _, ⟨mkC, aI, iI, keC⟩, ok_init (fun_mk lI cI kI) T gCw gLe gWh, init_mk lI cI kI nI⟩ : Makes l.prog w K mg base C)
  have gPo := (⟨qP0, gP0, _, ⟨aP0, bP0, tP0, rP0, uP0⟩, ok_pops (fun_mk lP0 cP0 kP0) T, (fun_mk lP0 cP0 kP0).binds (ps := ["self"]) fun _ _ _ _ _ _ us hl => match us, hl with | [_], _ => rfl⟩ : PropHas l.prog w K mg base C "pops" 1 _)
  have gPu := (⟨qP1, gP1, _, ⟨aP1, bP1, tP1, rP1, uP1⟩, ok_push (fun_mk lP1 cP1 kP1) T, (fun_mk lP1 cP1 kP1).binds (ps := ["self"]) fun _ _ _ _ _ _ us hl => match us, hl with | [_], _ => rfl⟩ : PropHas l.prog w K mg base C "pushes" 1 _)
  have gNv := (⟨qP2, gP2, _, ⟨aP2, bP2, tP2, rP2, uP2⟩, ok_isNev (fun_mk lP2 cP2 kP2) T, (fun_mk lP2 cP2 kP2).binds (ps := ["self"]) fun _ _ _ _ _ _ us hl => match us, hl with | [_], _ => rfl⟩ : PropHas l.prog w K mg base C "is_never" 1 _)
  have fNe := ok_never (fun_mk lM0 cM0 kM0) T gM
  have bNe := (fun_mk (st := sNever) lM0 cM0 kM0).binds (ps := ["cls"]) fun _ _ _ _ _ _ us hl => match us, hl with | [_], _ => rfl
  have gNe := (⟨.type "type", qM0, gM0, ⟨rdC, gaC⟩, ⟨aM0, ⟨_, uM0⟩, fM0⟩, (fNe.raw bNe .nil).imp fun vs H Q E h => by rw [List.append_nil]; exact h⟩ : NeverHas l.prog w K mg base C)
  have TI := (⟨e1, e2, e3, e4, if_pos (beq_self_eq_true _)⟩ : EI K C)
  have gRp := (⟨gR, _, fun g => ok_reprM (fun_mk lR cR kR) T, fun g => ok_reprH (fun_mk lR cR kR) T, aR, iR, (fun_mk lR cR kR).binds (ps := ["self"]) fun _ _ _ _ _ _ us hl => match us, hl with | [_], _ => rfl⟩ : ReprHasM l.prog w K mg base C)
  have gS := PySem.W.mg_of X G aS
  have oeX0 := (⟨⟨_, _, _, _, _, _, _, _, _, _, _, _, _, _, _, xX0, rfl⟩, saX0, eCX0, tCX0, kCX0⟩ : OexC K CX0)
  have FX0 := fun_mk (st := inClass sInvalidblocks 0) lX0 cX0 kX0
  have TX0 := (⟨oeX0, PySem.W.mg_of X G aX0, ⟨gX0, _, iiX0, tiX0, init_ok FX0 scI_InvalidBlocks oeX0 nfX0 rfl (.inl rfl) (.inl rfl) (by decide) (by decide), FX0.binds (ps := ["self", "value"]) fun _ _ _ _ _ _ us hl => match us, hl with | [_, _], _ => rfl⟩, ⟨gaX0, ggX0, eCX0, hCX0⟩, nfX0, ccX0, cg, ct, moX0, PySem.W.exm_ref eCX0 hCX0 tCX0 sCX0⟩ : XcC l.prog w K mg base "InvalidBlocks" "value" CX0)
  have kiX0 := kit_below sSX0 tS hS
  have oeX1 := (⟨⟨_, _, _, _, _, _, _, _, _, _, _, _, _, _, _, xX1, rfl⟩, saX1, eCX1, tCX1, kCX1⟩ : OexC K CX1)
  have FX1 := fun_mk (st := inClass sInvalidword 0) lX1 cX1 kX1
  have TX1 := (⟨oeX1, PySem.W.mg_of X G aX1, ⟨gX1, _, iiX1, tiX1, init_ok FX1 scI_InvalidWord oeX1 nfX1 rfl (.inl rfl) (.inl rfl) (by decide) (by decide), FX1.binds (ps := ["self", "value"]) fun _ _ _ _ _ _ us hl => match us, hl with | [_, _], _ => rfl⟩, ⟨gaX1, ggX1, eCX1, hCX1⟩, nfX1, ccX1, cg, ct, moX1, PySem.W.exm_ref eCX1 hCX1 tCX1 sCX1⟩ : XcC l.prog w K mg base "InvalidWord" "value" CX1)
  have kiX1 := kit_below sSX1 tS hS
  have oeX2 := (⟨⟨_, _, _, _, _, _, _, _, _, _, _, _, _, _, _, xX2, rfl⟩, saX2, eCX2, tCX2, kCX2⟩ : OexC K CX2)
  have FX2 := fun_mk (st := inClass sInvalidnumber 0) lX2 cX2 kX2
  have TX2 := (⟨oeX2, PySem.W.mg_of X G aX2, ⟨gX2, _, iiX2, tiX2, init_ok FX2 scI_InvalidNumber oeX2 nfX2 rfl (.inl rfl) (.inl rfl) (by decide) (by decide), FX2.binds (ps := ["self", "value"]) fun _ _ _ _ _ _ us hl => match us, hl with | [_, _], _ => rfl⟩, ⟨gaX2, ggX2, eCX2, hCX2⟩, nfX2, ccX2, cg, ct, moX2, PySem.W.exm_ref eCX2 hCX2 tCX2 sCX2⟩ : XcC l.prog w K mg base "InvalidNumber" "value" CX2)
  have kiX2 := kit_below sSX2 tS hS
  have FY0 := fun_mk (st := inClass sLimitexceeded 0) lY0 cY0 kY0
  have vLimitExceeded := (xv_mk (PySem.W.mg_of X G aY0) xY0 tail_OE (by simp [List.contains_cons]) saY0 gaY0 ggY0 nfY0 iiY0 tiY0 kCY0 ccY0 FY0 scI_LimitExceeded rfl (.inl rfl) (.inl rfl) (by decide) (by decide) (fun _ _ _ _ _ _ us ws hl hw => match us, ws, hl, hw with | [_, _], [], _, _ => rfl) (fun _ _ _ _ _ _ us ws hl hw => match us, ws, hl, hw with | [_], [_], _, _ => rfl) : XvC l.prog w K mg base "LimitExceeded" "LimitExceeded.__init__" "limit" CY0 [.type "OverflowError", .type "ArithmeticError", .type "Exception", .type "BaseException", .type "object"])
  have TZ := (⟨⟨pgZ, hdZ, poZ, saZ⟩, zRu, zWo, zSt, zCo, zMa, zOn, zSe, zOg, zVi, zWa, zEn, zBa⟩ : TSea K Z)
  have mgS := PySem.W.mg_of X G aZ
  have gWtM := (⟨gWt, _, ⟨aWt, iWt, kWt⟩, ok_wt (fun_mk lWt cWt kWt) TZ, (fun_mk (st := sSeWait) lWt cWt kWt).binds (ps := ["self", "place", "edge"]) fun _ _ _ _ _ _ us hl => match us, hl with | [_, _, _], _ => rfl⟩ : MethHas l.prog w K mg base Z "add_waiting" 1 ["self", "place", "edge"] (spWt K w Z))
  have gEgM := (⟨gEg, _, ⟨aEg, iEg, kEg⟩, ok_eg (fun_mk lEg cEg kEg) TZ gWtM, (fun_mk (st := sSeEdge) lEg cEg kEg).binds (ps := ["self", "edge", "cost"]) fun _ _ _ _ _ _ us hl => match us, hl with | [_, _, _], _ => rfl⟩ : MethHas l.prog w K mg base Z "add_edge" 2 ["self", "edge", "cost"] (spEg K w Z))
  have gUsM := (⟨gUs, _, ⟨aUs, iUs, kUs⟩, ok_us (fun_mk lUs cUs kUs) TZ gEgM, (fun_mk (st := sSeUse) lUs cUs kUs).binds (ps := ["self", "rule", "state", "cost"]) fun _ _ _ _ _ _ us hl => match us, hl with | [_, _, _, _], _ => rfl⟩ : MethHas l.prog w K mg base Z "use_rule" 3 ["self", "rule", "state", "cost"] (spUs K w Z))
  have gGoM := (⟨gGo, _, ⟨aGo, iGo, kGo⟩, ok_go (fun_mk lGo cGo kGo) TZ gWtM gUsM B, (fun_mk (st := sSeGo) lGo cGo kGo).binds (ps := ["self", "place"]) fun _ _ _ _ _ _ us hl => match us, hl with | [_, _], _ => rfl⟩ : MethHas l.prog w K mg base Z "go_on" 4 ["self", "place"] (spGo K w Z))
  have gAlM := (⟨gAl, _, ⟨aAl, iAl, kAl⟩, ok_al (fun_mk lAl cAl kAl) TZ gGoM m_min m_list, (fun_mk (st := sSeAll) lAl cAl kAl).binds (ps := ["self"]) fun _ _ _ _ _ _ us hl => match us, hl with | [_], _ => rfl⟩ : MethHas l.prog w K mg base Z "settle_all" 5 ["self"] (spAl K w Z))
  have gPaM := (⟨gPa, _, ⟨aPa, iPa, kPa⟩, ok_pa (fun_mk lPa cPa kPa) TZ gEgM, (fun_mk (st := sSePath) lPa cPa kPa).binds (ps := ["self", "word"]) fun _ _ _ _ _ _ us hl => match us, hl with | [_, _], _ => rfl⟩ : MethHas l.prog w K mg base Z "add_path" 3 ["self", "word"] (spPa K w Z))
  have gLpM := (⟨gLp, _, ⟨aLp, iLp, kLp⟩, ok_lp (fun_mk lLp cLp kLp) TZ B, (fun_mk (st := sSeLast) lLp cLp kLp).binds (ps := ["self", "word"]) fun _ _ _ _ _ _ us hl => match us, hl with | [_, _], _ => rfl⟩ : MethHas l.prog w K mg base Z "last_place" 1 ["self", "word"] (spLp K w Z))
  have gLsM := (⟨gLs, _, ⟨aLs, iLs, kLs⟩, ok_ls (fun_mk lLs cLs kLs) TZ gLpM, (fun_mk (st := sSeLeast) lLs cLs kLs).binds (ps := ["self", "word"]) fun _ _ _ _ _ _ us hl => match us, hl with | [_, _], _ => rfl⟩ : MethHas l.prog w K mg base Z "least" 2 ["self", "word"] (spLs K w Z))
  have gWyM := (⟨gWy, _, ⟨aWy, iWy, kWy⟩, ok_wy (fun_mk lWy cWy kWy) TZ, (fun_mk (st := sSeWay) lWy cWy kWy).binds (ps := ["self", "place"]) fun _ _ _ _ _ _ us hl => match us, hl with | [_, _], _ => rfl⟩ : MethHas l.prog w K mg base Z "way" 1 ["self", "place"] (spWy K w Z))
  have gNtM := (⟨gNt, _, ⟨aNt, iNt, kNt⟩, ok_nt (fun_mk lNt cNt kNt) TZ gLpM gLsM gWyM B m_range, (fun_mk (st := sSeNames) lNt cNt kNt).binds (ps := ["self", "word"]) fun _ _ _ _ _ _ us hl => match us, hl with | [_, _], _ => rfl⟩ : MethHas l.prog w K mg base Z "names_to" 3 ["self", "word"] (spNt K w Z))
  have gTbM := (⟨gTb, _, ⟨aTb, iTb, kTb⟩, ok_tb (fun_mk lTb cTb kTb) TZ m_sorted, (fun_mk (st := sSeTable) lTb cTb kTb).binds (ps := ["self"]) fun _ _ _ _ _ _ us hl => match us, hl with | [_], _ => rfl⟩ : MethHas l.prog w K mg base Z "table" 1 ["self"] (spTb K w Z))
  have gSea := (⟨gQI, _, ⟨mkZ, aQI, iQI, keZ⟩, ok_si (fun_mk lQI cQI kQI) TZ gPaM gAlM B m_range, (fun_mk (st := sSeInit) lQI cQI kQI).binds (ps := pSi) fun _ _ _ _ _ _ us hl => match us, hl with | [_, _, _, _], _ => rfl⟩ : SeaMk l.prog w K mg base Z)
  have gWh2 := has_whole2 (P := l.prog) (w := w) (base := base) d_is_whole m_isinstance m_int m_bool
  have gBe2 := has_bet2 d_is_between gWh2
  have gCbw := hasX_cbw d_check_between gBe2 TX2
  have gHm := has_hm d_has_at_most T gPo gPu B
  have gIb := has_ib d_is_block T TI gNv gHm ⟨_, PySem.W.mg_of X G cBI⟩ B
  have gAb := has_ab d_are_blocks gItem gIb ⟨_, PySem.W.mg_of X G cB⟩ B m_dict
  have gCb := hasX_cb d_check_blocks gAb TX0
  have gCst := has_cst d_check_stack gIsWord ⟨_, PySem.W.mg_of X G cSI⟩ B
  have gCse := has_cse d_check_search gCb gCst
  have gRo := has_ro d_rules_of T gNv gPo gPu m_sorted
  have gGs := has_gs d_goal_search gSea mgS gRo B
  have gRe := has_re d_reach TZ gSea mgS gCb gCst gRo gTbM
  have gLb := has_lb d_least_blocks TZ gCse gGs gLsM
  have gIr := has_ir d_is_reachable gLb
  have gRt := hasX_rt e_route TZ vLimitExceeded gCse gCbw gGs gLsM gNtM ⟨_, PySem.W.mg_of X G cNA⟩
  have gItX := has_itemX (P := l.prog) (w := w) (base := base) d_is_item B Co
  have gWoX := has_wordX d_is_word gItX B
  have gAbX := has_abX d_are_blocks gItX gIb ⟨_, PySem.W.mg_of X G cB⟩ B m_dict
  have gCbX := hasX_cbX d_check_blocks gAbX TX0
  have gCb2 := (HasX.or2 gCb gCbX : HasX l.prog w K mg base "check_blocks" 6 ["blocks"] [] (spCb2 l.prog w K C CX0))
  have gCsX := hasX_cst d_check_stack gWoX ⟨_, PySem.W.mg_of X G cSI⟩ B TX1
  have gCeX := hasX_cse d_check_search gCb2 gCsX
  have gReX := hasX_re d_reach gCb2 gCsX
  have gIt := has_it (P := l.prog) (w := w) (base := base) d_is_table B
  have gCh := hasX_ch d_check gCb2 gCsX gIt
  have gLbX := hasX_lb d_least_blocks gCeX
  have gIrX := hasX_ir d_is_reachable gLbX
  have gRtX := hasX_rtX e_route gCeX
  have gRe2 := (HasX.orH gReX gRe (Nat.le_refl _) : HasX l.prog w K mg base "reach" 8 ["blocks", "start"] [] (spRe2 l.prog w K C CX0 CX1))
  have gIr2 := (HasX.orH gIrX gIr (Nat.le_refl _) : HasX l.prog w K mg base "is_reachable" 10 pGs [] (spIr2 l.prog w K C CX0 CX1 someV))
  have gLb2 := (HasX.orH gLbX gLb (Nat.le_refl _) : HasX l.prog w K mg base "least_blocks" 9 pGs [] (spIr2 l.prog w K C CX0 CX1 optN))
  have gRt2 := (KHasM.or2 gRtX gRt : KHasM l.prog w K mg base (L2.CX l.prog w) "route" sRoute pRt 9 (spRt2 l.prog w K C CX0 CX1 CX2 CY0))
  have RX := (⟨TX0, TX1, TX2, gS, kiX0, kiX1, kiX2, PySem.W.exm_ref eCX0 hCX0 tCX0 n10, PySem.W.exm_ref eCX0 hCX0 tCX0 n20, PySem.W.exm_ref eCX1 hCX1 tCX1 n21⟩ : RdX l.prog w K mg base CX0 CX1 CX2 S)
  have gRd := ghas_rd d__law_raised gRp RX gRe2 gCh gIr2 gLb2 gRt2 B m_repr
  have gBad := has_bad d__law_bad_blocks T gM m_dict
  exact ok_law F T gM gNe gRp gPool gTake gBad gRt2 gRd (kC_of tCE T.cl.hd) B m_range m_max m_min m_repr m_dict
end
end SE
open PySem PySem.W PyProof.Rows
set_option maxHeartbeats 0 in
theorem PySem.Challenge.cw_stackeffect_k33_blocks_refused_holds : PySem.Challenge.rw_stackeffect_k33_blocks_refused.Holds := by
  w_on; o_law; k_head; (case hw => w_witness2)
  k_fill
  refine SE.walkG (l := PySem.Challenge.rw_stackeffect_k33_blocks_refused) (n := 63) (k := 12) (x := "_law_script") (sp := SE.spLaw) rfl (by decide) rfl ⟨rfl, by decide, by decide⟩ (fun w h Y => PySem.W.kIn_of Y) ?F (fun _ _ a ns hl hS => ⟨a, ns, rfl, hS, hl, fun _ => rfl⟩)
  case F =>
    intro w mg fa h KX G hmg
    refine' SE.all_mk KX G hmg ?d_is_whole ?d_is_between ?d_check_between ?d_is_item ?d_is_word ?d_check_word ?d_least_peak ?d_has_at_most ?d_is_block ?d_are_blocks ?d_check_blocks ?d_check_stack ?d_check_search ?d_rules_of ?d_goal_search ?d_reach ?d_is_table ?d_check ?d_is_reachable ?d_least_blocks ?d__law_pool ?d__law_take ?d__law_bad_blocks ?d__law_raised ?z_isinstance ?z_str ?z_len ?z_all ?z_tuple ?z_list ?z_enumerate ?z_range ?z_abs ?z_int ?z_bool ?z_max ?z_min ?z_repr ?z_sorted ?z_dict ?cL ?cM ?cS ?cB ?cBI ?cSI ?cNA ?cO ?lO ?kO ?wO ?pO ?qO ?rP ?rQ ?aC ?pg ?hd ?po ?sa ?nN ?nL ?nH ?mkC ?keC ?aI ?iI ?lI ?cI ?kI ?nI ?aP0 ?bP0 ?tP0 ?uP0 ?lP0 ?cP0 ?kP0 ?aP1 ?bP1 ?tP1 ?uP1 ?lP1 ?cP1 ?kP1 ?aP2 ?bP2 ?tP2 ?uP2 ?lP2 ?cP2 ?kP2 ?rdC ?gaC ?aM0 ?uM0 ?fM0 ?lM0 ?cM0 ?kM0 ?aR ?iR ?lR ?cR ?kR ?e1 ?e2 ?e3 ?e4 ?tCE ?e_route ?aZ ?pgZ ?hdZ ?poZ ?saZ ?zRu ?zWo ?zSt ?zCo ?zMa ?zOn ?zSe ?zOg ?zVi ?zWa ?zEn ?zBa ?mkZ ?keZ ?aQI ?iQI ?lQI ?cQI ?kQI ?aWt ?iWt ?lWt ?cWt ?kWt ?aEg ?iEg ?lEg ?cEg ?kEg ?aUs ?iUs ?lUs ?cUs ?kUs ?aGo ?iGo ?lGo ?cGo ?kGo ?aAl ?iAl ?lAl ?cAl ?kAl ?aPa ?iPa ?lPa ?cPa ?kPa ?aLp ?iLp ?lLp ?cLp ?kLp ?aLs ?iLs ?lLs ?cLs ?kLs ?aWy ?iWy ?lWy ?cWy ?kWy ?aNt ?iNt ?lNt ?cNt ?kNt ?aTb ?iTb ?lTb ?cTb ?kTb ?aS ?tS ?hS ?cg ?ct ?aX0 ?xX0 ?saX0 ?gaX0 ?ggX0 ?nfX0 ?iiX0 ?tiX0 ?lX0 ?cX0 ?kX0 ?kCX0 ?eCX0 ?tCX0 ?hCX0 ?sCX0 ?sSX0 ?ccX0 ?moX0 ?aX1 ?xX1 ?saX1 ?gaX1 ?ggX1 ?nfX1 ?iiX1 ?tiX1 ?lX1 ?cX1 ?kX1 ?kCX1 ?eCX1 ?tCX1 ?hCX1 ?sCX1 ?sSX1 ?ccX1 ?moX1 ?aX2 ?xX2 ?saX2 ?gaX2 ?ggX2 ?nfX2 ?iiX2 ?tiX2 ?lX2 ?cX2 ?kX2 ?kCX2 ?eCX2 ?tCX2 ?hCX2 ?sCX2 ?sSX2 ?ccX2 ?moX2 ?aY0 ?xY0 ?saY0 ?gaY0 ?ggY0 ?nfY0 ?iiY0 ?tiY0 ?lY0 ?cY0 ?kY0 ?kCY0 ?ccY0 ?n10 ?n20 ?n21 ?aL ?lL ?ckL ?kL
    (case d_is_whole => refine' SE.def_mk KX G ?a ?l ?c ?k; (case a => k_is); (case l => k_is); (case c => k_is); (case k => k_is))
    (case d_is_between => refine' SE.def_mk KX G ?a ?l ?c ?k; (case a => k_is); (case l => k_is); (case c => k_is); (case k => k_is))
    (case d_check_between => refine' SE.def_mk KX G ?a ?l ?c ?k; (case a => k_is); (case l => k_is); (case c => k_is); (case k => k_is))
    (case d_is_item => refine' SE.def_mk KX G ?a ?l ?c ?k; (case a => k_is); (case l => k_is); (case c => k_is); (case k => k_is))
    (case d_is_word => refine' SE.def_mk KX G ?a ?l ?c ?k; (case a => k_is); (case l => k_is); (case c => k_is); (case k => k_is))
    (case d_check_word => refine' SE.def_mk KX G ?a ?l ?c ?k; (case a => k_is); (case l => k_is); (case c => k_is); (case k => k_is))
    (case d_least_peak => refine' SE.def_mk KX G ?a ?l ?c ?k; (case a => k_is); (case l => k_is); (case c => k_is); (case k => k_is))
    (case d_has_at_most => refine' SE.def_mk KX G ?a ?l ?c ?k; (case a => k_is); (case l => k_is); (case c => k_is); (case k => k_is))
    (case d_is_block => refine' SE.def_mk KX G ?a ?l ?c ?k; (case a => k_is); (case l => k_is); (case c => k_is); (case k => k_is))
    (case d_are_blocks => refine' SE.def_mk KX G ?a ?l ?c ?k; (case a => k_is); (case l => k_is); (case c => k_is); (case k => k_is))
    (case d_check_blocks => refine' SE.def_mk KX G ?a ?l ?c ?k; (case a => k_is); (case l => k_is); (case c => k_is); (case k => k_is))
    (case d_check_stack => refine' SE.def_mk KX G ?a ?l ?c ?k; (case a => k_is); (case l => k_is); (case c => k_is); (case k => k_is))
    (case d_check_search => refine' SE.def_mk KX G ?a ?l ?c ?k; (case a => k_is); (case l => k_is); (case c => k_is); (case k => k_is))
    (case d_rules_of => refine' SE.def_mk KX G ?a ?l ?c ?k; (case a => k_is); (case l => k_is); (case c => k_is); (case k => k_is))
    (case d_goal_search => refine' SE.def_mk KX G ?a ?l ?c ?k; (case a => k_is); (case l => k_is); (case c => k_is); (case k => k_is))
    (case d_reach => refine' SE.def_mk KX G ?a ?l ?c ?k; (case a => k_is); (case l => k_is); (case c => k_is); (case k => k_is))
    (case d_is_table => refine' SE.def_mk KX G ?a ?l ?c ?k; (case a => k_is); (case l => k_is); (case c => k_is); (case k => k_is))
    (case d_check => refine' SE.def_mk KX G ?a ?l ?c ?k; (case a => k_is); (case l => k_is); (case c => k_is); (case k => k_is))
    (case d_is_reachable => refine' SE.def_mk KX G ?a ?l ?c ?k; (case a => k_is); (case l => k_is); (case c => k_is); (case k => k_is))
    (case d_least_blocks => refine' SE.def_mk KX G ?a ?l ?c ?k; (case a => k_is); (case l => k_is); (case c => k_is); (case k => k_is))
    (case d__law_pool => refine' SE.def_mk KX G ?a ?l ?c ?k; (case a => k_is); (case l => k_is); (case c => k_is); (case k => k_is))
    (case d__law_take => refine' SE.def_mk KX G ?a ?l ?c ?k; (case a => k_is); (case l => k_is); (case c => k_is); (case k => k_is))
    (case d__law_bad_blocks => refine' SE.def_mk KX G ?a ?l ?c ?k; (case a => k_is); (case l => k_is); (case c => k_is); (case k => k_is))
    (case d__law_raised => refine' SE.def_mk KX G ?a ?l ?c ?k; (case a => k_is); (case l => k_is); (case c => k_is); (case k => k_is))
    (case z_isinstance => k_is)
    (case z_str => k_is)
    (case z_len => k_is)
    (case z_all => k_is)
    (case z_tuple => k_is)
    (case z_list => k_is)
    (case z_enumerate => k_is)
    (case z_range => k_is)
    (case z_abs => k_is)
    (case z_int => k_is)
    (case z_bool => k_is)
    (case z_max => k_is)
    (case z_min => k_is)
    (case z_repr => k_is)
    (case z_sorted => k_is)
    (case z_dict => k_is)
    (case cL => k_is)
    (case cM => k_is)
    (case cS => k_is)
    (case cB => k_is)
    (case cBI => k_is)
    (case cSI => k_is)
    (case cNA => k_is)
    (case cO => k_is)
    (case lO => k_is)
    (case kO => exact ⟨⟨_, _, rfl, rfl⟩, ⟨_, _, rfl, rfl⟩, trivial⟩)
    (case wO => rfl)
    (case pO => k_is)
    (case qO => k_is)
    (case rP => exact ⟨_, rfl⟩)
    (case rQ => exact ⟨_, rfl⟩)
    (case aC => k_is)
    (case pg => k_is)
    (case hd => k_is)
    (case po => k_is)
    (case sa => k_is)
    (case nN => k_is)
    (case nL => k_is)
    (case nH => k_is)
    (case mkC => k_is)
    (case keC => k_is)
    (case aI => k_is)
    (case iI => k_is)
    (case lI => k_is)
    (case cI => k_is)
    (case kI => k_is)
    (case nI => k_is)
    (case aP0 => k_is)
    (case bP0 => k_is)
    (case tP0 => k_is)
    (case uP0 => k_is)
    (case lP0 => k_is)
    (case cP0 => k_is)
    (case kP0 => k_is)
    (case aP1 => k_is)
    (case bP1 => k_is)
    (case tP1 => k_is)
    (case uP1 => k_is)
    (case lP1 => k_is)
    (case cP1 => k_is)
    (case kP1 => k_is)
    (case aP2 => k_is)
    (case bP2 => k_is)
    (case tP2 => k_is)
    (case uP2 => k_is)
    (case lP2 => k_is)
    (case cP2 => k_is)
    (case kP2 => k_is)
    (case rdC => k_is)
    (case gaC => k_is)
    (case aM0 => k_is)
    (case uM0 => k_is)
    (case fM0 => k_is)
    (case lM0 => k_is)
    (case cM0 => k_is)
    (case kM0 => k_is)
    (case aR => k_is)
    (case iR => k_is)
    (case lR => k_is)
    (case cR => k_is)
    (case kR => k_is)
    (case e1 => k_is)
    (case e2 => k_is)
    (case e3 => k_is)
    (case e4 => k_is)
    (case tCE => k_is)
    (case e_route => refine' SE.defki_mk KX G ?a ?l ?c ?k ?n; (case a => k_is); (case l => k_is); (case c => k_is); (case k => k_is); (case n => k_is))
    (case aZ => k_is)
    (case pgZ => k_is)
    (case hdZ => k_is)
    (case poZ => k_is)
    (case saZ => k_is)
    (case zRu => k_is)
    (case zWo => k_is)
    (case zSt => k_is)
    (case zCo => k_is)
    (case zMa => k_is)
    (case zOn => k_is)
    (case zSe => k_is)
    (case zOg => k_is)
    (case zVi => k_is)
    (case zWa => k_is)
    (case zEn => k_is)
    (case zBa => k_is)
    (case mkZ => k_is)
    (case keZ => k_is)
    (case aQI => k_is)
    (case iQI => k_is)
    (case lQI => k_is)
    (case cQI => k_is)
    (case kQI => k_is)
    (case aWt => k_is)
    (case iWt => k_is)
    (case lWt => k_is)
    (case cWt => k_is)
    (case kWt => k_is)
    (case aEg => k_is)
    (case iEg => k_is)
    (case lEg => k_is)
    (case cEg => k_is)
    (case kEg => k_is)
    (case aUs => k_is)
    (case iUs => k_is)
    (case lUs => k_is)
    (case cUs => k_is)
    (case kUs => k_is)
    (case aGo => k_is)
    (case iGo => k_is)
    (case lGo => k_is)
    (case cGo => k_is)
    (case kGo => k_is)
    (case aAl => k_is)
    (case iAl => k_is)
    (case lAl => k_is)
    (case cAl => k_is)
    (case kAl => k_is)
    (case aPa => k_is)
    (case iPa => k_is)
    (case lPa => k_is)
    (case cPa => k_is)
    (case kPa => k_is)
    (case aLp => k_is)
    (case iLp => k_is)
    (case lLp => k_is)
    (case cLp => k_is)
    (case kLp => k_is)
    (case aLs => k_is)
    (case iLs => k_is)
    (case lLs => k_is)
    (case cLs => k_is)
    (case kLs => k_is)
    (case aWy => k_is)
    (case iWy => k_is)
    (case lWy => k_is)
    (case cWy => k_is)
    (case kWy => k_is)
    (case aNt => k_is)
    (case iNt => k_is)
    (case lNt => k_is)
    (case cNt => k_is)
    (case kNt => k_is)
    (case aTb => k_is)
    (case iTb => k_is)
    (case lTb => k_is)
    (case cTb => k_is)
    (case kTb => k_is)
    (case aS => k_is)
    (case tS => k_is)
    (case hS => k_is)
    (case cg => k_is)
    (case ct => k_is)
    (case aX0 => k_is)
    (case xX0 => k_is)
    (case saX0 => k_is)
    (case gaX0 => k_is)
    (case ggX0 => k_is)
    (case nfX0 => k_is)
    (case iiX0 => k_is)
    (case tiX0 => k_is)
    (case lX0 => k_is)
    (case cX0 => k_is)
    (case kX0 => k_is)
    (case kCX0 => k_is)
    (case eCX0 => k_is)
    (case tCX0 => k_is)
    (case hCX0 => k_is)
    (case sCX0 => first | rfl | k_is)
    (case sSX0 => first | rfl | k_is)
    (case ccX0 => k_is)
    (case moX0 => k_is)
    (case aX1 => k_is)
    (case xX1 => k_is)
    (case saX1 => k_is)
    (case gaX1 => k_is)
    (case ggX1 => k_is)
    (case nfX1 => k_is)
    (case iiX1 => k_is)
    (case tiX1 => k_is)
    (case lX1 => k_is)
    (case cX1 => k_is)
    (case kX1 => k_is)
    (case kCX1 => k_is)
    (case eCX1 => k_is)
    (case tCX1 => k_is)
    (case hCX1 => k_is)
    (case sCX1 => first | rfl | k_is)
    (case sSX1 => first | rfl | k_is)
    (case ccX1 => k_is)
    (case moX1 => k_is)
    (case aX2 => k_is)
    (case xX2 => k_is)
    (case saX2 => k_is)
    (case gaX2 => k_is)
    (case ggX2 => k_is)
    (case nfX2 => k_is)
    (case iiX2 => k_is)
    (case tiX2 => k_is)
    (case lX2 => k_is)
    (case cX2 => k_is)
    (case kX2 => k_is)
    (case kCX2 => k_is)
    (case eCX2 => k_is)
    (case tCX2 => k_is)
    (case hCX2 => k_is)
    (case sCX2 => first | rfl | k_is)
    (case sSX2 => first | rfl | k_is)
    (case ccX2 => k_is)
    (case moX2 => k_is)
    (case aY0 => k_is)
    (case xY0 => k_is)
    (case saY0 => k_is)
    (case gaY0 => k_is)
    (case ggY0 => k_is)
    (case nfY0 => k_is)
    (case iiY0 => k_is)
    (case tiY0 => k_is)
    (case lY0 => k_is)
    (case cY0 => k_is)
    (case kY0 => k_is)
    (case kCY0 => k_is)
    (case ccY0 => k_is)
    (case n10 => k_is)
    (case n20 => k_is)
    (case n21 => k_is)
    (case aL => k_is)
    (case lL => k_is)
    (case ckL => k_is)
    (case kL => k_is)
