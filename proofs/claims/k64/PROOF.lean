import PyProof.Rows.All
import Wide.All
import OpenK.AllK
import Wide.FinOn
import PyProof.EqAt
import PyProof.EqKinds
import PyProof.TupleCall
import HandS.Base
import HandS.Call
import HandS.List
import HandS.Ends
import HandS.Words
import HandS.Comp
import HandS.Dict
import HandS.Iter
import HandS.Text
import HandS.WordsList
import HandS.Defaults
import PyProof.EnumMake
import PyProof.Draws
import KE.GoesMore
import KE.KRevSl
import PyProof.ReprLen
import PyProof.ReprText
import HandS.More
import HandS.Evl
import HandS.Walk
import HandS.IsInst
import HandS.TupAny
import HandS.Style
import HandS.SetKeys
import HandS.DictComp
import HandS.Exc
import HandS.ExcOwn
import HandS.ExcInit
import HandS.ExcField
import HandS.ExcIs
import HandS.WordsExc
import KE.KExcIs
import HandS.GenBody
import HandS.GenYield
import HandS.GenCall
import HandS.GenList
import PyProof.GenComp
import HandS.MakeKwOnly
import HandS.ClsMeth
import PyProof.ExcBaseAll.ValueError
import PyProof.ExcBaseAll.LookupError
import PyProof.ExcBaseAll.RuntimeError
import PyProof.ExcBaseAll.OverflowError
import HandS.Star
import HandS.SlotsOwn
import HandS.NamedTupGet
import KE.KAssignIn
import KE.KParD
import PyProof.DictDisplay
import KE.KSuper
import PyProof.InstEq
import KE.KFmtOwn
import HandS.OwnEq
import HandS.FStr
import PyProof.ReprNest
import PyProof.ReprRoads
import HandS.Deep
import PyProof.ReprDict
import PyProof.CallFns
import HandS.Zip
import HandS.Set
import HandS.Strs
import HandS.TryMany
import HandS.Property
import PySem.Challenge.RW_stackeffect_k64_sessions_refuse
set_option Elab.async false
set_option linter.all false
set_option maxRecDepth 100000
set_option maxHeartbeats 4000000
/-! Defs called where no repr is under way: their promise (GOk), their call, the law's head, and repr of plain data. -/
namespace SE
open PySem PySem.Spec PyProof.Rows L2

/-- the promise of a def whose caller has no repr under way -/
structure GOk (P : Program) (w : World) (K : PySem.W.Frag) (mg : Str → Option Value) (base : Heap) (k : Nat) (f : Addr) (fd : FuncData) (ps : List Str) (sp : Sp) : Prop where
  len : ∀ xs H Q E, sp xs H Q E → xs.length = ps.length
  run : ∀ (A : Around) (out : List Env) (s : Shared) (H : Hp) (args : Args) (us : List Value) (xs : List V) (Q : VK) (E : XK), A.guards = some [] → Room k A → Env0 P w K mg base A out s H →
    BindsTo s fd args (ps.zip us) → Vals xs us → sp xs H Q E → codeAny (model P w) A (.call (.ref f) args) (CR (fun _ _ _ _ _ _ => False) out P w H s Q E) s

section
variable {P : Program} {w : World} {K : PySem.W.Frag} {mg : Str → Option Value} {base : Heap}
theorem gok_of {k : Nat} {f : Addr} {nm ql : Str} {pars : Arguments} {bd : List Stmt} {sc : Scope} {dV kV doc pm cv ct oc : Value} {an od : Option Addr}
    {osl : Array (Option Value)} {N ps : List Str} {sp : Sp} (look : K.lookup f = some ⟨oc, od, .func (PySem.W.fnOf nm ql pars bd sc dV kV doc pm an cv ct), osl⟩) (hcode : PySem.W.codeIn K cv ql = true) (S : FnScope N ps sc)
    (len : ∀ xs H Q E, sp xs H Q E → xs.length = ps.length)
    (hbd : ∀ (A : Around) (out : List Env) (s : Shared) (H : Hp) (xs : List V) (Q : VK) (E : XK), A.guards = some [] → Room k (A.deeper (envOfC ql sc s.heap.objs.size f cv)) → sp xs H Q E →
      ∃ t, PSs (cxOf (fun _ _ _ _ _ _ => False) P w K mg base N ql sc f cv A out s H E) bd t ∧ t { nx := fun _ H2 => Q .non H2, rt := Q } (start N xs) H) :
    GOk P w K mg base (k + 1) f (PySem.W.fnOf nm ql pars bd sc dV kV doc pm an cv ct) ps sp := by
  constructor
  · exact len
  intro A out s H args us xs Q E hgu hroom env hbind hvals hpre
  have hlen := len _ _ _ _ hpre
  have kin : K.In s.heap := env.mod.kin.keeps fun b o z => (env.bs b o z).1
  have nolim : s.heap.NoLimit := env.mod.nolimit.keeps fun b o z => (env.bs b o z).1
  have kinds : ∀ y ∈ ps.zip us, sc.names.lookup y.1 = some .local ∨ (sc.names.lookup y.1 = some .cell ∧ ((cellsFrom (s.heap.objs.size + 1) sc.names []).lookup y.1).isSome = true) := by
    rintro ⟨n, v⟩ hy
    rcases S.par n (List.of_mem_zip hy).1 with q | q
    · exact .inl q
    · exact .inr ⟨q, PySem.W.cellsFrom_some _ _ _ (.inl q)⟩
  apply codeAny_call_function hroom.depth (kin _ _ look) rfl S.co S.gen rfl (PySem.W.codeRec_of kin hcode)
  apply hbind
  refine wpAny_newFunctionEnv_cells S.kind kinds fun ev hev s2 inc => ?_
  subst hev
  refine ⟨nolim.keeps inc.toInCall.keep, codeAny_func ?_⟩
  obtain ⟨t, der, rd⟩ := hbd A out s H xs Q E hgu (hroom.deeper _) hpre
  have J0 : Inv (cxOf (fun _ _ _ _ _ _ => False) P w K mg base N ql sc f cv A out s H E) [] (start N xs) H s2 := inv_start S hroom.hd env hlen hvals inc
  refine wpAny_mono (der.run [] s2 (start N xs) H _ J0 rd) (fun fl s3 hs => ?_) fun e s3 hs => hs
  cases fl with
  | ret u =>
    obtain ⟨v, σ3, H3, J, rv, q⟩ := hs
    exact ⟨v, H3, J.os, J.bare, J.base, J.hok, rv, q⟩
  | next =>
    obtain ⟨σ3, H3, J, q⟩ := hs
    exact ⟨V.non, H3, J.os, J.bare, J.base, J.hok, rfl, q⟩
  | brk => exact hs.elim fun _ z => z.elim fun _ z => z.2.elim
  | cont => exact hs.elim fun _ z => z.elim fun _ z => z.2.elim
theorem gok_mk {x ql : Str} {st : Stmt} {f : Addr} {fd : FuncData} {N ps : List Str} {k : Nat} {sp : Sp} (F : Fun K x ql st f fd) (S : FnScope N ps (defScope st)) (len : ∀ xs H Q E, sp xs H Q E → xs.length = ps.length)
    (hbd : ∀ (cv : Value) (A : Around) (out : List Env) (s : Shared) (H : Hp) (xs : List V) (Q : VK) (E : XK), A.guards = some [] → Room k (A.deeper (envOfC ql (defScope st) s.heap.objs.size f cv)) → sp xs H Q E →
      ∃ t, PSs (cxOf CX0 P w K mg base N ql (defScope st) f cv A out s H E).nox (defBody st) t ∧ t { nx := fun _ H2 => Q .non H2, rt := Q } (start N xs) H) : GOk P w K mg base (k + 1) f fd ps sp := by
  obtain ⟨oc, od, kV, doc, pm, an, cv, ct, osl, rfl, look, hcode⟩ := F.ex
  refine gok_of look hcode S len fun A out s H xs Q E hgu hr hpre => ?_
  obtain ⟨t, a, b⟩ := hbd cv A out s H xs Q E hgu hr hpre
  exact ⟨t, a.nox, b⟩
end

section
variable {X : Cx} {k : Nat} {f : Addr} {fd : FuncData} {ps : List Str} {sp : Sp} {x : Str} {p pos : Pos} {e : Expr} {es : List Expr} {t : TA}
theorem pe_callG (F : GOk X.prog X.w X.K X.mg X.base k f fd ps sp) (hgu : X.A.guards = some []) (hr : Room k X.A) (hg : Gl X x) (hm : X.mg x = some (.ref f)) (hk : PySem.W.keepIn X.K (.ref f) = true) (hb : Binds X.K fd ps [])
    (ha : PA X (e :: es) t) (hdb : (x == ("__debug__" : Str)) = false := by decide) (he : starEach (e :: es) X.env = (false, eval e X.env) :: starEach es X.env := by rfl) (hpl : (backTo pos (starEach es X.env)).any (·.1) = false := by rfl) :
    PE X (.Call (.Name x p) (e :: es) [] pos) (tCall sp [] (fun _ _ _ => False) t) := by
  constructor
  intro pins s σ H Q I h
  apply wpAny_Call_Name_kw
  apply ld_glob I hg hm _ hdb
  refine PySem.W.callWith_K (h₀ := X.base) I.ok.mod.kin hk (thn (ha.run pos pins s σ H _ I h) fun us s1 hh => ?_) he hpl
  obtain ⟨xs, H1, I1, r, q⟩ := hh
  refine ⟨I1.kIn, ?_⟩
  have q' : sp xs H1 Q (fun _ _ _ => False) := by rw [List.append_nil] at q; exact q
  have hl : us.length = ps.length := by rw [← r.length]; exact F.len _ _ _ _ q'
  have hb' := hb s1 us I1.kIn (by rw [List.append_nil]; exact hl)
  rw [List.append_nil] at hb'
  refine wpAny_call (codeAny_mono (F.run X.A X.stack s1 H1 ⟨us, []⟩ us xs Q _ hgu hr I1.env0 hb' r q') fun r2 s2 hq => ?_)
  cases r2 with
  | error _ => exact hq.elim
  | ok fl =>
    cases fl with
    | ret _ => exact I1.after hq
    | next => exact hq.elim
    | brk => exact hq.elim
    | cont => exact hq.elim
end

section
variable {X : Cx}
/-- repr(x), x plain data -/
def rRep (K : PySem.W.Frag) : List V → Hp → VK → Prop := fun xs H Q => ∃ (x : V) (d : PyData), xs = [x] ∧ Dp K H x d ∧ (∃ a, x = .ref a) ∧ d.showable = true ∧ d.hasDict = false ∧ d.depth ≤ 20 ∧ d.shown.length ≤ sizeLine ∧ Q (.str d.shown) H
theorem call_rep (hgu : X.A.guards = some []) (hu : X.A.units + 64 < cLine) : CallR X (.builtin "repr") (rRep X.K) := by
  intro pins s σ H xs us Q I r h
  obtain ⟨x, d, rfl, hd, ⟨a, rfl⟩, hs, hn, hdep, hz, q⟩ := h
  cases r with
  | cons r1 r2 =>
    cases r2
    cases r1
    obtain ⟨as, rd⟩ := Dp.reads I d (.ref a) (.ref a) hd rfl
    refine repr_of_reads' rd hs (PyData.noDict_hsm hn) hgu (by omega) (fun _ _ z => z) (fun h' u tk hk => ?_) hz
    exact ⟨.str d.shown, H, I.kept (t' := tk) hk, ⟨_, rfl⟩, q⟩
end
/-! ### the law's head -/
theorem lawG {P : Program} {w : World} {K : PySem.W.Frag} {mg mb : Str → Option Value} {k : Nat} {fa a : Addr} {fd : FuncData} {x : Str} {sp : Sp} {s1 : Shared} {vs : List Value} {ns : List Int}
    (kin : K.In s1.heap) (hns : s1.heap.Ns mainGlobals mg) (hbn : s1.heap.Ns builtinsNs mb) (hbb : ∀ x : Str, x ≠ "__name__" → mb x = bootBuiltins x) (nolim : s1.heap.NoLimit) (hg : s1.gens = #[])
    (hobj : s1.heap.get? a = some { cls := .type "list", data := .seq vs.toArray }) (hi : IntsAre vs ns) (hz : ns.length ≤ sizeLine) (hr : Room k callerA)
    (F : ∀ base : Heap, K.In base → base.Ns mainGlobals mg → GOk P w K mg base k fa fd [x] sp) (hbind : ∀ (s : Shared) (u : Value), BindsTo s fd ⟨[u], []⟩ [(x, u)])
    (hsp : ∀ H : Hp, SqL K H a (ns.map V.int) → sp [.ref a] H (fun v _ => v = .bl true) fun _ _ _ => False) :
    codeAny (model P w) callerA (.call (.ref fa) ⟨[.ref a], []⟩) (fun r s2 => r = .ok (.ret (.bool true)) ∧ OldK s1.heap s2.heap ∧ s2.os = s1.os ∧ AllBare s2.gens) s1 := by
  have rel := vals_ints hi
  have same := hi.length
  have go : ∀ H : Hp, (∀ b u, H b = some u → b = a ∧ K.lookup a = none ∧ ∃ o xs, u = .frz o (.lst xs)) → SqL K H a (ns.map V.int) → HOk P w H s1.heap →
      codeAny (model P w) callerA (.call (.ref fa) ⟨[.ref a], []⟩) (fun r s2 => r = .ok (.ret (.bool true)) ∧ OldK s1.heap s2.heap ∧ s2.os = s1.os ∧ AllBare s2.gens) s1 := by
    intro H only hS hok
    have free : ∀ {b : Addr}, b ≠ a → H b = none := fun {b} hb => by
      cases q : H b with
      | none => rfl
      | some u => exact absurd (only b u q).1 hb
    have freeD : ∀ {b : Addr} {o : Obj} {es : Array DictEntry} {ep : Nat}, s1.heap.get? b = some o → o.data = .dict es ep → H b = none := fun {b o es ep} e d => by
      by_cases hb : b = a
      · subst hb
        rw [hobj] at e
        cases e
        cases d
      · exact free hb
    have ns2 : ∀ {b : Addr} {m : Str → Option Value}, s1.heap.Ns b m → (hidT s1.heap H).Ns b m := by
      rintro b m ⟨o, es, ep, e, d, r⟩
      exact ⟨o, es, ep, hidT_get e (freeD e d), d, r⟩
    have kin2 : K.In (hidT s1.heap H) := by
      intro b o e
      refine hidT_get (kin b o e) ?_
      cases q : H b with
      | none => rfl
      | some u =>
        obtain ⟨eb, nk, _⟩ := only b u q
        subst eb
        rw [nk] at e
        cases e
    have mod : Mod K mg (hidT s1.heap H) := by
      refine ⟨kin2, ns2 hns, ⟨mb, ns2 hbn, hbb⟩, ?_⟩
      obtain ⟨mc, h1, h2⟩ := nolim
      exact ⟨mc, ns2 h1, h2⟩
    have env : Env0 P w K mg (hidT s1.heap H) callerA [] s1 H :=
      ⟨rfl, mod, fun b o e => of_hidT e, Nat.le_of_eq (hidT_size _ _), trivial, fun b hb => (by cases (show b ∈ ([] : List Addr) from hb)), hok, .of_eq hg⟩
    have runs := (F _ kin2 (ns2 hns)).run callerA [] s1 H ⟨[.ref a], []⟩ [.ref a] [.ref a] (fun v _ => v = .bl true) (fun _ _ _ => False) rfl hr env (hbind s1 (.ref a)) (.cons rfl .nil) (hsp H hS)
    refine codeAny_mono runs fun r s2 h => ?_
    cases r with
    | error _ => exact h.elim
    | ok fl =>
      cases fl with
      | next => exact h.elim
      | brk => exact h.elim
      | cont => exact h.elim
      | ret u =>
        obtain ⟨v, H2, os, bare, un, hok2, r2, q⟩ := h
        have q2 : v = .bl true := q
        subst q2
        obtain rfl : u = Value.bool true := r2
        refine ⟨rfl, OldK.of_keep fun b o e => ?_, os, bare⟩
        cases z : H b with
        | none => exact un.keep b o e z (fun m => by cases (show b ∈ ([] : List Addr) from m)) (fun m => by cases m)
        | some u2 =>
          obtain ⟨_, _, ob, ys, eu⟩ := only b u2 z
          subst eu
          obtain ⟨e1, _⟩ := hok b _ z
          obtain ⟨e2, _⟩ := hok2 b _ (un.frzs b ob _ z)
          rw [e] at e1
          cases e1
          exact e2
  cases hk : K.lookup a with
  | some o =>
    have e := kin a o hk
    rw [hobj] at e
    cases e
    refine go (fun _ => none) (fun b u z => nomatch z) (.inr ⟨_, vs.toArray, _, hk, rfl, rfl, rfl, by rw [List.size_toArray, same]; exact hz, by simpa using rel⟩) (fun b u z => nomatch z)
  | none =>
    have at1 : ∀ {b : Addr} {u : HO}, (if b = a then some (HO.frz { cls := .type "list", data := .seq vs.toArray } (.lst (ns.map V.int))) else none) = some u → b = a ∧ u = .frz { cls := .type "list", data := .seq vs.toArray } (.lst (ns.map V.int)) := fun {b u} z => by
      by_cases hb : b = a
      · rw [if_pos hb] at z
        cases z
        exact ⟨hb, rfl⟩
      · rw [if_neg hb] at z
        cases z
    refine go (fun b => if b = a then some (.frz { cls := .type "list", data := .seq vs.toArray } (.lst (ns.map V.int))) else none) (fun b u z => ?_) (.inl (.inr ⟨{ cls := .type "list", data := .seq vs.toArray }, if_pos rfl⟩)) (fun b u z => ?_)
    · obtain ⟨e1, e2⟩ := at1 z
      exact ⟨e1, hk, _, _, e2⟩
    · obtain ⟨e1, e2⟩ := at1 z
      subst e1
      subst e2
      exact ⟨hobj, by rw [List.length_map]; exact hz, vs, _, rel, hobj⟩
theorem walkG {l : PySem.W.OpenLaw} {n k : Nat} {q : Program} {loose : List Str} {XP : (Str → Option Value) → Heap → Prop} {YP : World → Heap → Prop} {d : DefRec} {K : Params → PySem.W.Frag} {sp : PySem.W.Frag → Sp} {x : Str}
    (hn : l.most = some n) (hn2 : n ≤ sizeLine) (hdf : d.params.defaults = []) (hr : Room k callerA) (hY : ∀ (w : World) (h : Heap), YP w h → (K w.params).In h)
    (F : ∀ (w : World) (mg : Str → Option Value) (fa : Addr) (h : Heap), (K w.params).In h → h.Ns mainGlobals mg → mg d.name = some (.ref fa) →
      ∃ fd : FuncData, (∀ (s : Shared) (u : Value), BindsTo s fd ⟨[u], []⟩ [(x, u)]) ∧ ∀ base : Heap, (K w.params).In base → base.Ns mainGlobals mg → GOk l.prog w (K w.params) mg base k fa fd [x] (sp (K w.params)))
    (hsp : ∀ (K : PySem.W.Frag) (H : Hp) (a : Addr) (ns : List Int), ns.length ≤ n → SqL K H a (ns.map V.int) → sp K [.ref a] H (fun v _ => v = .bl true) fun _ _ _ => False) :
    PySem.W.WalkO q loose XP YP l.row.toRowW d [] (fun f vs => PySem.call f vs) := by
  apply Att.attach_call hn hdf
  intro w s0 s1 mg mb fa o pm cd doc a vs ns G Y ho hd hcd hmg hobj hints hlen hg
  have kin := hY w _ Y
  obtain ⟨fd, hb, hF⟩ := F w mg fa _ kin G.T.g hmg
  exact lawG kin G.T.g G.T.b G.T.builtins G.T.nolimit hg hobj hints (Nat.le_trans hlen hn2) hr hF hb fun H hS => hsp _ H a ns hlen hS
end SE
/-! Defs by their names. -/
namespace SE
open PySem PySem.Spec PyProof.Rows L2
section
variable {P : Program} {w : World} {K : PySem.W.Frag} {mg : Str → Option Value} {base : Heap}
/-- the def st stands under its name -/
def Def (K : PySem.W.Frag) (mg : Str → Option Value) (x : Str) (st : Stmt) : Prop := ∃ f fd, Fun K x x st f fd ∧ mg x = some (.ref f)
/-- a def that keeps the promise sp stands under the name x; dvs: the values of its defaults -/
def Has (P : Program) (w : World) (K : PySem.W.Frag) (mg : Str → Option Value) (base : Heap) (x : Str) (k : Nat) (ps : List Str) (dvs : List V) (sp : Sp) : Prop :=
  ∃ f fd ds, FnOk P w K mg base CX0 k f fd ps sp ∧ mg x = some (.ref f) ∧ PySem.W.keepIn K (.ref f) = true ∧ Binds K fd ps ds ∧ Vals dvs ds ∧ ∃ st, Fun K x x st f fd
def GHas (P : Program) (w : World) (K : PySem.W.Frag) (mg : Str → Option Value) (base : Heap) (x : Str) (k : Nat) (ps : List Str) (sp : Sp) : Prop :=
  ∃ f fd, GOk P w K mg base k f fd ps sp ∧ mg x = some (.ref f) ∧ PySem.W.keepIn K (.ref f) = true ∧ Binds K fd ps []
abbrev Bx (P : Program) (w : World) (K : PySem.W.Frag) (mg : Str → Option Value) (base : Heap) (N : List Str) (x : Str) (st : Stmt) (f : Addr) (cv : Value) (A : Around) (out : List Env) (s : Shared) (H : Hp) (E : XK) : Cx :=
  (cxOf CX0 P w K mg base N x (defScope st) f cv A out s H E).nox
theorem has_of {x : Str} {st : Stmt} {N ps : List Str} {k : Nat} {sp : Sp} (D : Def K mg x st) (S : FnScope N ps (defScope st))
    (hb : ∀ (kV doc pm : Value) (an : Option Addr) (cv ct : Value) (us : List Value), us.length = ps.length → bindArgs (PySem.W.fnOf x x (defArgs st) (defBody st) (defScope st) .none kV doc pm an cv ct) ⟨us, []⟩ = pure (ps.zip us))
    (len : ∀ xs H Q E, sp xs H Q E → xs.length = ps.length)
    (hbd : ∀ (f : Addr) (cv : Value) (A : Around) (out : List Env) (s : Shared) (H : Hp) (xs : List V) (Q : VK) (E : XK), Room k (A.deeper (envOfC x (defScope st) s.heap.objs.size f cv)) → sp xs H Q E →
      ∃ t, PSs (Bx P w K mg base N x st f cv A out s H E) (defBody st) t ∧ t { nx := fun _ H2 => Q .non H2, rt := Q } (start N xs) H) : Has P w K mg base x (k + 1) ps [] sp := by
  obtain ⟨f, fd, F, hm⟩ := D
  exact ⟨f, fd, [], F.ok S len fun cv A out s H xs Q E hr h => hbd f cv A out s H xs Q E hr h, hm, F.kp, F.binds hb, .nil, st, F⟩
theorem ghas_of {x : Str} {st : Stmt} {N ps : List Str} {k : Nat} {sp : Sp} (D : Def K mg x st) (S : FnScope N ps (defScope st))
    (hb : ∀ (kV doc pm : Value) (an : Option Addr) (cv ct : Value) (us : List Value), us.length = ps.length → bindArgs (PySem.W.fnOf x x (defArgs st) (defBody st) (defScope st) .none kV doc pm an cv ct) ⟨us, []⟩ = pure (ps.zip us))
    (len : ∀ xs H Q E, sp xs H Q E → xs.length = ps.length)
    (hbd : ∀ (f : Addr) (cv : Value) (A : Around) (out : List Env) (s : Shared) (H : Hp) (xs : List V) (Q : VK) (E : XK), A.guards = some [] → Room k (A.deeper (envOfC x (defScope st) s.heap.objs.size f cv)) → sp xs H Q E →
      ∃ t, PSs (Bx P w K mg base N x st f cv A out s H E) (defBody st) t ∧ t { nx := fun _ H2 => Q .non H2, rt := Q } (start N xs) H) : GHas P w K mg base x (k + 1) ps sp := by
  obtain ⟨f, fd, F, hm⟩ := D
  exact ⟨f, fd, gok_mk F S len fun cv A out s H xs Q E hg hr h => hbd f cv A out s H xs Q E hg hr h, hm, F.kp, F.binds hb⟩
theorem Has.mono {x : Str} {j k : Nat} {ps : List Str} {dvs : List V} {sp : Sp} (h : Has P w K mg base x j ps dvs sp) (hk : j ≤ k) : Has P w K mg base x k ps dvs sp := by
  obtain ⟨f, fd, ds, F, r⟩ := h
  exact ⟨f, fd, ds, F.mono hk, r⟩
theorem Has.fun {x : Str} {k : Nat} {ps : List Str} {dvs : List V} {sp : Sp} {st : Stmt} (h : Has P w K mg base x k ps dvs sp) (D : Def K mg x st) : ∃ f fd, FnOk P w K mg base CX0 k f fd ps sp ∧ mg x = some (.ref f) ∧ PySem.W.keepIn K (.ref f) = true ∧ Fun K x x st f fd := by
  obtain ⟨f, fd, ds, G, hm, hk, hb, hd, st2, F2⟩ := h
  obtain ⟨g, fe, F, hg⟩ := D
  have e : f = g := by
    rw [hm] at hg
    cases hg
    rfl
  subst e
  have e2 : fd = fe := by
    obtain ⟨_, _, _, _, _, _, _, _, _, _, l1, _⟩ := F.ex
    obtain ⟨_, _, _, _, _, _, _, _, _, _, l2, _⟩ := F2.ex
    rw [l1] at l2
    cases l2
    rfl
  subst e2
  exact ⟨f, fd, G, hm, hk, F⟩
end
section
variable {X : Cx} {k : Nat} {ps : List Str} {sp : Sp} {x : Str} {p pos : Pos} {e : Expr} {es : List Expr} {t : TA} {dvs : List V}
theorem pe_has (h : Has X.prog X.w X.K X.mg X.base x k ps dvs sp) (hr : Room k X.A) (ha : PA X (e :: es) t) (hg : Gl X x := by rfl) (hdb : (x == ("__debug__" : Str)) = false := by decide)
    (he : starEach (e :: es) X.env = (false, eval e X.env) :: starEach es X.env := by rfl) (hpl : (backTo pos (starEach es X.env)).any (·.1) = false := by rfl) : PE X (.Call (.Name x p) (e :: es) [] pos) (tCall sp dvs E0 t) := by
  obtain ⟨f, fd, ds, F, hm, hk, hb, hd, _⟩ := h
  exact pe_call F hr hg hm hk hb hd pass0 ha hdb he hpl
theorem pe_ghas (h : GHas X.prog X.w X.K X.mg X.base x k ps sp) (hgu : X.A.guards = some []) (hr : Room k X.A) (ha : PA X (e :: es) t) (hg : Gl X x := by rfl) (hdb : (x == ("__debug__" : Str)) = false := by decide)
    (he : starEach (e :: es) X.env = (false, eval e X.env) :: starEach es X.env := by rfl) (hpl : (backTo pos (starEach es X.env)).any (·.1) = false := by rfl) : PE X (.Call (.Name x p) (e :: es) [] pos) (tCall sp [] E0 t) := by
  obtain ⟨f, fd, F, hm, hk, hb⟩ := h
  exact pe_callG F hgu hr hg hm hk hb ha hdb he hpl
end
/-! ### heaps -/
theorem Same.tup {K : PySem.W.Frag} {H H' : Hp} {a : Addr} {xs : List V} (e : Same H H') (h : SqT K H a xs) : SqT K H' a xs := by
  rcases h with (h | ⟨o, h⟩) | h
  · exact .inl (.inl (e _ _ h))
  · exact .inl (.inr ⟨o, e _ _ h⟩)
  · exact .inr h
theorem Same.new {H : Hp} {p : Addr} {o : HO} (h : H p = none) : Same H (upd H p o) := fun b u z => by
  rw [upd_ne (ne_of_none z h)]
  exact z
/-- all but what stands at p -/
def But (p : Addr) (H H' : Hp) : Prop := ∀ b o, b ≠ p → H b = some o → H' b = some o
theorem But.refl (p : Addr) (H : Hp) : But p H H := fun _ _ _ h => h
theorem But.trans {p : Addr} {H H1 H2 : Hp} (a : But p H H1) (b : But p H1 H2) : But p H H2 := fun c o n h => b c o n (a c o n h)
theorem But.of {p : Addr} {H H1 : Hp} (a : Same H H1) : But p H H1 := fun c o _ h => a c o h
theorem But.at {p : Addr} {H : Hp} {o : HO} : But p H (upd H p o) := fun c u n h => by
  rw [upd_ne n]
  exact h
/-- what H does not know may change -/
theorem But.free {p q : Addr} {H H1 : Hp} {o : HO} (a : But p H H1) (h : H q = none) : But p H (upd H1 q o) := fun c u n z => by
  rw [upd_ne (ne_of_none z h)]
  exact a c u n z
theorem Same.free2 {q : Addr} {H H1 : Hp} {o : HO} (a : Same H H1) (h : H q = none) : Same H (upd H1 q o) := fun c u z => by
  rw [upd_ne (ne_of_none z h)]
  exact a c u z
theorem But.none {p q : Addr} {H H1 : Hp} (a : But p H H1) (n : q ≠ p) (h : H1 q = Option.none) : H q = Option.none := by
  cases z : H q with
  | none => rfl
  | some o =>
    rw [a q o n z] at h
    cases h
/-! ### the drawn numbers -/
/-- a pool: two numbers -/
structure Pool (H : Hp) (p : Addr) : Prop where
  ex : ∃ m s : Int, H p = some (.lst [.int m, .int s]) ∧ 0 ≤ m ∧ 0 ≤ s ∧ s < 2147483647
theorem Pool.ne {H : Hp} {p t : Addr} {xs : List V} (h : Pool H p) (ht : H t = some (.tup xs)) : t ≠ p := by
  obtain ⟨m, s, e, _⟩ := h.ex
  intro z
  rw [z, e] at ht
  cases ht
theorem Pool.free {H : Hp} {p q : Addr} (h : Pool H p) (hq : H q = none) : q ≠ p := by
  obtain ⟨m, s, e, _⟩ := h.ex
  intro z
  rw [z, e] at hq
  cases hq
theorem Pool.same {H H' : Hp} {p : Addr} (h : Pool H p) (s : Same H H') : Pool H' p := by
  obtain ⟨m, n, e, r⟩ := h.ex
  exact ⟨m, n, s _ _ e, r⟩
theorem Pool.upd {H : Hp} {p q : Addr} {o : HO} (h : Pool H p) (n : q ≠ p) : Pool (L2.upd H q o) p := by
  obtain ⟨m, k, e, r⟩ := h.ex
  exact ⟨m, k, by rw [upd_ne (Ne.symm n)]; exact e, r⟩
end SE
/-! enumerate(t) and t[::-1] of a tuple. -/
namespace SE
open PySem PySem.Spec PyProof.Rows L2
section
open Sem (wp)
open AutoSeq1 (wpAny_loadPart')
theorem meets_enum_newT (t : Addr) (items : Array Value) (n : Nat) (dct : Option Addr) (sl : Array (Option Value)) :
    Meets (Builtin.«enumerate.__new__» ⟨[.type "enumerate", .ref t], []⟩) (fun _ R s => s.heap.get? t = some { cls := .type "tuple", dict := dct, data := .seq items n, slots := sl } ∧
      R (.ok (.ret (.ref (s.heap.push { cls := .type "tuple_iterator", data := .fields #[.ref t, .int 0 0] }).objs.size)))
        { s with heap := (s.heap.push { cls := .type "tuple_iterator", data := .fields #[.ref t, .int 0 0] }).push { cls := .type "enumerate", data := .fields #[.none, .bool false, .ref s.heap.objs.size, rawInt 0, .none, .none] } }) := by
  refine .of_wp fun prog w A R s h => ?_
  obtain ⟨hp, g, d, tk, os⟩ := s
  obtain ⟨ht, h⟩ := h
  have hsub := sub_enumerate
  have hT : Heap.IsTuple (Shared.heap ⟨hp, g, d, tk, os⟩) t items := ⟨_, ht, rfl, n, rfl⟩
  wp_walk using wpAny_loadPart' ht
  refine wpAny_stack_any fun st => wpAny_pure ?_
  split
  · rename_i c _ _ _ _ _
    cases (c == Value.type "enumerate")
    · wp_walk using wpAny_loadPart' ht, wpAny_pyIter_tuple hT
      exact ⟨_, rfl, h⟩
    · wp_walk using wpAny_loadPart' ht, wpAny_pyIter_tuple hT
      exact ⟨_, rfl, h⟩
  · wp_walk using wpAny_loadPart' ht, wpAny_pyIter_tuple hT
    exact ⟨_, rfl, h⟩
end
section
variable {prog : Program} {w : World} {A : Around} {E : Value → Shared → Prop} {s : Shared}
theorem call_enumT {t : Addr} {items : Array Value} {Q : Value → Shared → Prop} (hT : s.heap.IsTuple t items)
    (h : ∀ h', IsEnum h' (s.heap.objs.size + 1) s.heap.objs.size 0 .none → h'.IsTupleIter s.heap.objs.size t 0 → (∀ b o, s.heap.get? b = some o → h'.get? b = some o) → Q (.ref (s.heap.objs.size + 1)) { s with heap := h' }) :
    wpAny (model prog w) A (call (.type "enumerate") [.ref t]) Q E s := by
  obtain ⟨⟨c, dct, dt, sl⟩, ht, hc, n, hd⟩ := hT
  simp only at hc hd
  subst hc hd
  refine callType_new F.called_enumerate (by decide) (F.typeCall_enumerate_1 _) (F.newCall_enumerate_1 _) (fun obj => F.args_object_init_2 obj _) F.entry_enumerate_new (meets_enum_newT t items n dct sl) ⟨ht, ?_⟩
  have hz : (s.heap.push { cls := .type "tuple_iterator", data := .fields #[.ref t, .int 0 0] }).objs.size = s.heap.objs.size + 1 := Heap.size_push ..
  show _ ∧ _
  rw [hz]
  have he : IsEnum ((s.heap.push { cls := .type "tuple_iterator", data := .fields #[.ref t, .int 0 0] }).push
      { cls := .type "enumerate", data := .fields #[.none, .bool false, .ref s.heap.objs.size, rawInt 0, .none, .none] }) (s.heap.objs.size + 1) s.heap.objs.size 0 .none := by
    have z := Heap.get?_push_size (s.heap.push { cls := .type "tuple_iterator", data := .fields #[.ref t, .int 0 0] })
      (o := { cls := .type "enumerate", data := .fields #[.none, .bool false, .ref s.heap.objs.size, rawInt 0, .none, .none] }) rfl
    rw [hz] at z
    exact z
  exact ⟨⟨_, he, rfl⟩, h _ he ⟨_, Heap.get?_push_of_some _ (Heap.get?_push_size _ rfl), rfl, rfl⟩ fun b o x => Heap.get?_push_of_some _ (Heap.get?_push_of_some _ x)⟩
end
/-- the tuple at a, each item in a new pair -/
def ItE (K : PySem.W.Frag) (a : Addr) : It :=
  ⟨fun i H => ∃ (xs : List V) (x : V), SqT K H a xs ∧ xs[i]? = some x, fun i H v H' => ∃ T x, v = .ref T ∧ H T = none ∧ H' = upd H T (.tup [.int (i : Nat), x]) ∧ ∀ xs, SqT K H a xs → xs[i]? = some x, fun i H => ∃ xs : List V, SqT K H a xs ∧ xs.length ≤ i⟩
theorem turn_enumT {P : Program} {w : World} {K : PySem.W.Frag} {elts : List Expr} {kk : Nat} {tpos : Pos} (a e it : Addr) :
    Turn P w K (.Tuple elts kk tpos) (ItE K a) [e, it] e (fun i h => (∃ old, IsEnum h e it ((i : Nat) : Int) old) ∧ h.IsTupleIter it a i ∧ e ≠ it ∧ a ≠ it ∧ a ≠ e) where
  mem := by simp
  obj := fun i h st b hb => by
    obtain ⟨⟨old, he⟩, ⟨o, ho, hc, hd⟩, _⟩ := st
    have ee : b = e ∨ b = it := by simpa using hb
    rcases ee with z | z
    · rw [z]
      exact ⟨_, he, fun v q => nomatch q⟩
    · rw [z]
      exact ⟨o, ho, fun v q => by rw [hd] at q; cases q⟩
  keep := fun i h h' st k => by
    obtain ⟨⟨old, he⟩, hi, hne⟩ := st
    exact ⟨⟨old, k e (by simp) _ he⟩, (let ⟨o, ho, r⟩ := hi; ⟨o, k it (by simp) o ho, r⟩), hne⟩
  item := by
    intro X hP hw hK hc i pins s σ H E I hf st hg
    subst hP hw hK
    obtain ⟨⟨old, he⟩, hit, hne, hai, hae⟩ := st
    obtain ⟨xs, x, hq, hx⟩ := hg
    obtain ⟨its, rv, p, hz⟩ := I.tuple hq
    obtain ⟨u, hu, ru⟩ := rv.get hx
    have hel : e < s.heap.objs.size := Heap.lt_size he
    have hil : it < s.heap.objs.size := by
      obtain ⟨_, q, _⟩ := hit
      exact Heap.lt_size q
    have hlt : i < its.toArray.size := by
      rw [List.size_toArray, ← rv.length]
      exact (List.getElem?_eq_some_iff.mp hx).1
    have D : Draws X.prog X.w X.A.in1 it [it, a] its.toArray.size (fun j v => its.toArray[j]? = some v) (fun j h => h.IsTupleIter it a j ∧ h.IsTuple a its.toArray) := Draws.tuple (A := X.A.in1) (I.ok.hd hc) it a hai its.toArray
    refine wpAny_pyNext_enum_itemD D he ⟨hit, p⟩ hlt hne (by simp [Ne.symm hae, hne]) fun v h1 tk hv ho hit1 hT hsz hk => ?_
    have ev : v = u := by
      have z : some v = some u := by rw [← hv]; simpa using hu
      exact Option.some.inj z
    subst ev
    refine ⟨_, rfl, wpAny_letOwnedTupleGo_enum (s := { s with heap := h1, toks := tk + 1 }) ho fun h2 he2 sb => ?_⟩
    have hT2 : h2.get? s.heap.objs.size = some { cls := .type "tuple", data := .seq #[.int i tk, v] } := (sb.2 _ (Nat.ne_of_gt hel)).trans hT
    have new : ObjOk X.prog X.w (upd H s.heap.objs.size (.tup [.int (i : Nat), x])) h2 s.heap.objs.size (.tup [.int (i : Nat), x]) :=
      ⟨by show 2 ≤ sizeLine; decide, [.int i tk, v], .cons ⟨_, rfl⟩ (.cons ru .nil), ⟨_, hT2, rfl, _, rfl⟩⟩
    have J : Inv X pins σ (upd H s.heap.objs.size (.tup [.int (i : Nat), x])) { s with heap := h2, toks := tk + 1 } :=
      I.turnedNew (ch := [e, it]) (fun b ob hb q => (sb.2 b (fun z => hb (by simp [z]))).trans (hk b ob (fun z => hb (by simp [z])) (fun z => hb (by simp [z])) q)) hf (Nat.le_refl _) new
    refine ⟨.ref s.heap.objs.size, _, J, rfl, ⟨_, x, rfl, I.hok.fresh (Nat.le_refl _), rfl, fun ys hy => by rw [I.tuple_inj hy hq]; exact hx⟩, ⟨⟨v, ?_⟩, ?_, hne, hai, hae⟩, fun b hb => ?_⟩
    · have e1 : ((i + 1 : Nat) : Int) = (i : Int) + 1 := by omega
      rw [e1]
      exact he2
    · obtain ⟨o, ho2, r⟩ := hit1.1
      exact ⟨o, (sb.2 it (Ne.symm hne)).trans ho2, r⟩
    · have hb2 : b < s.heap.objs.size := by
        have ee : b = e ∨ b = it := by simpa using hb
        rcases ee with z | z
        · rw [z]; exact hel
        · rw [z]; exact hil
      rw [upd_ne (Nat.ne_of_lt hb2)]
      exact (hf b hb).1
  done := by
    intro X hP hw hK hc i pins s σ H E I hf st hg
    subst hP hw hK
    obtain ⟨⟨old, he⟩, hit, hne, hai, hae⟩ := st
    obtain ⟨xs, hq, hx⟩ := hg
    obtain ⟨its, rv, p, hz⟩ := I.tuple hq
    obtain ⟨f0, f1, f2, f3, f4, f5⟩ := hf it (by simp)
    have hl := rv.length
    have D : Draws X.prog X.w X.A.in1 it [it, a] i (fun j v => its.toArray[j]? = some v) (fun j h => j = i ∧ h.IsTupleIter it a i ∧ h.IsTuple a its.toArray ∧ its.toArray.size ≤ i) := by
      have D0 := Draws.tuple (prog := X.prog) (w := X.w) (A := X.A.in1) (I.ok.hd hc) it a hai its.toArray
      refine ⟨fun j h z => D0.live i h ⟨z.2.1, z.2.2.1⟩, fun j h h' z k => ⟨z.1, (D0.frame i h h' ⟨z.2.1, z.2.2.1⟩ k).1, (D0.frame i h h' ⟨z.2.1, z.2.2.1⟩ k).2, z.2.2.2⟩, fun j s Q E hj z k => ?_, fun s Q E z k => ?_⟩
      · exact absurd z.1 (Nat.ne_of_lt hj)
      · exact wpAny_nextOf_tuple_end (I.ok.hd hc) z.2.1 z.2.2.1 (Array.getElem?_eq_none z.2.2.2) k
    exact wpAny_pyNext_enum_endD D he ⟨rfl, hit, p, by rw [List.size_toArray]; omega⟩ fun h' eb => ⟨rfl, I.turned (t' := s.toks) (fun b o hb q => eb b o hb q) f0 f1 f3 f4 f5⟩
  self := fun A i s Q E st h => let ⟨⟨_, he⟩, _⟩ := st; wpAny_pyIter_enum he h
def iEnumT (K : PySem.W.Frag) (ta : TA) : TI := fun σ H R => ta σ H fun vs H1 => ∃ a xs, vs = [.ref a] ∧ SqT K H1 a xs ∧ R (ItE K a) H1
theorem pi_enumT {X : Cx} {e : Expr} {ta : TA} {p pos tpos : Pos} {elts : List Expr} {kk : Nat} (hg : Gl X "enumerate") (hm : X.mg "enumerate" = none) (ha : PA X [e] ta) (hs : starEach [e] X.env = [(false, eval e X.env)] := by rfl) :
    PI X (.Tuple elts kk tpos) (.Call (.Name "enumerate" p) [e] [] pos) (iEnumT X.K ta) := by
  constructor
  intro pins s σ H R I h
  refine Call_ (ld_blt I hg hm boot_enumerate (PyProof.Rows.callWith_type1 (thn (ha.run pos pins s σ H _ I h) fun us s1 hh => ?_) hs rfl))
  obtain ⟨vs, H1, I1, r1, a, xs, ex, hq, q⟩ := hh
  subst ex
  cases r1 with
  | cons r rr =>
    cases rr
    cases r
    obtain ⟨its, rv, p2, hz⟩ := I1.tuple hq
    refine call_enumT p2 fun h2 he hit hk => wpAny_pyIter_enum he ?_
    have I2 : Inv X pins σ H1 { s1 with heap := h2 } := I1.kept (t' := s1.toks) hk
    have hlt : a < s1.heap.objs.size := p2.lt
    refine ⟨s1.heap.objs.size + 1, [s1.heap.objs.size + 1, s1.heap.objs.size], _, _, H1, rfl, I2, turn_enumT a (s1.heap.objs.size + 1) s1.heap.objs.size, ⟨⟨.none, he⟩, hit, Nat.succ_ne_self _, Nat.ne_of_lt hlt, Nat.ne_of_lt (Nat.lt_succ_of_lt hlt)⟩, fun b hb => ?_, q⟩
    have ee : b = s1.heap.objs.size + 1 ∨ b = s1.heap.objs.size := by simpa using hb
    have hle : s1.heap.objs.size ≤ b := by
      rcases ee with z | z
      · rw [z]; exact Nat.le_add_right _ _
      · rw [z]; exact Nat.le_refl _
    exact I1.fpOk hle (I1.hok.fresh hle)
/-! ### t[::-1] -/
section
variable {prog : Program} {w : World} {A : Around} {E : Value → Shared → Prop} {s : Shared}
theorem back_pick (xs : Array Value) (n : Nat) (hn : n = xs.size) : (List.range n).filterMap (fun (m : Nat) => xs[(((n : Int) - 1) + (m : Int) * (-1)).toNat]?) = xs.toList.reverse := by
  subst hn
  have e : (fun (m : Nat) => xs[(((xs.size : Nat) : Int) - 1 + (m : Int) * (-1)).toNat]?) = fun m => xs[xs.size - 1 - m]? := by
    funext m
    have z : (((xs.size : Nat) : Int) - 1 + (m : Int) * (-1)).toNat = xs.size - 1 - m := by omega
    rw [z]
  rw [e]
  have a := PySem.W.krv_pick xs
  have b : PySem.slicePick xs none none (some (-1)) = ((List.range xs.size).filterMap fun m => xs[xs.size - 1 - m]?).toArray := by
    unfold PySem.slicePick
    rw [PySem.W.krv_bounds]
    show ((PySem.sliceRange ((xs.size : Int) - 1) (-1) (-1)).filterMap (xs[·]?)).toArray = _
    rw [PySem.W.krv_sliceRange, List.filterMap_map]
    rfl
  have c := a.symm.trans b
  have d := congrArg Array.toList c
  exact d.symm
theorem applied_back {sl : Addr} {vs : Value} {n : Nat} {Q : Int × Int × Nat → Shared → Prop} (hs : s.heap.IsSliceOf sl .none .none vs) (pv : IsPart vs (some (-1)))
    (h : Q ((n : Int) - 1, -1, n) s) : wpAny (model prog w) A (Builtin.Slice.sliceApplied (.ref sl) (pure (n : Int))) Q E s := by
  obtain ⟨os, hos, hcs, hds⟩ := id hs
  unfold Builtin.Slice.sliceApplied Builtin.Slice.sliceFields
  refine wpAny_bind (wpAny_bind (wpAny_field hos hds (x := .none) rfl (wpAny_bind (wpAny_field hos hds (x := .none) rfl (wpAny_bind (wpAny_field hos hds (x := vs) rfl (wpAny_pure ?_)))))))
  refine wpAny_bind (HT.slicePart_ pv ?_)
  show wpAny _ _ (if ((-1 : Int) == 0) = true then _ else _) _ _ s
  rw [if_neg (by decide)]
  refine wpAny_bind (HT.slicePart_ .none (wpAny_bind (HT.slicePart_ .none (wpAny_bind (wpAny_pure ?_)))))
  show wpAny _ _ (pure ((n : Int) - 1, (-1 : Int), Builtin.Slice.slicePlaces ((n : Int) - 1) (-1) (-1))) _ _ s
  have e : Builtin.Slice.slicePlaces ((n : Int) - 1) (-1) (-1) = n := by
    unfold Builtin.Slice.slicePlaces
    rw [if_neg (by decide)]
    by_cases hn : (n : Int) - 1 > -1
    · rw [if_pos hn, show (- -1 : Int) = 1 by decide, Int.ediv_one]
      omega
    · rw [if_neg hn]
      omega
  rw [e]
  exact wpAny_pure h
theorem item_back {t sl : Addr} {items : Array Value} {vs : Value} {Q : Value → Shared → Prop} (ht : IsTup s.heap t items) (hs : s.heap.IsSliceOf sl .none .none vs) (pv : IsPart vs (some (-1)))
    (h : Q (.ref s.heap.objs.size) { s with heap := s.heap.push { cls := .type "tuple", data := .seq items.toList.reverse.toArray } }) (hsz : items.size ≤ sizeLine) : wpAny (model prog w) A (getItem (.ref t) (.ref sl)) Q E s := by
  have hok : sizeOk (.seq items.toList.reverse.toArray) := by
    show items.toList.reverse.toArray.size ≤ sizeLine
    rw [List.size_toArray, List.length_reverse, Array.length_toList]
    exact hsz
  obtain ⟨os, hos, hcs, hds⟩ := id hs
  have hTs : s.TypeIs (.ref sl) "slice" := ⟨os, hos, hcs⟩
  unfold getItem
  try with_reducible refine wpAny_holding ?_
  first | refine wpAny_bind (wpAny_pure ?_) | skip
  refine wpAny_bind (wpAny_sequenceKey ht.typeIs (by decide) ?_)
  refine wpAny_bind (wpAny_callSpecial?_slot (name := Str.ofString "__getitem__") ht.typeIs PyProof.Rows.slot_tuple_getitem (wpAny_call_entry PyProof.Rows.slot_tuple_getitem ht.typeIs entry_tuple_getitem ?_ (args_tuple_getitem _ _)))
  show wpAny _ _ (Builtin.Tuple.tupleItemsOf (.ref t) >>= _) _ _ s
  refine wpAny_bind (tupleItemsOf_ ht ?_)
  refine wpAny_bind (wpAny_typeOf hTs ?_)
  rw [if_pos (by decide)]
  refine wpAny_bind (applied_back hs pv ?_)
  have hno : ¬ ((((items.size : Int) - 1) == 0 && (-1 : Int) == 1 && items.size == items.size) = true) := by
    intro q
    rw [Bool.and_eq_true, Bool.and_eq_true] at q
    exact absurd q.1.2 (by decide)
  show wpAny _ _ (if (((items.size : Int) - 1) == 0 && (-1 : Int) == 1 && items.size == items.size) = true then _ else _) _ _ s
  rw [if_neg hno, back_pick items items.size rfl]
  first
    | exact wpAny_bind (m := Builtin.Tuple.tupleExact _) (wpAny_newObj_type (wpAny_pure ⟨_, rfl, wpAny_pure h⟩) hok)
    | exact wpAny_bind (m := Builtin.Tuple.tupleExact _) (wpAny_newObj_type (wpAny_bind (wpAny_pure (wpAny_pure ⟨_, rfl, wpAny_pure h⟩))) hok)
    | exact wpAny_bind (wpAny_bind (m := Builtin.Tuple.tupleExact _) (wpAny_newObj_type (wpAny_pure (wpAny_pure ⟨_, rfl, wpAny_pure h⟩)) hok))
    | exact wpAny_bind (wpAny_bind (m := Builtin.Tuple.tupleExact _) (wpAny_newObj_type (wpAny_pure ⟨_, rfl, wpAny_pure h⟩) hok))
end
def tRevT (K : PySem.W.Frag) (te : TE) : TE := fun σ H Q => te σ H fun x H1 => ∃ a xs, x = .ref a ∧ SqT K H1 a xs ∧ ∀ p, H1 p = none → Q (.ref p) (upd H1 p (.tup xs.reverse))
theorem pe_revT {X : Cx} {e : Expr} {te : TE} {k : Nat} {p1 p2 p3 pos : Pos} (he : PE X e te) : PE X (.Subscript e (.Slice none none (some (.UnaryOp .USub (.Constant (.int 1) k p1) p2)) p3) pos) (tRevT X.K te) := by
  constructor
  intro pins s σ H Q I h
  refine Subscript_ (thn (he.run pins s σ H _ I h) fun v s1 hh => ?_)
  obtain ⟨x, H1, I1, r1, a, xs, ex, hx, q⟩ := hh
  subst ex
  cases r1
  have hst : PO X (some (.UnaryOp .USub (.Constant (.int 1) k p1) p2)) (tPart (tUn (rU fun i => .int (-i)) (tC (.int 1)))) := po_some (pe_un un_neg pe_int)
  refine wpAny_Slice (thn (po_none.run pins s1 σ H1 (fun o H2 => o = none ∧ H2 = H1) I1 ⟨rfl, rfl⟩) fun vl s2 hl => ?_)
  obtain ⟨l, H2, I2, pl, el, e2⟩ := hl
  subst el e2
  refine thn (po_none.run pins s2 σ H2 (fun o H3 => o = none ∧ H3 = H2) I2 ⟨rfl, rfl⟩) fun vu s3 hu => ?_
  obtain ⟨u, H3, I3, pu, eu, e3⟩ := hu
  subst eu e3
  refine thn (hst.run pins s3 σ H3 (fun o H4 => o = some (-1) ∧ H4 = H3) I3 ⟨1, rfl, -1, rfl, rfl, rfl⟩) fun vs s4 ho => ?_
  obtain ⟨o, H4, I4, ps, eo, e4⟩ := ho
  subst eo e4
  cases pl
  cases pu
  have I5 : Inv X pins σ H4 { s4 with heap := s4.heap.push { cls := .type "slice", data := .fields #[.none, .none, vs] } } := I4.kept (t' := s4.toks) fun b ob q => Heap.get?_push_of_some _ q
  obtain ⟨its, r, ht, hz⟩ := I5.tuple hx
  have hlen := r.length
  show wpAny (model X.prog X.w) X.A (subscriptTail e (.Slice none none (some (.UnaryOp .USub (.Constant (.int 1) k p1) p2)) p3) (.ref a) (.ref s4.heap.objs.size)) (EP X pins σ Q) X.xe { s4 with heap := s4.heap.push { cls := .type "slice", data := .fields #[.none, .none, vs] } }
  refine tail_any (ops := [.ref a, .ref s4.heap.objs.size]) ht.typeIs (PyProof.Rows.slot_tuple_getitem.lookup) ?_ (by with_unfolding_all rfl)
  refine item_back ht (Heap.IsSliceOf.new _ .none .none vs) ps ?_ (by rw [List.size_toArray]; omega)
  refine ⟨.ref _, _, I5.laid (t' := s4.toks) (o := .tup xs.reverse) (fun b ob q => Heap.get?_push_of_some _ q) (Nat.le_refl _) ?_, rfl, q _ (I5.hok.fresh (Nat.le_refl _))⟩
  exact ⟨by rw [List.length_reverse]; exact hz, _, r.reverse, IsTup.new _ _⟩
end SE
/-! Plain data: texts, steps; when they are equal, how they are shown. -/
namespace SE
open PySem PySem.Spec PyProof.Rows L2
/-- a text that is an item -/
structure Item (z : Str) : Prop where
  pos : 1 ≤ z.length
  most : z.length ≤ 8
  low : ∀ c ∈ z.cps.toList, 97 ≤ c ∧ c ≤ 122
/-- data that may be compared and shown: its depth, its weight -/
structure Nice (k B : Nat) (d : PyData) : Prop where
  lay : d.canLay0 = true
  dep : d.depth ≤ k
  sh : d.showable = true
  nd : d.hasDict = false
  ish : d.intsShort 13 = true
  wt : d.weight ≤ B
theorem Nice.mono {k j B C : Nat} {d : PyData} (h : Nice k B d) (hk : k ≤ j) (hB : B ≤ C) : Nice j C d := ⟨h.lay, Nat.le_trans h.dep hk, h.sh, h.nd, h.ish, Nat.le_trans h.wt hB⟩
theorem nice_str {z : Str} {B : Nat} (hc : ∀ c ∈ z.cps.toList, c < 0x110000) (hB : z.length ≤ B) : Nice 0 B (.str z) := by
  refine ⟨?_, ?_, ?_, ?_, ?_, ?_⟩
  · simp only [PyData.canLay0, PyData.strOk]
    rw [← Array.all_toList, List.all_eq_true]
    intro c h
    exact decide_eq_true (hc c h)
  · simp only [PyData.depth]
    exact Nat.le_refl _
  · simp only [PyData.showable]
  · simp only [PyData.hasDict]
  · simp only [PyData.intsShort]
  · simp only [PyData.weight]
    exact hB
theorem Item.nice {z : Str} (h : Item z) : Nice 0 8 (.str z) := nice_str (fun c hc => by have := (h.low c hc).2; omega) h.most
theorem nice_all {k B : Nat} : ∀ {ds : List PyData}, (∀ d ∈ ds, Nice k B d) → PyData.canLayAll0 ds = true ∧ PyData.depthAll ds ≤ k ∧ PyData.showableAll ds = true ∧ PyData.hasDictAll ds = false ∧ PyData.intsShortAll 13 ds = true ∧ PyData.weightAll ds ≤ ds.length * (B + 1)
  | [], _ => by
    refine ⟨?_, ?_, ?_, ?_, ?_, ?_⟩
    · simp only [PyData.canLayAll0]
    · simp only [PyData.depthAll]
      exact Nat.zero_le _
    · simp only [PyData.showableAll]
    · simp only [PyData.hasDictAll]
    · simp only [PyData.intsShortAll]
    · simp only [PyData.weightAll]
      exact Nat.zero_le _
  | d :: ds, h => by
    obtain ⟨a1, a2, a3, a4, a5, a6⟩ := nice_all (ds := ds) fun x hx => h x (List.mem_cons_of_mem _ hx)
    have q := h d List.mem_cons_self
    refine ⟨?_, ?_, ?_, ?_, ?_, ?_⟩
    · simp only [PyData.canLayAll0, q.lay, a1, Bool.and_self]
    · simp only [PyData.depthAll]
      exact Nat.max_le.mpr ⟨q.dep, a2⟩
    · simp only [PyData.showableAll, q.sh, a3, Bool.and_self]
    · simp only [PyData.hasDictAll, q.nd, a4, Bool.or_self]
    · simp only [PyData.intsShortAll, q.ish, a5, Bool.and_self]
    · simp only [PyData.weightAll, List.length_cons]
      have := q.wt
      rw [Nat.add_mul]
      omega
theorem nice_list {k B : Nat} {ds : List PyData} (h : ∀ d ∈ ds, Nice k B d) : Nice (k + 1) (ds.length * (B + 1)) (.list ds) := by
  obtain ⟨a1, a2, a3, a4, a5, a6⟩ := nice_all h
  exact ⟨by simp only [PyData.canLay0]; exact a1, by simp only [PyData.depth]; omega, by simp only [PyData.showable]; exact a3, by simp only [PyData.hasDict]; exact a4, by simp only [PyData.intsShort]; exact a5, by simp only [PyData.weight]; exact a6⟩
theorem nice_tuple {k B : Nat} {ds : List PyData} (h : ∀ d ∈ ds, Nice k B d) : Nice (k + 1) (ds.length * (B + 1)) (.tuple ds) := by
  obtain ⟨a1, a2, a3, a4, a5, a6⟩ := nice_all h
  exact ⟨by simp only [PyData.canLay0]; exact a1, by simp only [PyData.depth]; omega, by simp only [PyData.showable]; exact a3, by simp only [PyData.hasDict]; exact a4, by simp only [PyData.intsShort]; exact a5, by simp only [PyData.weight]; exact a6⟩
theorem Nice.shaped {k B : Nat} {d : PyData} (h : Nice k B d) (hk : k ≤ 64) : SeqAt.shaped d = true := by
  unfold SeqAt.shaped
  rw [h.lay, Bool.true_and]
  exact decide_eq_true (Nat.le_trans h.dep hk)
theorem Nice.shown {k B : Nat} {d : PyData} (h : Nice k B d) (hk : k ≤ 64) (hB : B ≤ 2 ^ 20) : d.shown.length ≤ sizeLine := by
  refine PyData.shown_fits_of_layable0 (B := 13) (by decide) (by decide) ?_ h.ish
  unfold PyData.layable0
  rw [h.lay, Bool.true_and, Bool.and_eq_true]
  exact ⟨decide_eq_true (Nat.le_trans h.dep hk), decide_eq_true (Nat.le_trans h.wt hB)⟩
theorem Nice.eqv {k B : Nat} {d : PyData} (h : Nice k B d) : PyData.eqv d d = true := SeqAt.eqv_refl d h.lay
/-! ### texts -/
theorem dp_strs {K : PySem.W.Frag} {H : Hp} : ∀ zs : List Str, DpAll K H (zs.map V.str) (zs.map PyData.str)
  | [] => .nil
  | z :: zs => .cons (.str z) (dp_strs zs)
theorem eqvAll_strs : ∀ a b : List Str, PyData.eqvAll (a.map .str) (b.map .str) = decide (a = b)
  | [], [] => by simp [PyData.eqvAll]
  | [], y :: b => by simp [PyData.eqvAll]
  | x :: a, [] => by simp [PyData.eqvAll]
  | x :: a, y :: b => by
    rw [List.map_cons, List.map_cons]
    unfold PyData.eqvAll
    rw [eqvAll_strs a b]
    unfold PyData.eqv
    by_cases e : x = y
    · subst e
      simp
    · simp [e]
theorem eqv_listS (a b : List Str) : PyData.eqv (.list (a.map .str)) (.list (b.map .str)) = decide (a = b) := by
  unfold PyData.eqv
  exact eqvAll_strs a b
theorem eqv_tupS (a b : List Str) : PyData.eqv (.tuple (a.map .str)) (.tuple (b.map .str)) = decide (a = b) := by
  unfold PyData.eqv
  exact eqvAll_strs a b
theorem nice_strs {zs : List Str} (h : ∀ z ∈ zs, Item z) : ∀ d ∈ zs.map PyData.str, Nice 0 8 d := by
  intro d hd
  obtain ⟨z, hz, rfl⟩ := List.mem_map.mp hd
  exact (h z hz).nice
/-! ### steps -/
abbrev Stp := Bool × Str
def act (b : Bool) : Str := if b then "push" else "pop"
theorem act_nice (b : Bool) : Nice 0 8 (.str (act b)) := by
  cases b
  · exact nice_str (by decide +kernel) (by decide +kernel)
  · exact nice_str (by decide +kernel) (by decide +kernel)
def stepD (s : Stp) : PyData := .tuple [.str (act s.1), .str s.2]
theorem stepD_nice {s : Stp} (h : Item s.2) : Nice 1 18 (stepD s) := by
  refine (nice_tuple (k := 0) (B := 8) (ds := [.str (act s.1), .str s.2]) ?_).mono (Nat.le_refl _) (by show 2 * 9 ≤ 18; decide)
  intro d hd
  rcases List.mem_cons.mp hd with q | q
  · rw [q]
    exact act_nice _
  · rw [List.mem_singleton.mp q]
    exact h.nice
/-- a step -/
def StepV (K : PySem.W.Frag) (H : Hp) (v : V) (s : Stp) : Prop := ∃ t, v = .ref t ∧ SqT K H t [.str (act s.1), .str s.2]
abbrev StepsV (K : PySem.W.Frag) (H : Hp) : List V → List Stp → Prop := Paired (StepV K H)
theorem StepV.same {K : PySem.W.Frag} {H H' : Hp} {v : V} {s : Stp} (h : StepV K H v s) (e : Same H H') : StepV K H' v s := by
  obtain ⟨t, rfl, q⟩ := h
  exact ⟨t, rfl, Same.tup e q⟩
theorem StepsV.same {K : PySem.W.Frag} {H H' : Hp} {xs : List V} {ss : List Stp} (h : StepsV K H xs ss) (e : Same H H') : StepsV K H' xs ss := Paired.mapP h fun _ _ q => q.same e
theorem StepsV.at {K : PySem.W.Frag} {H : Hp} : ∀ {xs : List V} {ss : List Stp} {i : Nat} {v : V}, StepsV K H xs ss → xs[i]? = some v → ∃ s, ss[i]? = some s ∧ StepV K H v s
  | _, _, _, _, .nil, h => by simp at h
  | _, _, 0, _, .cons a _, h => by
    have e := Option.some.inj h
    subst e
    exact ⟨_, rfl, a⟩
  | _, _, i + 1, _, .cons _ r, h => StepsV.at (i := i) r h
theorem dp_steps {K : PySem.W.Frag} {H : Hp} : ∀ {xs : List V} {ss : List Stp}, StepsV K H xs ss → DpAll K H xs (ss.map stepD)
  | _, _, .nil => .nil
  | _, _, .cons a r => by
    obtain ⟨t, rfl, q⟩ := a
    exact .cons (.tup q (.cons (.str _) (.cons (.str _) .nil))) (dp_steps r)
theorem nice_steps {ss : List Stp} (h : ∀ s ∈ ss, Item s.2) : ∀ d ∈ ss.map stepD, Nice 1 18 d := by
  intro d hd
  obtain ⟨s, hs, rfl⟩ := List.mem_map.mp hd
  exact stepD_nice (h s hs)
theorem StepsV.rev {K : PySem.W.Frag} {H : Hp} : ∀ {xs : List V} {ss : List Stp}, StepsV K H xs ss → StepsV K H xs.reverse ss.reverse
  | _, _, .nil => .nil
  | _, _, .cons a r => by
    rw [List.reverse_cons, List.reverse_cons]
    exact (StepsV.rev r).snoc a
/-- the exchange of push and pop -/
def flip1 (s : Stp) : Stp := (!s.1, s.2)
def revM (ss : List Stp) : List Stp := ss.reverse.map flip1
/-- what a step makes of a stack -/
def stepM (s : Stp) (zs : List Str) : Option (List Str) := if s.1 then some (s.2 :: zs) else match zs with
  | [] => none
  | z :: r => if z = s.2 then some r else none
def runM : List Stp → List Str → Option (List Str)
  | [], zs => some zs
  | s :: ss, zs => match stepM s zs with
    | none => none
    | some ws => runM ss ws
theorem runM_append : ∀ (a b : List Stp) (zs : List Str), runM (a ++ b) zs = (runM a zs).bind (runM b)
  | [], b, zs => rfl
  | s :: a, b, zs => by
    show (match stepM s zs with | none => none | some ws => runM (a ++ b) ws) = (match stepM s zs with | none => none | some ws => runM a ws).bind (runM b)
    cases stepM s zs with
    | none => rfl
    | some ws => exact runM_append a b ws
theorem stepM_flip {s : Stp} {zs ws : List Str} (h : stepM s zs = some ws) : stepM (flip1 s) ws = some zs := by
  obtain ⟨b, x⟩ := s
  cases b with
  | true =>
    have e : x :: zs = ws := by
      have q : some (x :: zs) = some ws := h
      exact Option.some.inj q
    subst e
    show (if x = x then some zs else none) = some zs
    rw [if_pos rfl]
  | false =>
    cases zs with
    | nil => exact absurd h (by intro q; cases q)
    | cons z r =>
      have q : (if z = x then some r else none) = some ws := h
      by_cases e : z = x
      · rw [if_pos e] at q
        have e2 := Option.some.inj q
        subst e2
        subst e
        rfl
      · rw [if_neg e] at q
        cases q
theorem runM_rev : ∀ (ss : List Stp) (zs ws : List Str), runM ss zs = some ws → runM (revM ss) ws = some zs
  | [], zs, ws, h => by
    have e : zs = ws := Option.some.inj h
    subst e
    rfl
  | s :: ss, zs, ws, h => by
    have h' : (match stepM s zs with | none => none | some ys => runM ss ys) = some ws := h
    cases e : stepM s zs with
    | none =>
      rw [e] at h'
      cases h'
    | some ys =>
      rw [e] at h'
      have ih := runM_rev ss ys ws h'
      show runM ((s :: ss).reverse.map flip1) ws = some zs
      rw [List.reverse_cons, List.map_append, runM_append]
      have ih' : runM (ss.reverse.map flip1) ws = some ys := ih
      rw [ih']
      show (match stepM (flip1 s) ys with | none => none | some ws => runM [] ws) = some zs
      rw [stepM_flip e]
      rfl
theorem revM_revM (ss : List Stp) : revM (revM ss) = ss := by
  unfold revM
  rw [← List.map_reverse, List.reverse_reverse, List.map_map]
  have e : flip1 ∘ flip1 = id := by
    funext s
    obtain ⟨b, x⟩ := s
    cases b <;> rfl
  rw [e, List.map_id]
theorem revM_items {ss : List Stp} (h : ∀ s ∈ ss, Item s.2) : ∀ s ∈ revM ss, Item s.2 := by
  intro s hs
  obtain ⟨t, ht, rfl⟩ := List.mem_map.mp hs
  exact h t (List.mem_reverse.mp ht)
theorem stepM_items {s : Stp} {zs ws : List Str} (h : stepM s zs = some ws) (hs : Item s.2) (hz : ∀ z ∈ zs, Item z) : ∀ z ∈ ws, Item z := by
  obtain ⟨b, x⟩ := s
  cases b with
  | true =>
    have e : x :: zs = ws := Option.some.inj (show some (x :: zs) = some ws from h)
    subst e
    intro z m
    rcases List.mem_cons.mp m with q | q
    · rw [q]
      exact hs
    · exact hz z q
  | false =>
    cases zs with
    | nil => exact absurd h (by intro q; cases q)
    | cons y r =>
      have q : (if y = x then some r else none) = some ws := h
      by_cases e : y = x
      · rw [if_pos e] at q
        have e2 := Option.some.inj q
        subst e2
        exact fun z m => hz z (List.mem_cons_of_mem _ m)
      · rw [if_neg e] at q
        cases q
theorem stepM_len {s : Stp} {zs ws : List Str} (h : stepM s zs = some ws) : ws.length ≤ zs.length + 1 := by
  obtain ⟨b, x⟩ := s
  cases b with
  | true =>
    have e : x :: zs = ws := Option.some.inj (show some (x :: zs) = some ws from h)
    subst e
    exact Nat.le_refl _
  | false =>
    cases zs with
    | nil => exact absurd h (by intro q; cases q)
    | cons y r =>
      have q : (if y = x then some r else none) = some ws := h
      by_cases e : y = x
      · rw [if_pos e] at q
        have e2 := Option.some.inj q
        subst e2
        rw [List.length_cons]
        omega
      · rw [if_neg e] at q
        cases q
end SE
namespace SE
open PySem PySem.Spec PyProof.Rows L2
def topS (i : Nat) : Stmt := PySem.Challenge.pw_stackeffect_k64_sessions_refuse.main.body.getD i (.Pass ⟨0, 0, 0, 0⟩)
abbrev sWall : Stmt := topS 0
abbrev sStackerror : Stmt := topS 2
abbrev sInvalidword : Stmt := topS 3
abbrev sInvalidsteps : Stmt := topS 4
abbrev sInvalidnumber : Stmt := topS 5
abbrev sInvalidstacks : Stmt := topS 6
abbrev sStepfailed : Stmt := topS 7
abbrev sLimitexceeded : Stmt := topS 8
abbrev sIsWhole : Stmt := topS 10
abbrev sIsBetween : Stmt := topS 11
abbrev sIsItem : Stmt := topS 18
abbrev sIsWord : Stmt := topS 19
abbrev sIsStep : Stmt := topS 20
abbrev sMayHold : Stmt := topS 21
abbrev sIsLimit : Stmt := topS 22
abbrev sChkSteps : Stmt := topS 23
abbrev sChkWord : Stmt := topS 24
abbrev sChkLimit : Stmt := topS 25
abbrev sTooHigh : Stmt := topS 26
abbrev sAfter : Stmt := topS 27
abbrev sLeastPeak : Stmt := topS 29
abbrev sEffect : Stmt := topS 30
abbrev sJoined : Stmt := topS 31
abbrev sPartsOfStep : Stmt := topS 32
abbrev sEffectOf : Stmt := topS 33
abbrev sIsNamedStep : Stmt := topS 35
abbrev sCheckNamedSteps : Stmt := topS 36
abbrev sAreStacks : Stmt := topS 37
abbrev sCheckStacks : Stmt := topS 38
abbrev sCheckName : Stmt := topS 40
abbrev sCheckHeights : Stmt := topS 41
abbrev sWithoutEmpty : Stmt := topS 42
abbrev sSession : Stmt := topS 43
abbrev sRecorder : Stmt := topS 44
abbrev sPool : Stmt := topS 46
abbrev sTake : Stmt := topS 47
abbrev sName : Stmt := topS 48
abbrev sItems : Stmt := topS 49
abbrev sSteps : Stmt := topS 50
abbrev sWord : Stmt := topS 51
abbrev sLawNamed : Stmt := topS 52
abbrev sLawNamedWell : Stmt := topS 53
abbrev sLawParts : Stmt := topS 54
abbrev sLawCalled : Stmt := topS 55
abbrev sLawTold : Stmt := topS 56
abbrev sLawSeen : Stmt := topS 57
abbrev sLawBadBoundsRight : Stmt := topS 58
abbrev sLawBadStepsRight : Stmt := topS 59
abbrev sLaw : Stmt := topS 60
end SE
namespace SE
open PySem PySem.Spec PyProof.Rows L2
section
variable {P : Program} {w : World} {K : PySem.W.Frag} {mg : Str → Option Value} {base : Heap}
/-! ### _law_take -/
def spTake : Sp := fun xs H Q _ => ∃ (p : Addr) (n : Int), xs = [.ref p, .int n] ∧ Pool H p ∧ 1 ≤ n ∧ n ≤ 100000 ∧
  ∀ (r : Int) (H' : Hp), But p H H' → Pool H' p → 0 ≤ r → r < n → Q (.int r) H'
theorem scTake : FnScope ["_law_pool_here", "_law_many", "_law_found"] ["_law_pool_here", "_law_many"] (defScope sTake) := ⟨rfl, rfl, rfl, by decide +kernel, rfl, by decide +kernel, by decide +kernel⟩
theorem has_take (D : Def K mg "_law_take" sTake) : Has P w K mg base "_law_take" 1 ["_law_pool_here", "_law_many"] [] spTake := by
  refine has_of D scTake (fun _ _ _ _ _ _ us hl => match us, hl with | [_, _], _ => rfl) (fun xs H Q E h => ?_) (fun f cv A out s H xs Q E hr h => ?_)
  · obtain ⟨p, n, rfl, _⟩ := h
    rfl
  · obtain ⟨p, n, rfl, hp, h1, h2, k⟩ := h
    obtain ⟨m, z, e, hm, hz0, hz1⟩ := hp.ex
    have a0 : atI [V.int m, V.int z] 0 = some (.int m) := atI_nat (j := 0) rfl
    refine ⟨_, pss_cons (ps_if (pt_cmpR op_gt (pe_ix ix_list (pv 0) pe_int (fun _ _ => rfl)) pe_int (nomark _))
        (pss_cons (ps_set (i := 2) scTake.nd rfl (.inl rfl) (pe_op op_modN (pe_ix ix_list (pv 0) pe_int (fun _ _ => rfl)) (pv 1)))
        (pss_cons (ps_asg (pe_op op_fdivN (pe_ix ix_list (pv 0) pe_int (fun _ _ => rfl)) (pv 1)) (pg_sub (pv 0) pe_int set_list))
        (pss_one (ps_ret (pv 2))))) pss_nil)
      (pss_cons (ps_asg (pe_op op_mod (pe_op op_add (pe_op op_mul (pe_ix ix_list (pv 0) pe_int (fun _ _ => rfl)) pe_int) pe_int) pe_int) (pg_sub (pv 0) pe_int set_list))
      (pss_one (ps_ret (pe_op op_modN (pe_op op_fdiv (pe_op op_mod (pe_op op_mul (pe_ix ix_list (pv 0) pe_int (fun _ _ => rfl)) (pe_ix ix_list (pv 0) pe_int (fun _ _ => rfl))) pe_int) pe_int) (pv 1))))), ?_⟩
    refine ⟨.ref p, rfl, p, _, 0, _, rfl, rfl, .of e, a0, m, 0, rfl, rfl, _, rfl, ite2 (fun c => ?_) (fun c => ?_)⟩
    · refine ⟨.ref p, rfl, p, _, 0, _, rfl, rfl, .of e, a0, .int n, rfl, m, n, rfl, rfl, (by omega), ?_⟩
      refine ⟨.ref p, rfl, p, _, 0, _, rfl, rfl, .of e, a0, .int n, rfl, m, n, rfl, rfl, ⟨by omega, by omega⟩, .ref p, rfl, p, _, 0, 0, rfl, rfl, e, rfl, ?_⟩
      refine ⟨_, rfl, k _ _ .at ⟨m.fdiv n, z, upd_same, ?_, hz0, hz1⟩ ?_ ?_⟩
      · rw [Int.fdiv_eq_ediv_of_nonneg _ (by omega)]
        exact Int.ediv_nonneg hm (by omega)
      · rw [Int.fmod_eq_emod_of_nonneg _ (by omega)]
        exact Int.emod_nonneg _ (by omega)
      · rw [Int.fmod_eq_emod_of_nonneg _ (by omega)]
        exact Int.emod_lt_of_pos _ (by omega)
    · have a1 : atI [V.int m, V.int z] 1 = some (.int z) := atI_nat (j := 1) rfl
      refine ⟨.ref p, rfl, p, _, 1, _, rfl, rfl, .of e, a1, z, 48271, rfl, rfl, .inl ⟨by omega, by omega⟩, _, 11, rfl, rfl, _, 2147483647, rfl, rfl, (by show (0 : Int) < 2147483647; decide), .ref p, rfl, p, _, 1, 1, rfl, rfl, e, rfl, ?_⟩
      have q0 : 0 ≤ (z * 48271 + 11) % 2147483647 := Int.emod_nonneg _ (by omega)
      have q1 : (z * 48271 + 11) % 2147483647 < 2147483647 := Int.emod_lt_of_pos _ (by omega)
      have e' : (upd H p (.lst ([V.int m, V.int z].set 1 (.int ((z * 48271 + 11) % 2147483647))))) p = some (.lst [V.int m, .int ((z * 48271 + 11) % 2147483647)]) := upd_same
      have a1' : atI [V.int m, V.int ((z * 48271 + 11) % 2147483647)] 1 = some (.int ((z * 48271 + 11) % 2147483647)) := atI_nat (j := 1) rfl
      refine ⟨.ref p, rfl, p, _, 1, _, rfl, rfl, .of e', a1', .ref p, rfl, p, _, 1, _, rfl, rfl, .of e', a1', ((z * 48271 + 11) % 2147483647), ((z * 48271 + 11) % 2147483647), rfl, rfl, .inl ⟨by omega, by omega⟩, _, 2147483629, rfl, rfl, (by show (0 : Int) < 2147483629; decide), _, 64, rfl, rfl, ⟨by decide, by decide⟩, .int n, rfl, _, n, rfl, rfl, (by omega), ?_⟩
      refine k _ _ .at ⟨m, ((z * 48271 + 11) % 2147483647), upd_same, hm, q0, q1⟩ ?_ ?_
      · rw [Int.fmod_eq_emod_of_nonneg _ (by omega)]
        exact Int.emod_nonneg _ (by omega)
      · rw [Int.fmod_eq_emod_of_nonneg _ (by omega)]
        exact Int.emod_lt_of_pos _ (by omega)
/-! ### _law_pool -/
def spPool (K : PySem.W.Frag) : Sp := fun xs H Q _ => ∃ (a : Addr) (ns : List Int) (i : Int), xs = [.ref a, .int i] ∧ SqL K H a (ns.map V.int) ∧ 0 ≤ i ∧ i ≤ 63 ∧
  ∀ (p : Addr) (H' : Hp), Same H H' → H p = none → Pool H' p → Q (.ref p) H'
theorem scPool : FnScope ["_law_script", "_law_k", "_law_cell", "_law_size", "_law_seed"] ["_law_script", "_law_k"] (defScope sPool) := ⟨rfl, rfl, rfl, by decide +kernel, rfl, by decide +kernel, by decide +kernel⟩
theorem has_pool (D : Def K mg "_law_pool" sPool) (ml : mg "len" = none) (ma : mg "abs" = none) (mi : mg "int" = none) : Has P w K mg base "_law_pool" 1 ["_law_script", "_law_k"] [] (spPool K) := by
  refine has_of D scPool (fun _ _ _ _ _ _ us hl => match us, hl with | [_, _], _ => rfl) (fun xs H Q E h => ?_) (fun f cv A out s H xs Q E hr h => ?_)
  · obtain ⟨a, ns, i, rfl, _⟩ := h
    rfl
  · obtain ⟨a, ns, i, rfl, hS, h0, h1, k⟩ := h
    refine ⟨_, pss_cons (ps_set (i := 2) scPool.nd rfl (.inl rfl) pe_int)
      (Evl.pss_cut (ps_if (pt_cmpR op_lt (pv 1) (pe_callB call_len_seq (by rfl) ml PySem.boot_len (pa_cons (pv 0) pa_nil)) (nomark _))
        (pss_one (ps_set (i := 2) scPool.nd rfl (.inl rfl) (pe_ix ix_list (pv 0) (pv 1) (fun _ _ => rfl)))) pss_nil)
      (pss_cons (ps_set (i := 3) scPool.nd rfl (.inl rfl) (pe_callB call_abs (by rfl) ma (by decide +kernel) (pa_cons (pv 2) pa_nil)))
      (pss_cons (ps_set (i := 4) scPool.nd rfl (.inl rfl) (pe_op op_mod (pe_op op_pow (pe_op op_add (pe_op op_add (pe_op op_add (pe_op op_mod (pv 2) pe_int) (pe_op op_mul (pe_op op_mul pe_int (pv 1)) (pv 1))) (pe_op op_mul pe_int (pv 1))) pe_int) pe_int) pe_int))
      (pss_one (ps_ret (pe_lst (pa_cons (pe_op op_mul (pv 3) (pe_callTy call_int1 (by rfl) mi (by decide +kernel) (pa_cons (pe_cmpR op_ge (pv 3) (pe_op op_pow pe_int pe_int) (nomark _)) pa_nil))) (pa_cons (pv 4) pa_nil)))))))), ?_⟩
    refine ⟨fun σ H2 => H2 = H ∧ ∃ c : Int, σ = [some (.ref a), some (.int i), some (.int c), none, none], ?_, ?_⟩
    · refine ⟨_, rfl, .ref a, rfl, a, _, rfl, .inl hS, i, _, rfl, rfl, _, rfl, ite2 (fun c => ?_) (fun c => ?_)⟩
      · have hi : i < ((ns.map V.int).length : Int) := of_decide_eq_true c
        rw [List.length_map] at hi
        have hj : i.toNat < ns.length := by omega
        refine ⟨.ref a, rfl, .int i, rfl, a, _, i, .int ns[i.toNat], rfl, rfl, hS, at_of (j := i.toNat) (by omega) ?_, rfl, ns[i.toNat], rfl⟩
        rw [List.getElem?_map, List.getElem?_eq_getElem hj]
        rfl
      · exact ⟨rfl, 0, rfl⟩
    · rintro σ H2 ⟨rfl, c, rfl⟩
      refine ⟨_, rfl, c, rfl, ?_⟩
      refine ⟨_, rfl, c, 2147483629, rfl, rfl, (by show (0 : Int) < 2147483629; decide), _, rfl, 104729, i, rfl, rfl, .inl ⟨by decide, by decide⟩, _, rfl, _, i, rfl, rfl, .inr ⟨by omega, by omega⟩, _, _, rfl, rfl, _, rfl, 7919, i, rfl, rfl, .inl ⟨by decide, by decide⟩, _, _, rfl, rfl, _, 11, rfl, rfl, _, 3, rfl, rfl, ⟨by decide, by decide, ?_⟩, _, 2147483647, rfl, rfl, (by show (0 : Int) < 2147483647; decide), ?_⟩
      · have b0 : 0 ≤ c % 2147483629 := Int.emod_nonneg _ (by omega)
        have b1 : c % 2147483629 < 2147483629 := Int.emod_lt_of_pos _ (by omega)
        have b2 : 0 ≤ 104729 * i * i := Int.mul_nonneg (by omega) h0
        have b3 : 104729 * i * i ≤ 104729 * 63 * 63 := Int.mul_le_mul (by omega) h1 h0 (by omega)
        omega
      · have t0 : ∀ y : Int, 0 ≤ y ^ 3 % 2147483647 ∧ y ^ 3 % 2147483647 < 2147483647 := fun y => ⟨Int.emod_nonneg _ (by omega), Int.emod_lt_of_pos _ (by omega)⟩
        have u0 : 0 ≤ (if c < 0 then -c else c) := by
          split <;> omega
        refine ⟨_, rfl, _, rfl, 10, 18, rfl, rfl, ⟨by decide, by decide, by decide⟩, _, _, rfl, rfl, .inr ⟨_, rfl, ?_⟩⟩
        have b01 : ∀ b : Bool, (0 : Int) ≤ (if b = true then 1 else 0) ∧ (if b = true then (1 : Int) else 0) ≤ 1 := fun b => by cases b <;> decide
        have g := b01 (decide (10 ^ Int.toNat 18 ≤ if c < 0 then -c else c))
        refine ⟨_, _, rfl, rfl, .inr ⟨by omega, by omega⟩, _, rfl, (by show 2 ≤ sizeLine; decide), fun p hp => k p _ (Same.new hp) hp ⟨_, _, upd_same, Int.mul_nonneg u0 g.1, (t0 _).1, (t0 _).2⟩⟩
end
end SE
namespace SE
open PySem PySem.Spec PyProof.Rows L2
theorem len_add (x y : Str) : (x ++ y).length = x.length + y.length := by
  show (x.cps ++ y.cps).size = _
  rw [Array.size_append]
  rfl
theorem cps_add (x y : Str) : (x ++ y).cps.toList = x.cps.toList ++ y.cps.toList := by
  show (x.cps ++ y.cps).toList = _
  exact Array.toList_append
abbrev abc : Str := Str.ofString "abcdefghijklmnopqrstuvwxyz"
theorem abc_len : abc.length = 26 := by decide +kernel
theorem abc_at (i : Nat) (h : i < 26) : ∃ c, abc.cps[i]? = some c ∧ 97 ≤ c ∧ c ≤ 122 := by
  have q : ∀ j : Fin 26, (abc.cps[j.1]?).any (fun c => decide (97 ≤ c) && decide (c ≤ 122)) = true := by decide +kernel
  have z := q ⟨i, h⟩
  simp only [Option.any_eq_true, Bool.and_eq_true, decide_eq_true_eq] at z
  obtain ⟨c, h1, h2, h3⟩ := z
  exact ⟨c, h1, h2, h3⟩
section
variable {P : Program} {w : World} {K : PySem.W.Frag} {mg : Str → Option Value} {base : Heap}
/-! ### _law_name -/
def spName : Sp := fun xs H Q _ => ∃ (p : Addr), xs = [.ref p] ∧ Pool H p ∧ ∀ (z : Str) (H' : Hp), But p H H' → Pool H' p → Item z → Q (.str z) H'
theorem scName : FnScope ["_law_pool_here", "_law_letters", "_law_found", "_law_turn"] ["_law_pool_here"] (defScope sName) := ⟨rfl, rfl, rfl, by decide +kernel, rfl, by decide +kernel, by decide +kernel⟩
theorem has_name (D : Def K mg "_law_name" sName) (GT : Has P w K mg base "_law_take" 1 ["_law_pool_here", "_law_many"] [] spTake) (mr : mg "range" = none) : Has P w K mg base "_law_name" 2 ["_law_pool_here"] [] spName := by
  refine has_of D scName (fun _ _ _ _ _ _ us hl => match us, hl with | [_], _ => rfl) (fun xs H Q E h => ?_) (fun f cv A out s H xs Q E hr h => ?_)
  · obtain ⟨p, rfl, _⟩ := h
    rfl
  · obtain ⟨p, rfl, hp, k⟩ := h
    refine ⟨_, pss_cons (ps_set (i := 1) scName.nd rfl (.inl rfl) pe_str)
      (pss_cons (ps_set (i := 2) scName.nd rfl (.inl rfl) (pe_item_str (pv 1) (pe_has GT hr (pa_cons (pv 0) (pa_cons pe_int pa_nil))) (fun _ _ => rfl)))
      (pss_cons (ps_for PassesOwn.never rfl (pi_range1 (by rfl) mr (pa_cons (pe_has GT hr (pa_cons (pv 0) (pa_cons pe_int pa_nil))) pa_nil)) (pg_name (i := 3) scName.nd rfl (.inl rfl))
        (pss_one (ps_set (i := 2) scName.nd rfl (.inl rfl) (pe_op op_add_str (pv 2) (pe_item_str (pv 1) (pe_has GT hr (pa_cons (pv 0) (pa_cons pe_int pa_nil))) (fun _ _ => rfl))))))
      (pss_one (ps_ret (pv 2))))), ?_⟩
    refine ⟨_, rfl, _, rfl, p, 26, rfl, hp, by decide, by decide, fun r H1 b1 p1 r0 r1 => ?_⟩
    obtain ⟨c, hc, c0, c1⟩ := abc_at r.toNat (by omega)
    refine ⟨abc, r, c, rfl, rfl, r0, by omega, ?_, hc, ?_⟩
    · have := abc_len
      rw [this]
      omega
    refine ⟨_, rfl, p, 8, rfl, p1, by decide, by decide, fun n H2 b2 p2 n0 n1 => ?_⟩
    refine ⟨n, rfl, by omega, by omega, for_range (lo := 0) (n := n.toNat) (fun i σ H3 => ∃ (z : Str) (y : Option V), σ = [some (.ref p), some (.str abc), some (.str z), y] ∧ But p H H3 ∧ Pool H3 p ∧ z.length = i + 1 ∧ ∀ c ∈ z.cps.toList, 97 ≤ c ∧ c ≤ 122) ?_ ?_ ?_⟩
    · refine ⟨⟨#[c]⟩, none, rfl, b1.trans b2, p2, rfl, fun d hd => ?_⟩
      obtain rfl : d = c := by simpa using hd
      exact ⟨c0, c1⟩
    · rintro i σ H3 hi ⟨z, y, rfl, b3, p3, hz, hl⟩
      refine ⟨_, rfl, _, rfl, _, rfl, p, 26, rfl, p3, by decide, by decide, fun r2 H4 b4 p4 s0 s1 => ?_⟩
      obtain ⟨d, hd, d0, d1⟩ := abc_at r2.toNat (by omega)
      refine ⟨abc, r2, d, rfl, rfl, s0, by omega, ?_, hd, z, ⟨#[d]⟩, rfl, rfl, ?_, z ++ ⟨#[d]⟩, _, rfl, b3.trans b4, p4, ?_, fun e he => ?_⟩
      · have := abc_len
        rw [this]
        omega
      · rw [hz]
        exact Nat.le_of_lt (small1000 (show i + 1 + 1 ≤ 1000 by omega))
      · rw [len_add, hz]
        rfl
      · rw [cps_add] at he
        rcases List.mem_append.mp he with q | q
        · exact hl e q
        · obtain rfl : e = d := by simpa using q
          exact ⟨d0, d1⟩
    · rintro σ H3 ⟨z, y, rfl, b3, p3, hz, hl⟩
      exact ⟨_, rfl, k z H3 b3 p3 ⟨by omega, by omega, hl⟩⟩
end
end SE
namespace SE
open PySem PySem.Spec PyProof.Rows L2
theorem nodup_le {α : Type} [DecidableEq α] : ∀ {ys zs : List α}, ys.Nodup → (∀ y ∈ ys, y ∈ zs) → ys.length ≤ zs.length
  | [], _, _, _ => Nat.zero_le _
  | y :: ys, zs, nd, h => by
    obtain ⟨n1, n2⟩ := List.nodup_cons.mp nd
    have hy : y ∈ zs := h y List.mem_cons_self
    have ih := nodup_le (zs := zs.erase y) n2 fun x hx => (List.mem_erase_of_ne (fun e => n1 (by rw [← e]; exact hx))).mpr (h x (List.mem_cons_of_mem _ hx))
    rw [List.length_erase_of_mem hy] at ih
    have : 0 < zs.length := List.length_pos_of_mem hy
    rw [List.length_cons]
    omega
theorem yes_in {σ : L2.St} {H : Hp} {F G : Hp → Prop} (h : F H) : tYes σ H (fun b H3 => if b = true then F H3 else G H3) := by
  show if true = true then F H else G H
  exact iteT h
theorem eqV_str (a b : Str) : eqV (.str a) (.str b) = (a == b) := by
  unfold eqV
  rfl
theorem inV_str (z : Str) : ∀ zs : List Str, inV (.str z) (zs.map V.str) = decide (z ∈ zs)
  | [] => by simp [inV]
  | y :: zs => by
    have ih := inV_str z zs
    unfold inV at ih ⊢
    rw [List.map_cons, List.any_cons, ih, eqV_str]
    by_cases e : y = z
    · subst e
      simp
    · have e2 : ¬ z = y := fun q => e q.symm
      simp [e, e2]
theorem flat_strs : ∀ zs : List Str, (zs.map V.str).all flatV = true
  | [] => rfl
  | y :: zs => by
    rw [List.map_cons, List.all_cons, flat_strs zs]
    rfl
/-- the names that are taken where one is drawn twice -/
def spare : List Str := abc.cps.toList.map fun c => (⟨#[c]⟩ : Str) ++ "zz"
theorem spare_len : spare.length = 26 := by decide +kernel
theorem spare_nd : spare.Nodup := by decide +kernel
theorem spare_item {z : Str} (h : z ∈ spare) : Item z := by
  have q : ∀ y ∈ spare, (decide (1 ≤ y.length) && decide (y.length ≤ 8) && y.cps.toList.all fun c => decide (97 ≤ c) && decide (c ≤ 122)) = true := by decide +kernel
  have e := q z h
  simp only [Bool.and_eq_true, decide_eq_true_eq, List.all_eq_true] at e
  exact ⟨e.1.1, e.1.2, e.2⟩
theorem spare_at {i c : Nat} (h : abc.cps[i]? = some c) : spare[i]? = some ((⟨#[c]⟩ : Str) ++ "zz") := by
  unfold spare
  rw [List.getElem?_map, Array.getElem?_toList, h]
  rfl
theorem abc_size : abc.cps.size = 26 := by decide +kernel
section
variable {P : Program} {w : World} {K : PySem.W.Frag} {mg : Str → Option Value} {base : Heap}
/-! ### _law_items -/
def spItems : Sp := fun xs H Q _ => ∃ (p : Addr) (n : Int), xs = [.ref p, .int n] ∧ Pool H p ∧ 0 ≤ n ∧ n ≤ 20 ∧
  ∀ (l : Addr) (zs : List Str) (H' : Hp), But p H H' → Pool H' p → H l = none → l ≠ p → H' l = some (.lst (zs.map V.str)) → zs.length = n.toNat → (∀ z ∈ zs, Item z) → Q (.ref l) H'
theorem scItems : FnScope ["_law_pool_here", "_law_many", "_law_found", "_law_at", "_law_name_here", "_law_some", "_law_one"] ["_law_pool_here", "_law_many"] (defScope sItems) := ⟨rfl, rfl, rfl, by decide +kernel, rfl, by decide +kernel, by decide +kernel⟩
abbrev nItems : List Str := ["_law_pool_here", "_law_many", "_law_found", "_law_at", "_law_name_here", "_law_some", "_law_one"]
theorem has_items (D : Def K mg "_law_items" sItems) (GN : Has P w K mg base "_law_name" 2 ["_law_pool_here"] [] spName) (mr : mg "range" = none) : Has P w K mg base "_law_items" 3 ["_law_pool_here", "_law_many"] [] spItems := by
  refine has_of D scItems (fun _ _ _ _ _ _ us hl => match us, hl with | [_, _], _ => rfl) (fun xs H Q E h => ?_) (fun f cv A out s H xs Q E hr h => ?_)
  · obtain ⟨p, n, rfl, _⟩ := h
    rfl
  · obtain ⟨p, n, rfl, hp, h0, h1, k⟩ := h
    refine ⟨_, pss_cons (ps_set (i := 2) scItems.nd rfl (.inr rfl) (pe_lst pa_nil))
      (pss_cons (ps_for PassesOwn.never rfl (pi_range1 (by rfl) mr (pa_cons (pv 1) pa_nil)) (pg_name (i := 3) scItems.nd rfl (.inl rfl))
        (pss_cons (ps_set (i := 4) scItems.nd rfl (.inl rfl) (pe_has GN hr (pa_cons (pv 0) pa_nil)))
        (Evl.pss_cut (ps_if (pt_cmpR op_in_seq (pv 4) (pv 2) (by rfl))
          (pss_cons (ps_setLc (i := 5) (own := [("_law_one", 6)]) (g := gName 6) (tt := tYes) rfl scItems.nd rfl rfl (sw_true rfl rfl rfl (by decide +kernel)) (pi_str pe_str) (blkOk_by (own := [("_law_one", 6)]) (N := nItems) (sc := defScope sItems) (by decide +kernel))
              (fun _ _ _ _ _ => pg_name (i := 6) scItems.nd rfl (.inl rfl)) (fun _ _ _ _ _ => pts_nil) (fun _ _ _ _ _ => pe_op op_add_str (pv 6) pe_str))
          (pss_one (ps_set (i := 4) scItems.nd rfl (.inl rfl) (pe_ix ix_list (pe_lc (own := [("_law_one", 6)]) (g := gName 6) (tt := tTest (tOp (rIn K true) (tVar 6) (tVar 2))) (te := tVar 6) rfl scItems.nd (pi_list (pv 5)) (blkOk_by (own := [("_law_one", 6)]) (N := nItems) (sc := defScope sItems) (by decide +kernel))
              (fun _ _ _ _ _ => pg_name (i := 6) scItems.nd rfl (.inl rfl)) (fun _ _ _ _ _ => pts_one (pt_cmpR op_notIn_seq (pv 6) (pv 2) (by rfl))) (fun _ _ _ _ _ => pv 6)) pe_int (fun _ _ => rfl))))) pss_nil)
        (pss_one (ps_expr (pe_bm PySem.F.plainAttrs_list PySem.F.slot_list_append PySem.F.type_list_append mt_append (pv 2) (pa_cons (pv 4) pa_nil)))))))
      (pss_one (ps_ret (pv 2)))), ?_⟩
    refine ⟨Nat.zero_le _, fun l hl => ?_⟩
    have lp : l ≠ p := hp.free hl
    refine ⟨_, rfl, n, rfl, by omega, by omega, for_range (lo := 0) (n := n.toNat) (fun i σ H3 => ∃ (zs : List Str) (y3 y4 y5 y6 : Option V), σ = [some (.ref p), some (.int n), some (.ref l), y3, y4, y5, y6] ∧ But p H H3 ∧ Pool H3 p ∧ H3 l = some (.lst (zs.map V.str)) ∧ zs.length = i ∧ ∀ z ∈ zs, Item z) ?_ ?_ ?_⟩
    · exact ⟨[], none, none, none, none, rfl, .of (Same.new hl), hp.upd lp, upd_same, rfl, fun z h => nomatch h⟩
    · rintro i σ H3 hi ⟨zs, y3, y4, y5, y6, rfl, b3, p3, hl3, hz, hI⟩
      refine ⟨_, rfl, p, rfl, p3, fun z H4 b4 p4 iz => ?_⟩
      have hl4 : H4 l = some (.lst (zs.map V.str)) := b4 l _ lp hl3
      have bb := b3.trans b4
      refine ⟨fun σ H5 => ∃ (z : Str) (y5 y6 : Option V), σ = [some (.ref p), some (.int n), some (.ref l), some (.int (0 + i)), some (.str z), y5, y6] ∧ But p H H5 ∧ Pool H5 p ∧ H5 l = some (.lst (zs.map V.str)) ∧ Item z, ?_, ?_⟩
      · refine ⟨_, rfl, _, rfl, l, _, rfl, .inl (.of hl4), rfl, flat_strs _, _, rfl, ite2 (fun c => ?_) (fun c => ?_)⟩
        · refine ⟨abc, rfl, fun D hD => lc_it walk_str (fun j H5 => H5 D = some (.lst ((spare.take j).map V.str)) ∧ But p H H5 ∧ Pool H5 p ∧ H5 l = some (.lst (zs.map V.str))) ?_ (fun _ _ _ _ => trivial) ?_ ?_⟩
          · have Dp : D ≠ p := p4.free hD
            exact ⟨upd_same, bb.free (bb.none Dp hD), p4.upd Dp, by rw [upd_ne (ne_of_none hl4 hD)]; exact hl4⟩
          · rintro j x H5 H6 hj ⟨hD5, b5, p5, hl5⟩ ⟨rfl, d, hd, rfl⟩
            have Dp : D ≠ p := p4.free hD
            refine ⟨rfl, yes_in ⟨_, rfl, ⟨#[d]⟩, "zz", rfl, rfl, (by show 1 + 2 ≤ sizeLine; decide), _, hD5, ?_, ?_, b5.free (bb.none Dp hD), p5.upd Dp, ?_⟩⟩
            · rw [List.length_map, List.length_take, spare_len]
              exact small1000 (by omega)
            · rw [upd_same, List.take_add_one, spare_at hd, List.map_append]
              rfl
            · rw [upd_ne (ne_of_none hl4 hD)]
              exact hl5
          · rintro H5 ⟨hD5, b5, p5, hl5⟩
            have full : spare.take abc.cps.size = spare := List.take_of_length_le (by rw [spare_len, abc_size]; omega)
            rw [full] at hD5
            have Dp : D ≠ p := p4.free hD
            have Dl : l ≠ D := ne_of_none hl4 hD
            refine ⟨_, rfl, D, rfl, ⟨_, .of hD5⟩, fun E2 hE => lc_list (K := K) (a := D) (xs := spare.map V.str) (fun j H6 => H6 D = some (.lst (spare.map V.str)) ∧ H6 E2 = some (.lst (((spare.take j).filter fun y => !decide (y ∈ zs)).map V.str)) ∧ But p H H6 ∧ Pool H6 p ∧ H6 l = some (.lst (zs.map V.str))) ?_ (fun _ _ _ q => .of q.1) ?_ ?_⟩
            · have Ep : E2 ≠ p := p5.free hE
              refine ⟨?_, upd_same, b5.free (b5.none Ep hE), p5.upd Ep, ?_⟩
              · rw [upd_ne (ne_of_none hD5 hE)]
                exact hD5
              · rw [upd_ne (ne_of_none hl5 hE)]
                exact hl5
            · rintro j x H6 hj ⟨hD6, hE6, b6, p6, hl6⟩
              have Ep : E2 ≠ p := p5.free hE
              rw [List.getElem?_map] at hj
              obtain ⟨y, hy, rfl⟩ : ∃ y, spare[j]? = some y ∧ V.str y = x := by
                cases e : spare[j]? with
                | none => rw [e] at hj; cases hj
                | some y => rw [e] at hj; exact ⟨y, rfl, Option.some.inj hj⟩
              have tk : spare.take (j + 1) = spare.take j ++ [y] := by
                rw [List.take_add_one, hy]
                rfl
              refine ⟨rfl, _, rfl, _, rfl, l, _, rfl, .inl (.of hl6), rfl, flat_strs _, _, rfl, ?_⟩
              rw [if_pos rfl, inV_str]
              by_cases m : y ∈ zs
              · rw [decide_eq_true m]
                refine iteF ⟨hD6, ?_, b6, p6, hl6⟩
                rw [tk, List.filter_append, List.filter_cons_of_neg (by simp [m]), List.filter_nil, List.append_nil]
                exact hE6
              · rw [decide_eq_false m]
                refine iteT ⟨_, rfl, _, hE6, ?_, ?_, ?_, b6.free (b5.none Ep hE), p6.upd Ep, ?_⟩
                · rw [List.length_map]
                  have z1 := List.length_filter_le (fun y => !decide (y ∈ zs)) (spare.take j)
                  have z2 : (spare.take j).length ≤ 26 := by
                    rw [List.length_take, spare_len]
                    omega
                  exact small1000 (by omega)
                · rw [upd_ne (ne_of_none hD5 hE)]
                  exact hD6
                · rw [upd_same, tk, List.filter_append, List.filter_cons_of_pos (by simp [m]), List.filter_nil, List.map_append]
                  rfl
                · rw [upd_ne (ne_of_none hl5 hE)]
                  exact hl6
            · rintro H6 ⟨hD6, hE6, b6, p6, hl6⟩
              rw [List.length_map, List.take_length] at hE6
              have some1 : ∃ y0 r, (spare.filter fun y => !decide (y ∈ zs)) = y0 :: r := by
                cases e : spare.filter fun y => !decide (y ∈ zs) with
                | cons y0 r => exact ⟨y0, r, rfl⟩
                | nil =>
                  have all : ∀ y ∈ spare, y ∈ zs := fun y hy => by
                    by_cases m : y ∈ zs
                    · exact m
                    · have q : y ∈ spare.filter fun y => !decide (y ∈ zs) := List.mem_filter.mpr ⟨hy, by simp [m]⟩
                      rw [e] at q
                      cases q
                  have q := nodup_le spare_nd all
                  rw [spare_len] at q
                  omega
              obtain ⟨y0, r, e0⟩ := some1
              have y0s : y0 ∈ spare := (List.mem_filter.mp (show y0 ∈ spare.filter fun y => !decide (y ∈ zs) by rw [e0]; exact List.mem_cons_self)).1
              rw [e0] at hE6
              exact ⟨E2, _, 0, .str y0, rfl, rfl, .of hE6, atI_nat (j := 0) rfl, y0, _, _, rfl, b6, p6, hl6, spare_item y0s⟩
        · exact ⟨z, _, _, rfl, bb, p4, hl4, iz⟩
      · rintro σ H5 ⟨z, y5, y6, rfl, b5, p5, hl5, iz⟩
        refine ⟨.ref l, rfl, .inl ⟨rfl, _, .inl (.inl hl5)⟩, _, rfl, l, _, _, rfl, rfl, hl5, ?_, zs ++ [z], _, _, _, _, rfl, b5.free hl, p5.upd lp, ?_, ?_, ?_⟩
        · rw [List.length_map, hz]
          exact small1000 (by omega)
        · rw [upd_same, List.map_append]
          rfl
        · rw [List.length_append, hz]
          rfl
        · intro y hy
          rcases List.mem_append.mp hy with q | q
          · exact hI y q
          · rw [List.mem_singleton.mp q]
            exact iz
    · rintro σ H3 ⟨zs, y3, y4, y5, y6, rfl, b3, p3, hl3, hz, hI⟩
      exact ⟨_, rfl, k l zs H3 b3 p3 hl lp hl3 hz hI⟩
end
end SE
namespace SE
open PySem PySem.Spec PyProof.Rows L2
section
variable {P : Program} {w : World} {K : PySem.W.Frag} {mg : Str → Option Value} {base : Heap}
/-! ### _law_word -/
def spWord : Sp := fun xs H Q _ => ∃ (p l : Addr) (m : Int) (zs : List Str), xs = [.ref p, .ref l, .int m] ∧ Pool H p ∧ l ≠ p ∧ H l = some (.lst (zs.map V.str)) ∧ zs ≠ [] ∧ zs.length ≤ 100 ∧ 0 ≤ m ∧ m ≤ 900 ∧
  ∀ (t : Addr) (ws : List Str) (H' : Hp), But p H H' → Pool H' p → H t = none → H' t = some (.tup (ws.map V.str)) → (ws.length : Int) ≤ m → (∀ z ∈ ws, z ∈ zs) → Q (.ref t) H'
abbrev nWord : List Str := ["_law_pool_here", "_law_items_here", "_law_most", "_law_turn"]
theorem scWord : FnScope nWord ["_law_pool_here", "_law_items_here", "_law_most"] (defScope sWord) := ⟨rfl, rfl, rfl, by decide +kernel, rfl, by decide +kernel, by decide +kernel⟩
theorem pick_str {zs : List Str} {r : Int} (h0 : 0 ≤ r) (h1 : r < (zs.length : Int)) : ∃ z, z ∈ zs ∧ atI (zs.map V.str) r = some (.str z) := by
  have hj : r.toNat < zs.length := by omega
  refine ⟨zs[r.toNat], List.getElem_mem hj, at_of (j := r.toNat) (by omega) ?_⟩
  rw [List.getElem?_map, List.getElem?_eq_getElem hj]
  rfl
theorem has_word (D : Def K mg "_law_word" sWord) (GT : Has P w K mg base "_law_take" 1 ["_law_pool_here", "_law_many"] [] spTake) (mr : mg "range" = none) (ml : mg "len" = none) (mt : mg "tuple" = none) : Has P w K mg base "_law_word" 2 ["_law_pool_here", "_law_items_here", "_law_most"] [] spWord := by
  refine has_of D scWord (fun _ _ _ _ _ _ us hl => match us, hl with | [_, _, _], _ => rfl) (fun xs H Q E h => ?_) (fun f cv A out s H xs Q E hr h => ?_)
  · obtain ⟨p, l, m, zs, rfl, _⟩ := h
    rfl
  · obtain ⟨p, l, m, zs, rfl, hp, lp, hl, hne, hz, h0, h1, k⟩ := h
    refine ⟨_, pss_one (ps_ret (pe_callTy call_tuple_of (by rfl) mt (by decide +kernel) (pa_cons
      (pe_lc (own := [("_law_turn", 3)]) (g := gName 3) (tt := tYes) (te := tOp (rIxL K) (tVar 1) (tCall spTake [] E0 (tCons (tVar 0) (tCons (tCB (Evl.rLenS K) (tCons (tVar 1) tNil)) tNil)))) rfl scWord.nd
        (pi_range1 (by rfl) mr (pa_cons (pe_has GT hr (pa_cons (pv 0) (pa_cons (pe_op op_add (pv 2) pe_int) pa_nil))) pa_nil)) (blkOk_by (own := [("_law_turn", 3)]) (N := nWord) (sc := defScope sWord) (by decide +kernel))
        (fun _ _ _ _ _ => pg_name (i := 3) scWord.nd rfl (.inl rfl)) (fun _ _ _ _ _ => pts_nil)
        (fun _ _ _ _ _ => pe_ix ix_list (pv 1) (pe_has GT hr (pa_cons (pv 0) (pa_cons (pe_callB call_len_seq (by rfl) ml PySem.boot_len (pa_cons (pv 1) pa_nil)) pa_nil))) (fun _ _ => rfl))) pa_nil))), ?_⟩
    refine ⟨_, rfl, _, rfl, m, 1, rfl, rfl, p, m + 1, rfl, hp, by omega, by omega, fun n H1 b1 p1 n0 n1 => ?_⟩
    have hl1 : H1 l = some (.lst (zs.map V.str)) := b1 l _ lp hl
    refine ⟨n, rfl, by omega, by omega, fun D hD => lc_range (lo := 0) (n := n.toNat) (fun i H2 => ∃ ws : List Str, H2 D = some (.lst (ws.map V.str)) ∧ ws.length = i ∧ (∀ z ∈ ws, z ∈ zs) ∧ But p H H2 ∧ Pool H2 p ∧ H2 l = some (.lst (zs.map V.str))) ?_ ?_ ?_⟩
    · have Dp : D ≠ p := p1.free hD
      exact ⟨[], upd_same, rfl, fun z q => (by cases q), b1.free (b1.none Dp hD), p1.upd Dp, by rw [upd_ne (ne_of_none hl1 hD)]; exact hl1⟩
    · rintro i H2 hi ⟨ws, hw, wl, wz, b2, p2, hl2⟩
      have Dp : D ≠ p := p1.free hD
      have Dl : l ≠ D := ne_of_none hl1 hD
      have hzp : 0 < zs.length := List.length_pos_iff.mpr hne
      refine ⟨rfl, yes_in ⟨_, rfl, _, rfl, _, rfl, l, _, rfl, .inl (.of hl2), p, _, rfl, p2, ?_, ?_, fun r H3 b3 p3 r0 r1 => ?_⟩⟩
      · rw [List.length_map]
        omega
      · rw [List.length_map]
        omega
      · rw [List.length_map] at r1
        obtain ⟨z, zm, az⟩ := pick_str r0 r1
        have hl3 : H3 l = some (.lst (zs.map V.str)) := b3 l _ lp hl2
        have hD3 : H3 D = some (.lst (ws.map V.str)) := b3 D _ Dp hw
        refine ⟨l, _, r, _, rfl, rfl, .of hl3, az, _, hD3, ?_, ws ++ [z], ?_, ?_, ?_, (b2.trans b3).free (b1.none Dp hD), p3.upd Dp, ?_⟩
        · rw [List.length_map, wl]
          exact small1000 (by omega)
        · rw [upd_same, List.map_append]
          rfl
        · rw [List.length_append, wl]
          rfl
        · intro y hy
          rcases List.mem_append.mp hy with q | q
          · exact wz y q
          · rw [List.mem_singleton.mp q]
            exact zm
        · rw [upd_ne Dl]
          exact hl3
    · rintro H2 ⟨ws, hw, wl, wz, b2, p2, hl2⟩
      refine ⟨D, _, rfl, .inl ⟨.of hw, fun t ht => ?_⟩⟩
      have tp : t ≠ p := p2.free ht
      refine k t ws _ (b2.free (b2.none tp ht)) (p2.upd tp) (b2.none tp ht) upd_same ?_ wz
      omega
end
end SE
namespace SE
open PySem PySem.Spec PyProof.Rows L2
/-- a test whose ways meet -/
def tCutT (t : TT) : TT := fun σ H Q => ∃ M : Bool → Hp → Prop, t σ H M ∧ ∀ b H2, M b H2 → Q b H2
theorem pt_cut {X : Cx} {e : Expr} {t : TT} (h : PT X e t) : PT X e (tCutT t) := ⟨fun pins s σ H Q I hw => by
  obtain ⟨M, h1, h2⟩ := hw
  refine thn (h.run pins s σ H M I h1) fun b s2 z => ?_
  obtain ⟨H2, I2, q⟩ := z
  exact ⟨H2, I2, h2 b H2 q⟩⟩
theorem cut_map {α : Type} (f : α → V) (hs : List α) (lo hi : Option Int) : cutV (hs.map f) lo hi = ((hs.drop (HT.sIx hs.length 0 lo)).take (HT.sIx hs.length hs.length hi - HT.sIx hs.length 0 lo)).map f := by
  unfold cutV
  rw [List.length_map, List.map_take, List.map_drop]
theorem cut_mem {α : Type} {x : α} {hs : List α} {a b : Nat} (h : x ∈ (hs.drop a).take b) : x ∈ hs := List.mem_of_mem_drop (List.mem_of_mem_take h)
/-- steps whose tuples stand in the heap -/
abbrev StepsH (H : Hp) : List V → List Stp → Prop := Paired fun v s => ∃ t, v = .ref t ∧ H t = some (.tup [.str (act s.1), .str s.2])
theorem StepsH.v {K : PySem.W.Frag} {H : Hp} {xs : List V} {ss : List Stp} (h : StepsH H xs ss) : StepsV K H xs ss := Paired.mapP h fun _ _ q => by
  obtain ⟨t, e, z⟩ := q
  exact ⟨t, e, .of z⟩
theorem StepsH.but {H H' : Hp} {p : Addr} {xs : List V} {ss : List Stp} (h : StepsH H xs ss) (hp : Pool H p) (b : But p H H') : StepsH H' xs ss := Paired.mapP h fun _ _ q => by
  obtain ⟨t, e, z⟩ := q
  exact ⟨t, e, b t _ (hp.ne z) z⟩
theorem StepsH.upd {H : Hp} {q : Addr} {o : HO} {xs : List V} {ss : List Stp} (h : StepsH H xs ss) (hq : ∀ ys, H q ≠ some (.tup ys)) : StepsH (upd H q o) xs ss := Paired.mapP h fun _ _ r => by
  obtain ⟨t, e, z⟩ := r
  refine ⟨t, e, ?_⟩
  rw [upd_ne (fun w => hq _ (by rw [← w]; exact z))]
  exact z
structure SI (p l f h : Addr) (zs : List Str) (H H3 : Hp) (xs : List V) (ss : List Stp) (hs : List Str) : Prop where
  b : But p H H3
  pl : Pool H3 p
  it : H3 l = some (.lst (zs.map V.str))
  fl : H3 f = some (.lst xs)
  st : StepsH H3 xs ss
  sz : ∀ s ∈ ss, s.2 ∈ zs
  hl : H3 h = some (.lst (hs.map V.str))
  hz : ∀ z ∈ hs, z ∈ zs
  lp : l ≠ p
  fp : f ≠ p
  fn : H f = none
  hp : h ≠ p
  hn : H h = none
  hf : h ≠ f
  hnl : h ≠ l
  lf : l ≠ f
section
variable {p l f h : Addr} {zs : List Str} {H H3 : Hp} {xs : List V} {ss : List Stp} {hs : List Str}
theorem SI.new (a : SI p l f h zs H H3 xs ss hs) {q : Addr} {o : HO} (hq : H3 q = none) : SI p l f h zs H (upd H3 q o) xs ss hs := by
  have qp : q ≠ p := a.pl.free hq
  exact ⟨a.b.free (a.b.none qp hq), a.pl.upd qp, by rw [upd_ne (ne_of_none a.it hq)]; exact a.it, by rw [upd_ne (ne_of_none a.fl hq)]; exact a.fl, a.st.upd (fun ys z => by rw [hq] at z; cases z), a.sz,
    by rw [upd_ne (ne_of_none a.hl hq)]; exact a.hl, a.hz, a.lp, a.fp, a.fn, a.hp, a.hn, a.hf, a.hnl, a.lf⟩
theorem SI.draw (a : SI p l f h zs H H3 xs ss hs) {H4 : Hp} (b : But p H3 H4) (q : Pool H4 p) : SI p l f h zs H H4 xs ss hs :=
  ⟨a.b.trans b, q, b _ _ a.lp a.it, b _ _ a.fp a.fl, a.st.but a.pl b, a.sz, b _ _ a.hp a.hl, a.hz, a.lp, a.fp, a.fn, a.hp, a.hn, a.hf, a.hnl, a.lf⟩
theorem SI.app (a : SI p l f h zs H H3 xs ss hs) {t : Addr} {c : Bool} {z : Str} (ht : H3 t = some (.tup [.str (act c), .str z])) (hz : z ∈ zs) : SI p l f h zs H (upd H3 f (.lst (xs ++ [.ref t]))) (xs ++ [.ref t]) (ss ++ [(c, z)]) hs := by
  have tf : t ≠ f := ne_of ht a.fl (by intro w; cases w)
  refine ⟨a.b.free a.fn, a.pl.upd a.fp, by rw [upd_ne a.lf]; exact a.it, upd_same, (a.st.upd (fun ys w => by rw [a.fl] at w; cases w)).snoc ⟨t, rfl, by rw [upd_ne tf]; exact ht⟩, fun s hs' => ?_, by rw [upd_ne a.hf]; exact a.hl, a.hz, a.lp, a.fp, a.fn, a.hp, a.hn, a.hf, a.hnl, a.lf⟩
  rcases List.mem_append.mp hs' with q | q
  · exact a.sz s q
  · rw [List.mem_singleton.mp q]
    exact hz
theorem SI.hset (a : SI p l f h zs H H3 xs ss hs) {ys : List Str} (hy : ∀ z ∈ ys, z ∈ zs) : SI p l f h zs H (upd H3 h (.lst (ys.map V.str))) xs ss ys :=
  ⟨a.b.free a.hn, a.pl.upd a.hp, by rw [upd_ne (Ne.symm a.hnl)]; exact a.it, by rw [upd_ne (Ne.symm a.hf)]; exact a.fl, a.st.upd (fun us w => by rw [a.hl] at w; cases w), a.sz, upd_same, hy, a.lp, a.fp, a.fn, a.hp, a.hn, a.hf, a.hnl, a.lf⟩
theorem SI.hnew (a : SI p l f h zs H H3 xs ss hs) {q : Addr} {ys : List Str} (hq : H3 q = none) (hy : ∀ z ∈ ys, z ∈ zs) : SI p l f q zs H (upd H3 q (.lst (ys.map V.str))) xs ss ys := by
  have b := a.new (o := .lst (ys.map V.str)) hq
  have qp : q ≠ p := a.pl.free hq
  exact ⟨b.b, b.pl, b.it, b.fl, b.st, b.sz, upd_same, hy, a.lp, a.fp, a.fn, qp, a.b.none qp hq, Ne.symm (ne_of_none a.fl hq), Ne.symm (ne_of_none a.it hq), a.lf⟩
end
section
variable {P : Program} {w : World} {K : PySem.W.Frag} {mg : Str → Option Value} {base : Heap}
/-! ### _law_steps -/
def spSteps : Sp := fun xs H Q _ => ∃ (p l : Addr) (m : Int) (zs : List Str), xs = [.ref p, .ref l, .int m] ∧ Pool H p ∧ l ≠ p ∧ H l = some (.lst (zs.map V.str)) ∧ zs ≠ [] ∧ zs.length ≤ 100 ∧ (∀ z ∈ zs, Item z) ∧ 0 ≤ m ∧ m ≤ 100 ∧
  ∀ (t : Addr) (us : List V) (ss : List Stp) (H' : Hp), But p H H' → Pool H' p → H t = none → H' t = some (.lst us) → StepsH H' us ss → ss.length = m.toNat → (∀ s ∈ ss, s.2 ∈ zs) → Q (.ref t) H'
abbrev nSteps : List Str := ["_law_pool_here", "_law_items_here", "_law_many", "_law_found", "_law_held", "_law_turn", "_law_way", "_law_item"]
theorem scSteps : FnScope nSteps ["_law_pool_here", "_law_items_here", "_law_many"] (defScope sSteps) := ⟨rfl, rfl, rfl, by decide +kernel, rfl, by decide +kernel, by decide +kernel⟩
theorem has_steps (D : Def K mg "_law_steps" sSteps) (GT : Has P w K mg base "_law_take" 1 ["_law_pool_here", "_law_many"] [] spTake) (mr : mg "range" = none) (ml : mg "len" = none) : Has P w K mg base "_law_steps" 2 ["_law_pool_here", "_law_items_here", "_law_many"] [] spSteps := by
  refine has_of D scSteps (fun _ _ _ _ _ _ us hl => match us, hl with | [_, _, _], _ => rfl) (fun xs H Q E h => ?_) (fun f cv A out s H xs Q E hr h => ?_)
  · obtain ⟨p, l, m, zs, rfl, _⟩ := h
    rfl
  · obtain ⟨p, l, m, zs, rfl, hp, lp, hl, hne, hz, hI, h0, h1, k⟩ := h
    refine ⟨_, pss_cons (ps_par (i := 3) (j := 4) (by rfl) scSteps.nd rfl rfl (by decide) rfl rfl (pa_cons (pe_lst pa_nil) (pa_cons (pe_lst pa_nil) pa_nil)) (by rfl))
      (pss_cons (ps_for PassesOwn.never rfl (pi_range1 (by rfl) mr (pa_cons (pv 2) pa_nil)) (pg_name (i := 5) scSteps.nd rfl (.inl rfl))
        (pss_cons (ps_set (i := 6) scSteps.nd rfl (.inl rfl) (pe_has GT hr (pa_cons (pv 0) (pa_cons pe_int pa_nil))))
        (pss_cons (ps_set (i := 7) scSteps.nd rfl (.inl rfl) (pe_ix ix_list (pv 1) (pe_has GT hr (pa_cons (pv 0) (pa_cons (pe_callB call_len_seq (by rfl) ml PySem.boot_len (pa_cons (pv 1) pa_nil)) pa_nil))) (fun _ _ => rfl)))
        (pss_one (ps_if (pt_cut (PW.pt (pw_and (pt_cmpR op_lt (pv 6) pe_int (nomark _)) (pw_and1 (pt_cmpR (op_neD hr.units) (pv 4) (pe_lst pa_nil) (nomark _))))))
          (pss_cons (ps_set (i := 7) scSteps.nd rfl (.inl rfl) (pe_bm0 PySem.F.plainAttrs_list PySem.F.slot_list_pop PySem.F.type_list_pop mt_pop (pv 4)))
          (pss_one (ps_expr (pe_bm PySem.F.plainAttrs_list PySem.F.slot_list_append PySem.F.type_list_append mt_append (pv 3) (pa_cons (pe_tup (pa_cons pe_str (pa_cons (pv 7) pa_nil))) pa_nil)))))
          (pss_one (ps_if (pt_cut (PW.pt (pw_or (pt_cmpR op_eq (pv 6) pe_int (nomark _)) (pw_or1 (PW.pt (pw_and (pt_cmpR op_eq (pv 6) pe_int (nomark _)) (pw_and1 (pt_cmpR (op_eqD hr.units) (pv 4) (pe_lst pa_nil) (nomark _)))))))))
            (pss_cons (ps_expr (pe_bm PySem.F.plainAttrs_list PySem.F.slot_list_append PySem.F.type_list_append mt_append (pv 3) (pa_cons (pe_tup (pa_cons pe_str (pa_cons (pv 7) pa_nil))) pa_nil)))
            (pss_one (ps_set (i := 4) scSteps.nd rfl (.inl rfl) (pe_ifExp (pt_cut (pt_cmpR (op_eqD hr.units) (pe_slice sl_list (pv 4) (po_some (pe_un un_neg pe_int)) po_none) (pe_lst (pa_cons (pv 7) pa_nil)) (nomark _))) (pe_slice sl_list (pv 4) po_none (po_some (pe_un un_neg pe_int))) (pv 4)))))
            (pss_cons (ps_expr (pe_bm PySem.F.plainAttrs_list PySem.F.slot_list_append PySem.F.type_list_append mt_append (pv 3) (pa_cons (pe_tup (pa_cons pe_str (pa_cons (pv 7) pa_nil))) pa_nil)))
            (pss_one (ps_expr (pe_bm PySem.F.plainAttrs_list PySem.F.slot_list_append PySem.F.type_list_append mt_append (pv 4) (pa_cons (pv 7) pa_nil)))))))))))
      ) (pss_one (ps_ret (pv 3)))), ?_⟩
    refine ⟨Nat.zero_le _, fun g hg => ⟨Nat.zero_le _, fun h0' hh => ⟨_, _, rfl, ?_⟩⟩⟩
    have gp : g ≠ p := hp.free hg
    have hh0 : H h0' = none := (Same.new hg).free hh
    have hgne : g ≠ h0' := ne_of_none upd_same hh
    have ofz : ∀ {hs : List Str}, (∀ z ∈ hs, z ∈ zs) → SeqAt.shaped (.list (hs.map PyData.str)) = true := fun {hs} q => (nice_list (nice_strs fun z m => hI z (q z m))).shaped (by decide)
    refine ⟨_, rfl, m, rfl, by omega, by omega, for_range (lo := 0) (n := m.toNat) (fun i σ H3 => ∃ (h : Addr) (xs : List V) (ss : List Stp) (hs : List Str) (y5 y6 y7 : Option V), σ = [some (.ref p), some (.ref l), some (.int m), some (.ref g), some (.ref h), y5, y6, y7] ∧ SI p l g h zs H H3 xs ss hs ∧ ss.length = i ∧ xs.length = i ∧ hs.length ≤ i) ?_ ?_ ?_⟩
    · refine ⟨h0', [], [], [], none, none, none, rfl, ⟨(But.of (Same.new hg)).free hh0, (hp.upd gp).upd (hp.free hh0), ?_, ?_, .nil, fun s q => (by cases q), upd_same, fun z q => (by cases q), lp, gp, hg, hp.free hh0, hh0, Ne.symm hgne, Ne.symm (ne_of_none hl hh0), ne_of_none hl hg⟩, rfl, rfl, Nat.le_refl _⟩
      · rw [upd_ne (ne_of_none hl hh0), upd_ne (ne_of_none hl hg)]
        exact hl
      · rw [upd_ne hgne]
        exact upd_same
    · rintro i σ H3 hi ⟨h, xs, ss, hs, y5, y6, y7, rfl, a, hsl, hxl, hhl⟩
      refine ⟨_, rfl, p, 8, rfl, a.pl, by decide, by decide, fun r H4 b4 p4 r0 r1 => ?_⟩
      have a4 := a.draw b4 p4
      have hzp : 0 < zs.length := List.length_pos_iff.mpr hne
      refine ⟨_, rfl, _, rfl, _, rfl, l, _, rfl, .inl (.of a4.it), p, _, rfl, a4.pl, ?_, ?_, fun r2 H5 b5 p5 s0 s1 => ?_⟩
      · rw [List.length_map]
        omega
      · rw [List.length_map]
        omega
      rw [List.length_map] at s1
      obtain ⟨z, zm, az⟩ := pick_str s0 s1
      have a5 := a4.draw b5 p5
      refine ⟨l, _, r2, _, rfl, rfl, .of a5.it, az, ?_⟩
      -- way < 3 and held != []
      refine ⟨fun b H6 => SI p l g h zs H H6 xs ss hs ∧ (b = true → hs ≠ []), ?_, ?_⟩
      · refine ⟨_, rfl, r, 3, rfl, rfl, _, rfl, ite2 (fun c => ?_) (fun c => ?_)⟩
        · refine ⟨_, rfl, Nat.zero_le _, fun q hq => ⟨.list (hs.map .str), .list (([] : List Str).map .str), .lst (.of (a5.new hq).hl) (dp_strs hs), .lst (.of upd_same) .nil, ofz a5.hz, ofz (fun z w => (by cases w)), _, rfl, a5.new hq, fun e => ?_⟩⟩
          rw [eqv_listS] at e
          intro z
          rw [z] at e
          exact absurd e (by decide)
        · exact ⟨a5, fun e => (by cases e)⟩
      rintro b H6 ⟨a6, hb⟩
      cases b with
      | true =>
        have hs0 : hs ≠ [] := hb rfl
        refine iteT ?_
        have hlast : (hs.map V.str)[(hs.map V.str).length - 1]? = some (.str (hs.getLast hs0)) := by
          rw [List.length_map, List.getElem?_map, ← List.getLast?_eq_getElem?, List.getLast?_eq_getLast hs0]
          rfl
        have hmem : hs.getLast hs0 ∈ zs := a6.hz _ (List.getLast_mem hs0)
        have a7 : SI p l g h zs H (upd H6 h (.lst (hs.dropLast.map V.str))) xs ss hs.dropLast := a6.hset fun z m => a6.hz z ((List.dropLast_sublist hs).subset m)
        refine ⟨.ref h, rfl, .inl ⟨rfl, _, .of a6.hl⟩, h, _, _, rfl, rfl, a6.hl, hlast, ?_⟩
        rw [← List.map_dropLast]
        refine ⟨.ref g, rfl, .inl ⟨rfl, _, .of a7.fl⟩, _, rfl, (by show 2 ≤ sizeLine; decide), fun t ht => ⟨g, _, _, rfl, rfl, (a7.new ht).fl, ?_, ?_⟩⟩
        · rw [hxl]
          exact small1000 (by omega)
        · refine ⟨h, _, ss ++ [(false, hs.getLast hs0)], _, _, _, _, rfl, (a7.new ht).app (c := false) upd_same hmem, ?_, ?_, ?_⟩
          · rw [List.length_append, hsl]
            rfl
          · rw [List.length_append, hxl]
            rfl
          · rw [List.length_dropLast]
            omega
      | false =>
        refine iteF ?_
        -- the other ways
        refine ⟨fun b H7 => SI p l g h zs H H7 xs ss hs, ?_, ?_⟩
        · refine ⟨_, rfl, rfl, _, rfl, ite2 (fun c => ?_) (fun c => ?_)⟩
          · exact a6
          · refine ⟨_, rfl, rfl, _, rfl, ite2 (fun c2 => ?_) (fun c2 => ?_)⟩
            · exact ⟨_, rfl, Nat.zero_le _, fun q hq => ⟨.list (hs.map .str), .list (([] : List Str).map .str), .lst (.of (a6.new hq).hl) (dp_strs hs), .lst (.of upd_same) .nil, ofz a6.hz, ofz (fun z w => (by cases w)), _, rfl, a6.new hq⟩⟩
            · exact a6
        rintro b H7 a7
        cases b with
        | true =>
          refine iteT ?_
          refine ⟨.ref g, rfl, .inl ⟨rfl, _, .of a7.fl⟩, _, rfl, (by show 2 ≤ sizeLine; decide), fun t ht => ⟨g, _, _, rfl, rfl, (a7.new ht).fl, ?_, ?_⟩⟩
          · rw [hxl]
            exact small1000 (by omega)
          have a8 := (a7.new ht).app (c := false) upd_same zm
          have fin : ∀ (v : Addr) (H9 : Hp) (ks : List Str), SI p l g v zs H H9 (xs ++ [.ref t]) (ss ++ [(false, z)]) ks → ks.length ≤ i → ∃ (h : Addr) (xs : List V) (ss : List Stp) (hs : List Str) (y5 y6 y7 : Option V), [some (.ref p), some (.ref l), some (.int m), some (.ref g), some (.ref v), some (.int (0 + i)), some (.int r), some (.str z)] = [some (V.ref p), some (.ref l), some (.int m), some (.ref g), some (.ref h), y5, y6, y7] ∧ SI p l g h zs H H9 xs ss hs ∧ ss.length = i + 1 ∧ xs.length = i + 1 ∧ hs.length ≤ i + 1 := by
            intro v H9 ks a9 kl
            refine ⟨v, _, _, ks, _, _, _, rfl, a9, ?_, ?_, by omega⟩
            · rw [List.length_append, hsl]
              rfl
            · rw [List.length_append, hxl]
              rfl
          refine ⟨fun b H8 => SI p l g h zs H H8 (xs ++ [.ref t]) (ss ++ [(false, z)]) hs, ?_, ?_⟩
          · refine ⟨_, rfl, 1, rfl, -1, rfl, h, _, rfl, .of a8.hl, fun q hq => ⟨_, rfl, (by show 1 ≤ sizeLine; decide), fun q2 hq2 => ?_⟩⟩
            have a9 := (a8.new hq (o := .lst (cutV (hs.map V.str) (some (-1)) none))).new hq2 (o := .lst [.str z])
            have ne2 : q ≠ q2 := ne_of_none upd_same hq2
            refine ⟨.list (((hs.drop (HT.sIx hs.length 0 (some (-1)))).take (HT.sIx hs.length hs.length none - HT.sIx hs.length 0 (some (-1)))).map .str), .list ([z].map .str), .lst (.of ?_) (dp_strs _), .lst (.of upd_same) (dp_strs [z]), ofz (fun y m => a8.hz y (cut_mem m)), ofz (fun y m => (by rw [List.mem_singleton.mp m]; exact zm)), _, rfl, a9⟩
            rw [upd_ne ne2, upd_same, cut_map]
          rintro b H8 a9
          cases b with
          | true =>
            refine iteT ?_
            refine ⟨_, rfl, 1, rfl, -1, rfl, h, _, rfl, .of a9.hl, fun q hq => ?_⟩
            rw [cut_map]
            refine fin q _ _ (a9.hnew hq fun y m => a9.hz y (cut_mem m)) ?_
            rw [List.length_take, List.length_drop]
            omega
          | false =>
            refine iteF ?_
            exact ⟨_, rfl, fin h H8 hs a9 hhl⟩
        | false =>
          refine iteF ?_
          refine ⟨.ref g, rfl, .inl ⟨rfl, _, .of a7.fl⟩, _, rfl, (by show 2 ≤ sizeLine; decide), fun t ht => ⟨g, _, _, rfl, rfl, (a7.new ht).fl, ?_, ?_⟩⟩
          · rw [hxl]
            exact small1000 (by omega)
          have a8 := (a7.new ht).app (c := true) upd_same zm
          refine ⟨.ref h, rfl, .inl ⟨rfl, _, .of a8.hl⟩, _, rfl, h, _, _, rfl, rfl, a8.hl, ?_, ?_⟩
          · rw [List.length_map]
            exact small1000 (by omega)
          · have a9 : SI p l g h zs H (upd _ h (.lst ((hs ++ [z]).map V.str))) (xs ++ [.ref t]) (ss ++ [(true, z)]) (hs ++ [z]) := a8.hset fun y m => by
              rcases List.mem_append.mp m with q | q
              · exact a8.hz y q
              · rw [List.mem_singleton.mp q]
                exact zm
            rw [List.map_append] at a9
            refine ⟨h, _, _, _, _, _, _, rfl, a9, ?_, ?_, ?_⟩
            · rw [List.length_append, hsl]
              rfl
            · rw [List.length_append, hxl]
              rfl
            · rw [List.length_append]
              show hs.length + 1 ≤ i + 1
              omega
    · rintro σ H3 ⟨h, xs, ss, hs, y5, y6, y7, rfl, a, hsl, hxl, hhl⟩
      exact ⟨_, rfl, k g xs ss H3 a.b a.pl hg a.fl a.st hsl a.sz⟩
end
end SE
namespace SE
open PySem PySem.Spec PyProof.Rows L2
/-! ### what is never reached; types -/
theorem pe_never {X : Cx} {e : Expr} : PE X e (fun _ _ _ => False) := ⟨fun _ _ _ _ _ _ h => h.elim⟩
theorem ty_tup {K : PySem.W.Frag} {H : Hp} {a : Addr} {xs : List V} (h : SqT K H a xs) : TyX K H (.ref a) (.type "tuple") := by
  rcases h with (h | ⟨o, h⟩) | ⟨o, its, n, h1, h2, _⟩
  · exact .base (.tup h)
  · exact .fTuple h
  · exact .kTuple h1 h2
theorem ty_lst {K : PySem.W.Frag} {H : Hp} {a : Addr} {xs : List V} (h : SqL K H a xs) : TyX K H (.ref a) (.type "list") := by
  rcases h with (h | ⟨o, h⟩) | ⟨o, its, n, h1, h2, _⟩
  · exact .base (.lst h)
  · exact .base (.frz h)
  · exact .kList h1 h2
theorem bl_snoc (n : Nat) : (List.replicate n true).map V.bl ++ [V.bl true] = (List.replicate (n + 1) true).map V.bl := by
  rw [List.replicate_succ', List.map_append]
  rfl
theorem all_true (n : Nat) : (List.replicate n true).all id = true := by
  rw [List.all_eq_true]
  intro b hb
  rw [(List.mem_replicate.mp hb).2]
  rfl
theorem abc_has {c : Nat} (h : 97 ≤ c ∧ c ≤ 122) : c ∈ abc.cps.toList := by
  have q : ∀ j : Fin 26, (97 + j.1) ∈ abc.cps.toList := by decide +kernel
  have z := q ⟨c - 97, by omega⟩
  have e : 97 + (c - 97) = c := by omega
  rw [← e]
  exact z
/-- the module's constants -/
structure Cons (K : PySem.W.Frag) (w : World) (mg : Str → Option Value) : Prop where
  let_ : ∃ t, mg "LETTERS" = some (.str abc t)
  ml : ∃ t, mg "MOST_LETTERS" = some (.int 8 t)
  ms : ∃ t, mg "MOST_STEPS" = some (.int 1000 t)
  opp : ∃ (d : Addr) (es : Array DictEntry) (n : Nat) (u v : Value), mg "OPPOSITES" = some (.ref d) ∧ KDict K w d es n ∧ PySem.W.nsIn K d "push" = some (some u) ∧ RelV (.str "pop") u ∧ PySem.W.nsIn K d "pop" = some (some v) ∧ RelV (.str "push") v
/-- built-in names that the module leaves as they are -/
structure Blt (mg : Str → Option Value) : Prop where
  isi : mg "isinstance" = none
  str : mg "str" = none
  len : mg "len" = none
  all : mg "all" = none
  tup : mg "tuple" = none
  lst : mg "list" = none
  enu : mg "enumerate" = none
section
variable {P : Program} {w : World} {K : PySem.W.Frag} {mg : Str → Option Value} {base : Heap}
/-! ### is_item -/
def spIsItem : Sp := fun xs H Q _ => ∃ (z : Str), xs = [.str z] ∧ Item z ∧ ∀ H', Same H H' → Q (.bl true) H'
theorem scIsItem : FnScope ["value", "letter"] ["value"] (defScope sIsItem) := ⟨rfl, rfl, rfl, by decide +kernel, rfl, by decide +kernel, by decide +kernel⟩
theorem has_isItem (D : Def K mg "is_item" sIsItem) (B : Blt mg) (C : Cons K w mg) : Has P w K mg base "is_item" 1 ["value"] [] spIsItem := by
  obtain ⟨tl, hL⟩ := C.let_
  obtain ⟨tm, hM⟩ := C.ml
  refine has_of D scIsItem (fun _ _ _ _ _ _ us hl => match us, hl with | [_], _ => rfl) (fun xs H Q E h => ?_) (fun f cv A out s H xs Q E hr h => ?_)
  · obtain ⟨z, rfl, _⟩ := h
    rfl
  · obtain ⟨z, rfl, iz, k⟩ := h
    refine ⟨_, pss_cons (ps_if (PW.pt (pw_or (pt_not (pt_val (pe_callB call_isi (by rfl) B.isi (by decide +kernel) (pa_cons (pv 0) (pa_cons (pe_bltn (v := .ty "str") (by rfl) B.str (by decide +kernel) rfl) pa_nil)))))
        (pw_or1 (pt_not (pt_chain op_le op_le pe_int (pe_callB call_len_str (by rfl) B.len PySem.boot_len (pa_cons (pv 0) pa_nil)) (pe_glob (v := .int 8) rfl hM ⟨_, rfl⟩)))))) (pss_one (ps_ret pe_bl)) pss_nil)
      (pss_one (ps_ret (pe_callB (cr_all rfl) (by rfl) B.all (by decide +kernel) (pa_cons
        (pe_lc (own := [("letter", 1)]) (g := gName 1) (tt := tYes) rfl scIsItem.nd (pi_str (pv 0)) (blkOk_by (own := [("letter", 1)]) (N := ["value", "letter"]) (sc := defScope sIsItem) (by decide +kernel))
          (fun _ _ _ _ _ => pg_name (i := 1) scIsItem.nd rfl (.inl rfl)) (fun _ _ _ _ _ => pts_nil) (fun _ _ _ _ _ => pe_cmpR op_in_sign (pv 1) (pe_glob (v := .str abc) rfl hL ⟨_, rfl⟩) (by rfl))) pa_nil)))), ?_⟩
    refine ⟨_, rfl, _, .ty "str", .type "str", .type "str", true, rfl, .ty _, .base (.str z), kit_ty (by decide +kernel), true, rfl, iteF ?_⟩
    have p1 : (1 : Int) ≤ (z.length : Int) := by have := iz.pos; omega
    have p2 : (z.length : Int) ≤ 8 := by have := iz.most; omega
    refine ⟨_, rfl, z, rfl, Nat.le_of_lt (small1000 (by have := iz.most; omega)), 1, _, rfl, rfl, true, congrArg V.bl (decide_eq_true p1), iteT ⟨_, 8, rfl, rfl, true, congrArg V.bl (decide_eq_true p2), iteF ?_⟩⟩
    refine ⟨_, rfl, z, rfl, fun D hD => lc_it walk_str (fun j H2 => H2 D = some (.lst ((List.replicate j true).map V.bl)) ∧ Same H H2) ⟨upd_same, Same.new hD⟩ (fun _ _ _ _ => trivial) ?_ ?_⟩
    · rintro j x H2 H3 hj ⟨h2, s2⟩ ⟨rfl, c, hc, rfl⟩
      refine ⟨rfl, yes_in ⟨_, rfl, c, abc, rfl, rfl, _, h2, ?_, ?_, ?_⟩⟩
      · rw [List.length_map, List.length_replicate]
        have : j < z.length := hj
        have := iz.most
        exact small1000 (by omega)
      · have cm : c ∈ z.cps.toList := by
          have q : z.cps.toList[j]? = some c := by rw [Array.getElem?_toList]; exact hc
          exact List.mem_of_getElem? q
        rw [upd_same, decide_eq_true (abc_has (iz.low c cm)), bl_snoc]
      · exact Same.free2 s2 hD
    · rintro H2 ⟨h2, s2⟩
      refine ⟨D, _, rfl, .of h2, ?_⟩
      rw [all_true]
      exact k H2 s2
/-! ### is_word -/
def spIsWord (K : PySem.W.Frag) : Sp := fun xs H Q _ => ∃ (a : Addr) (zs : List Str), xs = [.ref a] ∧ SqT K H a (zs.map V.str) ∧ zs.length ≤ 5000 ∧ (∀ z ∈ zs, Item z) ∧ ∀ H', Same H H' → Q (.bl true) H'
theorem scIsWord : FnScope ["value", "item"] ["value"] (defScope sIsWord) := ⟨rfl, rfl, rfl, by decide +kernel, rfl, by decide +kernel, by decide +kernel⟩
theorem has_isWord (D : Def K mg "is_word" sIsWord) (G : Has P w K mg base "is_item" 1 ["value"] [] spIsItem) (B : Blt mg) : Has P w K mg base "is_word" 2 ["value"] [] (spIsWord K) := by
  refine has_of D scIsWord (fun _ _ _ _ _ _ us hl => match us, hl with | [_], _ => rfl) (fun xs H Q E h => ?_) (fun f cv A out s H xs Q E hr h => ?_)
  · obtain ⟨a, zs, rfl, _⟩ := h
    rfl
  · obtain ⟨a, zs, rfl, hT, hz, hI, k⟩ := h
    refine ⟨_, pss_one (ps_ret (pe_and (pe_callB call_isi (by rfl) B.isi (by decide +kernel) (pa_cons (pv 0) (pa_cons (pe_bltn (v := .ty "tuple") (by rfl) B.tup (by decide +kernel) rfl) pa_nil)))
      (pe_one (pe_callB (cr_all rfl) (by rfl) B.all (by decide +kernel) (pa_cons
        (pe_lc (own := [("item", 1)]) (g := gName 1) (tt := tYes) (te := tCall spIsItem [] E0 (tCons (tVar 1) tNil)) rfl scIsWord.nd (pi_tup (pv 0)) (blkOk_by (own := [("item", 1)]) (N := ["value", "item"]) (sc := defScope sIsWord) (by decide +kernel))
          (fun _ _ _ _ _ => pg_name (i := 1) scIsWord.nd rfl (.inl rfl)) (fun _ _ _ _ _ => pts_nil) (fun _ _ _ _ _ => pe_has G hr (pa_cons (pv 1) pa_nil))) pa_nil))))), ?_⟩
    refine ⟨_, rfl, _, .ty "tuple", .type "tuple", .type "tuple", true, rfl, .ty _, ty_tup hT, kit_ty (by decide +kernel), true, rfl, iteT ?_⟩
    refine ⟨_, rfl, a, rfl, ⟨_, hT⟩, fun D hD => lc_tup (K := K) (a := a) (xs := zs.map V.str) (fun j H2 => H2 D = some (.lst ((List.replicate j true).map V.bl)) ∧ Same H H2) ⟨upd_same, Same.new hD⟩ (fun _ _ _ q => Same.tup q.2 hT) ?_ ?_⟩
    · rintro j x H2 hj ⟨h2, s2⟩
      have jl : j < zs.length := by
        have := (List.getElem?_eq_some_iff.mp hj).1
        rwa [List.length_map] at this
      rw [List.getElem?_map, List.getElem?_eq_getElem jl] at hj
      have e := Option.some.inj hj
      subst e
      refine ⟨rfl, yes_in ⟨_, rfl, zs[j], rfl, hI _ (List.getElem_mem jl), fun H3 s3 => ⟨_, s3 _ _ h2, ?_, ?_, ?_⟩⟩⟩
      · rw [List.length_map, List.length_replicate]
        exact Nat.lt_of_lt_of_le jl (Nat.le_trans hz (by decide))
      · rw [upd_same, bl_snoc]
      · exact Same.free2 (s2.trans s3) hD
    · rintro H2 ⟨h2, s2⟩
      refine ⟨D, _, rfl, .of h2, ?_⟩
      rw [all_true]
      exact k H2 s2
/-! ### is_step -/
def spIsStep (K : PySem.W.Frag) : Sp := fun xs H Q _ => ∃ (v : V) (s : Stp), xs = [v] ∧ StepV K H v s ∧ Item s.2 ∧ ∀ H', Same H H' → Q (.bl true) H'
theorem scIsStep : FnScope ["value", "action", "item"] ["value"] (defScope sIsStep) := ⟨rfl, rfl, rfl, by decide +kernel, rfl, by decide +kernel, by decide +kernel⟩
theorem has_isStep (D : Def K mg "is_step" sIsStep) (G : Has P w K mg base "is_item" 1 ["value"] [] spIsItem) (B : Blt mg) (C : Cons K w mg) : Has P w K mg base "is_step" 2 ["value"] [] (spIsStep K) := by
  obtain ⟨d, es, n, u1, u2, hO, KD, n1, r1, n2, r2⟩ := C.opp
  refine has_of D scIsStep (fun _ _ _ _ _ _ us hl => match us, hl with | [_], _ => rfl) (fun xs H Q E h => ?_) (fun f cv A out s H xs Q E hr h => ?_)
  · obtain ⟨v, st, rfl, _⟩ := h
    rfl
  · obtain ⟨v, st, rfl, ⟨t, rfl, hT⟩, iz, k⟩ := h
    refine ⟨_, pss_cons (ps_if (PW.pt (pw_or (pt_not (pt_val (pe_callB call_isi (by rfl) B.isi (by decide +kernel) (pa_cons (pv 0) (pa_cons (pe_bltn (v := .ty "tuple") (by rfl) B.tup (by decide +kernel) rfl) pa_nil)))))
        (pw_or1 (pt_cmpR op_ne (pe_callB call_len_seq (by rfl) B.len PySem.boot_len (pa_cons (pv 0) pa_nil)) pe_int (nomark _))))) (pss_one (ps_ret pe_bl)) pss_nil)
      (pss_cons (ps_asg (pv 0) (pg_tup (by rfl) (pgs_cons (pg_name (i := 1) scIsStep.nd rfl (.inl rfl)) (pgs_cons (pg_name (i := 2) scIsStep.nd rfl (.inl rfl)) pgs_nil))))
      (pss_one (ps_ret (pe_and (pe_callB call_isi (by rfl) B.isi (by decide +kernel) (pa_cons (pv 1) (pa_cons (pe_bltn (v := .ty "str") (by rfl) B.str (by decide +kernel) rfl) pa_nil)))
        (pe_and (pe_cmpR (op_in_kd KD) (pv 1) (pe_glob (v := .ref d) rfl hO rfl) (by rfl)) (pe_one (pe_has G hr (pa_cons (pv 2) pa_nil)))))))), ?_⟩
    refine ⟨_, rfl, _, .ty "tuple", .type "tuple", .type "tuple", true, rfl, .ty _, ty_tup hT, kit_ty (by decide +kernel), true, rfl, iteF ?_⟩
    refine ⟨_, rfl, t, _, rfl, .inr hT, rfl, _, rfl, iteF ?_⟩
    refine ⟨_, rfl, t, _, rfl, hT, rfl, _, _, rfl, _, _, rfl, rfl, ?_⟩
    refine ⟨_, rfl, _, .ty "str", .type "str", .type "str", true, rfl, .ty _, .base (.str _), kit_ty (by decide +kernel), true, rfl, iteT ?_⟩
    have inO : ∃ r, PySem.W.nsIn K d (act st.1) = some r ∧ r.isSome = true := by
      cases e : st.1 with
      | true => exact ⟨some u1, n1, rfl⟩
      | false => exact ⟨some u2, n2, rfl⟩
    obtain ⟨r, hr1, hr2⟩ := inO
    refine ⟨_, rfl, act st.1, r, rfl, rfl, hr1, r.isSome, rfl, ?_⟩
    rw [hr2]
    exact iteT ⟨_, rfl, st.2, rfl, iz, k⟩
end
end SE
namespace SE
open PySem PySem.Spec PyProof.Rows L2
section
variable {P : Program} {w : World} {K : PySem.W.Frag} {mg : Str → Option Value} {base : Heap}
/-! ### may_hold_steps -/
def spMay (K : PySem.W.Frag) : Sp := fun xs H Q _ => ∃ (a : Addr) (ys : List V), xs = [.ref a] ∧ (SqL K H a ys ∨ SqT K H a ys) ∧ ys.length ≤ 1000 ∧ ∀ H', Same H H' → Q (.bl true) H'
theorem scMay : FnScope ["value"] ["value"] (defScope sMayHold) := ⟨rfl, rfl, rfl, by decide +kernel, rfl, by decide +kernel, by decide +kernel⟩
theorem has_may (D : Def K mg "may_hold_steps" sMayHold) (B : Blt mg) (C : Cons K w mg) : Has P w K mg base "may_hold_steps" 1 ["value"] [] (spMay K) := by
  obtain ⟨tm, hM⟩ := C.ms
  refine has_of D scMay (fun _ _ _ _ _ _ us hl => match us, hl with | [_], _ => rfl) (fun xs H Q E h => ?_) (fun f cv A out s H xs Q E hr h => ?_)
  · obtain ⟨a, ys, rfl, _⟩ := h
    rfl
  · obtain ⟨a, ys, rfl, hS, hl, k⟩ := h
    refine ⟨_, pss_one (ps_ret (pe_and (pe_callB call_isiT (by rfl) B.isi (by decide +kernel) (pa_cons (pv 0) (pa_cons (pe_tup (pa_cons (pe_bltn (v := .ty "list") (by rfl) B.lst (by decide +kernel) rfl) (pa_cons (pe_bltn (v := .ty "tuple") (by rfl) B.tup (by decide +kernel) rfl) pa_nil))) pa_nil)))
      (pe_one (pe_cmpR op_le (pe_callB call_len_seq (by rfl) B.len PySem.boot_len (pa_cons (pv 0) pa_nil)) (pe_glob (v := .int 1000) rfl hM ⟨_, rfl⟩) (nomark _))))), ?_⟩
    refine ⟨_, rfl, (by show 2 ≤ sizeLine; decide), fun t ht => ?_⟩
    have s1 : Same H (upd H t (.tup [.ty "list", .ty "tuple"])) := Same.new ht
    have p1 : (ys.length : Int) ≤ 1000 := by omega
    have ty : ∃ T, TyX K (upd H t (.tup [.ty "list", .ty "tuple"])) (.ref a) T ∧ PySem.W.kitAny K T [.type "list", .type "tuple"] = some true := by
      rcases hS with q | q
      · exact ⟨_, ty_lst (Same.seq s1 q), kitAny_cons (b := true) (kit_ty (by decide +kernel)) (fun z => (by cases z)) (fun _ => rfl)⟩
      · exact ⟨_, ty_tup (Same.tup s1 q), kitAny_cons (b := false) (kit_ty (by decide +kernel)) (fun _ => kitAny_cons (b := true) (kit_ty (by decide +kernel)) (fun z => (by cases z)) (fun _ => rfl)) (fun z => (by cases z))⟩
    obtain ⟨T, ty1, ty2⟩ := ty
    refine ⟨_, t, _, T, _, true, rfl, upd_same, .cons (.ty _) (.cons (.ty _) .nil), ty1, ty2, true, rfl, iteT ?_⟩
    refine ⟨_, rfl, a, ys, rfl, hS.imp (Same.seq s1) (Same.tup s1), _, 1000, rfl, rfl, ?_⟩
    show Q (V.bl (decide ((ys.length : Int) ≤ 1000))) _
    rw [decide_eq_true p1]
    exact k _ s1
theorem walk_enumT {K : PySem.W.Frag} {a : Addr} {xs : List V} : Walk (ItE K a) xs.length (fun H => SqT K H a xs) (YPair (fun i => some (.int (i : Nat))) (fun i => xs[i]?)) := by
  refine ⟨fun i _ hi q => ⟨xs, xs[i], q, by simp [hi]⟩, fun _ q => ⟨xs, q, Nat.le_refl _⟩, fun i H v H2 _ q y => ?_⟩
  obtain ⟨T, x, h1, h2, h3, h4⟩ := y
  exact ⟨T, .int (i : Nat), x, h1, h2, h3, rfl, h4 xs q⟩
end
end SE
namespace SE
open PySem PySem.Spec PyProof.Rows L2
/-- a def with keyword-only defaults alone -/
def DefK (K : PySem.W.Frag) (mg : Str → Option Value) (x : Str) (st : Stmt) (kws : List (Str × V)) : Prop := ∃ f fd, Fun K x x st f fd ∧ FunD K x x (defArgs st) (defBody st) (defScope st) [] kws f fd ∧ mg x = some (.ref f)
end SE
namespace SE
open PySem PySem.Spec PyProof.Rows L2
/-! ### limits -/
abbrev Lim := Option Nat
def limV : Lim → V
  | none => .non
  | some n => .int (n : Int)
def high : Lim → Nat → Bool
  | none, _ => false
  | some m, h => decide (m < h)
def LimOk (l : Lim) : Prop := ∀ n, l = some n → n ≤ 1000
def stepL (l : Lim) (s : Stp) (zs : List Str) : Option (List Str) := if (s.1 && high l (zs.length + 1)) = true then none else stepM s zs
def goL (l : Lim) : Nat → List Stp → List Str → Option Nat × List Str
  | _, [], zs => (none, zs)
  | i, s :: ss, zs => match stepL l s zs with
    | none => (some i, zs)
    | some ws => goL l (i + 1) ss ws
def followL (l : Lim) (ss : List Stp) (zs : List Str) : Option Int × List Str := if high l zs.length = true then (some (-1), zs) else ((goL l 0 ss zs).1.map fun (i : Nat) => (i : Int), (goL l 0 ss zs).2)
def runL (l : Lim) (ss : List Stp) (zs : List Str) : Option (List Str) := match (followL l ss zs).1 with
  | none => some (followL l ss zs).2
  | some _ => none
def stagesG (l : Lim) : List Stp → List Str → List (List Str)
  | [], _ => []
  | s :: ss, zs => match stepL l s zs with
    | none => []
    | some ws => ws :: stagesG l ss ws
def stagesL (l : Lim) (ss : List Stp) (zs : List Str) : List (List Str) := if high l zs.length = true then [] else zs :: stagesG l ss zs
def idxV : Option Int → V
  | none => .non
  | some i => .int i
theorem stepL_sub {l : Lim} {s : Stp} {zs ws : List Str} (h : stepL l s zs = some ws) : stepM s zs = some ws := by
  unfold stepL at h
  split at h
  · cases h
  · exact h
section
variable {P : Program} {w : World} {K : PySem.W.Frag} {mg : Str → Option Value} {base : Heap}
/-! ### is_whole, is_limit, check_limit, check_run, is_too_high -/
def spWhole : Sp := fun xs H Q _ => ∃ n : Int, xs = [.int n] ∧ Q (.bl true) H
theorem scWhL : FnScope ["value"] ["value"] (defScope sIsWhole) := ⟨rfl, rfl, rfl, by decide +kernel, rfl, by decide +kernel, by decide +kernel⟩
theorem has_whole (D : Def K mg "is_whole" sIsWhole) (B : Blt mg) (mi : mg "int" = none) (mb : mg "bool" = none) : Has P w K mg base "is_whole" 1 ["value"] [] spWhole := by
  refine has_of D scWhL (fun _ _ _ _ _ _ us hl => match us, hl with | [_], _ => rfl) (fun xs H Q E h => ?_) (fun f cv A out s H xs Q E hr h => ?_)
  · obtain ⟨n, rfl, _⟩ := h
    rfl
  · obtain ⟨n, rfl, k⟩ := h
    refine ⟨_, pss_one (ps_ret (pe_and (pe_callB call_isi (by rfl) B.isi (by decide +kernel) (pa_cons (pv 0) (pa_cons (pe_bltn (v := .ty "int") (by rfl) mi (by decide +kernel) rfl) pa_nil)))
      (pe_one (pe_not (pe_callB call_isi (by rfl) B.isi (by decide +kernel) (pa_cons (pv 0) (pa_cons (pe_bltn (v := .ty "bool") (by rfl) mb (by decide +kernel) rfl) pa_nil))))))), ?_⟩
    refine ⟨_, rfl, _, .ty "int", .type "int", .type "int", true, rfl, .ty _, .base (.int n), kit_ty (by decide +kernel), true, rfl, iteT ?_⟩
    exact ⟨_, rfl, _, .ty "bool", .type "int", .type "bool", false, rfl, .ty _, .base (.int n), kit_ty (by decide +kernel), false, rfl, k⟩
def spBet : Sp := fun xs H Q _ => ∃ v lo hi : Int, xs = [.int v, .int lo, .int hi] ∧ lo ≤ v ∧ v ≤ hi ∧ Q (.bl true) H
theorem scBetL : FnScope ["value", "least", "most"] ["value", "least", "most"] (defScope sIsBetween) := ⟨rfl, rfl, rfl, by decide +kernel, rfl, by decide +kernel, by decide +kernel⟩
theorem has_bet (D : Def K mg "is_between" sIsBetween) (G : Has P w K mg base "is_whole" 1 ["value"] [] spWhole) : Has P w K mg base "is_between" 2 ["value", "least", "most"] [] spBet := by
  refine has_of D scBetL (fun _ _ _ _ _ _ us hl => match us, hl with | [_, _, _], _ => rfl) (fun xs H Q E h => ?_) (fun f cv A out s H xs Q E hr h => ?_)
  · obtain ⟨v, lo, hi, rfl, _⟩ := h
    rfl
  · obtain ⟨v, lo, hi, rfl, h1, h2, k⟩ := h
    refine ⟨_, pss_one (ps_ret (pe_and (pe_has G hr (pa_cons (pv 0) pa_nil)) (pe_one (pe_chain op_le op_le (pv 1) (pv 0) (pv 2))))), ?_⟩
    refine ⟨_, rfl, v, rfl, true, rfl, iteT ⟨_, rfl, _, rfl, lo, v, rfl, rfl, true, congrArg V.bl (decide_eq_true h1), iteT ⟨_, rfl, v, hi, rfl, rfl, ?_⟩⟩⟩
    show Q (V.bl (decide (v ≤ hi))) H
    rw [decide_eq_true h2]
    exact k
def spLim : Sp := fun xs H Q _ => ∃ l : Lim, xs = [limV l] ∧ LimOk l ∧ Q (.bl true) H
def spLim2 : Sp := fun xs H Q _ => ∃ l : Lim, xs = [limV l] ∧ LimOk l ∧ Q .non H
theorem scIlL : FnScope ["value"] ["value"] (defScope sIsLimit) := ⟨rfl, rfl, rfl, by decide +kernel, rfl, by decide +kernel, by decide +kernel⟩
theorem has_lim (D : Def K mg "is_limit" sIsLimit) (G : Has P w K mg base "is_between" 2 ["value", "least", "most"] [] spBet) (hM : ∃ t, mg "MOST_LIMIT" = some (.int 1000 t)) : Has P w K mg base "is_limit" 3 ["value"] [] spLim := by
  obtain ⟨tm, hM⟩ := hM
  refine has_of D scIlL (fun _ _ _ _ _ _ us hl => match us, hl with | [_], _ => rfl) (fun xs H Q E h => ?_) (fun f cv A out s H xs Q E hr h => ?_)
  · obtain ⟨l, rfl, _⟩ := h
    rfl
  · obtain ⟨l, rfl, hl, k⟩ := h
    refine ⟨_, pss_one (ps_ret (pe_or (pe_cmpR op_isN (pv 0) pe_non (nomark _)) (pe_one (pe_has G hr (pa_cons (pv 0) (pa_cons pe_int (pa_cons (pe_glob (v := .int 1000) rfl hM ⟨_, rfl⟩) pa_nil))))))), ?_⟩
    cases l with
    | none => exact ⟨_, rfl, rfl, true, rfl, iteT k⟩
    | some n =>
      have h1 := hl n rfl
      exact ⟨_, rfl, rfl, false, rfl, iteF ⟨_, rfl, (n : Int), 0, 1000, rfl, by omega, by omega, k⟩⟩
theorem scClL : FnScope ["limit"] ["limit"] (defScope sChkLimit) := ⟨rfl, rfl, rfl, by decide +kernel, rfl, by decide +kernel, by decide +kernel⟩
theorem has_chkLim (D : Def K mg "check_limit" sChkLimit) (G : Has P w K mg base "is_limit" 3 ["value"] [] spLim) : Has P w K mg base "check_limit" 4 ["limit"] [] spLim2 := by
  refine has_of D scClL (fun _ _ _ _ _ _ us hl => match us, hl with | [_], _ => rfl) (fun xs H Q E h => ?_) (fun f cv A out s H xs Q E hr h => ?_)
  · obtain ⟨l, rfl, _⟩ := h
    rfl
  · obtain ⟨l, rfl, hl, k⟩ := h
    refine ⟨_, pss_one (ps_if (pt_not (pt_val (pe_has G hr (pa_cons (pv 0) pa_nil)))) pss_never pss_nil), ?_⟩
    exact ⟨_, rfl, l, rfl, hl, true, rfl, iteF k⟩
/-- valid arguments of a run -/
structure Args3 (K : PySem.W.Frag) (H : Hp) (a q : Addr) (ys : List V) (ss : List Stp) (zs : List Str) : Prop where
  l : SqL K H a ys
  n : ys.length ≤ 1000
  v : StepsV K H ys ss
  i : ∀ s ∈ ss, Item s.2
  t : SqT K H q (zs.map V.str)
  m : zs.length ≤ 3000
  z : ∀ z ∈ zs, Item z
theorem Args3.same {H H' : Hp} {a q : Addr} {ys : List V} {ss : List Stp} {zs : List Str} (h : Args3 K H a q ys ss zs) (e : Same H H') : Args3 K H' a q ys ss zs := ⟨Same.seq e h.l, h.n, h.v.same e, h.i, Same.tup e h.t, h.m, h.z⟩
def spHighL : Sp := fun xs H Q _ => ∃ (n : Nat) (l : Lim), xs = [.int (n : Int), limV l] ∧ Q (.bl (high l n)) H
theorem scHiL : FnScope ["height", "limit"] ["height", "limit"] (defScope sTooHigh) := ⟨rfl, rfl, rfl, by decide +kernel, rfl, by decide +kernel, by decide +kernel⟩
theorem has_highL (D : Def K mg "is_too_high" sTooHigh) : Has P w K mg base "is_too_high" 1 ["height", "limit"] [] spHighL := by
  refine has_of D scHiL (fun _ _ _ _ _ _ us hl => match us, hl with | [_, _], _ => rfl) (fun xs H Q E h => ?_) (fun f cv A out s H xs Q E hr h => ?_)
  · obtain ⟨n, l, rfl, _⟩ := h
    rfl
  · obtain ⟨n, l, rfl, k⟩ := h
    refine ⟨_, pss_one (ps_ret (pe_and (pe_cmpR op_notN (pv 1) pe_non (nomark _)) (pe_one (pe_cmpR op_gt (pv 0) (pv 1) (nomark _))))), ?_⟩
    cases l with
    | none => exact ⟨_, rfl, rfl, false, rfl, iteF k⟩
    | some m =>
      refine ⟨_, rfl, rfl, true, rfl, iteT ⟨_, rfl, _, rfl, (n : Int), (m : Int), rfl, rfl, ?_⟩⟩
      have e : high (some m) n = decide ((m : Int) < (n : Int)) := by
        show decide (m < n) = _
        by_cases c : m < n
        · rw [decide_eq_true c, decide_eq_true (by omega)]
        · rw [decide_eq_false c, decide_eq_false (by omega)]
      rw [e] at k
      exact k
end
end SE
namespace SE
open PySem PySem.Spec PyProof.Rows L2
theorem cutF_to {α : Type} (f : α → V) (xs : List α) (j : Nat) : cutV (xs.map f) none (some (j : Int)) = (xs.take j).map f := by
  unfold cutV
  rw [List.length_map]
  have e1 : HT.sIx xs.length 0 none = 0 := rfl
  rw [e1, HT.sIx_nat, List.drop_zero, Nat.sub_zero, ← List.map_take]
  congr 1
  by_cases c : j ≤ xs.length
  · rw [Nat.min_eq_left c]
  · rw [Nat.min_eq_right (by omega), List.take_length, List.take_of_length_le (by omega)]
theorem cutF_from {α : Type} (f : α → V) (xs : List α) (j : Nat) : cutV (xs.map f) (some (j : Int)) none = (xs.drop j).map f := by
  unfold cutV
  rw [List.length_map]
  have e1 : HT.sIx xs.length xs.length none = xs.length := rfl
  rw [e1, HT.sIx_nat, ← List.map_drop, ← List.map_take]
  congr 1
  by_cases c : j ≤ xs.length
  · rw [Nat.min_eq_left c, List.take_of_length_le (by rw [List.length_drop]; exact Nat.le_refl _)]
  · rw [Nat.min_eq_right (by omega), List.drop_of_length_le (Nat.le_refl _), List.drop_of_length_le (by omega), List.take_nil]
theorem paired_at {α β : Type} {F : α → β → Prop} : ∀ {l₁ : List α} {l₂ : List β} {i : Nat} {x : α}, Paired F l₁ l₂ → l₁[i]? = some x → ∃ y, l₂[i]? = some y ∧ F x y
  | _, _, _, _, .nil, h => by simp at h
  | _, _, 0, _, .cons r _, h => ⟨_, rfl, by cases h; exact r⟩
  | _, _, i + 1, _, .cons _ t, h => by
    obtain ⟨y, h1, h2⟩ := paired_at t (i := i) h
    exact ⟨y, h1, h2⟩
theorem paired_len {α β : Type} {F : α → β → Prop} : ∀ {l₁ : List α} {l₂ : List β}, Paired F l₁ l₂ → l₁.length = l₂.length
  | _, _, .nil => rfl
  | _, _, .cons _ t => congrArg Nat.succ (paired_len t)
theorem Paired.snoc2 {α β : Type} {F : α → β → Prop} : ∀ {l₁ : List α} {l₂ : List β} {x : α} {y : β}, Paired F l₁ l₂ → F x y → Paired F (l₁ ++ [x]) (l₂ ++ [y])
  | _, _, _, _, .nil, h => .cons h .nil
  | _, _, _, _, .cons r t, h => .cons r (Paired.snoc2 t h)
end SE
namespace SE
open PySem PySem.Spec PyProof.Rows L2
/-! ### named steps, and their parts by name -/
abbrev NSt := Bool × Str × Str
def NStV (K : PySem.W.Frag) (H : Hp) (v : V) (s : NSt) : Prop := ∃ t, v = .ref t ∧ SqT K H t [.str (act s.1), .str s.2.1, .str s.2.2]
abbrev NSV (K : PySem.W.Frag) (H : Hp) : List V → List NSt → Prop := Paired (NStV K H)
structure NOk (s : NSt) : Prop where
  n : Item s.2.1
  i : Item s.2.2
theorem NStV.same {K : PySem.W.Frag} {H H' : Hp} {v : V} {s : NSt} (h : NStV K H v s) (e : Same H H') : NStV K H' v s := by
  obtain ⟨t, q, z⟩ := h
  exact ⟨t, q, Same.tup e z⟩
theorem nsv_same {K : PySem.W.Frag} {H H' : Hp} {vs : List V} {ss : List NSt} (h : NSV K H vs ss) (e : Same H H') : NSV K H' vs ss := Paired.mapP h fun _ _ q => q.same e
abbrev Prts := List (Str × List Stp)
def addP (ps : Prts) (n : Str) (s : Stp) : Prts := if ps.any (fun p => decide (p.1 = n)) = true then ps.map (fun p => if p.1 = n then (p.1, p.2 ++ [s]) else p) else ps ++ [(n, [s])]
def prtM (ss : List NSt) : Prts := ss.foldl (fun ps s => addP ps s.2.1 (s.1, s.2.2)) []
theorem prtM_snoc (ss : List NSt) (s : NSt) : prtM (ss ++ [s]) = addP (prtM ss) s.2.1 (s.1, s.2.2) := by
  unfold prtM
  rw [List.foldl_append]
  rfl
theorem prtM_take {ss : List NSt} {j : Nat} {s : NSt} (h : ss[j]? = some s) : prtM (ss.take (j + 1)) = addP (prtM (ss.take j)) s.2.1 (s.1, s.2.2) := by
  rw [List.take_add_one, h]
  exact prtM_snoc _ _
/-- names that differ, names and items as they may be, few enough -/
structure PrOk (ps : Prts) (m : Nat) : Prop where
  nd : (ps.map (·.1)).Nodup
  ok : ∀ p ∈ ps, Item p.1 ∧ (∀ s ∈ p.2, Item s.2) ∧ p.2.length ≤ m
  len : ps.length ≤ m
theorem addP_fst (ps : Prts) (n : Str) (s : Stp) : (addP ps n s).map (·.1) = if ps.any (fun p => decide (p.1 = n)) = true then ps.map (·.1) else ps.map (·.1) ++ [n] := by
  unfold addP
  split
  · rw [List.map_map]
    refine List.map_congr_left fun p _ => ?_
    show (if p.1 = n then (p.1, p.2 ++ [s]) else p).1 = p.1
    split <;> rfl
  · rw [List.map_append]
    rfl
theorem addP_ok {ps : Prts} {m : Nat} {n : Str} {s : Stp} (h : PrOk ps m) (hn : Item n) (hs : Item s.2) : PrOk (addP ps n s) (m + 1) := by
  refine ⟨?_, fun p mp => ?_, ?_⟩
  · rw [addP_fst]
    split
    · exact h.nd
    · rename_i c
      rw [List.nodup_append]
      refine ⟨h.nd, by simp, fun x mx y my e => c ?_⟩
      rw [List.mem_singleton.mp my] at e
      obtain ⟨p, mp, ep⟩ := List.mem_map.mp mx
      exact List.any_eq_true.mpr ⟨p, mp, decide_eq_true (by rw [ep, e])⟩
  · unfold addP at mp
    split at mp
    · obtain ⟨q, mq, rfl⟩ := List.mem_map.mp mp
      obtain ⟨a, b, c⟩ := h.ok q mq
      split
      · refine ⟨a, fun x mx => ?_, by rw [List.length_append, List.length_singleton]; omega⟩
        rcases List.mem_append.mp mx with z | z
        · exact b x z
        · rw [List.mem_singleton.mp z]; exact hs
      · exact ⟨a, b, by omega⟩
    · rcases List.mem_append.mp mp with z | z
      · obtain ⟨a, b, c⟩ := h.ok p z
        exact ⟨a, b, by omega⟩
      · rw [List.mem_singleton.mp z]
        refine ⟨hn, fun x mx => ?_, by show 1 ≤ m + 1; omega⟩
        rw [List.mem_singleton.mp mx]; exact hs
  · unfold addP
    have := h.len
    split
    · rw [List.length_map]; omega
    · rw [List.length_append, List.length_singleton]; omega
theorem prtM_ok : ∀ {ss : List NSt} (j : Nat), (∀ s ∈ ss, NOk s) → PrOk (prtM (ss.take j)) j
  | _, 0, _ => ⟨by simp [prtM], fun p m => by simp [prtM] at m, by simp [prtM]⟩
  | ss, j + 1, h => by
    have ih := prtM_ok (ss := ss) j h
    cases e : ss[j]? with
    | none =>
      have le := List.getElem?_eq_none_iff.mp e
      rw [List.take_of_length_le (by omega)]
      rw [List.take_of_length_le le] at ih
      exact ⟨ih.nd, fun p m => ⟨(ih.ok p m).1, (ih.ok p m).2.1, by have := (ih.ok p m).2.2; omega⟩, by have := ih.len; omega⟩
    | some s =>
      rw [prtM_take e]
      have q := h s (List.mem_of_getElem? e)
      exact addP_ok ih q.n q.i
/-! ### a dict of lists of steps -/
abbrev Ent := Str × Addr × List Stp
def kvsE (es : List Ent) : List (Key × V) := es.map fun e => (Sum.inr e.1, V.ref e.2.1)
def pE (es : List Ent) : Prts := es.map fun e => (e.1, e.2.2)
def LsE (H : Hp) (es : List Ent) : Prop := ∀ e ∈ es, ∃ us, H e.2.1 = some (.lst us) ∧ StepsH H us e.2.2
theorem stepsH_sm {H H' : Hp} {xs : List V} {ss : List Stp} (h : StepsH H xs ss) (s : Same H H') : StepsH H' xs ss := Paired.mapP h fun _ _ q => by
  obtain ⟨t, e, z⟩ := q
  exact ⟨t, e, s _ _ z⟩
theorem LsE.same {H H' : Hp} {es : List Ent} (h : LsE H es) (s : Same H H') : LsE H' es := fun e m => by
  obtain ⟨us, a, b⟩ := h e m
  exact ⟨us, s _ _ a, stepsH_sm b s⟩
theorem valE (es : List Ent) (n : Str) : valV (kvsE es) (Sum.inr n) = (es.find? fun e => decide (e.1 = n)).map fun e => V.ref e.2.1 := by
  induction es with
  | nil => rfl
  | cons e es ih =>
    by_cases c : e.1 = n
    · rw [List.find?_cons_of_pos (by simpa using c)]
      exact valV_pos (show (Sum.inr e.1 : Key) = Sum.inr n by rw [c])
    · rw [List.find?_cons_of_neg (by simpa using c), ← ih]
      exact valV_neg (fun z => c (Sum.inr.inj z))
/-- one more step at an entry that stands -/
def appE (es : List Ent) (n : Str) (s : Stp) : List Ent := es.map fun e => if e.1 = n then (e.1, e.2.1, e.2.2 ++ [s]) else e
theorem appE_kvs (es : List Ent) (n : Str) (s : Stp) : kvsE (appE es n s) = kvsE es := by
  unfold kvsE appE
  rw [List.map_map]
  refine List.map_congr_left fun e _ => ?_
  show ((Sum.inr (if e.1 = n then (e.1, e.2.1, e.2.2 ++ [s]) else e).1 : Key), V.ref (if e.1 = n then (e.1, e.2.1, e.2.2 ++ [s]) else e).2.1) = _
  split <;> rfl
theorem appE_adr (es : List Ent) (n : Str) (s : Stp) : (appE es n s).map (·.2.1) = es.map (·.2.1) := by
  unfold appE
  rw [List.map_map]
  refine List.map_congr_left fun e _ => ?_
  show (if e.1 = n then (e.1, e.2.1, e.2.2 ++ [s]) else e).2.1 = _
  split <;> rfl
theorem appE_p (es : List Ent) (n : Str) (s : Stp) (h : ∃ e ∈ es, e.1 = n) : pE (appE es n s) = addP (pE es) n s := by
  have a : (pE es).any (fun p => decide (p.1 = n)) = true := by
    obtain ⟨e, m, q⟩ := h
    exact List.any_eq_true.mpr ⟨_, List.mem_map.mpr ⟨e, m, rfl⟩, decide_eq_true q⟩
  unfold addP
  rw [if_pos a]
  unfold pE appE
  rw [List.map_map, List.map_map]
  refine List.map_congr_left fun e _ => ?_
  show ((if e.1 = n then (e.1, e.2.1, e.2.2 ++ [s]) else e).1, (if e.1 = n then (e.1, e.2.1, e.2.2 ++ [s]) else e).2.2) = if e.1 = n then (e.1, e.2.2 ++ [s]) else (e.1, e.2.2)
  split <;> rfl
theorem newE_p (es : List Ent) (n : Str) (s : Stp) (L : Addr) (h : ∀ e ∈ es, e.1 ≠ n) : pE (es ++ [(n, L, [s])]) = addP (pE es) n s := by
  have a : ¬ (pE es).any (fun p => decide (p.1 = n)) = true := fun q => by
    obtain ⟨p, m, q⟩ := List.any_eq_true.mp q
    obtain ⟨e, me, rfl⟩ := List.mem_map.mp m
    exact h e me (of_decide_eq_true q)
  unfold addP
  rw [if_neg a]
  unfold pE
  rw [List.map_append]
  rfl
theorem newE_kvs (es : List Ent) (n : Str) (s : Stp) (L : Addr) (h : ∀ e ∈ es, e.1 ≠ n) : putK (kvsE es) (Sum.inr n) (.ref L) = kvsE (es ++ [(n, L, [s])]) := by
  unfold putK
  rw [if_neg]
  · unfold kvsE
    rw [List.map_append]
    rfl
  · intro q
    obtain ⟨p, m, q⟩ := List.any_eq_true.mp q
    obtain ⟨e, me, rfl⟩ := List.mem_map.mp m
    exact h e me (Sum.inr.inj (of_decide_eq_true q))
theorem find_name {es : List Ent} {n : Str} {e : Ent} (h : es.find? (fun e => decide (e.1 = n)) = some e) : e ∈ es ∧ e.1 = n := ⟨List.mem_of_find?_eq_some h, by
  have := List.find?_some (p := fun e : Ent => decide (e.1 = n)) h
  simpa using this⟩
theorem find_no {es : List Ent} {n : Str} (h : es.find? (fun e => decide (e.1 = n)) = none) : ∀ e ∈ es, e.1 ≠ n := fun e m q => by
  have := List.find?_eq_none.mp h e m
  exact this (decide_eq_true q)
section
variable {P : Program} {w : World} {K : PySem.W.Frag} {mg : Str → Option Value} {base : Heap}
/-! ### is_named_step, check_named_steps -/
def spIsN (K : PySem.W.Frag) : Sp := fun xs H Q _ => ∃ (v : V) (s : NSt), xs = [v] ∧ NStV K H v s ∧ NOk s ∧ ∀ H', Same H H' → Q (.bl true) H'
theorem scIn' : FnScope ["value", "action", "name", "item"] ["value"] (defScope sIsNamedStep) := ⟨rfl, rfl, rfl, by decide +kernel, rfl, by decide +kernel, by decide +kernel⟩
theorem has_isN (D : Def K mg "is_named_step" sIsNamedStep) (GI : Has P w K mg base "is_item" 1 ["value"] [] spIsItem) (GS : Has P w K mg base "is_step" 2 ["value"] [] (spIsStep K)) (B : Blt mg) : Has P w K mg base "is_named_step" 3 ["value"] [] (spIsN K) := by
  refine has_of D scIn' (fun _ _ _ _ _ _ us hl => match us, hl with | [_], _ => rfl) (fun xs H Q E h => ?_) (fun f cv A out s H xs Q E hr h => ?_)
  · obtain ⟨v, s, rfl, _⟩ := h
    rfl
  · obtain ⟨v, s, rfl, ⟨t, rfl, hT⟩, ok, k⟩ := h
    have hr1 : Room 1 _ := hr.mono (by decide)
    refine ⟨_, pss_cons (ps_if (PW.pt (pw_or (pt_not (pt_val (pe_callB call_isi (by rfl) B.isi (by decide +kernel) (pa_cons (pv 0) (pa_cons (pe_bltn (v := .ty "tuple") (by rfl) B.tup (by decide +kernel) rfl) pa_nil)))))
        (pw_or1 (pt_cmpR op_ne (pe_callB call_len_seq (by rfl) B.len PySem.boot_len (pa_cons (pv 0) pa_nil)) pe_int (nomark _))))) (pss_one (ps_ret pe_bl)) pss_nil)
      (pss_cons (ps_asg (pv 0) (pg_tup (by rfl) (pgs_cons (pg_name (i := 1) scIn'.nd rfl (.inl rfl)) (pgs_cons (pg_name (i := 2) scIn'.nd rfl (.inl rfl)) (pgs_cons (pg_name (i := 3) scIn'.nd rfl (.inl rfl)) pgs_nil)))))
      (pss_one (ps_ret (pe_and (pe_has GI hr1 (pa_cons (pv 2) pa_nil)) (pe_one (pe_has GS hr (pa_cons (pe_tup (pa_cons (pv 1) (pa_cons (pv 3) pa_nil))) pa_nil))))))), ?_⟩
    refine ⟨_, rfl, _, .ty "tuple", .type "tuple", .type "tuple", true, rfl, .ty _, ty_tup hT, kit_ty (by decide +kernel), true, rfl, iteF ?_⟩
    refine ⟨_, rfl, t, _, rfl, .inr hT, rfl, _, rfl, iteF ?_⟩
    refine ⟨_, rfl, t, _, rfl, hT, rfl, _, _, rfl, _, _, rfl, _, _, rfl, rfl, ?_⟩
    refine ⟨_, rfl, s.2.1, rfl, ok.n, fun H1 s1 => ⟨true, rfl, iteT ⟨_, rfl, _, rfl, (by show 2 ≤ sizeLine; decide), fun u hu => ⟨.ref u, (s.1, s.2.2), rfl, ⟨u, rfl, .of upd_same⟩, ok.i, fun H2 s2 => k H2 ((s1.trans (Same.new hu)).trans s2)⟩⟩⟩⟩
def spChkN (K : PySem.W.Frag) : Sp := fun xs H Q _ => ∃ (a : Addr) (ys : List V) (ss : List NSt), xs = [.ref a] ∧ (SqL K H a ys ∨ SqT K H a ys) ∧ ys.length ≤ 1000 ∧ NSV K H ys ss ∧ (∀ s ∈ ss, NOk s) ∧ ∀ H', Same H H' → Q .non H'
theorem scCn : FnScope ["steps", "index", "step"] ["steps"] (defScope sCheckNamedSteps) := ⟨rfl, rfl, rfl, by decide +kernel, rfl, by decide +kernel, by decide +kernel⟩
theorem has_chkN (D : Def K mg "check_named_steps" sCheckNamedSteps) (GM : Has P w K mg base "may_hold_steps" 1 ["value"] [] (spMay K)) (GS : Has P w K mg base "is_named_step" 3 ["value"] [] (spIsN K)) (B : Blt mg) : Has P w K mg base "check_named_steps" 4 ["steps"] [] (spChkN K) := by
  refine has_of D scCn (fun _ _ _ _ _ _ us hl => match us, hl with | [_], _ => rfl) (fun xs H Q E h => ?_) (fun f cv A out s H xs Q E hr h => ?_)
  · obtain ⟨a, ys, ss, rfl, _⟩ := h
    rfl
  · obtain ⟨a, ys, ss, rfl, hS, hl, hV, hI, k⟩ := h
    have hr1 : Room 1 _ := hr.mono (by decide)
    have one : ∀ {i : Nat} {y : V} {H2 : Hp}, ys[i]? = some y → Same H H2 → ∃ s, NStV K H2 y s ∧ NOk s := by
      intro i y H2 hy s2
      obtain ⟨st, h1, h2⟩ := paired_at hV hy
      exact ⟨st, h2.same s2, hI st (List.mem_of_getElem? h1)⟩
    rcases hS with hS | hS
    · refine ⟨_, pss_cons (ps_if (pt_not (pt_val (pe_has GM hr1 (pa_cons (pv 0) pa_nil)))) pss_never pss_nil)
        (pss_one (ps_for PassesOwn.never rfl (pi_enum (by rfl) B.enu (pa_cons (pv 0) pa_nil)) (pg_tup (by rfl) (pgs_cons (pg_name (i := 1) scCn.nd rfl (.inl rfl)) (pgs_cons (pg_name (i := 2) scCn.nd rfl (.inl rfl)) pgs_nil)))
          (pss_one (ps_if (pt_not (pt_val (pe_has GS hr (pa_cons (pv 2) pa_nil)))) pss_never pss_nil)))), ?_⟩
      refine ⟨_, rfl, a, ys, rfl, .inl hS, hl, fun H1 s1 => ⟨true, rfl, iteF ?_⟩⟩
      refine ⟨_, rfl, a, ys, rfl, Same.seq s1 hS, for_it (walk_enum (K := K) (a := a) (xs := ys)) (fun i σ H2 => ∃ y1 y2, σ = [some (.ref a), y1, y2] ∧ Same H H2) ⟨none, none, rfl, s1⟩ (fun i σ H2 _ q => ?_) ?_ ?_⟩
      · obtain ⟨_, _, _, s2⟩ := q
        exact Same.seq s2 hS
      · rintro i x σ H2 H3 hi ⟨y1, y2, rfl, s2⟩ ⟨T, p, y, rfl, nT, rfl, hp, hy⟩
        refine ⟨T, _, rfl, .of upd_same, rfl, _, _, rfl, _, _, rfl, rfl, ?_⟩
        have s3 : Same H (upd H2 T (.tup [p, y])) := Same.free2 s2 (s2.free nT)
        obtain ⟨st, h1, h2⟩ := one hy s3
        exact ⟨_, rfl, y, st, rfl, h1, h2, fun H4 s4 => ⟨true, rfl, iteF ⟨_, _, rfl, s3.trans s4⟩⟩⟩
      · rintro σ H2 ⟨y1, y2, rfl, s2⟩
        exact k H2 s2
    · refine ⟨_, pss_cons (ps_if (pt_not (pt_val (pe_has GM hr1 (pa_cons (pv 0) pa_nil)))) pss_never pss_nil)
        (pss_one (ps_for PassesOwn.never rfl (pi_enumT (by rfl) B.enu (pa_cons (pv 0) pa_nil)) (pg_tup (by rfl) (pgs_cons (pg_name (i := 1) scCn.nd rfl (.inl rfl)) (pgs_cons (pg_name (i := 2) scCn.nd rfl (.inl rfl)) pgs_nil)))
          (pss_one (ps_if (pt_not (pt_val (pe_has GS hr (pa_cons (pv 2) pa_nil)))) pss_never pss_nil)))), ?_⟩
      refine ⟨_, rfl, a, ys, rfl, .inr hS, hl, fun H1 s1 => ⟨true, rfl, iteF ?_⟩⟩
      refine ⟨_, rfl, a, ys, rfl, Same.tup s1 hS, for_it (walk_enumT (K := K) (a := a) (xs := ys)) (fun i σ H2 => ∃ y1 y2, σ = [some (.ref a), y1, y2] ∧ Same H H2) ⟨none, none, rfl, s1⟩ (fun i σ H2 _ q => ?_) ?_ ?_⟩
      · obtain ⟨_, _, _, s2⟩ := q
        exact Same.tup s2 hS
      · rintro i x σ H2 H3 hi ⟨y1, y2, rfl, s2⟩ ⟨T, p, y, rfl, nT, rfl, hp, hy⟩
        refine ⟨T, _, rfl, .of upd_same, rfl, _, _, rfl, _, _, rfl, rfl, ?_⟩
        have s3 : Same H (upd H2 T (.tup [p, y])) := Same.free2 s2 (s2.free nT)
        obtain ⟨st, h1, h2⟩ := one hy s3
        exact ⟨_, rfl, y, st, rfl, h1, h2, fun H4 s4 => ⟨true, rfl, iteF ⟨_, _, rfl, s3.trans s4⟩⟩⟩
      · rintro σ H2 ⟨y1, y2, rfl, s2⟩
        exact k H2 s2
end
end SE
namespace SE
open PySem PySem.Spec PyProof.Rows L2
/-! ### heaps without some objects -/
def hid (S : List Addr) (H : Hp) : Hp := fun b => if b ∈ S then none else H b
theorem hid_ne {S : List Addr} {b : Addr} {H : Hp} (h : b ∉ S) : hid S H b = H b := if_neg h
theorem hid_out (S : List Addr) (H : Hp) : Same (hid S H) H := fun b o h => by
  unfold hid at h
  by_cases c : b ∈ S
  · rw [if_pos c] at h
    cases h
  · rw [if_neg c] at h
    exact h
theorem hid_map {S T : List Addr} {H H' : Hp} (h : ∀ b o, b ∉ S → H b = some o → b ∉ T ∧ H' b = some o) : Same (hid S H) (hid T H') := fun b o q => by
  unfold hid at q
  by_cases c : b ∈ S
  · rw [if_pos c] at q
    cases q
  · rw [if_neg c] at q
    obtain ⟨h1, h2⟩ := h b o c q
    rw [hid_ne h1]
    exact h2
theorem hid_of {S : List Addr} {H H' : Hp} (h : Same H H') : Same (hid S H) (hid S H') := hid_map fun b o c q => ⟨c, h b o q⟩
theorem hid_but {S : List Addr} {p : Addr} {H H' : Hp} (h : But p H H') (hp : p ∈ S) : Same (hid S H) (hid S H') := hid_map fun b o c q => ⟨c, h b o (fun e => c (e ▸ hp)) q⟩
theorem hid_upd {S : List Addr} {D : Addr} {H : Hp} {o : HO} (hD : D ∈ S) : Same (hid S H) (hid S (upd H D o)) := hid_map fun b u c q => ⟨c, by
  have e : b ≠ D := fun e => c (by rw [e]; exact hD)
  rw [upd_ne e]
  exact q⟩
/-- what H does not know may be hidden too -/
theorem hid_free {S : List Addr} {D : Addr} {H : Hp} (hD : H D = none) : Same (hid S H) (hid (D :: S) H) := hid_map fun b o c q => ⟨fun m => by
  rcases List.mem_cons.mp m with e | m
  · rw [e, hD] at q
    cases q
  · exact c m, q⟩
theorem hid_less {S : List Addr} {D : Addr} {H : Hp} : Same (hid (D :: S) H) (hid S H) := hid_map fun b o c q => ⟨fun m => c (List.mem_cons_of_mem _ m), q⟩
theorem SqT.same3 {K : PySem.W.Frag} {H H' : Hp} {u p : Addr} {xs : List V} (h : SqT K H u xs) (hp : Pool H p) (b : But p H H') : SqT K H' u xs := by
  rcases h with (h | ⟨o, h⟩) | h
  · exact .inl (.inl (b _ _ (fun e => by obtain ⟨m, s, q, _⟩ := hp.ex; rw [e, q] at h; cases h) h))
  · exact .inl (.inr ⟨o, b _ _ (fun e => by obtain ⟨m, s, q, _⟩ := hp.ex; rw [e, q] at h; cases h) h⟩)
  · exact .inr h
def LstAll (S : List Addr) (H : Hp) : Prop := ∀ b ∈ S, ∃ us, H b = some (.lst us)
theorem LstAll.nil {H : Hp} : LstAll [] H := fun _ m => by cases m
theorem LstAll.cons {S : List Addr} {D : Addr} {us : List V} {H : Hp} (h : LstAll S H) (hD : H D = some (.lst us)) : LstAll (D :: S) H := fun b m => by
  rcases List.mem_cons.mp m with e | m
  · exact ⟨us, e ▸ hD⟩
  · exact h b m
theorem LstAll.pool {H : Hp} {p : Addr} (h : Pool H p) : LstAll [p] H := by
  obtain ⟨m, s, e, _⟩ := h.ex
  exact LstAll.nil.cons e
theorem hid_at {S : List Addr} {H : Hp} {b : Addr} {o : HO} (h : LstAll S H) (hb : H b = some o) (n : ∀ us, o ≠ .lst us) : hid S H b = some o := by
  rw [hid_ne fun m => ?_]
  · exact hb
  · obtain ⟨us, e⟩ := h b m
    rw [e] at hb
    cases hb
    exact n us rfl
theorem hid_tup {K : PySem.W.Frag} {S : List Addr} {H : Hp} {a : Addr} {xs : List V} (h : LstAll S H) (ha : SqT K H a xs) : SqT K (hid S H) a xs := by
  rcases ha with (h1 | ⟨o, h1⟩) | h1
  · exact .inl (.inl (hid_at h h1 fun us e => by cases e))
  · exact .inl (.inr ⟨o, hid_at h h1 fun us e => by cases e⟩)
  · exact .inr h1
theorem hid_steps {S : List Addr} {H : Hp} {us : List V} {ss : List Stp} (h : LstAll S H) (hs : StepsH H us ss) : StepsH (hid S H) us ss := Paired.mapP hs fun _ _ q => by
  obtain ⟨t, e, z⟩ := q
  exact ⟨t, e, hid_at h z fun us e => by cases e⟩
section
variable {K : PySem.W.Frag} {C : Addr} {S : List Addr} {H : Hp}
end
end SE
namespace SE
open PySem PySem.Spec PyProof.Rows L2
abbrev NStH (H : Hp) : List V → List NSt → Prop := Paired fun v s => ∃ t, v = .ref t ∧ H t = some (.tup [.str (act s.1), .str s.2.1, .str s.2.2])
theorem NStH.v {K : PySem.W.Frag} {H : Hp} {xs : List V} {ss : List NSt} (h : NStH H xs ss) : NSV K H xs ss := Paired.mapP h fun _ _ q => by
  obtain ⟨t, e, z⟩ := q
  exact ⟨t, e, .of z⟩
theorem nsth_same {H H' : Hp} {xs : List V} {ss : List NSt} (h : NStH H xs ss) (s : Same H H') : NStH H' xs ss := Paired.mapP h fun _ _ q => by
  obtain ⟨t, e, z⟩ := q
  exact ⟨t, e, s _ _ z⟩
section
variable {P : Program} {w : World} {K : PySem.W.Frag} {mg : Str → Option Value} {base : Heap}
/-! ### _law_named -/
def spNamed : Sp := fun xs H Q _ => ∃ (p nl il : Addr) (m : Int) (ns zs : List Str), xs = [.ref p, .ref nl, .ref il, .int m] ∧ Pool H p ∧ nl ≠ p ∧ H nl = some (.lst (ns.map V.str)) ∧ ns ≠ [] ∧ ns.length ≤ 100 ∧ (∀ z ∈ ns, Item z) ∧ il ≠ p ∧ H il = some (.lst (zs.map V.str)) ∧ zs ≠ [] ∧ zs.length ≤ 100 ∧ (∀ z ∈ zs, Item z) ∧ 0 ≤ m ∧ m ≤ 100 ∧
  ∀ (t : Addr) (us : List V) (ss : List NSt) (H' : Hp), But p H H' → Pool H' p → H t = none → t ≠ p → H' t = some (.lst us) → NStH H' us ss → (ss.length : Int) ≤ m → (∀ s ∈ ss, NOk s ∧ s.2.1 ∈ ns) → Q (.ref t) H'
abbrev nNa : List Str := ["_law_pool_here", "_law_names", "_law_items_here", "_law_many", "_law_found", "_law_step"]
theorem scNa : FnScope nNa ["_law_pool_here", "_law_names", "_law_items_here", "_law_many"] (defScope sLawNamed) := ⟨rfl, rfl, rfl, by decide +kernel, rfl, by decide +kernel, by decide +kernel⟩
theorem act_len (b : Bool) : (act b).length ≤ 4 := by cases b <;> decide +kernel
theorem has_named (D : Def K mg "_law_named" sLawNamed) (GT : Has P w K mg base "_law_take" 1 ["_law_pool_here", "_law_many"] [] spTake) (GS : Has P w K mg base "_law_steps" 2 ["_law_pool_here", "_law_items_here", "_law_many"] [] spSteps) (ml : mg "len" = none) : Has P w K mg base "_law_named" 3 ["_law_pool_here", "_law_names", "_law_items_here", "_law_many"] [] spNamed := by
  refine has_of D scNa (fun _ _ _ _ _ _ us hl => match us, hl with | [_, _, _, _], _ => rfl) (fun xs H Q E h => ?_) (fun f cv A out s H xs Q E hr h => ?_)
  · obtain ⟨p, nl, il, m, ns, zs, rfl, _⟩ := h
    rfl
  · obtain ⟨p, nl, il, m, ns, zs, rfl, hp, np, hn, nne, n1, nI, lp', hil, zne, z1, zI, m0, m1, k⟩ := h
    have hr1 : Room 1 _ := hr.mono (by decide)
    refine ⟨_, pss_cons (ps_set (i := 4) scNa.nd rfl (.inl rfl) (pe_lst pa_nil))
      (pss_cons (ps_for PassesOwn.never rfl (pi_list (pe_has GS hr (pa_cons (pv 0) (pa_cons (pv 2) (pa_cons (pv 3) pa_nil))))) (pg_name (i := 5) scNa.nd rfl (.inl rfl))
        (pss_one (ps_expr (pe_bm PySem.F.plainAttrs_list PySem.F.slot_list_append PySem.F.type_list_append mt_append (pv 4) (pa_cons (pe_tup (pa_cons (pe_ix ix_tup (pv 5) pe_int (fun _ _ => rfl)) (pa_cons (pe_ix ix_list (pv 1) (pe_has GT hr1 (pa_cons (pv 0) (pa_cons (pe_callB call_len_seq (by rfl) ml PySem.boot_len (pa_cons (pv 1) pa_nil)) pa_nil))) (fun _ _ => rfl)) (pa_cons (pe_ix ix_tup (pv 5) pe_int (fun _ _ => rfl)) pa_nil)))) pa_nil)))))
      (pss_one (ps_ret (pv 4)))), ?_⟩
    refine ⟨(by show 0 ≤ sizeLine; decide), fun g hg => ?_⟩
    have gp : g ≠ p := hp.free hg
    have sg : Same H (upd H g (.lst [])) := Same.new hg
    refine ⟨_, rfl, _, rfl, _, rfl, p, il, m, zs, rfl, hp.same sg, lp', sg _ _ hil, zne, by omega, zI, m0, m1, fun t us ss H1 b1 p1 t0 ht hs ls sz => ?_⟩
    have hg1 : H1 g = some (.lst []) := b1 _ _ gp upd_same
    have tg : t ≠ g := fun q => by rw [q, upd_same] at t0; cases t0
    have tp : t ≠ p := (hp.same sg).free t0
    have hn1 := b1 _ _ np (sg _ _ hn)
    have nlg : nl ≠ g := ne_of_none hn hg
    have la1 : LstAll [g, p] H1 := (LstAll.pool p1).cons hg1
    have hs1 := hid_steps la1 hs
    have ht1 : hid [g, p] H1 t = some (.lst us) := by rw [hid_ne (by simp [tg, tp])]; exact ht
    have hn1h : hid [g, p] H1 nl = some (.lst (ns.map V.str)) := by rw [hid_ne (by simp [nlg, np])]; exact hn1
    have lus : us.length = ss.length := Paired.length hs
    have gm : g ∈ [g, p] := by simp
    have pm : p ∈ [g, p] := by simp
    have bH1 : But p H H1 := fun c o n q => b1 c o n (sg c o q)
    refine ⟨t, rfl, ⟨_, .of ht⟩, for_list (K := K) (a := t) (xs := us) (fun j σ H2 => ∃ (us2 : List V) (ss2 : List NSt) (y5 : Option V), σ = [some (.ref p), some (.ref nl), some (.ref il), some (.int m), some (.ref g), y5] ∧ H2 g = some (.lst us2) ∧ NStH (hid [g, p] H2) us2 ss2 ∧ us2.length = j ∧ Pool H2 p ∧ Same (hid [g, p] H1) (hid [g, p] H2) ∧ But p H H2 ∧ ∀ s ∈ ss2, NOk s ∧ s.2.1 ∈ ns) ⟨[], [], _, rfl, hg1, .nil, rfl, p1, Same.refl _, bH1, fun s m => (by cases m)⟩ (fun j σ H2 _ q => ?_) ?_ ?_⟩
    · obtain ⟨_, _, _, _, _, _, _, _, s2, _⟩ := q
      exact .of (hid_out _ _ _ _ (s2 _ _ ht1))
    · rintro j x σ H2 hx ⟨us2, ss2, y5, rfl, hg2, hN2, l2, p2, s2, b2, ok2⟩
      obtain ⟨st, h1, u, rfl, hu⟩ := paired_at hs1 hx
      have hu2 := hid_out _ _ _ _ (s2 _ _ hu)
      have hn2 := hid_out _ _ _ _ (s2 _ _ hn1h)
      have jl := (List.getElem?_eq_some_iff.mp hx).1
      have lns : 0 < ns.length := List.length_pos_iff.mpr nne
      refine ⟨.ref g, rfl, .inl ⟨rfl, _, .of hg2⟩, _, rfl, u, _, 0, _, rfl, rfl, .of hu2, atI_nat (j := 0) rfl, ?_⟩
      refine ⟨_, rfl, _, rfl, _, rfl, nl, _, rfl, .inl (.of hn2), p, _, rfl, p2, ?_, ?_, fun r H3 b3 p3 r0 r1 => ?_⟩
      · rw [List.length_map]; omega
      · rw [List.length_map]; omega
      rw [List.length_map] at r1
      obtain ⟨z, zm, az⟩ := pick_str r0 r1
      have hg3 := b3 _ _ gp hg2
      have s3 := hid_but (S := [g, p]) b3 pm
      have hu3 := hid_out _ _ _ _ (s3 _ _ (s2 _ _ hu))
      refine ⟨nl, _, r, _, rfl, rfl, .of (b3 _ _ np hn2), az, _, rfl, u, _, 1, _, rfl, rfl, .of hu3, atI_nat (j := 1) rfl, (by show 3 ≤ sizeLine; decide), fun T hT => ?_⟩
      have sT : Same H3 (upd H3 T (.tup [.str (act st.1), .str z, .str st.2])) := Same.new hT
      have Tg : T ≠ g := Ne.symm (ne_of_none hg3 hT)
      have Tp : T ≠ p := p3.free hT
      have sx : Same (hid [g, p] H2) (hid [g, p] (upd (upd H3 T (.tup [.str (act st.1), .str z, .str st.2])) g (.lst (us2 ++ [.ref T])))) := (s3.trans (hid_of sT)).trans (hid_upd gm)
      refine ⟨g, us2, _, rfl, rfl, sT _ _ hg3, by rw [sizeLine_eq]; omega, us2 ++ [.ref T], ss2 ++ [(st.1, z, st.2)], _, rfl, upd_same, ?_, by rw [List.length_append, l2]; rfl, (p3.same sT).upd gp, s2.trans sx, ?_, fun q mq => ?_⟩
      · refine Paired.snoc2 (nsth_same hN2 sx) ⟨T, rfl, ?_⟩
        rw [hid_ne (by simp [Tg, Tp]), upd_ne Tg]
        exact upd_same
      · exact ((b2.trans b3).trans (But.of sT)).free hg
      · rcases List.mem_append.mp mq with z' | z'
        · exact ok2 q z'
        · rw [List.mem_singleton.mp z']
          exact ⟨⟨nI z zm, zI _ (sz st (List.mem_of_getElem? h1))⟩, zm⟩
    · rintro σ H2 ⟨us2, ss2, y5, rfl, hg2, hN2, l2, p2, s2, b2, ok2⟩
      have := Paired.length hN2
      exact ⟨_, rfl, k g us2 ss2 H2 b2 p2 hg gp hg2 (nsth_same hN2 (hid_out _ _)) (by omega) ok2⟩
end
end SE
namespace SE
open PySem PySem.Spec PyProof.Rows L2
theorem act_push (b : Bool) : decide (V.str (act b) = V.str "push") = b := by
  cases b
  · exact decide_eq_false (fun e => absurd (V.str.inj e) (by decide +kernel))
  · exact decide_eq_true rfl
theorem stepM_pop (x : Str) (zs : List Str) : stepM (false, x) zs = if zs.take 1 = [x] then some (zs.drop 1) else none := by
  cases zs with
  | nil => rfl
  | cons z r =>
    show (if z = x then some r else none) = if [z] = [x] then some r else none
    by_cases e : z = x
    · rw [if_pos e, if_pos (by rw [e])]
    · rw [if_neg e, if_neg (by intro q; exact e (List.cons.inj q).1)]
section
variable {P : Program} {w : World} {K : PySem.W.Frag} {mg : Str → Option Value} {base : Heap}
/-! ### after_step -/
/-- a stack or None -/
def StkV (K : PySem.W.Frag) (H : Hp) (v : V) : Option (List Str) → Prop
  | none => v = .non
  | some zs => ∃ q, v = .ref q ∧ SqT K H q (zs.map V.str)
theorem StkV.same {H H' : Hp} {v : V} {o : Option (List Str)} (h : StkV K H v o) (e : Same H H') : StkV K H' v o := by
  cases o with
  | none => exact h
  | some zs =>
    obtain ⟨q, rfl, t⟩ := h
    exact ⟨q, rfl, Same.tup e t⟩
def spAfterL (K : PySem.W.Frag) : Sp := fun xs H Q _ => ∃ (v : V) (s : Stp) (q : Addr) (zs : List Str) (l : Lim), xs = [v, .ref q, limV l] ∧ StepV K H v s ∧ Item s.2 ∧ SqT K H q (zs.map V.str) ∧ zs.length ≤ 5000 ∧ (∀ z ∈ zs, Item z) ∧
  ∀ (u : V) (H' : Hp), Same H H' → StkV K H' u (stepL l s zs) → Q u H'
theorem scAfL : FnScope ["step", "stack", "limit", "action", "item"] ["step", "stack", "limit"] (defScope sAfter) := ⟨rfl, rfl, rfl, by decide +kernel, rfl, by decide +kernel, by decide +kernel⟩
theorem has_afterL (D : Def K mg "after_step" sAfter) (G : Has P w K mg base "is_too_high" 1 ["height", "limit"] [] spHighL) (B : Blt mg) : Has P w K mg base "after_step" 2 ["step", "stack", "limit"] [] (spAfterL K) := by
  refine has_of D scAfL (fun _ _ _ _ _ _ us hl => match us, hl with | [_, _, _], _ => rfl) (fun xs H Q E h => ?_) (fun f cv A out s H xs Q E hr h => ?_)
  · obtain ⟨v, st, q, zs, l, rfl, _⟩ := h
    rfl
  · obtain ⟨v, ⟨b, x⟩, q, zs, l, rfl, ⟨t, rfl, hT⟩, ix, hQ, hz, hI, k⟩ := h
    refine ⟨_, pss_cons (ps_asg (pv 0) (pg_tup (by rfl) (pgs_cons (pg_name (i := 3) scAfL.nd rfl (.inl rfl)) (pgs_cons (pg_name (i := 4) scAfL.nd rfl (.inl rfl)) pgs_nil))))
      (pss_cons (ps_if (pt_cmpR op_eq (pv 3) pe_str (nomark _))
        (pss_one (ps_ret (pe_ifExp (pt_val (pe_has G hr (pa_cons (pe_op op_add (pe_callB call_len_seq (by rfl) B.len PySem.boot_len (pa_cons (pv 1) pa_nil)) pe_int) (pa_cons (pv 2) pa_nil)))) pe_non (pe_op op_catA (pe_tup (pa_cons (pv 4) pa_nil)) (pv 1))))) pss_nil)
      (pss_one (ps_ret (pe_ifExp (pt_cmpR (op_eqD hr.units) (pe_slice sl_tupA (pv 1) po_none (po_some pe_int)) (pe_tup (pa_cons (pv 4) pa_nil)) (nomark _)) (pe_slice sl_tupA (pv 1) (po_some pe_int) po_none) pe_non)))), ?_⟩
    refine ⟨_, rfl, t, _, rfl, hT, rfl, _, _, rfl, _, _, rfl, rfl, ?_⟩
    refine ⟨_, rfl, rfl, _, rfl, ?_⟩
    show if decide (V.str (act b) = V.str "push") = true then _ else _
    rw [act_push]
    cases b with
    | true =>
      refine iteT ?_
      refine ⟨_, rfl, q, _, rfl, .inr hQ, _, 1, rfl, rfl, _, rfl, zs.length + 1, l, ?_, high l (zs.length + 1), rfl, ?_⟩
      · show [V.int (((zs.map V.str).length : Int) + 1), limV l] = _
        rw [List.length_map]
        rfl
      cases hh : high l (zs.length + 1) with
      | true =>
        refine iteT (k _ _ (Same.refl H) ?_)
        show StkV K H V.non (if (true && high l (zs.length + 1)) = true then none else _)
        rw [hh]
        rfl
      | false =>
        have st : stepL l (true, x) zs = some (x :: zs) := by
          show (if (true && high l (zs.length + 1)) = true then none else _) = _
          rw [hh]
          rfl
        rw [st] at k
        refine iteF ?_
        refine ⟨_, rfl, (by show 1 ≤ sizeLine; decide), fun a ha => ⟨_, rfl, a, q, [.str x], zs.map V.str, rfl, rfl, .of upd_same, Same.tup (Same.new ha) hQ, ?_, fun e => (by cases e), fun _ e => ?_, fun _ e p hp => ?_⟩⟩
        · rw [List.length_map]
          exact Nat.le_trans (show 1 + zs.length ≤ 5001 by omega) (by decide)
        · have e0 : zs = [] := List.map_eq_nil_iff.mp e
          subst e0
          exact k _ _ (Same.new ha) ⟨a, rfl, .of upd_same⟩
        · exact k _ _ ((Same.new ha).trans (Same.new hp)) ⟨p, rfl, .of upd_same⟩
    | false =>
      have st : stepL l (false, x) zs = stepM (false, x) zs := rfl
      rw [st] at k
      refine iteF ?_
      have e1 : HT.sIx zs.length zs.length (some 1) = min 1 zs.length := HT.sIx_nat zs.length zs.length 1
      have c1 : cutV (zs.map V.str) none (some 1) = (zs.take 1).map V.str := by
        rw [cut_map]
        show ((zs.drop 0).take (HT.sIx zs.length zs.length (some 1) - 0)).map V.str = _
        rw [e1, List.drop_zero, Nat.sub_zero]
        congr 1
        cases zs with
        | nil => rfl
        | cons z r => rw [show min 1 (z :: r).length = 1 by rw [List.length_cons]; omega]
      have c2 : cutV (zs.map V.str) (some 1) none = (zs.drop 1).map V.str := by
        rw [cut_map]
        have e2 : HT.sIx zs.length 0 (some 1) = min 1 zs.length := HT.sIx_nat zs.length 0 1
        rw [e2]
        show ((zs.drop (min 1 zs.length)).take (zs.length - min 1 zs.length)).map V.str = _
        cases zs with
        | nil => rfl
        | cons z r =>
          rw [show min 1 (z :: r).length = 1 by rw [List.length_cons]; omega]
          show ((r.take ((z :: r).length - 1))).map V.str = r.map V.str
          rw [List.length_cons, Nat.add_sub_cancel, List.take_length]
      have sh1 : ∀ {ws : List Str}, (∀ z ∈ ws, z ∈ zs) → SeqAt.shaped (.tuple (ws.map PyData.str)) = true := fun {ws} m => (nice_tuple (nice_strs fun z h => hI z (m z h))).shaped (by decide)
      have shx : SeqAt.shaped (.tuple ([x].map PyData.str)) = true := (nice_tuple (nice_strs (zs := [x]) fun z h => by rw [List.mem_singleton.mp h]; exact ix)).shaped (by decide)
      have go : ∀ (r : Addr) (H1 : Hp), Same H H1 → SqT K H1 r ((zs.take 1).map V.str) → ∀ a, H1 a = none →
          (∃ d e, Dp K (upd H1 a (.tup [.str x])) (.ref r) d ∧ Dp K (upd H1 a (.tup [.str x])) (.ref a) e ∧ SeqAt.shaped d = true ∧ SeqAt.shaped e = true ∧ PyData.eqv d e = decide (zs.take 1 = [x])) := by
        intro r H1 s1 hr1 a ha
        exact ⟨.tuple ((zs.take 1).map .str), .tuple ([x].map .str), .tup (Same.tup (Same.new ha) hr1) (dp_strs _), .tup (.of upd_same) (dp_strs [x]), sh1 (fun z m => List.mem_of_mem_take m), shx, eqv_tupS _ _⟩
      have fin : ∀ (H1 : Hp), Same H H1 → (if decide (zs.take 1 = [x]) = true then (tSl (rSlA K) (tVar 1) (tPart (tC (.int 1))) tNoPart) [some (.ref t), some (.ref q), some (limV l), some (.str (act false)), some (.str x)] H1 Q else (tC V.non) [some (.ref t), some (.ref q), some (limV l), some (.str (act false)), some (.str x)] H1 Q) := by
        intro H1 s1
        by_cases c : zs.take 1 = [x]
        · rw [decide_eq_true c]
          refine iteT ⟨_, rfl, 1, rfl, q, _, rfl, Same.tup s1 hQ, fun w => ?_, fun w p hp => ?_⟩
          · have hk : (HT.sIx (zs.map V.str).length 0 (some 1)) = min 1 (zs.map V.str).length := HT.sIx_nat _ 0 1
            have w1 := w.1
            rw [hk, List.length_map] at w1
            have z0 : zs.length = 0 := by omega
            have z1 : zs = [] := List.eq_nil_of_length_eq_zero z0
            rw [z1] at c
            cases c
          · refine k _ _ (s1.trans (Same.new hp)) ?_
            rw [stepM_pop, if_pos c]
            exact ⟨p, rfl, .of (by rw [upd_same, c2])⟩
        · rw [decide_eq_false c]
          refine iteF (k _ _ s1 ?_)
          rw [stepM_pop, if_neg c]
          rfl
      refine ⟨_, rfl, 1, rfl, q, _, rfl, hQ, fun w => ?_, fun w p hp => ?_⟩
      · have w2 := w.2
        have hk : (HT.sIx (zs.map V.str).length (zs.map V.str).length (some 1)) = min 1 (zs.map V.str).length := HT.sIx_nat _ _ 1
        rw [hk, List.length_map] at w2
        have t1 : zs.take 1 = zs := List.take_of_length_le (by omega)
        refine ⟨_, rfl, (by show 1 ≤ sizeLine; decide), fun a ha => ?_⟩
        obtain ⟨d, e, g1, g2, g3, g4, g5⟩ := go q H (Same.refl H) (by rw [t1]; exact hQ) a ha
        refine ⟨d, e, g1, g2, g3, g4, _, rfl, ?_⟩
        rw [g5]
        exact fin _ (Same.new ha)
      · refine ⟨_, rfl, (by show 1 ≤ sizeLine; decide), fun a ha => ?_⟩
        obtain ⟨d, e, g1, g2, g3, g4, g5⟩ := go p _ (Same.new hp) (.of (by rw [upd_same, c1])) a ha
        refine ⟨d, e, g1, g2, g3, g4, _, rfl, ?_⟩
        rw [g5]
        exact fin _ ((Same.new hp).trans (Same.new ha))
end
end SE
/-! Dicts: a comprehension over any walk; a value that is locked for good. -/
namespace SE
open PySem PySem.Spec PyProof.Rows L2
section
variable {J : It} {n : Nat} {G : Hp → Prop} {Y : Nat → Hp → V → Hp → Prop}
theorem dc_it (w : Walk J n G Y) {g : TG} {tt : TT} {tk tv : TE} {vs : List Nat} {σ : L2.St} {H1 : Hp} {D : Addr} {Qd : Hp → Prop} (Pv : Nat → Hp → Prop) (h0 : Pv 0 (upd H1 D (.dK []))) (hG : ∀ i H, i ≤ n → Pv i H → G H)
    (hs : ∀ i x H H', i < n → Pv i H → Y i H x H' → g x (wipe σ vs) H' fun σ2 H2 => wipe σ2 vs = wipe σ vs ∧ tt σ2 H2 fun b H3 =>
      if b = true then tk σ2 H3 fun y H4 => tv σ2 H4 fun z H5 => ∃ kvs k, y = kV k ∧ H5 D = some (.dK kvs) ∧ kvs.length < sizeLine ∧ Pv (i + 1) (upd H5 D (.dK (putK kvs k z))) else Pv (i + 1) H3) (hd : ∀ H, Pv n H → Qd H) :
    ∃ W : Nat → Nat → Hp → Prop, (∃ m, W 0 m (upd H1 D (.dK []))) ∧ ∀ i m H, W i m H →
      (J.stop i H ∧ Qd H) ∨ (J.go i H ∧ ∃ Nx : Hp → Prop, (∀ H', Nx H' → ∃ m', m' < m ∧ W (i + 1) m' H') ∧ ∀ x H', J.yld i H x H' → g x (wipe σ vs) H' fun σ2 H2 => wipe σ2 vs = wipe σ vs ∧ tt σ2 H2 fun b H3 =>
        if b = true then tk σ2 H3 fun y H4 => tv σ2 H4 fun z H5 => ∃ kvs k, y = kV k ∧ H5 D = some (.dK kvs) ∧ kvs.length < sizeLine ∧ Nx (upd H5 D (.dK (putK kvs k z))) else Nx H3) := by
  refine ⟨fun i m H => m = n - i ∧ i ≤ n ∧ Pv i H, ⟨n, by simp, Nat.zero_le _, h0⟩, ?_⟩
  rintro i m H ⟨rfl, hi, p⟩
  have q := hG i H hi p
  by_cases hlt : i < n
  · exact .inr ⟨w.goes i H hlt q, Pv (i + 1), fun H' p' => ⟨n - (i + 1), by omega, rfl, hlt, p'⟩, fun x H' y => hs i x H H' hlt p (w.yields i H x H' hlt q y)⟩
  · have e : i = n := by omega
    subst e
    exact .inl ⟨w.stops H q, hd H p⟩
end
/-- the value of e, from now on locked -/
def tFrz (te : TE) : TE := fun σ H Q => te σ H fun x H1 => ∃ d u, x = .ref d ∧ H1 d = some u ∧ Mut (some u) ∧ ∀ od, Q x (upd H1 d (.frz od u))
section
variable {X : Cx}
theorem pe_frz {e : Expr} {te : TE} (h : PE X e te) : PE X e (tFrz te) := by
  refine ⟨fun pins s σ H Q I hw => thn (h.run pins s σ H _ I hw) fun v s1 ⟨x, H1, I1, r, d, u, ex, hd, mu, q⟩ => ?_⟩
  obtain ⟨od, I2⟩ := I1.lock hd mu
  exact ⟨x, _, I2, r, q od⟩
end
/-! ### name = {.. for ..} on one line -/
section
variable {X : Cx}
theorem ps_setDc {i : Nat} {y : Str} {yp : Pos} {kx vx tgt itx : Expr} {cs : List Expr} {sco : Scope} {ow : List (Str × Nat)} {dp sp : Pos} {wi : TI} {g : TG} {tt : TT} {tk tv : TE} (calm : X.calm = true) (nod : X.N.Nodup) (hy : X.N[i]? = some y) (loc : X.env.scope.names.lookup y = some .local)
    (sw : swapsWith (.DictComp kx vx [⟨tgt, itx, cs, 0⟩] sco dp) (some (.Name y yp)) sp.line X.env = pure true) (hi : PI X tgt itx wi) (ok : BlkOk X.N X.env.scope sco ow)
    (hg : ∀ (s : Shared) (H : Hp) (U : Addr) (cl : List (Str × Addr)) (fp : List Addr), PG (X.blk s H sco (compEnvC sco cl U X.env) fp) tgt g) (ht : ∀ (s : Shared) (H : Hp) (U : Addr) (cl : List (Str × Addr)) (fp : List Addr), PTs (X.blk s H sco (compEnvC sco cl U X.env) fp) cs tt)
    (hk : ∀ (s : Shared) (H : Hp) (U : Addr) (cl : List (Str × Addr)) (fp : List Addr), PE (X.blk s H sco (compEnvC sco cl U X.env) fp) kx tk)
    (hv : ∀ (s : Shared) (H : Hp) (U : Addr) (cl : List (Str × Addr)) (fp : List Addr), PE (X.blk s H sco (compEnvC sco cl U X.env) fp) vx tv) (fold : ∀ x, foldedSetIterable itx X.env x = pure x := by intro _; rfl) :
    PS X (.Assign [.Name y yp] (.DictComp kx vx [⟨tgt, itx, cs, 0⟩] sco dp) sp) (tAsg (tDc wi g tt tk tv (ow.map (·.2))) (gName i)) := by
  constructor
  intro pins s σ H Dn I q
  rw [exec_Assign_Name_used _ _ _ _ sw]
  refine wpAny_bind (wpAny_standAt (wpAny_bind ?_))
  show wpAny _ X.A (do let _ ← comprehension (.DictComp kx vx [⟨tgt, itx, cs, 0⟩] sco dp) sco X.env (firstIterPos [⟨tgt, itx, cs, 0⟩] dp) newDict false (eval itx X.env) (some (assign (.Name y yp) X.env))) _ _ s
  have q : tDc wi g tt tk tv (ow.map (·.2)) σ H (fun x H1 => gName i x σ H1 Dn.nx) := q
  refine wpAny_bind (thn (dc_core (Qf := fun _ s' => SP X pins Dn .next s') calm nod I hi ok hg ht hk hv fold q fun L U s' m H' J r nm fp => ?_) fun _ s' z => wpAny_pure (wpAny_pure z))
  show wpAny _ _ (assign (.Name y yp) X.env (.ref L)) _ _ _
  obtain ⟨p0, p1, p2, p3, p4, p5⟩ := fp
  refine wpAny_assign_Name (store_ok2 (v := V.ref L) J nod hy (.inl loc) rfl (fun s2 J2 ⟨a, same, wh⟩ => ?_) (.inr loc))
  have ne : U ≠ a := by
    rcases wh with z | z
    · rw [z]; exact p1
    · exact fun e => p4 y a z e.symm
  refine ⟨m, nm.sameBut same ne, fun h3 z3 => ⟨_, H', J2.turned (t' := s2.toks) (fun b o hb e => (z3.2 b hb).trans e) p0 p1 p3 p4 p5, r⟩⟩
theorem swd_true {kx vx : Expr} {gs : List Comprehension} {sco : Scope} {dp yp : Pos} {y : Str} {l : Nat} {env : Env} (fn : env.scope.kind = .function) (loc : env.scope.names.lookup y = some .local) (ln : (yp.line == dp.line) = true)
    (own : (sco.names.any fun (n, k) => n == y && (k == .local || k == .cell)) = false) : swapsWith (.DictComp kx vx gs sco dp) (some (.Name y yp)) l env = pure true := by
  have k1 : env.kindOf y = some .local := loc
  have k2 : env.blockKind = .function := by unfold Env.blockKind; rw [fn]; rfl
  unfold swapsWith
  simp only [k2, k1, own, Expr.pos, ln]
  rfl
end
end SE
namespace SE
open PySem PySem.Spec PyProof.Rows L2
/-! ### stacks by name -/
abbrev Sk := List (Str × List Str)
def EntS (K : PySem.W.Frag) (H : Hp) (kv : Key × V) (p : Str × List Str) : Prop := kv.1 = Sum.inr p.1 ∧ ∃ t, kv.2 = .ref t ∧ SqT K H t (p.2.map V.str)
abbrev SkH (K : PySem.W.Frag) (H : Hp) : List (Key × V) → Sk → Prop := Paired (EntS K H)
theorem skH_same {K : PySem.W.Frag} {H H' : Hp} {kvs : List (Key × V)} {ss : Sk} (h : SkH K H kvs ss) (s : Same H H') : SkH K H' kvs ss := Paired.mapP h fun _ _ q => ⟨q.1, q.2.elim fun t z => ⟨t, z.1, Same.tup s z.2⟩⟩
/-- what is told at D is no tuple: a tuple stays where D changes -/
def NoTup (H : Hp) (D : Addr) : Prop := ∀ xs, H D ≠ some (.tup xs) ∧ ∀ p, H D ≠ some (.frz p (.tup xs))
theorem NoTup.dK {H : Hp} {D : Addr} {kvs : List (Key × V)} (h : H D = some (.dK kvs)) : NoTup H D := fun xs => ⟨fun e => (by rw [h] at e; cases e), fun p e => (by rw [h] at e; cases e)⟩
theorem NoTup.dF {H : Hp} {D : Addr} {od : Obj} {kvs : List (Key × V)} (h : H D = some (.frz od (.dK kvs))) : NoTup H D := fun xs => ⟨fun e => (by rw [h] at e; cases e), fun p e => (by rw [h] at e; cases e)⟩
theorem NoTup.lst {H : Hp} {D : Addr} {us : List V} (h : H D = some (.lst us)) : NoTup H D := fun xs => ⟨fun e => (by rw [h] at e; cases e), fun p e => (by rw [h] at e; cases e)⟩
theorem NoTup.ins {H : Hp} {D C dx : Addr} {fs : List (Str × V)} (h : H D = some (.ins C dx fs)) : NoTup H D := fun xs => ⟨fun e => (by rw [h] at e; cases e), fun p e => (by rw [h] at e; cases e)⟩
theorem sqT_upd {K : PySem.W.Frag} {H : Hp} {D t : Addr} {xs : List V} {o : HO} (n : NoTup H D) (h : SqT K H t xs) : SqT K (upd H D o) t xs := by
  rcases h with (q | ⟨p, q⟩) | q
  · exact .inl (.inl (by rw [upd_ne (fun z => by rw [z] at q; exact (n xs).1 q)]; exact q))
  · exact .inl (.inr ⟨p, by rw [upd_ne (fun z => by rw [z] at q; exact (n xs).2 p q)]; exact q⟩)
  · exact .inr q
theorem skH_upd {K : PySem.W.Frag} {H : Hp} {D : Addr} {o : HO} {kvs : List (Key × V)} {ss : Sk} (n : NoTup H D) (h : SkH K H kvs ss) : SkH K (upd H D o) kvs ss := Paired.mapP h fun _ _ q => ⟨q.1, q.2.elim fun t z => ⟨t, z.1, sqT_upd n z.2⟩⟩
structure SkOk (ss : Sk) (m b : Nat) : Prop where
  nd : (ss.map (·.1)).Nodup
  ok : ∀ p ∈ ss, Item p.1 ∧ (∀ z ∈ p.2, Item z) ∧ p.2.length ≤ b
  len : ss.length ≤ m
theorem SkOk.mono {ss : Sk} {m b m' b' : Nat} (h : SkOk ss m b) (hm : m ≤ m') (hb : b ≤ b') : SkOk ss m' b' := ⟨h.nd, fun p q => ⟨(h.ok p q).1, (h.ok p q).2.1, Nat.le_trans (h.ok p q).2.2 hb⟩, Nat.le_trans h.len hm⟩
def hasS (n : Str) (p : Str × List Str) : Bool := decide (p.1 = n)
def getS (ss : Sk) (n : Str) : List Str := ((ss.find? (hasS n)).map (·.2)).getD []
def putS (ss : Sk) (n : Str) (st : List Str) : Sk := if ss.any (hasS n) = true then ss.map (fun p => if p.1 = n then (p.1, st) else p) else ss ++ [(n, st)]
def cleanS (ss : Sk) : Sk := ss.filter fun p => decide (p.2 ≠ [])
theorem findS_some {ss : Sk} {n : Str} {p : Str × List Str} (h : ss.find? (hasS n) = some p) : p ∈ ss ∧ p.1 = n := ⟨List.mem_of_find?_eq_some h, by simpa [hasS] using List.find?_some h⟩
theorem findS_at {ss : Sk} (nd : (ss.map (·.1)).Nodup) {p : Str × List Str} (m : p ∈ ss) : ss.find? (hasS p.1) = some p := by
  induction ss with
  | nil => cases m
  | cons x r ih =>
    rw [List.map_cons, List.nodup_cons] at nd
    rcases List.mem_cons.mp m with rfl | m'
    · exact List.find?_cons_of_pos (by simp [hasS])
    · rw [List.find?_cons_of_neg]
      · exact ih nd.2 m'
      · intro q
        exact nd.1 (List.mem_map.mpr ⟨p, m', (of_decide_eq_true q).symm⟩)
theorem getS_at {ss : Sk} (nd : (ss.map (·.1)).Nodup) {p : Str × List Str} (m : p ∈ ss) : getS ss p.1 = p.2 := by
  unfold getS
  rw [findS_at nd m]
  rfl
theorem SkOk.get {ss : Sk} {m b : Nat} (h : SkOk ss m b) (n : Str) : (∀ z ∈ getS ss n, Item z) ∧ (getS ss n).length ≤ b := by
  unfold getS
  cases e : ss.find? (hasS n) with
  | none => exact ⟨fun z q => (by cases q), Nat.zero_le _⟩
  | some p => exact (h.ok p (findS_some e).1).2
/-- how a name is looked up -/
theorem skH_val {K : PySem.W.Frag} {H : Hp} {n : Str} : ∀ {kvs : List (Key × V)} {ss : Sk}, SkH K H kvs ss → (ss.find? (hasS n) = none ∧ valV kvs (Sum.inr n) = none) ∨ ∃ p t, ss.find? (hasS n) = some p ∧ valV kvs (Sum.inr n) = some (.ref t) ∧ SqT K H t (p.2.map V.str)
  | _, _, .nil => .inl ⟨rfl, rfl⟩
  | kv :: kvs, p :: ss, .cons a r => by
    obtain ⟨e1, t, e2, q⟩ := a
    by_cases c : p.1 = n
    · exact .inr ⟨p, t, List.find?_cons_of_pos (by simp [hasS, c]), by rw [valV_pos (by rw [e1, c]), e2], q⟩
    · have c1 : ¬ hasS n p = true := fun z => c (of_decide_eq_true z)
      have c2 : ¬ kv.1 = Sum.inr n := fun z => c (Sum.inr.inj (e1.symm.trans z))
      rw [List.find?_cons_of_neg c1, valV_neg c2]
      exact skH_val r
theorem skH_any {K : PySem.W.Frag} {H : Hp} {n : Str} : ∀ {kvs : List (Key × V)} {ss : Sk}, SkH K H kvs ss → (kvs.any fun kv => decide (kv.1 = Sum.inr n)) = ss.any (hasS n)
  | _, _, .nil => rfl
  | kv :: kvs, p :: ss, .cons a r => by
    rw [List.any_cons, List.any_cons, skH_any r]
    congr 1
    rw [a.1]
    show decide ((Sum.inr p.1 : Key) = Sum.inr n) = decide (p.1 = n)
    by_cases c : p.1 = n
    · rw [decide_eq_true c, decide_eq_true (by rw [c])]
    · rw [decide_eq_false c, decide_eq_false (fun q => c (Sum.inr.inj q))]
theorem skH_map {K : PySem.W.Frag} {H : Hp} {n : Str} {t : Addr} {st : List Str} (ht : SqT K H t (st.map V.str)) : ∀ {kvs : List (Key × V)} {ss : Sk}, SkH K H kvs ss → SkH K H (kvs.map fun kv => if kv.1 = Sum.inr n then (kv.1, .ref t) else kv) (ss.map fun p => if p.1 = n then (p.1, st) else p)
  | _, _, .nil => .nil
  | kv :: kvs, p :: ss, .cons a r => by
    refine .cons ?_ (skH_map ht r)
    dsimp only
    by_cases c : p.1 = n
    · rw [if_pos (by rw [a.1, c]), if_pos c]
      exact ⟨a.1, t, rfl, ht⟩
    · rw [if_neg (fun z => c (Sum.inr.inj (a.1.symm.trans z))), if_neg c]
      exact a
theorem paired_snoc {α β : Type} {F : α → β → Prop} : ∀ {l₁ : List α} {l₂ : List β} {x : α} {y : β}, Paired F l₁ l₂ → F x y → Paired F (l₁ ++ [x]) (l₂ ++ [y])
  | _, _, _, _, .nil, h => .cons h .nil
  | _, _, _, _, .cons r t, h => .cons r (paired_snoc t h)
theorem skH_put {K : PySem.W.Frag} {H : Hp} {n : Str} {t : Addr} {st : List Str} {kvs : List (Key × V)} {ss : Sk} (h : SkH K H kvs ss) (ht : SqT K H t (st.map V.str)) : SkH K H (putK kvs (Sum.inr n) (.ref t)) (putS ss n st) := by
  unfold putK putS
  rw [skH_any h]
  split
  · exact skH_map ht h
  · exact paired_snoc h ⟨rfl, t, rfl, ht⟩
theorem putS_fst (ss : Sk) (n : Str) (st : List Str) : (putS ss n st).map (·.1) = if ss.any (hasS n) = true then ss.map (·.1) else ss.map (·.1) ++ [n] := by
  unfold putS
  split
  · rw [List.map_map]
    refine List.map_congr_left fun p _ => ?_
    show (if p.1 = n then (p.1, st) else p).1 = p.1
    split <;> rfl
  · rw [List.map_append]
    rfl
theorem putS_ok {ss : Sk} {m b c : Nat} {n : Str} {st : List Str} (h : SkOk ss m b) (hn : Item n) (hs : ∀ z ∈ st, Item z) (hl : st.length ≤ c) (hb : b ≤ c) : SkOk (putS ss n st) (m + 1) c := by
  refine ⟨?_, fun p mp => ?_, ?_⟩
  · rw [putS_fst]
    split
    · exact h.nd
    · rename_i q
      rw [List.nodup_append]
      refine ⟨h.nd, by simp, fun x mx y my e => q ?_⟩
      rw [List.mem_singleton.mp my] at e
      obtain ⟨p, mp, ep⟩ := List.mem_map.mp mx
      exact List.any_eq_true.mpr ⟨p, mp, decide_eq_true (by rw [ep, e])⟩
  · unfold putS at mp
    split at mp
    · obtain ⟨q, mq, rfl⟩ := List.mem_map.mp mp
      obtain ⟨a, d, e⟩ := h.ok q mq
      split
      · exact ⟨a, hs, hl⟩
      · exact ⟨a, d, by omega⟩
    · rcases List.mem_append.mp mp with z | z
      · obtain ⟨a, d, e⟩ := h.ok p z
        exact ⟨a, d, by omega⟩
      · rw [List.mem_singleton.mp z]
        exact ⟨hn, hs, hl⟩
  · have := h.len
    unfold putS
    split
    · rw [List.length_map]; omega
    · rw [List.length_append, List.length_singleton]; omega
theorem cleanS_ok {ss : Sk} {m b : Nat} (h : SkOk ss m b) : SkOk (cleanS ss) m b :=
  ⟨(List.filter_sublist.map _).nodup h.nd, fun p q => h.ok p (List.mem_filter.mp q).1, Nat.le_trans (List.length_filter_le _ _) h.len⟩
theorem clean_take {ss : Sk} {j : Nat} {p : Str × List Str} (h : ss[j]? = some p) : cleanS (ss.take (j + 1)) = if p.2 = [] then cleanS (ss.take j) else cleanS (ss.take j) ++ [p] := by
  unfold cleanS
  rw [List.take_add_one, h, List.filter_append]
  by_cases c : p.2 = []
  · rw [if_pos c, Option.toList_some, List.filter_cons, if_neg (by simp [c]), List.filter_nil, List.append_nil]
  · rw [if_neg c, Option.toList_some, List.filter_cons, if_pos (by simp [c]), List.filter_nil]
theorem skH_new {K : PySem.W.Frag} {H : Hp} {n : Str} {v : V} {kvs : List (Key × V)} {ss : Sk} (h : SkH K H kvs ss) (nn : n ∉ ss.map (·.1)) : putK kvs (Sum.inr n) v = kvs ++ [(Sum.inr n, v)] := by
  unfold putK
  rw [skH_any h, if_neg]
  intro q
  obtain ⟨p, mp, e⟩ := List.any_eq_true.mp q
  exact nn (List.mem_map.mpr ⟨p, mp, of_decide_eq_true e⟩)
theorem sk_fresh {ss : Sk} {j : Nat} {p : Str × List Str} (nd : (ss.map (·.1)).Nodup) (h : ss[j]? = some p) : p.1 ∉ (cleanS (ss.take j)).map (·.1) := by
  intro m
  obtain ⟨q, mq, e⟩ := List.mem_map.mp m
  obtain ⟨i, hi⟩ := List.getElem?_of_mem (List.mem_filter.mp mq).1
  have il := (List.getElem?_eq_some_iff.mp hi).1
  rw [List.length_take] at il
  rw [List.getElem?_take_of_lt (by omega)] at hi
  have h1 : (ss.map (·.1))[i]? = some p.1 := by rw [List.getElem?_map, hi]; exact congrArg some e
  have h2 : (ss.map (·.1))[j]? = some p.1 := by rw [List.getElem?_map, h]; rfl
  obtain ⟨a1, _⟩ := List.getElem?_eq_some_iff.mp h1
  have := (List.getElem?_inj a1 nd).mp (h1.trans h2.symm)
  omega
theorem valV_of {kvs : List (Key × V)} {j : Nat} {k : Key} {v : V} (h : kvs[j]? = some (k, v)) (nd : (kvs.map (·.1)).Nodup) : valV kvs k = some v := by
  induction kvs generalizing j with
  | nil => cases h
  | cons x r ih =>
    rw [List.map_cons, List.nodup_cons] at nd
    cases j with
    | zero =>
      cases h
      exact valV_pos rfl
    | succ j =>
      have m : (k, v) ∈ r := List.mem_of_getElem? (i := j) h
      rw [valV_neg (fun e => nd.1 (List.mem_map.mpr ⟨_, m, e.symm⟩))]
      exact ih h nd.2
theorem sF_nd {K : PySem.W.Frag} {H : Hp} : ∀ {kvs : List (Key × V)} {ss : Sk}, SkH K H kvs ss → (ss.map (·.1)).Nodup → (kvs.map (·.1)).Nodup
  | _, _, h, nd => by
    have e : ∀ {kvs : List (Key × V)} {ss : Sk}, SkH K H kvs ss → kvs.map (·.1) = (ss.map (·.1)).map Sum.inr := by
      intro kvs ss h
      induction h with
      | nil => rfl
      | cons a r ih =>
        rw [List.map_cons, List.map_cons, List.map_cons, ih, a.1]
    rw [e h]
    exact nd.map _ (fun a b n z => n (Sum.inr.inj z))
theorem room_u {k : Nat} {A : Around} (hr : Room k A) : A.units + 1 < cLine := by
  have := hr.un
  omega
theorem mutK {kvs : List (Key × V)} : Mut (some (.dK kvs)) := trivial
/-- a dict that was locked and is as before -/
theorem Same.back {H H1 H2 : Hp} {d : Addr} {o x : HO} (hd : H d = some o) (h1 : H1 = upd H d x) (s : Same H1 H2) : Same H (upd H2 d o) := fun b u e => by
  by_cases c : b = d
  · subst c
    rw [hd] at e
    cases e
    exact upd_same
  · rw [upd_ne c]
    exact s _ _ (by rw [h1, upd_ne c]; exact e)
section
variable {P : Program} {w : World} {K : PySem.W.Frag} {mg : Str → Option Value} {base : Heap}
/-! ### without_empty -/
def spWe (K : PySem.W.Frag) : Sp := fun xs H Q _ => ∃ (d : Addr) (kvs : List (Key × V)) (ss : Sk) (m b : Nat), xs = [.ref d] ∧ H d = some (.dK kvs) ∧ SkH K H kvs ss ∧ SkOk ss m b ∧ m ≤ 100000 ∧
  ∀ (e : Addr) (kvs2 : List (Key × V)) (H' : Hp), Same H H' → H e = none → H' e = some (.dK kvs2) → SkH K H' kvs2 (cleanS ss) → Q (.ref e) H'
abbrev nWe : List Str := ["stacks", "name"]
theorem scWe : FnScope nWe ["stacks"] (defScope sWithoutEmpty) := ⟨rfl, rfl, rfl, by decide +kernel, rfl, by decide +kernel, by decide +kernel⟩
theorem has_we (D : Def K mg "without_empty" sWithoutEmpty) : Has P w K mg base "without_empty" 1 ["stacks"] [] (spWe K) := by
  refine has_of D scWe (fun _ _ _ _ _ _ us hl => match us, hl with | [_], _ => rfl) (fun xs H Q E h => ?_) (fun f cv A out s H xs Q E hr h => ?_)
  · obtain ⟨d, kvs, ss, m, b, rfl, _⟩ := h
    rfl
  · obtain ⟨d, kvs, ss, m, b, rfl, hd, hS, ok, hm, k⟩ := h
    have hu := room_u hr
    refine ⟨_, pss_one (ps_ret (pe_lock (pe_dc (own := [("name", 1)]) (g := gName 1) (tt := tTest (tOp (rNeD K) (tDGet (tVar 0) (tVar 1)) (tTup tNil))) (tk := tVar 1) (tv := tDGet (tVar 0) (tVar 1)) rfl scWe.nd (pi_keys (pv 0)) (blkOk_by (own := [("name", 1)]) (N := nWe) (sc := defScope sWithoutEmpty) (by decide +kernel))
        (fun _ _ _ _ _ => pg_name (i := 1) scWe.nd rfl (.inl rfl)) (fun _ _ _ _ _ => pts_one (pt_cmpR (op_neD hr.units) (pe_dget hu (pv 0) (pv 1) (fun _ _ => rfl)) (pe_tup pa_nil) (nomark _))) (fun _ _ _ _ _ => pv 1) (fun _ _ _ _ _ => pe_dget hu (pv 0) (pv 1) (fun _ _ => rfl))))), ?_⟩
    refine ⟨d, .dK kvs, hd, mutK, fun od => ?_⟩
    have hF : upd H d (.frz od (.dK kvs)) d = some (.frz od (.dK kvs)) := upd_same
    have sF : SkH K (upd H d (.frz od (.dK kvs))) kvs ss := skH_upd (.dK hd) hS
    generalize eF : upd H d (.frz od (.dK kvs)) = HF at hF sF
    refine ⟨_, rfl, d, od, rfl, .inl ⟨kvs, hF, fun DD hDD => dc_it walk_keys (fun j H2 => ∃ kvs2, H2 DD = some (.dK kvs2) ∧ SkH K H2 kvs2 (cleanS (ss.take j)) ∧ Same HF H2) ⟨[], upd_same, .nil, Same.new hDD⟩ (fun j H2 _ q => ?_) ?_ ?_⟩⟩
    · obtain ⟨_, _, _, s2⟩ := q
      exact s2 _ _ hF
    · rintro j x H2 H3 hj ⟨kvs2, h2, hP, s2⟩ ⟨rfl, k', v', hkv, rfl⟩
      obtain ⟨p, hp, e1, t, e2, hT⟩ := paired_at sF hkv
      have e1 : k' = Sum.inr p.1 := e1
      have e2 : v' = .ref t := e2
      subst e1 e2
      have pm := List.mem_of_getElem? hp
      obtain ⟨q1, q2, q3⟩ := ok.ok p pm
      have g : ∀ {H4 : Hp}, Same HF H4 → DGet H4 d (.str p.1) (some (.ref t)) := fun {H4} s4 => by
        refine .inl ⟨kvs, Sum.inr p.1, .inr ⟨od, s4 _ _ hF⟩, rfl, ?_⟩
        rcases skH_val (n := p.1) sF with ⟨z, _⟩ | ⟨p2, t2, z1, z2, _⟩
        · rw [findS_at ok.nd pm] at z
          cases z
        · have hv : valV kvs (Sum.inr p.1) = some (.ref t) := valV_of hkv (sF_nd sF ok.nd)
          exact hv.symm
      refine ⟨rfl, _, rfl, _, rfl, d, _, rfl, g s2, by show 0 ≤ sizeLine; decide, fun U hU => ?_⟩
      have sU : Same H3 (upd H3 U (.tup [])) := Same.new hU
      refine ⟨.tuple (p.2.map .str), .tuple (([] : List Str).map .str), .tup (Same.tup (s2.trans sU) hT) (dp_strs _), .tup (.of upd_same) .nil, (nice_tuple (nice_strs q2)).shaped (by decide), rfl, _, rfl, ?_⟩
      rw [eqv_tupS, clean_take hp]
      have s3 := s2.trans sU
      by_cases c : p.2 = []
      · rw [if_pos c, decide_eq_true c]
        exact iteF ⟨kvs2, sU _ _ h2, skH_same hP sU, s3⟩
      · rw [if_neg c, decide_eq_false c]
        refine iteT ⟨_, rfl, _, rfl, _, rfl, d, _, rfl, g s3, kvs2, Sum.inr p.1, rfl, sU _ _ h2, ?_, ?_⟩
        · have l1 := paired_len hP
          have l2 : (cleanS (ss.take j)).length ≤ (ss.take j).length := List.length_filter_le _ _
          rw [List.length_take] at l2
          have := ok.len
          rw [sizeLine_eq]
          omega
        · rw [skH_new hP (sk_fresh ok.nd hp)]
          exact ⟨_, upd_same, paired_snoc (skH_upd (.dK (sU _ _ h2)) (skH_same hP sU)) ⟨rfl, t, rfl, sqT_upd (.dK (sU _ _ h2)) (Same.tup s3 hT)⟩, Same.free2 s3 hDD⟩
    · rintro H2 ⟨kvs2, h2, hP, s2⟩
      have lk : kvs.length = ss.length := paired_len hS
      rw [lk, List.take_length] at hP
      have hF2 := s2 _ _ hF
      have dD : DD ≠ d := fun q => by rw [q, hF2] at h2; cases h2
      refine ⟨hF2, k DD kvs2 _ (Same.back hd eF.symm s2) ?_ (by rw [upd_ne dD]; exact h2) (skH_upd (.dF hF2) hP)⟩
      rw [← eF] at hDD
      by_cases c : DD = d
      · exact absurd c dD
      · rwa [upd_ne c] at hDD
end
end SE
namespace SE
open PySem PySem.Spec PyProof.Rows L2
section
variable {P : Program} {w : World} {K : PySem.W.Frag} {mg : Str → Option Value} {base : Heap}
/-! ### are_stacks, check_stacks, check_heights: valid dicts -/
/-- a dict of stacks by name -/
def SkD (K : PySem.W.Frag) (H : Hp) (d : Addr) (ss : Sk) : Prop := ∃ kvs, H d = some (.dK kvs) ∧ SkH K H kvs ss
theorem SkD.same {H H' : Hp} {d : Addr} {ss : Sk} (h : SkD K H d ss) (s : Same H H') : SkD K H' d ss := by
  obtain ⟨kvs, a, b⟩ := h
  exact ⟨kvs, s _ _ a, skH_same b s⟩
def spAre (K : PySem.W.Frag) : Sp := fun xs H Q _ => ∃ (d : Addr) (ss : Sk) (m b : Nat), xs = [.ref d] ∧ SkD K H d ss ∧ SkOk ss m b ∧ m ≤ 100000 ∧ b ≤ 5000 ∧ ∀ H', Same H H' → Q (.bl true) H'
abbrev nAr : List Str := ["value", "name", "stack"]
theorem scAr : FnScope nAr ["value"] (defScope sAreStacks) := ⟨rfl, rfl, rfl, by decide +kernel, rfl, by decide +kernel, by decide +kernel⟩
theorem has_are (D : Def K mg "are_stacks" sAreStacks) (GI : Has P w K mg base "is_item" 1 ["value"] [] spIsItem) (GW : Has P w K mg base "is_word" 2 ["value"] [] (spIsWord K)) (B : Blt mg) (md : mg "dict" = none) : Has P w K mg base "are_stacks" 3 ["value"] [] (spAre K) := by
  refine has_of D scAr (fun _ _ _ _ _ _ us hl => match us, hl with | [_], _ => rfl) (fun xs H Q E h => ?_) (fun f cv A out s H xs Q E hr h => ?_)
  · obtain ⟨d, ss, m, b, rfl, _⟩ := h
    rfl
  · obtain ⟨d, ss, m, b, rfl, ⟨kvs, hd, hS⟩, ok, hm, hb, k⟩ := h
    have hr1 : Room 1 _ := hr.mono (by decide)
    refine ⟨_, pss_cons (ps_if (pt_not (pt_val (pe_callB call_isi (by rfl) B.isi (by decide +kernel) (pa_cons (pv 0) (pa_cons (pe_bltn (v := .ty "dict") (by rfl) md (by decide +kernel) rfl) pa_nil))))) (pss_one (ps_ret pe_bl)) pss_nil)
      (pss_one (ps_ret (pe_callB (cr_all rfl) (by rfl) B.all (by decide +kernel) (pa_cons
        (pe_lock (pe_lc (own := [("name", 1), ("stack", 2)]) (g := gTup K 2 (gCons (gName 1) (gCons (gName 2) gNil))) (tt := tYes) (te := tAndV (tCall spIsItem [] E0 (tCons (tVar 1) tNil)) (tCall (spIsWord K) [] E0 (tCons (tVar 2) tNil))) rfl scAr.nd (pi_items (pv 0)) (blkOk_by (own := [("name", 1), ("stack", 2)]) (N := nAr) (sc := defScope sAreStacks) (by decide +kernel))
          (fun _ _ _ _ _ => pg_tup (by rfl) (pgs_cons (pg_name (i := 1) scAr.nd rfl (.inl rfl)) (pgs_cons (pg_name (i := 2) scAr.nd rfl (.inl rfl)) pgs_nil))) (fun _ _ _ _ _ => pts_nil) (fun _ _ _ _ _ => pe_and (pe_has GI hr1 (pa_cons (pv 1) pa_nil)) (pe_one (pe_has GW hr (pa_cons (pv 2) pa_nil)))))) pa_nil)))), ?_⟩
    refine ⟨_, rfl, _, .ty "dict", .type "dict", .type "dict", true, rfl, .ty _, .base (.dK hd), kit_ty (by decide +kernel), true, rfl, iteF ?_⟩
    refine ⟨d, .dK kvs, hd, mutK, fun od => ?_⟩
    have hF : upd H d (.frz od (.dK kvs)) d = some (.frz od (.dK kvs)) := upd_same
    have sF : SkH K (upd H d (.frz od (.dK kvs))) kvs ss := skH_upd (.dK hd) hS
    generalize eF : upd H d (.frz od (.dK kvs)) = HF at hF sF
    refine ⟨_, rfl, d, od, kvs, rfl, hF, fun DD hDD => lc_it walk_items (fun j H2 => H2 DD = some (.lst ((List.replicate j true).map V.bl)) ∧ Same HF H2) ⟨upd_same, Same.new hDD⟩ (fun j H2 _ q => q.2 _ _ hF) ?_ ?_⟩
    · rintro j x H2 H3 hj ⟨h2, s2⟩ ⟨T, pk, pv', rfl, nT, rfl, hk, hv⟩
      obtain ⟨kv, hkv⟩ : ∃ kv, kvs[j]? = some kv := ⟨_, List.getElem?_eq_getElem hj⟩
      dsimp only at hk hv
      rw [hkv] at hk hv
      obtain ⟨p, hp, e1, t, e2, hT⟩ := paired_at sF hkv
      have ek : pk = V.str p.1 := by
        have z : some (kV kv.1) = some pk := hk
        rw [e1] at z
        exact (Option.some.inj z).symm
      have ev : pv' = V.ref t := by
        have z : some kv.2 = some pv' := hv
        rw [e2] at z
        exact (Option.some.inj z).symm
      subst ek ev
      obtain ⟨q1, q2, q3⟩ := ok.ok p (List.mem_of_getElem? hp)
      have sT : Same H2 (upd H2 T (.tup [.str p.1, .ref t])) := Same.new nT
      refine ⟨T, _, rfl, .of upd_same, rfl, _, _, rfl, _, _, rfl, rfl, rfl, yes_in ⟨_, rfl, p.1, rfl, q1, fun H4 s4 => ⟨true, rfl, iteT ?_⟩⟩⟩
      refine ⟨_, rfl, t, p.2, rfl, Same.tup (s2.trans (sT.trans s4)) hT, by omega, q2, fun H5 s5 => ?_⟩
      have s25 := (sT.trans s4).trans s5
      refine ⟨_, s25 _ _ h2, ?_, by rw [upd_same, bl_snoc], Same.free2 (s2.trans s25) hDD⟩
      have jl := (List.getElem?_eq_some_iff.mp hp).1
      have := ok.len
      rw [List.length_map, List.length_replicate, sizeLine_eq]
      omega
    · rintro H2 ⟨h2, s2⟩
      have hF2 := s2 _ _ hF
      have dD : DD ≠ d := fun q => by rw [q, hF2] at h2; cases h2
      refine ⟨hF2, DD, _, rfl, .of (by rw [upd_ne dD]; exact h2), ?_⟩
      rw [all_true]
      exact k _ (Same.back hd eF.symm s2)
def spCkS (K : PySem.W.Frag) : Sp := fun xs H Q _ => ∃ (d : Addr) (ss : Sk) (m b : Nat), xs = [.ref d] ∧ SkD K H d ss ∧ SkOk ss m b ∧ m ≤ 100000 ∧ b ≤ 5000 ∧ ∀ H', Same H H' → Q .non H'
theorem scCkS : FnScope ["stacks"] ["stacks"] (defScope sCheckStacks) := ⟨rfl, rfl, rfl, by decide +kernel, rfl, by decide +kernel, by decide +kernel⟩
theorem has_cks (D : Def K mg "check_stacks" sCheckStacks) (G : Has P w K mg base "are_stacks" 3 ["value"] [] (spAre K)) : Has P w K mg base "check_stacks" 4 ["stacks"] [] (spCkS K) := by
  refine has_of D scCkS (fun _ _ _ _ _ _ us hl => match us, hl with | [_], _ => rfl) (fun xs H Q E h => ?_) (fun f cv A out s H xs Q E hr h => ?_)
  · obtain ⟨d, ss, m, b, rfl, _⟩ := h
    rfl
  · obtain ⟨d, ss, m, b, rfl, h1, h2, h3, h4, k⟩ := h
    refine ⟨_, pss_one (ps_if (pt_not (pt_val (pe_has G hr (pa_cons (pv 0) pa_nil)))) pss_never pss_nil), ?_⟩
    exact ⟨_, rfl, d, ss, m, b, rfl, h1, h2, h3, h4, fun H' s' => ⟨true, rfl, iteF (k _ s')⟩⟩
def spCkH (K : PySem.W.Frag) : Sp := fun xs H Q _ => ∃ (d : Addr) (ss : Sk) (m b : Nat) (l : Lim), xs = [.ref d, limV l] ∧ SkD K H d ss ∧ SkOk ss m b ∧ m ≤ 100000 ∧ (∀ p ∈ ss, high l p.2.length = false) ∧ ∀ H', Same H H' → Q .non H'
abbrev nCh : List Str := ["stacks", "limit", "stack"]
theorem scCkH : FnScope nCh ["stacks", "limit"] (defScope sCheckHeights) := ⟨rfl, rfl, rfl, by decide +kernel, rfl, by decide +kernel, by decide +kernel⟩
theorem has_ckh (D : Def K mg "check_heights" sCheckHeights) (G : Has P w K mg base "is_too_high" 1 ["height", "limit"] [] spHighL) (B : Blt mg) (ma : mg "any" = none) : Has P w K mg base "check_heights" 2 ["stacks", "limit"] [] (spCkH K) := by
  refine has_of D scCkH (fun _ _ _ _ _ _ us hl => match us, hl with | [_, _], _ => rfl) (fun xs H Q E h => ?_) (fun f cv A out s H xs Q E hr h => ?_)
  · obtain ⟨d, ss, m, b, l, rfl, _⟩ := h
    rfl
  · obtain ⟨d, ss, m, b, l, rfl, ⟨kvs, hd, hS⟩, ok, hm, hh, k⟩ := h
    refine ⟨_, pss_one (ps_if (pt_val (pe_callB (cr_any rfl) (by rfl) ma (by decide +kernel) (pa_cons
        (pe_lock (pe_lc (own := [("stack", 2)]) (g := gName 2) (tt := tYes) (te := tCall spHighL [] E0 (tCons (tCB (Evl.rLenS K) (tCons (tVar 2) tNil)) (tCons (tVar 1) tNil))) rfl scCkH.nd (pi_values (pv 0)) (blkOk_by (own := [("stack", 2)]) (N := nCh) (sc := defScope sCheckHeights) (by decide +kernel))
          (fun _ _ _ _ _ => pg_name (i := 2) scCkH.nd rfl (.inl rfl)) (fun _ _ _ _ _ => pts_nil) (fun _ _ _ _ _ => pe_has G hr (pa_cons (pe_callB call_len_seq (by rfl) B.len PySem.boot_len (pa_cons (pv 2) pa_nil)) (pa_cons (pv 1) pa_nil))))) pa_nil))) pss_never pss_nil), ?_⟩
    refine ⟨d, .dK kvs, hd, mutK, fun od => ?_⟩
    have hF : upd H d (.frz od (.dK kvs)) d = some (.frz od (.dK kvs)) := upd_same
    have sF : SkH K (upd H d (.frz od (.dK kvs))) kvs ss := skH_upd (.dK hd) hS
    generalize eF : upd H d (.frz od (.dK kvs)) = HF at hF sF
    refine ⟨_, rfl, d, od, kvs, rfl, hF, fun DD hDD => lc_it walk_values (fun j H2 => H2 DD = some (.lst ((List.replicate j false).map V.bl)) ∧ Same HF H2) ⟨upd_same, Same.new hDD⟩ (fun j H2 _ q => q.2 _ _ hF) ?_ ?_⟩
    · rintro j x H2 H3 hj ⟨h2, s2⟩ ⟨eH, k', hkv⟩
      rw [eH]
      obtain ⟨p, hp, e1, t, e2, hT⟩ := paired_at sF hkv
      have e2 : x = .ref t := e2
      subst e2
      have hh' := hh p (List.mem_of_getElem? hp)
      refine ⟨rfl, yes_in ⟨_, rfl, t, _, rfl, .inr (Same.tup s2 hT), _, rfl, p.2.length, l, ?_, ?_⟩⟩
      · rw [List.length_map]
        rfl
      rw [hh']
      refine ⟨_, h2, ?_, ?_, Same.free2 s2 hDD⟩
      · have jl := (List.getElem?_eq_some_iff.mp hp).1
        have := ok.len
        rw [List.length_map, List.length_replicate, sizeLine_eq]
        omega
      · rw [upd_same, List.replicate_succ', List.map_append]
        rfl
    · rintro H2 ⟨h2, s2⟩
      have hF2 := s2 _ _ hF
      have dD : DD ≠ d := fun q => by rw [q, hF2] at h2; cases h2
      refine ⟨hF2, DD, _, rfl, .of (by rw [upd_ne dD]; exact h2), ?_⟩
      have e : ∀ n, (List.replicate n false).any id = false := fun n => by
        rw [List.any_eq_false]
        intro x mx
        rw [(List.mem_replicate.mp mx).2]
        simp
      rw [e]
      exact ⟨false, rfl, iteF (k _ (Same.back hd eF.symm s2))⟩
end
end SE
namespace SE
open PySem PySem.Spec PyProof.Rows L2
/-! ### a session -/
abbrev sSInit : Stmt := inClass sSession 0
abbrev sSStack : Stmt := inClass sSession 1
abbrev sSNames : Stmt := inClass sSession 2
abbrev sSPush : Stmt := inClass sSession 3
abbrev sSPop : Stmt := inClass sSession 4
abbrev sSPerform : Stmt := inClass sSession 5
abbrev sSAddDeed : Stmt := inClass sSession 7
def sF (f h d : V) : List (Str × V) := [("filled", f), ("highest_allowed", h), ("deeds", d)]
/-- a dict of stacks that is locked for good -/
def SkF (K : PySem.W.Frag) (H : Hp) (d : Addr) (ss : Sk) : Prop := ∃ od kvs, H d = some (.frz od (.dK kvs)) ∧ SkH K H kvs ss
theorem SkF.same {K : PySem.W.Frag} {H H' : Hp} {d : Addr} {ss : Sk} (h : SkF K H d ss) (s : Same H H') : SkF K H' d ss := by
  obtain ⟨od, kvs, a, b⟩ := h
  exact ⟨od, kvs, s _ _ a, skH_same b s⟩
abbrev Deed := List NSt × Sk × Lim
def DeedV (K : PySem.W.Frag) (H : Hp) (v : V) (e : Deed) : Prop := ∃ t a d us oa, v = .ref t ∧ H t = some (.tup [.ref a, .ref d, limV e.2.2]) ∧ H a = some (.frz oa (.lst us)) ∧ NSV K H us e.1 ∧ SkF K H d e.2.1
theorem DeedV.same {K : PySem.W.Frag} {H H' : Hp} {v : V} {e : Deed} (h : DeedV K H v e) (s : Same H H') : DeedV K H' v e := by
  obtain ⟨t, a, d, us, oa, h1, h2, h3, h4, h5⟩ := h
  exact ⟨t, a, d, us, oa, h1, s _ _ h2, s _ _ h3, nsv_same h4 s, h5.same s⟩
abbrev DeedsV (K : PySem.W.Frag) (H : Hp) : List V → List Deed → Prop := Paired (DeedV K H)
theorem deeds_same {K : PySem.W.Frag} {H H' : Hp} {us : List V} {ds : List Deed} (h : DeedsV K H us ds) (s : Same H H') : DeedsV K H' us ds := Paired.mapP h fun _ _ q => q.same s
/-- what stands at D may change: it is no tuple and nothing locked -/
def Loose (H : Hp) (D : Addr) : Prop := (∀ xs, H D ≠ some (.tup xs)) ∧ ∀ p u, H D ≠ some (.frz p u)
theorem Loose.dK {H : Hp} {D : Addr} {kvs : List (Key × V)} (h : H D = some (.dK kvs)) : Loose H D := ⟨fun xs e => (by rw [h] at e; cases e), fun p u e => (by rw [h] at e; cases e)⟩
theorem Loose.lst {H : Hp} {D : Addr} {us : List V} (h : H D = some (.lst us)) : Loose H D := ⟨fun xs e => (by rw [h] at e; cases e), fun p u e => (by rw [h] at e; cases e)⟩
theorem Loose.ins {H : Hp} {D C dx : Addr} {fs : List (Str × V)} (h : H D = some (.ins C dx fs)) : Loose H D := ⟨fun xs e => (by rw [h] at e; cases e), fun p u e => (by rw [h] at e; cases e)⟩
theorem Loose.nt {H : Hp} {D : Addr} (h : Loose H D) : NoTup H D := fun xs => ⟨h.1 xs, fun p => h.2 p _⟩
theorem SkF.upd {K : PySem.W.Frag} {H : Hp} {d D : Addr} {ss : Sk} {o : HO} (n : Loose H D) (h : SkF K H d ss) : SkF K (upd H D o) d ss := by
  obtain ⟨od, kvs, a, b⟩ := h
  exact ⟨od, kvs, by rw [upd_ne (fun e => by rw [e] at a; exact n.2 _ _ a)]; exact a, skH_upd n.nt b⟩
theorem nsv_upd {K : PySem.W.Frag} {H : Hp} {D : Addr} {us : List V} {ns : List NSt} {o : HO} (n : NoTup H D) (h : NSV K H us ns) : NSV K (upd H D o) us ns := Paired.mapP h fun _ _ q => by
  obtain ⟨t, e, z⟩ := q
  exact ⟨t, e, sqT_upd n z⟩
theorem DeedV.upd {K : PySem.W.Frag} {H : Hp} {D : Addr} {v : V} {e : Deed} {o : HO} (n : Loose H D) (h : DeedV K H v e) : DeedV K (upd H D o) v e := by
  obtain ⟨t, a, d, us, oa, h1, h2, h3, h4, h5⟩ := h
  exact ⟨t, a, d, us, oa, h1, by rw [upd_ne (fun e => by rw [e] at h2; exact n.1 _ h2)]; exact h2, by rw [upd_ne (fun e => by rw [e] at h3; exact n.2 _ _ h3)]; exact h3, nsv_upd n.nt h4, h5.upd n⟩
theorem deeds_upd {K : PySem.W.Frag} {H : Hp} {D : Addr} {us : List V} {ds : List Deed} {o : HO} (n : Loose H D) (h : DeedsV K H us ds) : DeedsV K (upd H D o) us ds := Paired.mapP h fun _ _ q => q.upd n
/-- the class Session -/
structure SCl (K : PySem.W.Frag) (C : Addr) : Prop where
  cl : Cls K C
  nF : NoAttr K C "filled"
  nH : NoAttr K C "highest_allowed"
  nD : NoAttr K C "deeds"
/-- what a recorder holds beside -/
def xF : Option Addr → List (Str × V)
  | none => []
  | some D => [("failed", .ref D)]
abbrev Cn := List (Str × Nat)
def cnK (ct : Cn) : List (Key × V) := ct.map fun p => (Sum.inr p.1, .int (p.2 : Nat))
def RecH (x : Option Addr) (ct : Cn) (H : Hp) : Prop := match x with
  | none => True
  | some D => H D = some (.dK (cnK ct))
def ownS (o L : Addr) (x : Option Addr) : List Addr := o :: L :: x.toList
theorem xF_put1 (x : Option Addr) (f h d v : V) : putF "filled" v (sF f h d ++ xF x) = sF v h d ++ xF x := rfl
theorem xF_put2 (x : Option Addr) (f h d v : V) : putF "highest_allowed" v (sF f h d ++ xF x) = sF f v d ++ xF x := rfl
theorem xF_put3 (x : Option Addr) (f h d v : V) : putF "deeds" v (sF f h d ++ xF x) = sF f h v ++ xF x := rfl
theorem xF_len (x : Option Addr) (f h d : V) : (sF f h d ++ xF x).length < 1000 := by
  cases x
  · show 3 < 1000; decide
  · show 4 < 1000; decide
/-- o: the session, L: the list of its deeds, x: the dict of its failures, if it counts them; all else that it holds is locked or a tuple -/
structure SesX (K : PySem.W.Frag) (C : Addr) (x : Option Addr) (ct : Cn) (H : Hp) (o L : Addr) (ss : Sk) (l : Lim) (ds : List Deed) : Prop where
  ex : ∃ dx F us, H o = some (.ins C dx (sF (.ref F) (limV l) (.ref L) ++ xF x)) ∧ H L = some (.lst us) ∧ SkF K H F ss ∧ DeedsV K H us ds ∧ RecH x ct H
section
variable {K : PySem.W.Frag} {C : Addr} {x : Option Addr} {ct : Cn} {H H' : Hp} {o L : Addr} {ss : Sk} {l : Lim} {ds : List Deed}
theorem RecH.same {x : Option Addr} (h : RecH x ct H) (s : Same H H') : RecH x ct H' := by
  cases x with
  | none => exact trivial
  | some D => exact s _ _ h
theorem SesX.same (h : SesX K C x ct H o L ss l ds) (s : Same H H') : SesX K C x ct H' o L ss l ds := by
  obtain ⟨dx, F, us, h1, h2, h3, h4, h5⟩ := h.ex
  exact ⟨dx, F, us, s _ _ h1, s _ _ h2, h3.same s, deeds_same h4 s, h5.same s⟩
theorem SesX.ne (h : SesX K C x ct H o L ss l ds) : o ≠ L := fun e => by
  obtain ⟨dx, F, us, h1, h2, _⟩ := h.ex
  rw [e, h2] at h1
  cases h1
theorem SesX.neD {D : Addr} (h : SesX K C (some D) ct H o L ss l ds) : D ≠ o ∧ D ≠ L := by
  obtain ⟨dx, F, us, h1, h2, _, _, h5⟩ := h.ex
  have h5 : H D = some (.dK (cnK ct)) := h5
  exact ⟨fun e => (by rw [e, h1] at h5; cases h5), fun e => (by rw [e, h2] at h5; cases h5)⟩
theorem SesX.loose (h : SesX K C x ct H o L ss l ds) : ∀ b ∈ ownS o L x, Loose H b := fun b m => by
  obtain ⟨dx, F, us, h1, h2, _, _, h5⟩ := h.ex
  rcases List.mem_cons.mp m with e | m
  · rw [e]; exact .ins h1
  rcases List.mem_cons.mp m with e | m
  · rw [e]; exact .lst h2
  · cases x with
    | none => cases m
    | some D => rw [List.mem_singleton.mp m]; exact .dK h5
theorem SesX.has (h : SesX K C x ct H o L ss l ds) : ∀ b ∈ ownS o L x, H b ≠ none := fun b m => by
  obtain ⟨dx, F, us, h1, h2, _, _, h5⟩ := h.ex
  rcases List.mem_cons.mp m with e | m
  · rw [e, h1]; exact fun z => nomatch z
  rcases List.mem_cons.mp m with e | m
  · rw [e, h2]; exact fun z => nomatch z
  · cases x with
    | none => cases m
    | some D =>
      have h5 : H D = some (.dK (cnK ct)) := h5
      rw [List.mem_singleton.mp m, h5]
      exact fun z => nomatch z
/-- what changes where nothing is a tuple or locked -/
def Keep (S : List Addr) (H H' : Hp) : Prop := (∀ b ∈ S, Loose H b) ∧ ∀ b u, b ∉ S → H b = some u → H' b = some u
theorem Keep.tup {S : List Addr} (h : Keep S H H') {t : Addr} {xs : List V} (q : SqT K H t xs) : SqT K H' t xs := by
  rcases q with (q | ⟨p, q⟩) | q
  · exact .inl (.inl (h.2 _ _ (fun m => (h.1 _ m).1 _ q) q))
  · exact .inl (.inr ⟨p, h.2 _ _ (fun m => (h.1 _ m).2 _ _ q) q⟩)
  · exact .inr q
theorem Keep.sk {S : List Addr} (h : Keep S H H') {kvs : List (Key × V)} {ss : Sk} (q : SkH K H kvs ss) : SkH K H' kvs ss := Paired.mapP q fun _ _ q => ⟨q.1, q.2.elim fun t z => ⟨t, z.1, h.tup z.2⟩⟩
theorem Keep.skF {S : List Addr} (h : Keep S H H') {d : Addr} {ss : Sk} (q : SkF K H d ss) : SkF K H' d ss := by
  obtain ⟨od, kvs, a, b⟩ := q
  exact ⟨od, kvs, h.2 _ _ (fun m => (h.1 _ m).2 _ _ a) a, h.sk b⟩
theorem Keep.nsv {S : List Addr} (h : Keep S H H') {us : List V} {ns : List NSt} (q : NSV K H us ns) : NSV K H' us ns := Paired.mapP q fun _ _ q => by
  obtain ⟨t, e, z⟩ := q
  exact ⟨t, e, h.tup z⟩
theorem Keep.deeds {S : List Addr} (h : Keep S H H') {us : List V} {ds : List Deed} (q : DeedsV K H us ds) : DeedsV K H' us ds := Paired.mapP q fun _ _ q => by
  obtain ⟨t, a, d, us, oa, h1, h2, h3, h4, h5⟩ := q
  exact ⟨t, a, d, us, oa, h1, h.2 _ _ (fun m => (h.1 _ m).1 _ h2) h2, h.2 _ _ (fun m => (h.1 _ m).2 _ _ h3) h3, h.nsv h4, h.skF h5⟩
theorem Keep.of {S : List Addr} (hl : ∀ b ∈ S, Loose H b) (s : Same (hid S H) (hid S H')) : Keep S H H' := ⟨hl, fun b u n q => hid_out _ _ _ _ (s _ _ (by rw [hid_ne n]; exact q))⟩
theorem Keep.hid {S : List Addr} (h : Keep S H H') : Same (hid S H) (hid S H') := hid_map fun b u n q => ⟨n, h.2 b u n q⟩
theorem Keep.trans {S : List Addr} {H2 : Hp} (a : Keep S H H') (b : Keep S H' H2) : Keep S H H2 := ⟨a.1, fun c u n q => b.2 c u n (a.2 c u n q)⟩
theorem Keep.same {S : List Addr} (hl : ∀ b ∈ S, Loose H b) (s : Same H H') : Keep S H H' := ⟨hl, fun b u _ q => s b u q⟩
theorem SesX.keep {S : List Addr} (h : SesX K C x ct H o L ss l ds) (k : Keep S H H') (n : ∀ b ∈ ownS o L x, b ∉ S) : SesX K C x ct H' o L ss l ds := by
  obtain ⟨dx, F, us, h1, h2, h3, h4, h5⟩ := h.ex
  refine ⟨dx, F, us, k.2 _ _ (n o List.mem_cons_self) h1, k.2 _ _ (n L (List.mem_cons_of_mem _ List.mem_cons_self)) h2, k.skF h3, k.deeds h4, ?_⟩
  cases x with
  | none => exact trivial
  | some D => exact k.2 _ _ (n D (by simp [ownS])) h5
end
/-- what one step does to the stacks -/
def perfS (l : Lim) : List NSt → Sk → Option Sk
  | [], ss => some ss
  | s :: r, ss => match stepL l (s.1, s.2.2) (getS ss s.2.1) with
    | none => none
    | some st => perfS l r (putS ss s.2.1 st)
section
variable {P : Program} {w : World} {K : PySem.W.Frag} {mg : Str → Option Value} {base : Heap} {C : Addr}
def MethHas (P : Program) (w : World) (K : PySem.W.Frag) (mg : Str → Option Value) (base : Heap) (C : Addr) (m : Str) (k : Nat) (ps : List Str) (sp : Sp) : Prop := ∃ f fd, Meth K C m f ∧ FnOk P w K mg base CX0 k f fd ps sp ∧ Binds K fd ps []
theorem pe_mH0 {X : Cx} {C : Addr} {m : Str} {k : Nat} {ps : List Str} {sp : Sp} {o : Expr} {ta : TE} {apos pos : Pos} {pl : Sem Bool} (h : MethHas X.prog X.w X.K X.mg X.base C m k ps sp) (he : PE X o ta) (c : Cls X.K C) (hr : Room k X.A)
    (ht : eval (.Call (.Attribute o m apos) [] [] pos) X.env = (do
      let ov ← eval o X.env
      standAt apos.atName
      let (f, first) ← holding [ov] (getMethod ov m pl)
      callWith pos f first (backTo pos (starEach [] X.env)) (backToKw pos (keywordEach [] X.env))) := by rfl) : PE X (.Call (.Attribute o m apos) [] [] pos) (tMeth C m sp [] E0 ta tNil) := by
  obtain ⟨f, fd, hm, F, hb⟩ := h
  exact pe_meth0 (pl := pl) he c hm F hr hb .nil pass0 ht
theorem pe_mH1 {X : Cx} {C : Addr} {m : Str} {k : Nat} {ps : List Str} {sp : Sp} {o e : Expr} {es : List Expr} {ta : TE} {t : TA} {apos pos : Pos} {pl : Sem Bool} (h : MethHas X.prog X.w X.K X.mg X.base C m k ps sp) (he : PE X o ta) (c : Cls X.K C) (hr : Room k X.A) (ha : PA X (e :: es) t)
    (hst : starEach (e :: es) X.env = (false, eval e X.env) :: starEach es X.env := by rfl) (hpl : (backTo pos (starEach es X.env)).any (·.1) = false := by rfl)
    (ht : eval (.Call (.Attribute o m apos) (e :: es) [] pos) X.env = (do
      let ov ← eval o X.env
      standAt apos.atName
      let (f, first) ← holding [ov] (getMethod ov m pl)
      callWith pos f first (backTo pos (starEach (e :: es) X.env)) (backToKw pos (keywordEach [] X.env))) := by rfl) : PE X (.Call (.Attribute o m apos) (e :: es) [] pos) (tMeth C m sp [] E0 ta t) := by
  obtain ⟨f, fd, hm, F, hb⟩ := h
  exact pe_meth (pl := pl) he c hm F hr hb .nil pass0 ha hst hpl ht
theorem sX_none {x : Option Addr} {f h d : V} {m : Str} (h1 : (m == ("filled" : Str)) = false) (h2 : (m == ("highest_allowed" : Str)) = false) (h3 : (m == ("deeds" : Str)) = false) (h4 : (m == ("failed" : Str)) = false) : (sF f h d ++ xF x).lookup m = none := by
  cases x <;> (unfold sF xF; simp [List.lookup, h1, h2, h3, h4])
/-! ### add_deed -/
def spAd (K : PySem.W.Frag) (C : Addr) (x : Option Addr) : Sp := fun vs H Q _ => ∃ (o L a d : Addr) (ct : Cn) (ss ss2 : Sk) (l l2 : Lim) (ds : List Deed) (us : List V) (ns : List NSt) (oa : Obj), vs = [.ref o, .ref a, .ref d, limV l2] ∧ SesX K C x ct H o L ss l ds ∧ H a = some (.frz oa (.lst us)) ∧ NSV K H us ns ∧ SkF K H d ss2 ∧ ds.length ≤ 100000 ∧
  ∀ H', Keep (ownS o L x) H H' → SesX K C x ct H' o L ss2 l2 (ds ++ [(ns, ss, l)]) → Q .non H'
theorem scAd : FnScope ["self", "steps", "stacks", "limit"] ["self", "steps", "stacks", "limit"] (defScope sSAddDeed) := ⟨rfl, rfl, rfl, by decide +kernel, rfl, by decide +kernel, by decide +kernel⟩
theorem ok_ad {f : Addr} {fd : FuncData} {x : Option Addr} (F : Fun K "add_deed" "Session.add_deed" sSAddDeed f fd) (T : SCl K C) : FnOk P w K mg base CX0 1 f fd ["self", "steps", "stacks", "limit"] (spAd K C x) := by
  refine F.ok scAd (fun vs H Q E h => ?_) (fun cdv A outer s H vs Q E hr h => ?_)
  · obtain ⟨o, L, a, d, ct, ss, ss2, l, l2, ds, us, ns, oa, rfl, _⟩ := h
    rfl
  · obtain ⟨o, L, a, d, ct, ss, ss2, l, l2, ds, us, ns, oa, rfl, hses, ha, hn, hd, hl, k⟩ := h
    have oL := hses.ne
    have hlo := hses.loose
    obtain ⟨dx, F, ws, h1, h2, h3, h4, h5⟩ := hses.ex
    refine ⟨_, pss_cons (ps_expr (pe_bm PySem.F.plainAttrs_list PySem.F.slot_list_append PySem.F.type_list_append mt_append (pe_fld (pv 0) rfl) (pa_cons (pe_tup (pa_cons (pv 1) (pa_cons (pe_fld (pv 0) rfl) (pa_cons (pe_fld (pv 0) rfl) pa_nil)))) pa_nil)))
      (pss_cons (ps_fld (pv 0) (pv 2) rfl) (pss_one (ps_fld (pv 0) (pv 3) rfl))), ?_⟩
    have lw := paired_len h4
    refine ⟨_, rfl, o, C, dx, _, _, rfl, h1, T.cl, T.nD, rfl, .inl ⟨rfl, _, .of h2⟩, _, rfl, _, rfl, o, C, dx, _, _, rfl, h1, T.cl, T.nF, rfl, _, rfl, o, C, dx, _, _, rfl, h1, T.cl, T.nH, rfl, by show 3 ≤ sizeLine; decide, fun t ht => ?_⟩
    have sT : Same H (upd H t (.tup [.ref a, .ref F, limV l])) := Same.new ht
    have hT : upd H t (.tup [.ref a, .ref F, limV l]) t = some (.tup [.ref a, .ref F, limV l]) := upd_same
    generalize upd H t (.tup [.ref a, .ref F, limV l]) = H1 at sT hT ⊢
    refine ⟨L, ws, .ref t, rfl, rfl, sT _ _ h2, by rw [sizeLine_eq]; omega, ?_⟩
    have h1' := sT _ _ h1
    have h2' := sT _ _ h2
    have v1 : DeedsV K H1 (ws ++ [.ref t]) (ds ++ [(ns, ss, l)]) := paired_snoc (deeds_same h4 sT) ⟨t, a, F, us, oa, rfl, hT, sT _ _ ha, nsv_same hn sT, h3.same sT⟩
    have w1 := hd.same sT
    have x1 := h5.same sT
    have kT : Keep (ownS o L x) H H1 := Keep.same hlo sT
    have lo1 : ∀ b ∈ ownS o L x, Loose H1 b := (SesX.mk ⟨dx, F, ws, h1', h2', h3.same sT, deeds_same h4 sT, x1⟩ : SesX K C x ct H1 o L ss l ds).loose
    have hx : ∀ D, x = some D → D ≠ o ∧ D ≠ L := fun D e => by subst e; exact hses.neD
    refine ⟨_, rfl, _, rfl, o, C, dx, _, rfl, (by rw [upd_ne oL]; exact h1'), T.cl, T.nF, xF_len _ _ _ _, ?_⟩
    rw [xF_put1]
    refine ⟨_, rfl, _, rfl, o, C, dx, _, rfl, upd_same, T.cl, T.nH, xF_len _ _ _ _, ?_⟩
    rw [xF_put2]
    have kk : Keep (ownS o L x) H1 (upd (upd (upd H1 L (.lst (ws ++ [.ref t]))) o (.ins C dx (sF (.ref d) (limV l) (.ref L) ++ xF x))) o (.ins C dx (sF (.ref d) (limV l2) (.ref L) ++ xF x))) := ⟨lo1, fun b u n q => by
      have n1 : b ≠ o := fun e => n (by rw [e]; exact List.mem_cons_self)
      have n2 : b ≠ L := fun e => n (by rw [e]; exact List.mem_cons_of_mem _ List.mem_cons_self)
      rw [upd_ne n1, upd_ne n1, upd_ne n2]
      exact q⟩
    refine k _ (kT.trans kk) ⟨dx, d, ws ++ [.ref t], upd_same, by rw [upd_ne (Ne.symm oL), upd_ne (Ne.symm oL)]; exact upd_same, kk.skF w1, kk.deeds v1, ?_⟩
    cases x with
    | none => exact trivial
    | some D =>
      obtain ⟨d1, d2⟩ := hx D rfl
      show upd _ _ _ D = _
      rw [upd_ne d1, upd_ne d1, upd_ne d2]
      exact x1
end
end SE
/-! Exceptions of own classes below ValueError, each with one field. -/
namespace SE
open PySem PySem.Spec PyProof.Rows L2
section
variable {P : Program} {w : World} {K : PySem.W.Frag} {mg : Str → Option Value} {base : Heap}
/-- a def that may raise keeps the promise sp -/
def HasX (P : Program) (w : World) (K : PySem.W.Frag) (mg : Str → Option Value) (base : Heap) (x : Str) (k : Nat) (ps : List Str) (dvs : List V) (sp : Sp) : Prop :=
  ∃ f fd ds, FnOk P w K mg base (L2.CX P w) k f fd ps sp ∧ mg x = some (.ref f) ∧ PySem.W.keepIn K (.ref f) = true ∧ Binds K fd ps ds ∧ Vals dvs ds ∧ ∃ st, Fun K x x st f fd
abbrev BxX (P : Program) (w : World) (K : PySem.W.Frag) (mg : Str → Option Value) (base : Heap) (N : List Str) (x : Str) (st : Stmt) (f : Addr) (cv : Value) (A : Around) (out : List Env) (s : Shared) (H : Hp) (E : XK) : Cx :=
  cxOf (L2.CX P w) P w K mg base N x (defScope st) f cv A out s H E
theorem hasX_of {x : Str} {st : Stmt} {N ps : List Str} {k : Nat} {sp : Sp} (D : Def K mg x st) (S : FnScope N ps (defScope st))
    (hb : ∀ (kV doc pm : Value) (an : Option Addr) (cv ct : Value) (us : List Value), us.length = ps.length → bindArgs (PySem.W.fnOf x x (defArgs st) (defBody st) (defScope st) .none kV doc pm an cv ct) ⟨us, []⟩ = pure (ps.zip us))
    (len : ∀ xs H Q E, sp xs H Q E → xs.length = ps.length)
    (hbd : ∀ (f : Addr) (cv : Value) (A : Around) (out : List Env) (s : Shared) (H : Hp) (xs : List V) (Q : VK) (E : XK), Room k (A.deeper (envOfC x (defScope st) s.heap.objs.size f cv)) → sp xs H Q E →
      ∃ t, PSs (BxX P w K mg base N x st f cv A out s H E) (defBody st) t ∧ t { nx := fun _ H2 => Q .non H2, rt := Q } (start N xs) H) : HasX P w K mg base x (k + 1) ps [] sp := by
  obtain ⟨f, fd, F, hm⟩ := D
  exact ⟨f, fd, [], F.okX S len fun cv A out s H xs Q E hr h => hbd f cv A out s H xs Q E hr h, hm, F.kp, F.binds hb, .nil, st, F⟩
/-- what stands in a def that may raise: its own way out -/
theorem tkX {N : List Str} {x : Str} {st : Stmt} {f : Addr} {cv : Value} {A : Around} {out : List Env} {s : Shared} {H : Hp} {E : XK} : Takes (BxX P w K mg base N x st f cv A out s H E) (fun cls d _ H => E cls d H) := takes_of rfl rfl rfl rfl
end
section
variable {X : Cx} {k : Nat} {ps : List Str} {sp : Sp} {x : Str} {p pos : Pos} {e : Expr} {es : List Expr} {t : TA} {dvs : List V} {E : XK} {W : WX}
/-- a call whose exceptions leave the def that calls -/
theorem pe_hasX (h : HasX X.prog X.w X.K X.mg X.base x k ps dvs sp) (hr : Room k X.A) (tk : Takes X (fun cls d _ H => E cls d H)) (ha : PA X (e :: es) t) (hg : Gl X x := by rfl) (hdb : (x == ("__debug__" : Str)) = false := by decide)
    (he : starEach (e :: es) X.env = (false, eval e X.env) :: starEach es X.env := by rfl) (hpl : (backTo pos (starEach es X.env)).any (·.1) = false := by rfl) : PE X (.Call (.Name x p) (e :: es) [] pos) (tCall sp dvs E t) := by
  obtain ⟨f, fd, ds, F, hm, hk, hb, hd, _⟩ := h
  exact pe_call F hr hg hm hk hb hd (passes_call tk fun _ _ _ _ z => z) ha hdb he hpl
/-- a call within a try -/
theorem pe_hasS (h : HasX X.prog X.w X.K X.mg X.base x k ps [] sp) (hr : Room k X.A) (tk : Takes X W) (ha : PA X (e :: es) t) (hg : Gl X x := by rfl) (hdb : (x == ("__debug__" : Str)) = false := by decide)
    (he : starEach (e :: es) X.env = (false, eval e X.env) :: starEach es X.env := by rfl) (hpl : (backTo pos (starEach es X.env)).any (·.1) = false := by rfl) : PE X (.Call (.Name x p) (e :: es) [] pos) (tCallS sp (WE W) t) := by
  obtain ⟨f, fd, ds, F, hm, hk, hb, hd, _⟩ := h
  cases hd
  exact pe_callS F hr hg hm hk hb (fun σ => passAt tk σ) ha hdb he hpl
end
/-! ### a class of exceptions -/
def spXI (K : PySem.W.Frag) (C : Addr) (f : Str) : Sp := fun xs H Q _ => ∃ (a : Addr) (v : V), xs = [.ref a, v] ∧ H a = some (exo a C none) ∧ ∀ dx, H dx = none → dx ≠ a → Q .non (upd (upd H dx (exd dx [(f, v)])) a (exo a C (some dx)))
/-- what the written part says of the class at C, whose __init__ sets the field f -/
structure XcC (P : Program) (w : World) (K : PySem.W.Frag) (mg : Str → Option Value) (base : Heap) (x f : Str) (C : Addr) : Prop where
  oex : OexC K C
  gC : mg x = some (.ref C)
  init : ∃ fI fd, PySem.W.findIn K (.ref C) "__init__" = some (some (.ref fI)) ∧ PySem.W.typeIn K (.ref fI) = some (.type "function") ∧ FnOk P w K mg base CX0 1 fI fd ["self", f] (spXI K C f) ∧ Binds K fd ["self", f] []
  xf : XfC K C
  noF : PySem.W.findIn K (.ref C) f = some none
  ha : PySem.W.findIn K (.ref C) "__class__" = some (some (.builtin "object.__class__"))
  hn : PySem.W.specialIn K (.builtin "object.__class__") "__get__" = some (some (.builtin "getset_descriptor.__get__"))
  ht : PySem.W.takesIn K (.builtin "object.__class__") = some true
  hm : PySem.W.mroIn K C (.type "object") = some true
  te : PySem.W.exmOne K (.ref C) (.ref C) = some true
/-- __init__ -/
theorem init_ok {P : Program} {w : World} {K : PySem.W.Frag} {mg : Str → Option Value} {base : Heap} {q f : Str} {C : Addr} {st : Stmt} {fI : Addr} {fd : FuncData} {p1 p2 p3 p4 : Pos} (F : Fun K "__init__" q st fI fd) (S : FnScope ["self", f] ["self", f] (defScope st)) (T : OexC K C) (noF : PySem.W.findIn K (.ref C) f = some none)
    (hb : defBody st = [.Assign [.Attribute (.Name "self" p1) f p2] (.Name f p3) p4])
    (v0 : Vis (defScope st) "self") (v1 : Vis (defScope st) f) (hdb : (f == ("__debug__" : Str)) = false) (hcd : (f == ("__classdict__" : Str)) = false) : FnOk P w K mg base CX0 1 fI fd ["self", f] (spXI K C f) := by
  refine F.ok S (fun xs H Q E h => ?_) (fun cv A out s H xs Q E hr h => ?_)
  · obtain ⟨a, v, rfl, _⟩ := h
    rfl
  · obtain ⟨a, v, rfl, ha, k⟩ := h
    rw [hb]
    refine ⟨_, pss_one (ps_ost (pe_var (i := 0) rfl v0) (pe_var (i := 1) rfl v1 (hd := hdb) (hcd := hcd))), ?_⟩
    exact ⟨_, rfl, _, rfl, a, C, rfl, T, noF, .inl ⟨ha, fun dx nd ne => k dx nd ne⟩⟩
section
variable {X : Cx} {C : Addr} {x f : Str}
theorem mk_heap {H1 : Hp} {a d C : Addr} {f : Str} {v : V} (na : H1 a = none) (nd : d ≠ a) : upd (del (upd (upd (upd H1 a (exo a C none)) d (exd d [(f, v)])) a (exo a C (some d))) a) d (.xd [(f, v)]) = upd H1 d (.xd [(f, v)]) := by
  funext b
  by_cases e : b = d
  · subst e
    rw [upd_same, upd_same]
  · rw [upd_ne e, upd_ne e]
    by_cases e2 : b = a
    · subst e2
      rw [del_same, na]
    · rw [del_ne e2, upd_ne e2, upd_ne e, upd_ne e2]
theorem mk_red {K : PySem.W.Frag} {H1 : Hp} {v : V} {Q : XK} (h : ∀ d, H1 d = none → Q (.ref C) (some d) (upd H1 d (.xd [(f, v)]))) :
    ([v] : List V).length ≤ 1000 ∧ ∀ a, H1 a = none → spXI K C f (.ref a :: ([v] ++ [])) (upd H1 a (exo a C none))
      (fun u H2 => u = .non ∧ ∃ (d : Addr) (fs : List (Str × V)), H2 a = some (exo a C (some d)) ∧ H2 d = some (exd d fs) ∧ H1 d = none ∧ Q (.ref C) (some d) (upd (del H2 a) d (.xd fs))) (fun _ _ _ => False) := by
  refine ⟨(by decide : 1 ≤ 1000), fun a na => ⟨a, v, rfl, upd_same, fun d nd ne => ⟨rfl, d, [(f, v)], upd_same, ?_, ?_, ?_⟩⟩⟩
  · rw [upd_ne ne]
    exact upd_same
  · rw [upd_ne ne] at nd
    exact nd
  · rw [mk_heap na ne]
    rw [upd_ne ne] at nd
    exact h d nd
/-- C(e): behind the argument mk_red -/
theorem pmk_x {e : Expr} {ta : TA} {p pos : Pos} (T : XcC X.prog X.w X.K X.mg X.base x f C) (hr : Room 2 X.A) (ha : PA X [e] ta) (hg : Gl X x := by rfl)
    (hdb : (x == ("__debug__" : Str)) = false := by decide) (he : starEach (e :: []) X.env = (false, eval e X.env) :: starEach [] X.env := by rfl) (hpl : (backTo pos (starEach [] X.env)).any (·.1) = false := by rfl) :
    PMk X (.Call (.Name x p) [e] [] pos) (tMkO C (spXI X.K C f) [] ta) := by
  obtain ⟨fI, fd, i1, i2, i3, i4⟩ := T.init
  exact pmk_oex (CX := CX0) T.oex i1 i2 i3 hr i4 .nil pass0 hg T.gC ha hdb he hpl
theorem ps_raiseX {W : WX} {e : Expr} {ta : TA} {p pos pos2 : Pos} (hc : X.calm = true) (T : XcC X.prog X.w X.K X.mg X.base x f C) (hr : Room 2 X.A) (tk : Takes X W) (ha : PA X [e] ta) (hg : Gl X x := by rfl)
    (hdb : (x == ("__debug__" : Str)) = false := by decide) (he : starEach (e :: []) X.env = (false, eval e X.env) :: starEach [] X.env := by rfl) (hpl : (backTo pos (starEach [] X.env)).any (·.1) = false := by rfl) :
    PS X (.Raise (some (.Call (.Name x p) [e] [] pos)) none pos2) (fun _ σ H => tMkO C (spXI X.K C f) [] ta σ H fun cls d H' => W cls d σ H') := ps_raise hc tk (pmk_x T hr ha hg hdb he hpl)
/-- isinstance(e, c), e the exception that the suite holds -/
def rIsX (K : PySem.W.Frag) (C a : Addr) (cls : Value) (d : Option Addr) : List V → Hp → VK → Prop := fun xs H Q => ∃ (c : V) (cv : Value) (b : Bool) (dd : Addr) (fs : List (Str × V)), xs = [.ref a, c] ∧ cls = .ref C ∧ (∀ u, RelV c u → u = cv) ∧ PySem.W.kitOne K (.ref C) cv = some b ∧ d = some dd ∧ H dd = some (.xd fs) ∧ Q (.bl b) H
theorem call_isX {a : Addr} {oe : Obj} {cls : Value} {d : Option Addr} {pn : List (Addr × Obj)} (T : XcC X.prog X.w X.K X.mg X.base x f C) (hz : Zc cls d oe) (hf : ∃ vs, oe.data = .fields vs) : CallR (X.suite a ((a, oe) :: pn)) (.builtin "isinstance") (rIsX X.K C a cls d) := by
  intro pins s σ H xs us Q I r h
  obtain ⟨c, cv, b, dd, fs, rfl, rfl, hcv, e, rfl, hH, q⟩ := h
  cases r with
  | cons rx rr =>
    cases rr with
    | cons rt rr =>
      cases rr
      cases rx
      have ec := hcv _ rt
      subst ec
      obtain ⟨hget, _⟩ := I.pin (a, oe) (List.mem_append.mpr (.inl List.mem_cons_self))
      obtain ⟨vs, hv⟩ := hf
      have hx : ObjOk X.prog X.w H s.heap dd (.xd fs) := I.hok dd _ hH
      obtain ⟨mA, hns, hr⟩ := hx
      obtain ⟨od, ho, hl⟩ := lookIn_ns hns
      have J : PySem.W.InstAt s.heap a oe C (some od) := ⟨hget, hz.1, by unfold PySem.W.notCls; rw [hv] <;> rfl, by rw [hz.2]; exact ho⟩
      have hcl : (PySem.W.clsIn X.K C).isSome = true := by
        obtain ⟨cd, hc, _⟩ := PySem.W.any_some T.xf.hdC
        rw [hc]
        rfl
      exact PySem.W.kia_one (PySem.W.kitx_exc hcl T.xf.ga T.xf.gg T.xf.exC T.ha T.hn T.ht T.hm) I.kIn J e (fun z => nomatch z) fun tk => ⟨.bl b, H, I.kept (t' := tk) fun _ _ z => z, rfl, q⟩
end
end SE
/-! A for in a generator's body; a generator def called with keywords. -/
namespace SE
open PySem PySem.Spec PyProof.Rows L2 GenW
section
variable {X : Cx}
def tGFor (wi : TI) (g : TG) (tb : TGn) : TGn := fun D ys σ H => wi σ H fun J H1 => ∃ W : Nat → Nat → List V → L2.St → Hp → Prop, (∃ m, W 0 m ys σ H1) ∧ ∀ i m ys σ H, W i m ys σ H →
  (J.stop i H ∧ D.nx ys σ H) ∨ (J.go i H ∧ ∃ N : List V → L2.St → Hp → Prop, (∀ zs σ2 H2, N zs σ2 H2 → ∃ j, j < m ∧ W (i + 1) j zs σ2 H2) ∧ ∀ x H2, J.yld i H x H2 → g x σ H2 fun σ3 H3 => tb { D with nx := N, ct := N, bk := D.nx } ys σ3 H3)
theorem gs_for {tg iter : Expr} {body : List Stmt} {pos : Pos} {wi : TI} {g : TG} {tb : TGn} (hp : PassesOwn (model X.prog X.w) X.A X.env X.xe) (hc : X.calm = true) (hi : PI X tg iter wi) (hg : PG X tg g) (hb : GSs X body tb)
    (hs : ∀ x, foldedSetIterable iter X.env x = pure x := by intro _; rfl) : GS X (.For tg iter body [] pos) (tGFor wi g tb) := by
  constructor
  intro A S ip R n ys s₀ c fs K J gd lv s σ H D gc hn k hI ht
  obtain ⟨acc, cc, r, I⟩ := hI
  rw [exec_For]
  refine seg_bind_wrap (wpAny_standAt ?_)
  refine seg_bind_wrap ?_
  rw [gc.over]
  refine wpAny_mono (hi.run _ s σ H _ I ht) (fun v s1 h1 => ?_) fun x s2 hx => k.exc n s₀ x s2 hx
  refine seg_bind_wrap (wpAny_of_eq (hs v) ?_)
  refine seg_bind_wrap (wpAny_standAt ?_)
  refine seg_bind_wrap (wpAny_holding ?_)
  rw [gc.over]
  refine wpAny_mono h1 (fun itv s2 h2 => ?_) fun x s3 hx => k.exc n s₀ x s3 hx
  obtain ⟨it, fp, tn, Jt, H2, e2, I2, T, st2, f2, W, ⟨m0, w0⟩, turn⟩ := h2
  subst e2
  refine seg_call fun p => ?_
  have gl := fun (kk : Result → Sem PySem.Fin) => gc_loop (X := X) (k := kk) (c' := .forLoop tg (.ref it) body [] X.env) (l := lv []) (kp := []) (p := p) gc rfl rfl
  have apart : ∀ b ∈ fp, b ≠ S := fun b hb z => by
    obtain ⟨_, _, _, _, _, q⟩ := f2 b hb
    exact q (S, lstObj acc cc) (List.mem_append_right _ List.mem_cons_self) z.symm
  have fpok : ∀ {acc2 : Array Value} {c2 : Nat} {H3 : Hp}, (∀ b ∈ fp, H3 b = none) → ∀ b ∈ fp, FpOk X ((S, lstObj acc2 c2) :: ip) H3 b := by
    intro acc2 c2 H3 hn3 b hb
    obtain ⟨_, a2, a3, a4, a5, a6⟩ := f2 b hb
    refine ⟨hn3 b hb, a2, a3, a4, a5, fun q hq => ?_⟩
    rcases List.mem_append.mp hq with z | z
    · exact a6 q (List.mem_append_left _ z)
    · rcases List.mem_cons.mp z with y | y
      · rw [y]
        exact Ne.symm (apart b hb)
      · exact a6 q (List.mem_append_right _ (List.mem_cons_of_mem _ y))
  have loop : ∀ (m n i : Nat) (ys : List V) (s₀ s : Shared) (σ : L2.St) (H : Hp), n + ys.length = sizeLine → W i m ys σ H → GI X S ip ys σ H s → tn i s.heap → (∀ b ∈ fp, H b = none) →
      Seg (model X.prog X.w) A R (GY X S) n s₀ (.forLoop tg (.ref it) body [] X.env) ((model X.prog X.w).den (.forLoop tg (.ref it) body [] X.env))
        (.ret (fun r => ((match r with | .ok f => (.pure f : Sem Flow) | .error e => .raise e).onRaise (cameBack X.env)).wrap K J gd lv) none (gd false) (lv []) c p [] :: fs) s := by
    intro m
    induction m using Nat.strongRecOn with
    | ind m ih =>
      intro n i ys s₀ s σ H hn w hI st fr
      have ee : ∀ (n : Nat) (s₀ : Shared) (x : Value) (s4 : Shared), X.xe x s4 → Seg (model X.prog X.w) A R (GY X S) n s₀ (.forLoop tg (.ref it) body [] X.env)
          ((do noteFrame x X.env; theTreesLotGoes x : Sem Unit).bind fun _ => .raise x)
          (.ret (fun r => ((match r with | .ok f => (.pure f : Sem Flow) | .error e => .raise e).onRaise (cameBack X.env)).wrap K J gd lv) none (gd false) (lv []) c p [] :: fs) s4 := fun n s₀ x s4 hx => by
        rw [Sem.bind_eq_wrap]
        refine seg_wrap ?_
        rw [(gl _).over]
        refine wpAny_bind (wpAny_mono (hp x s4 hx) (fun _ s5 hcb => wpAny_theTreesLotGoes ?_) fun y s5 hcb => ?_)
        · exact seg_leaf (.error x) (seg_cameBack gc k hcb)
        · exact seg_leaf (.error y) (seg_cameBack gc k hcb)
      show Seg _ A R _ n s₀ _ ((forTurn tg (.ref it) body [] X.env).onRaise (fun x => do noteFrame x X.env; theTreesLotGoes x)) _ s
      unfold forTurn
      rw [Sem.onRaise_eq_wrap]
      refine seg_bind_wrap (wpAny_standAt ?_)
      refine seg_bind_wrap ?_
      rw [(gl _).over]
      obtain ⟨acc3, c3, r3, I3⟩ := hI
      rcases turn i m ys σ H w with ⟨stop, qn⟩ | ⟨go, N, hN, step⟩
      · refine wpAny_onRaise (wpAny_mono (T.done X rfl rfl rfl hc i _ s σ H X.xe I3 (fpok fr) st stop) (fun rr s4 hh => ?_) fun x s4 hx => wpAny_standAt (ee n s₀ x s4 hx))
        obtain ⟨hr, I4⟩ := hh
        subst hr
        refine seg_again rfl ?_
        show Seg _ A R _ n s₀ _ (do return Fin.done (← (execs [] X.env).onRaise (fun x => do noteFrame x X.env; theTreesLotGoes x))) _ s4
        exact seg_leaf (.ok .next) (k.ok n ys s₀ s4 .next hn ⟨σ, H, ⟨acc3, c3, r3, I4⟩, qn⟩)
      · refine wpAny_onRaise (wpAny_mono (T.item X rfl rfl rfl hc i _ s σ H X.xe I3 (fpok fr) st go) (fun rr s4 hh => ?_) fun x s4 hx => wpAny_standAt (ee n s₀ x s4 hx))
        obtain ⟨u, hr, h4⟩ := hh
        subst hr
        refine seg_bind_wrap ?_
        rw [(gl _).over]
        refine wpAny_mono h4 (fun _ s5 hh => ?_) fun x s5 hx => ee n s₀ x s5 hx
        obtain ⟨x, H5, I5, r5, y5, st5, fr5⟩ := hh
        have I6 := I5.pinned (fpok fr5) (T.obj _ _ st5)
        refine seg_bind_wrap ?_
        rw [(gl _).over]
        refine wpAny_mono (hg.run _ s5 σ H5 x u _ I6 r5 (step x H5 y5)) (fun _ s6 hh => ?_) fun x s6 hx => ee n s₀ x s6 hx
        obtain ⟨σ6, H6, I7, q6⟩ := hh
        have gb : GC X S (ip ++ pinsAt fp s5.heap) A (.forLoop tg (.ref it) body [] X.env) (.ret (fun r => ((match r with | .ok f => (.pure f : Sem Flow) | .error e => .raise e).onRaise (cameBack X.env)).wrap K J gd lv) none (gd false) (lv []) c p [] :: fs) id := by
          have q := gl (fun r => ((match r with | .ok f => (.pure f : Sem Flow) | .error e => .raise e).onRaise (cameBack X.env)).wrap K J gd lv)
          refine ⟨q.pn, fun z hz => ?_, q.apart, q.over, q.split, q.guard, q.gd⟩
          rcases List.mem_append.mp hz with y | y
          · exact q.ip z y
          · exact apart z.1 (of_pinsAt y).1
        rw [Sem.bind_eq_wrap', Sem.wrap_wrap]
        refine hb.run A S (ip ++ pinsAt fp s5.heap) R n ys s₀ _ _ _ _ id id s6 σ6 H6 { D with nx := N, ct := N, bk := D.nx } gb hn ⟨fun n2 zs s7 s8 f hn2 hs8 => ?_, fun n2 s7 x s8 hx => ee n2 s7 x s8 hx⟩ ⟨acc3, c3, r3, I7⟩ q6
        have again : ∀ {σ8 : L2.St} {H8 : Hp}, GI X S (ip ++ pinsAt fp s5.heap) zs σ8 H8 s8 → N zs σ8 H8 → Seg (model X.prog X.w) A R (GY X S) n2 s7 (.forLoop tg (.ref it) body [] X.env) ((model X.prog X.w).den (.forLoop tg (.ref it) body [] X.env))
            (.ret (fun r => ((match r with | .ok f => (.pure f : Sem Flow) | .error e => .raise e).onRaise (cameBack X.env)).wrap K J gd lv) none (gd false) (lv []) c p [] :: fs) s8 := by
          intro σ8 H8 G8 n8
          obtain ⟨j, hj, w8⟩ := hN zs σ8 H8 n8
          obtain ⟨acc8, c8, r8, I8⟩ := G8
          have pin8 : ∀ b ∈ fp, ∀ o, s5.heap.get? b = some o → s8.heap.get? b = some o ∧ H8 b = none := fun b hb o e => by
            have q := I8.pin (b, o) (List.mem_append_right _ (List.mem_cons_of_mem _ (List.mem_append_right _ (mem_pinsAt hb e))))
            exact ⟨q.1, q.2.1⟩
          refine ih j hj n2 (i + 1) zs s7 s8 σ8 H8 hn2 w8 ⟨acc8, c8, r8, I8.pins_of fun q hq => I8.pin q (List.mem_append_right _ ?_)⟩ (T.keep _ _ _ st5 fun b hb o e => (pin8 b hb o e).1) fun b hb => ?_
          · rcases List.mem_cons.mp hq with y | y
            · rw [y]
              exact List.mem_cons_self
            · exact List.mem_cons_of_mem _ (List.mem_append_left _ y)
          · obtain ⟨o, e, _⟩ := T.obj _ _ st5 b hb
            exact (pin8 b hb o e).2
        have thin : ∀ {σ8 : L2.St} {H8 : Hp}, GI X S (ip ++ pinsAt fp s5.heap) zs σ8 H8 s8 → GI X S ip zs σ8 H8 s8 := by
          intro σ8 H8 G8
          obtain ⟨acc8, c8, r8, I8⟩ := G8
          refine ⟨acc8, c8, r8, I8.pins_of fun q hq => I8.pin q (List.mem_append_right _ ?_)⟩
          rcases List.mem_cons.mp hq with y | y
          · rw [y]
            exact List.mem_cons_self
          · exact List.mem_cons_of_mem _ (List.mem_append_left _ y)
        cases f with
        | next =>
          obtain ⟨σ8, H8, G8, n8⟩ := hs8
          exact seg_again rfl (again G8 n8)
        | cont =>
          obtain ⟨σ8, H8, G8, n8⟩ := hs8
          exact seg_again rfl (again G8 n8)
        | brk =>
          obtain ⟨σ8, H8, G8, n8⟩ := hs8
          exact seg_leaf (.ok .next) (k.ok n2 zs s7 s8 .next hn2 ⟨σ8, H8, thin G8, n8⟩)
        | ret v =>
          obtain ⟨x8, σ8, H8, G8, r8, n8⟩ := hs8
          exact seg_leaf (.ok (.ret v)) (k.ok n2 zs s7 s8 (.ret v) hn2 ⟨x8, σ8, H8, thin G8, r8, n8⟩)
  exact loop m0 n 0 ys s₀ s2 σ H2 hn w0 ⟨acc, cc, r, I2⟩ st2 fun b hb => (f2 b hb).1
end
end SE
/-! Calls by keywords. -/
namespace SE
open PySem PySem.Spec PyProof.Rows L2 GenW
section
variable {K : PySem.W.Frag} {x qual : Str} {params : Arguments} {body : List Stmt} {scope : Scope} {kws : List (Str × V)} {f : Addr} {fd : FuncData} {ps : List Str}
/-- keyword-only defaults alone; ms: those that lack -/
theorem kb_some (F : FunD K x qual params body scope [] kws f fd) (n : Nat) (ks : List Str) (ms : List (Str × V)) (g : {α : Type} → List α → List α → List α → List α) (hk : kws ≠ []) (hms : ∀ q ∈ ms, q ∈ kws)
    (hrel : ∀ {vs mz zs : List V} {us mv ws : List Value}, Vals vs us → Vals mz mv → Vals zs ws → Vals (g vs mz zs) (g us mv ws))
    (h : ∀ (D : Addr) (doc pm : Value) (an : Option Addr) (cv ct : Value) (us mv ws : List Value), us.length = n → mv.length = ms.length → ws.length = ks.length →
      KwChain D ((ms.map (·.1)).zip mv) (bindArgs (PySem.W.fnOf x qual params body scope .none (.ref D) doc pm an cv ct) ⟨us, ks.zip ws⟩) (ps.zip (g us mv ws))) :
    ∃ mv : List Value, KBn K fd ps n ks (fun us ws => g us mv ws) (fun vs zs => g vs (ms.map (·.2)) zs) := by
  obtain ⟨oc, od, dV, kV, doc, pm, an, cv, ct, osl, rfl, look, hc, hD, hK⟩ := F.ex
  rcases hD with ⟨_, rfl⟩ | ⟨e, _⟩
  · rcases hK with e | ⟨D, rfl, hq⟩
    · exact absurd e hk
    · obtain ⟨mv, hl, rk, hks⟩ := kwd_vals (ms := ms) fun q hm => hq q (hms q hm)
      exact ⟨mv, fun s us ws X l1 l2 => BindsTo.of_looks fun M => KwChain.looks X hks (h D doc pm an cv ct us mv ws l1 hl l2), fun r1 r2 => hrel r1 rk r2⟩
  · exact absurd rfl e
theorem kb_all {st : Stmt} (F : Fun K x qual st f fd) (n : Nat) (ks : List Str) (g : {α : Type} → List α → List α → List α)
    (hrel : ∀ {vs zs : List V} {us ws : List Value}, Vals vs us → Vals zs ws → Vals (g vs zs) (g us ws))
    (h : ∀ (kV doc pm : Value) (an : Option Addr) (cv ct : Value) (us ws : List Value), us.length = n → ws.length = ks.length → bindArgs (PySem.W.fnOf x qual (defArgs st) (defBody st) (defScope st) .none kV doc pm an cv ct) ⟨us, ks.zip ws⟩ = pure (ps.zip (g us ws))) :
    KBn K fd ps n ks (fun us ws => g us ws) (fun vs zs => g vs zs) := by
  obtain ⟨oc, od, kV, doc, pm, an, cv, ct, osl, rfl, look, hc⟩ := F.ex
  exact ⟨fun s us ws X l1 l2 => .of_eq (h kV doc pm an cv ct us ws l1 l2), fun r1 r2 => hrel r1 r2⟩
end
section
variable {X : Cx} {k n : Nat} {f : Addr} {fd : FuncData} {ps ks : List Str} {sp : Sp} {E : XK} {x : Str} {p pos : Pos} {e : Expr} {es : List Expr} {kws : List Keyword} {t tk : TA} {g : List Value → List Value → List Value} {gV : List V → List V → List V}
/-- f(k = v, ..) -/
theorem pe_kw0 (F : FnOk X.prog X.w X.K X.mg X.base CX0 k f fd ps sp) (hr : Room k X.A) (hg : Gl X x) (hm : X.mg x = some (.ref f)) (hk : PySem.W.keepIn X.K (.ref f) = true) (hb : KBn X.K fd ps 0 ks g gV)
    (hkw : PK X kws tk) (hall : (backToKw pos (keywordEach kws X.env)).all (·.1.isSome) = true := by rfl) (hks : (backToKw pos (keywordEach kws X.env)).filterMap (·.1) = ks := by rfl)
    (hdb : (x == ("__debug__" : Str)) = false := by decide) (hpl : ((backTo pos (starEach [] X.env)).any (·.1) || (backToKw pos (keywordEach kws X.env)).any (·.1.isNone)) = false := by rfl) :
    PE X (.Call (.Name x p) [] kws pos) (tCallN 0 ks.length sp gV E0 tNil tk) := by
  constructor
  intro pins s σ H Q I h
  apply wpAny_Call_Name_kw
  apply ld_glob I hg hm _ hdb
  refine PySem.W.callWith_KW0 (h₀ := X.base) I.ok.mod.kin hk hall (thn (hkw.run pos pins s σ H _ I h) fun ws s2 hh => ?_) hpl
  obtain ⟨zs, H2, I2, rz, l1, l2, q2⟩ := hh
  refine ⟨I2.kIn, ?_⟩
  rw [hks]
  exact run_fnN F hr hb pass0 I2 .nil rz l1 l2 q2
/-! ### generators -/
variable {sg : SpG}
theorem run_gkw {pins : List (Addr × Obj)} {σ : L2.St} {H : Hp} {s : Shared} {us ws : List Value} {vs zs : List V} {cont : List V → Hp → Prop} {E1 : Value → Shared → Prop} (F : GFn X.prog X.w X.K X.mg X.base k f fd ps sg) (hr : Room k X.A) (hb : KBn X.K fd ps n ks g gV)
    (I : Inv X pins σ H s) (r : Vals vs us) (rz : Vals zs ws) (l1 : vs.length = n) (l2 : zs.length = ks.length) (h : sg (gV vs zs) H cont E) :
    wpAny (model X.prog X.w) X.A (call (.ref f) us (ks.zip ws)) (fun u s2 => ∃ H1 sc ex, Inv X pins σ H1 sc ∧ ExOk X pins ex ∧ GMade X.prog X.w k X.stack H1 sc ex cont E u s2) E1 s := by
  have r2 := hb.rel r rz
  refine wpAny_call (codeAny_mono (F.run X.A X.stack s H ⟨us, ks.zip ws⟩ (g us ws) (gV vs zs) cont E hr I.env0 (hb.to s us ws I.kIn (r.length.symm.trans l1) (rz.length.symm.trans l2)) r2 h) fun rr s2 hq => ?_)
  cases rr with
  | error _ => exact hq.elim
  | ok fl =>
    cases fl with
    | ret u => exact ⟨H, s, [], I, .nil, hq⟩
    | next => exact hq.elim
    | brk => exact hq.elim
    | cont => exact hq.elim
def tGenN (n m : Nat) (sg : SpG) (gV : List V → List V → List V) (E : XK) (t tk : TA) : TGen := fun σ H cont => t σ H fun vs H1 => tk σ H1 fun zs H2 => vs.length = n ∧ zs.length = m ∧ sg (gV vs zs) H2 cont E
theorem pgen_kw (F : GFn X.prog X.w X.K X.mg X.base k f fd ps sg) (hr : Room k X.A) (hg : Gl X x) (hm : X.mg x = some (.ref f)) (hk : PySem.W.keepIn X.K (.ref f) = true) (hb : KBn X.K fd ps n ks g gV)
    (ha : PA X (e :: es) t) (hkw : PK X kws tk) (hall : (backToKw pos (keywordEach kws X.env)).all (·.1.isSome) = true := by rfl) (hks : (backToKw pos (keywordEach kws X.env)).filterMap (·.1) = ks := by rfl)
    (hdb : (x == ("__debug__" : Str)) = false := by decide) (he : starEach (e :: es) X.env = (false, eval e X.env) :: starEach es X.env := by rfl)
    (hpl : ((backTo pos (starEach (e :: es) X.env)).any (·.1) || (backToKw pos (keywordEach kws X.env)).any (·.1.isNone)) = false := by rfl) :
    PGen X k (.Call (.Name x p) (e :: es) kws pos) (tGenN n ks.length sg gV E t tk) E := by
  constructor
  intro pins s σ H cont I h
  apply wpAny_Call_Name_kw
  apply ld_glob I hg hm _ hdb
  refine PySem.W.callWith_KW (h₀ := X.base) I.ok.mod.kin hk hall (thn (ha.run pos pins s σ H _ I h) fun us s1 hh => ?_) hpl he
  obtain ⟨vs, H1, I1, r, q⟩ := hh
  refine thn (hkw.run pos pins s1 σ H1 _ I1 q) fun ws s2 hh => ?_
  obtain ⟨zs, H2, I2, rz, l1, l2, q2⟩ := hh
  refine ⟨I2.kIn, ?_⟩
  rw [hks]
  exact run_gkw F hr hb I2 r rz l1 l2 q2
theorem pgen_kw0 (F : GFn X.prog X.w X.K X.mg X.base k f fd ps sg) (hr : Room k X.A) (hg : Gl X x) (hm : X.mg x = some (.ref f)) (hk : PySem.W.keepIn X.K (.ref f) = true) (hb : KBn X.K fd ps 0 ks g gV)
    (hkw : PK X kws tk) (hall : (backToKw pos (keywordEach kws X.env)).all (·.1.isSome) = true := by rfl) (hks : (backToKw pos (keywordEach kws X.env)).filterMap (·.1) = ks := by rfl)
    (hdb : (x == ("__debug__" : Str)) = false := by decide) (hpl : ((backTo pos (starEach [] X.env)).any (·.1) || (backToKw pos (keywordEach kws X.env)).any (·.1.isNone)) = false := by rfl) :
    PGen X k (.Call (.Name x p) [] kws pos) (tGenN 0 ks.length sg gV E tNil tk) E := by
  constructor
  intro pins s σ H cont I h
  apply wpAny_Call_Name_kw
  apply ld_glob I hg hm _ hdb
  refine PySem.W.callWith_KW0 (h₀ := X.base) I.ok.mod.kin hk hall (thn (hkw.run pos pins s σ H _ I h) fun ws s2 hh => ?_) hpl
  obtain ⟨zs, H2, I2, rz, l1, l2, q2⟩ := hh
  refine ⟨I2.kIn, ?_⟩
  rw [hks]
  exact run_gkw F hr hb I2 .nil rz l1 l2 q2
/-- nothing is raised by a generator that raises nothing -/
theorem pass_gen : Passes (CX X.prog X.w) X E0 := by
  intro pins σ H s e s2 I h
  obtain ⟨a, B, H2, cls, d, _, _, _, _, _, _, _, q⟩ := h
  exact q.elim
theorem nostop0 {K : PySem.W.Frag} : NoStop K E0 := fun _ _ _ h => h.elim
end
end SE
/-! Classes and methods called by keyword where exceptions may come, also within a try. -/
namespace SE
open PySem PySem.Spec PyProof.Rows L2
section
variable {X : Cx} {CT : CXT} {k n : Nat} {f C : Addr} {fd : FuncData} {ps ks : List Str} {sp : Sp} {x m : Str} {p pos apos : Pos} {e o : Expr} {es : List Expr} {kws : List Keyword} {te : TE} {t tk : TA} {ex : L2.St → XK}
  {g : List Value → List Value → List Value} {gV : List V → List V → List V}
/-- a def called with some arguments by keyword; ex σ is what is wished of its exceptions -/
theorem run_kwS {pins : List (Addr × Obj)} {σ : L2.St} {H : Hp} {s : Shared} {Q : VK} {us ws : List Value} {vs zs : List V} (F : FnOk X.prog X.w X.K X.mg X.base CT k f fd ps sp) (room : Room k X.A) (bd : KBn X.K fd ps n ks g gV)
    (out : PassesAt CT X σ (ex σ)) (I : Inv X pins σ H s) (r1 : Vals vs us) (r2 : Vals zs ws) (l1 : vs.length = n) (l2 : zs.length = ks.length) (h : sp (gV vs zs) H Q (ex σ)) :
    wpAny (model X.prog X.w) X.A (call (.ref f) us (ks.zip ws)) (EP X pins σ Q) X.xe s := by
  have to := bd.to s us ws I.kIn (r1.length.symm.trans l1) (r2.length.symm.trans l2)
  have run := F.run X.A X.stack s H ⟨us, ks.zip ws⟩ (g us ws) (gV vs zs) Q (ex σ) room I.env0 to (bd.rel r1 r2) h
  refine wpAny_call (codeAny_mono run fun res s2 done => ?_)
  match res, done with
  | .error ev, done => exact out pins H s ev s2 I done
  | .ok (.ret u), done => exact I.after done
  | .ok .next, done => exact done.elim
  | .ok .brk, done => exact done.elim
  | .ok .cont, done => exact done.elim
/-- a class called with some arguments by keyword -/
theorem run_mkS {pins : List (Addr × Obj)} {σ : L2.St} {H : Hp} {s : Shared} {Q : VK} {us ws : List Value} {vs zs : List V} (M : Mk X.K C f) (F : FnOk X.prog X.w X.K X.mg X.base CT k f fd ps sp) (room : Room (k + 1) X.A) (bd : KBn X.K fd ps (n + 1) ks g gV)
    (out : PassesAt CT X σ (ex σ)) (I : Inv X pins σ H s) (r1 : Vals vs us) (r2 : Vals zs ws) (l1 : vs.length = n) (l2 : zs.length = ks.length)
    (h : ∀ b db, H b = none → H db = none → db ≠ b → sp (gV (.ref b :: vs) zs) (upd (upd H db (.own b)) b (.ins C db [])) (fun v H2 => v = .non ∧ Q (.ref b) H2) (ex σ)) :
    wpAny (model X.prog X.w) X.A (call (.ref C) us (ks.zip ws)) (EP X pins σ Q) X.xe s := by
  have new := h (s.heap.objs.size + 1) s.heap.objs.size (I.hok.fresh (Nat.le_succ _)) (I.hok.fresh (Nat.le_refl _)) (Nat.ne_of_lt (Nat.lt_succ_self _))
  have made := Inv.made (C := C) I
  have rs : Vals (V.ref (s.heap.objs.size + 1) :: vs) (Value.ref (s.heap.objs.size + 1) :: us) := .cons rfl r1
  have len : (Value.ref (s.heap.objs.size + 1) :: us).length = n + 1 := congrArg (· + 1) (r1.length.symm.trans l1)
  have to := bd.to _ (Value.ref (s.heap.objs.size + 1) :: us) ws made.kIn len (r2.length.symm.trans l2)
  have run := F.run _ X.stack _ _ ⟨Value.ref (s.heap.objs.size + 1) :: us, ks.zip ws⟩ (g (Value.ref (s.heap.objs.size + 1) :: us) ws) _ _ (ex σ) (room.make C us (ks.zip ws)) (made.env0.make C us (ks.zip ws)) to (bd.rel rs r2) new
  refine wpAny_call (make_map (f := f) I.kIn M.makes M.init (beq_iff_eq.mp M.fn) (codeAny_mono run fun res s2 done => ?_))
  match res, done with
  | .error ev, done => exact out pins _ _ ev s2 made done
  | .ok (.ret u), done =>
    obtain ⟨v, H2, I2, rel, ev, q⟩ := made.after done
    subst ev
    exact ⟨rel, V.ref (s.heap.objs.size + 1), H2, I2, rfl, q⟩
  | .ok .next, done => exact done.elim
  | .ok .brk, done => exact done.elim
  | .ok .cont, done => exact done.elim
/-- C(e, .., k = v, ..) -/
def tMkS (C : Addr) (n m : Nat) (sp : Sp) (gV : List V → List V → List V) (ex : L2.St → XK) (t tk : TA) : TE := fun σ H Q => t σ H fun vs H1 => tk σ H1 fun zs H2 => vs.length = n ∧ zs.length = m ∧
  ∀ b db, H2 b = none → H2 db = none → db ≠ b → sp (gV (.ref b :: vs) zs) (upd (upd H2 db (.own b)) b (.ins C db [])) (fun v H3 => v = .non ∧ Q (.ref b) H3) (ex σ)
theorem pe_mkS (M : Mk X.K C f) (F : FnOk X.prog X.w X.K X.mg X.base CT k f fd ps sp) (room : Room (k + 1) X.A) (hm : X.mg x = some (.ref C)) (bd : KBn X.K fd ps (n + 1) ks g gV) (out : ∀ σ, PassesAt CT X σ (ex σ)) (ha : PA X (e :: es) t) (hk : PK X kws tk)
    (hks : (backToKw pos (keywordEach kws X.env)).filterMap (·.1) = ks := by rfl) (hall : (backToKw pos (keywordEach kws X.env)).all (·.1.isSome) = true := by rfl) (hg : Gl X x := by rfl) (hd : (x == ("__debug__" : Str)) = false := by decide)
    (he : starEach (e :: es) X.env = (false, eval e X.env) :: starEach es X.env := by rfl) (hpl : ((backTo pos (starEach (e :: es) X.env)).any (·.1) || (backToKw pos (keywordEach kws X.env)).any (·.1.isNone)) = false := by rfl) :
    PE X (.Call (.Name x p) (e :: es) kws pos) (tMkS C n ks.length sp gV ex t tk) := by
  constructor
  intro pins s σ H Q I w
  refine wpAny_Call_Name_kw (ld_glob I hg hm ?_ hd)
  refine PySem.W.callWith_KW (h₀ := X.base) I.ok.mod.kin M.kp hall (thn (ha.run pos pins s σ H _ I w) fun us s1 z => ?_) hpl he
  obtain ⟨vs, H1, I1, r1, w1⟩ := z
  refine thn (hk.run pos pins s1 σ H1 _ I1 w1) fun ws s2 z => ?_
  obtain ⟨zs, H2, I2, r2, l1, l2, w2⟩ := z
  rw [hks]
  exact ⟨I2.kIn, run_mkS M F room bd (out σ) I2 r1 r2 l1 l2 w2⟩
/-- o.m(e, .., k = v, ..) -/
def tMethS (C : Addr) (m : Str) (n j : Nat) (sp : Sp) (gV : List V → List V → List V) (ex : L2.St → XK) (te : TE) (t tk : TA) : TE := fun σ H Q => te σ H fun y H1 => ∃ b db fs, y = .ref b ∧ H1 b = some (.ins C db fs) ∧ fs.lookup m = none ∧
  t σ H1 fun vs H2 => tk σ H2 fun zs H3 => vs.length = n ∧ zs.length = j ∧ sp (gV (.ref b :: vs) zs) H3 Q (ex σ)
theorem pe_methS {pl : Sem Bool} (ho : PE X o te) (c : Cls X.K C) (hm : Meth X.K C m f) (F : FnOk X.prog X.w X.K X.mg X.base CT k f fd ps sp) (room : Room k X.A) (bd : KBn X.K fd ps (n + 1) ks g gV) (out : ∀ σ, PassesAt CT X σ (ex σ)) (ha : PA X (e :: es) t) (hk : PK X kws tk)
    (hks : (backToKw pos (keywordEach kws X.env)).filterMap (·.1) = ks := by rfl) (hall : (backToKw pos (keywordEach kws X.env)).all (·.1.isSome) = true := by rfl)
    (he : starEach (e :: es) X.env = (false, eval e X.env) :: starEach es X.env := by rfl) (hpl : ((backTo pos (starEach (e :: es) X.env)).any (·.1) || (backToKw pos (keywordEach kws X.env)).any (·.1.isNone)) = false := by rfl)
    (hev : eval (.Call (.Attribute o m apos) (e :: es) kws pos) X.env = (do
      let ov ← eval o X.env
      standAt apos.atName
      let (f, first) ← holding [ov] (getMethod ov m pl)
      callWith pos f first (backTo pos (starEach (e :: es) X.env)) (backToKw pos (keywordEach kws X.env))) := by rfl) :
    PE X (.Call (.Attribute o m apos) (e :: es) kws pos) (tMethS C m n ks.length sp gV ex te t tk) := by
  constructor
  intro pins s σ H Q I w
  refine PySem.W.methodCall_KW (pl := pl) (thn (ho.run pins s σ H _ I w) fun u s1 z => ?_) hev
  obtain ⟨y, H1, I1, ry, b, db, fs, ey, hb, lk, w1⟩ := z
  subst ey
  obtain rfl : u = Value.ref b := ry
  refine getmeth_ok I1 hb c hm lk ?_
  refine PySem.W.callWith_KW (first := [.ref b]) (h₀ := X.base) I.ok.mod.kin hm.kp hall (thn (ha.run pos pins s1 σ H1 _ I1 w1) fun us s2 z => ?_) hpl he
  obtain ⟨vs, H2, I2, r1, w2⟩ := z
  refine thn (hk.run pos pins s2 σ H2 _ I2 w2) fun ws s3 z => ?_
  obtain ⟨zs, H3, I3, r2, l1, l2, w3⟩ := z
  rw [hks]
  exact ⟨I3.kIn, run_kwS (n := n + 1) (us := .ref b :: us) (vs := .ref b :: vs) F room bd (out σ) I3 (.cons rfl r1) r2 (congrArg (· + 1) l1) l2 w3⟩
/-! ### a static method of a class -/
/-- C.m is a staticmethod: its record at p, its def at f -/
structure SMet (K : PySem.W.Frag) (C : Addr) (mc : Value) (m : Str) (p f : Addr) : Prop where
  at_ : PySem.W.findCls K (.ref C) mc m = some (.get (.builtin "staticmethod.__get__") (.ref p) .none (.ref C))
  rc : ∃ rest, PySem.W.recIn K p "staticmethod" = some (.ref f :: rest)
  kp : PySem.W.keepIn K (.ref f) = true
/-- a def by its promise on positional values, exceptions as ex σ wishes -/
theorem run_rS {pins : List (Addr × Obj)} {σ : L2.St} {H : Hp} {s : Shared} {Q : VK} {us : List Value} {vs : List V} (F : FnR X.prog X.w X.K X.mg X.base CT k f sp) (room : Room k X.A) (out : PassesAt CT X σ (ex σ)) (I : Inv X pins σ H s) (r : Vals vs us) (h : sp vs H Q (ex σ)) :
    wpAny (model X.prog X.w) X.A (call (.ref f) us) (EP X pins σ Q) X.xe s := by
  refine wpAny_call (codeAny_mono (F X.A X.stack s H us vs Q (ex σ) room I.env0 r h) fun res s2 done => ?_)
  match res, done with
  | .error ev, done => exact out pins H s ev s2 I done
  | .ok (.ret u), done => exact I.after done
  | .ok .next, done => exact done.elim
  | .ok .brk, done => exact done.elim
  | .ok .cont, done => exact done.elim
/-- C.m(e, ..) of a staticmethod -/
def tSMeth (C : Addr) (sp : Sp) (ex : L2.St → XK) (te : TE) (t : TA) : TE := fun σ H Q => te σ H fun y H1 => y = .ref C ∧ t σ H1 fun vs H2 => sp vs H2 Q (ex σ)
theorem pe_smeth {pl : Sem Bool} {mc : Value} {q : Addr} (ho : PE X o te) (rd : ClX.CRead X.K C mc) (c : SMet X.K C mc m q f) (F : FnR X.prog X.w X.K X.mg X.base CT k f sp) (room : Room k X.A) (out : ∀ σ, PassesAt CT X σ (ex σ)) (ha : PA X (e :: es) t)
    (he : starEach (e :: es) X.env = (false, eval e X.env) :: starEach es X.env := by rfl) (hpl : (backTo pos (starEach es X.env)).any (·.1) = false := by rfl)
    (hev : eval (.Call (.Attribute o m apos) (e :: es) [] pos) X.env = (do
      let ov ← eval o X.env
      standAt apos.atName
      let (f, first) ← holding [ov] (getMethod ov m pl)
      callWith pos f first (backTo pos (starEach (e :: es) X.env)) (backToKw pos (keywordEach [] X.env))) := by rfl) :
    PE X (.Call (.Attribute o m apos) (e :: es) [] pos) (tSMeth C sp ex te t) := by
  constructor
  intro pins s σ H Q I w
  refine PySem.W.methodCall_KW (pl := pl) (thn (ho.run pins s σ H _ I w) fun u s1 z => ?_) hev
  obtain ⟨y, H1, I1, ry, ey, w1⟩ := z
  subst ey
  obtain rfl : u = Value.ref C := ry
  obtain ⟨rest, rec⟩ := c.rc
  refine PySem.W.method_cls I1.kIn rd.ga (PySem.W.cls_bind I1.kIn rd.rd c.at_ ?_)
  refine wpAny_call (PySem.W.sm_get (s := { s1 with toks := s1.toks + 1 }) I1.kIn rec (PySem.W.handed_on rfl ?_))
  have I2 : Inv X pins σ H1 { s1 with toks := s1.toks + 1 } := I1.tok _
  refine PySem.W.callWith_K (first := []) (h₀ := X.base) I.ok.mod.kin c.kp (thn (ha.run pos pins _ σ H1 _ I2 w1) fun us s3 z => ?_) he hpl
  obtain ⟨vs, H3, I3, r3, w3⟩ := z
  exact ⟨I3.kIn, run_rS F room (out σ) I3 r3 w3⟩
end
end SE
/-! Exceptions of own classes as values, below any built-in class, made by position or by keyword. -/
namespace PySem
namespace XV
open PySem.W PySem.Calls PyProof.Rows PySem.HandSPX
open Builtin Builtin.ObjectAttr
/-- what lies behind an own class: the maker and the built-in classes -/
structure Tail (newId : String) (bm : List Value) : Prop where
  maker : ∃ B initId bmB, ExcBaseFacts B newId initId bmB ∧ bm.contains (.type B) = true
  nA : bm.contains (.type "AttributeError") = false
  nN : bm.contains (.type "NameError") = false
  ob : bm.contains (.type "object") = true
  ps : ∀ self : Value, refuseLoop self "__setattr__" bm = pure ()
section
variable {M : Model} {A : Around} {E : Value → Shared → Prop} {h : Heap} {g : Array GenState} {d : Drawn} {t : Nat} {os : OsState}
variable {nm q : Str} {C N : Addr} {bs bm bmB : List Value} {hdct : Bool} {sn : List Str} {sub : List Value} {ab : Bool} {col : Option Bool} {dd : Option Addr} {k0 k1 k2 k3 k5 : Option Value} {B newId initId : String}
theorem chk_new (F : ExcBaseFacts B newId initId bmB) (hB : bm.contains (.type B) = true) {rest : List Value} {kw : List (Str × Value)} {Q : Unit → Shared → Prop}
    (hC : h.get? C = some (excClassObj nm q C N bs bm hdct sn sub ab col dd k0 k1 k2 k3 k5 newId)) (hq : Q () ⟨h, g, d, t, os⟩) : wpAny M A (checkBuiltinCall newId ⟨.ref C :: rest, kw⟩) Q E ⟨h, g, d, t, os⟩ := by
  have hcont : (Value.ref C :: bm).contains (.type B) = true := by rw [List.contains_cons, hB, Bool.or_true]
  have hstar := F.noStar
  simp only [checkBuiltinCall, F.newKind, F.newSplit, F.newRow]
  repeat (first | refine wpAny_loadPart_at hC ?_ | (refine wpAny_isSubtype_exc hC ?_; rw [hcont]) | refine wpAny_staticBase_exc hC ?_ | refine wpAny_madeBy_exc hC ?_ | simp only [bne_self_eq_false, Bool.false_eq_true, if_false] | wp_step)
  exact hq
theorem typ_call (hC : h.get? C = some (excClassObj nm q C N bs bm hdct sn sub ab col dd k0 k1 k2 k3 k5 newId)) : W.Looks M h (isInstance (.ref C) (.type "type")) true := by
  have L : W.Looks M h (typeOf (.ref C)) (.type "type") := (W.Looks.ld hC).andThen .now
  exact L.andThen (W.Looks.of_pure tc_sub)
theorem chk_call {rest : List Value} {kw : List (Str × Value)} {Q : Unit → Shared → Prop} (hC : h.get? C = some (excClassObj nm q C N bs bm hdct sn sub ab col dd k0 k1 k2 k3 k5 newId))
    (hq : Q () ⟨h, g, d, t, os⟩) : wpAny M A (checkBuiltinCall "type.__call__" ⟨.ref C :: rest, kw⟩) Q E ⟨h, g, d, t, os⟩ :=
  @W.check_slot M _ _ ⟨h, g, d, t, os⟩ "type.__call__" "type" "__call__" (.ref C) rest kw _ tc_kind tc_split (typ_call hC) (tc_args _ _ _) hq
end
section
variable {prog : Program} {w : World} {A : Around} {E : Value → Shared → Prop} {R : Result → Shared → Prop} {h : Heap} {g : Array GenState} {d : Drawn} {t : Nat} {os : OsState}
variable {nm q : Str} {C N : Addr} {bs bm : List Value} {hdct : Bool} {sn : List Str} {sub : List Value} {ab : Bool} {col : Option Bool} {dd : Option Addr} {k0 k1 k2 k3 k5 : Option Value} {newId : String}
theorem new_ex (T : Tail newId bm) {rest : List Value} {kw : List (Str × Value)} (hC : h.get? C = some (excClassObj nm q C N bs bm hdct sn sub ab col dd k0 k1 k2 k3 k5 newId))
    (hq : R (.ok (.ret (.ref (h.objs.size + 1)))) ⟨(h.push (W.kdv_tup rest)).push (excO C h.objs.size), g, d, t, os⟩) (hrest : rest.length ≤ sizeLine) :
    codeAny (model prog w) A (.builtin newId ⟨.ref C :: rest, kw⟩) R ⟨h, g, d, t, os⟩ := by
  obtain ⟨B, initId, bmB, F, hB⟩ := T.maker
  have hends := F.ends
  have hcB : (Value.ref C :: bm).contains (.type B) = true := by rw [List.contains_cons, hB, Bool.or_true]
  have hcA : (Value.ref C :: bm).contains (.type "AttributeError") = false := by rw [List.contains_cons, T.nA]; rfl
  have hcN : (Value.ref C :: bm).contains (.type "NameError") = false := by rw [List.contains_cons, T.nN]; rfl
  refine codeAny_builtinAt F.entry ?_
  unfold Builtin.«BaseException.__new__»
  refine wpAt_bind ?_
  show wpAt _ _ _ (stack >>= _) _ _ _
  refine wpAt_bind (wpAt_stack fun p below => wpAt_of_wpAny ?_)
  wp_walk
  refine wpAt_of_wpAny ?_
  rw [F.owner]
  repeat (first | with_reducible refine wpAny_madeHere_exc F.canon hC ?_ | with_reducible refine wpAny_loadPart_at hC ?_ | (with_reducible refine wpAny_isSubtype_exc hC ?_; first | rw [hcB] | rw [hcA] | rw [hcN]) | wp_step)
  show R _ _
  rw [Heap.size_push]
  exact hq
theorem tcall (T : Tail newId bm) {rest : List Value} {kw : List (Str × Value)} {fI : Addr} {Q : Fin → Shared → Prop} (hC : h.get? C = some (excClassObj nm q C N bs bm hdct sn sub ab col dd k0 k1 k2 k3 k5 newId))
    (hi : W.Looks (model prog w) h (typeLookup (.ref C) "__init__") (some (.ref fI))) (hb : ∀ self, W.Looks (model prog w) h (bindSpecial (.ref fI) self) (.ref fI, [self])) (hrest : rest.length ≤ sizeLine)
    (hq : codeAny (model prog w) A (.call (.ref fI) ⟨.ref (h.objs.size + 1) :: rest, kw⟩)
      (fun r s' => match r with | .ok (.ret v) => v = .none ∧ Q (.done (.ret (.ref (h.objs.size + 1)))) s' | .ok _ => False | .error e => E e s')
      ⟨(h.push (W.kdv_tup rest)).push (excO C h.objs.size), g, d, t, os⟩) :
    wpAny (model prog w) A (Builtin.«type.__call__» ⟨.ref C :: rest, kw⟩) Q E ⟨h, g, d, t, os⟩ := by
  obtain ⟨B, initId, bmB, F, hB⟩ := T.maker
  repeat (first | with_reducible refine wpAny_loadPart_at hC ?_ | with_reducible refine wpAny_madeBy_exc hC ?_ | wp_step)
  refine codeAny_call_builtin_code (Code.quiet_builtin _ F.quiet) (chk_new F hB hC ?_)
  refine new_ex T hC ?_ hrest
  show wpAny _ _ _ _ _ _
  have k : ∀ b o, h.get? b = some o → ((h.push (W.kdv_tup rest)).push (excO C h.objs.size)).get? b = some o := fun b o e => Heap.get?_push_of_some _ (Heap.get?_push_of_some _ e)
  have hC₁ := k _ _ hC
  have hget : ((h.push (W.kdv_tup rest)).push (excO C h.objs.size)).get? (h.objs.size + 1) = some (excO C h.objs.size) := by heap_get
  have hcC : (Value.ref C :: bm).contains (.ref C) = true := by simp
  have i1 := hi.keeps k
  have b1 := (hb (.ref (h.objs.size + 1))).keeps k
  unfold isInstance
  repeat (first | with_reducible refine wpAny_loadPart_at hget ?_ | (with_reducible refine wpAny_isSubtype_exc hC₁ ?_; rw [hcC]) | wp_step)
  show wpAny _ _ (typeLookup (.ref C) _) _ _ _
  refine i1.at ?_
  refine wpAny_holding (wpAny_bind (b1.at ?_))
  refine wpAny_bind (wpAny_call (codeAny_mono hq fun r s' z => ?_))
  rcases r with e | (v | _ | _ | _) <;> first | exact z | exact z.elim | skip
  obtain ⟨rfl, z⟩ := z
  first
    | exact wpAny_pure (wpAny_pure z)
    | (wp_walk; exact z)
theorem call_ex (T : Tail newId bm) {rest : List Value} {kw : List (Str × Value)} {fI : Addr} (hC : h.get? C = some (excClassObj nm q C N bs bm hdct sn sub ab col dd k0 k1 k2 k3 k5 newId))
    (hi : W.Looks (model prog w) h (typeLookup (.ref C) "__init__") (some (.ref fI))) (hb : ∀ self, W.Looks (model prog w) h (bindSpecial (.ref fI) self) (.ref fI, [self])) (hrest : rest.length ≤ sizeLine)
    (hq : codeAny (model prog w) (A.under (.builtin "type.__call__" ⟨.ref C :: rest, kw⟩)) (.call (.ref fI) ⟨.ref (h.objs.size + 1) :: rest, kw⟩) (W.InitBack (h.objs.size + 1) R)
      ⟨(h.push (W.kdv_tup rest)).push (excO C h.objs.size), g, d, t, os⟩) :
    codeAny (model prog w) A (.call (.ref C) ⟨rest, kw⟩) R ⟨h, g, d, t, os⟩ := by
  have f1 := tc_lookup
  have f2 := tc_bind (.ref C)
  have hTy : (⟨h, g, d, t, os⟩ : Shared).TypeIs (.ref C) "type" := ⟨_, hC, rfl⟩
  refine codeAny_of_tree ?_
  show wpAny _ _ (callAny (.ref C) _) _ _ _
  repeat (any_goals (first | assumption | with_reducible refine wpAny_loadPart_at hC ?_ | wp_step))
  refine ⟨rfl, ?_⟩
  refine codeAny_call_builtin_at (Code.quiet_builtin _ (by decide +kernel)) entry_typeCall (chk_call hC (tcall T hC hi hb hrest ?_))
  refine codeAny_mono hq fun r s' z => ?_
  rcases r with e | (v | _ | _ | _) <;> exact z
/-- self.name = v, the first one -/
theorem put_ex {K : W.Frag} {name : Str} {tk : Tok} {v : Value} {x C : Addr} {fv : Array Value} {cd : ClassData}
    (X : K.In h) (hx : h.get? x = some { cls := .ref C, data := .fields fv }) (hcd : W.clsIn K C = some cd) (ne : cd.mro.isEmpty = false) (hob : cd.mro.contains (.type "object") = true) (pass : ∀ self : Value, refuseLoop self "__setattr__" cd.mro = pure ()) (hh : cd.hasDict = true) (ha : W.findIn K (.ref C) name = some none)
    (hq : ∀ h' tk' dx, (∀ b o, b ≠ x → h.get? b = some o → h'.get? b = some o) → h.objs.size ≤ dx → dx ≠ x → h'.get? x = some { cls := .ref C, dict := some dx, data := .fields fv } →
      h'.Ns1 dx (fun y => if y = name then some v else none) → R (.ok (.ret .none)) ⟨h', g, d, tk', os⟩) :
    codeAny (model prog w) A (.call (.builtin "object.__setattr__") ⟨[.ref x, .str name tk, v], []⟩) R ⟨h, g, d, t, os⟩ := by
  have I : W.InstAt h x { cls := .ref C, data := .fields fv } C none := ⟨hx, rfl, rfl, trivial⟩
  have SF := F.store_object
  have hxs : x ≠ h.objs.size := Nat.ne_of_lt (Heap.lt_size hx)
  have sub : W.Looks (model prog w) h (isInstance (.ref x) (.type "object")) true := I.type.andThen (W.looks_mroIn X (by unfold W.mroIn; rw [hcd, Option.bind_some, if_neg (by rw [ne]; decide), hob]))
  refine codeAny_call_builtin SF.slot.plain SF.entry (@W.check_slot (model prog w) _ _ ⟨h, g, d, t, os⟩ "object.__setattr__" "object" "__setattr__" (.ref x) [.str name tk, v] [] _ SF.kind SF.split sub (SF.args (.ref x) (.str name tk) v) ?_)
  have hmr : W.Looks (model prog w) h (mroOf (.ref C)) cd.mro := (W.looks_clsIn X hcd).andThen .now
  have L3 : W.Looks (model prog w) h (storeTaker? none) none := .now
  have hcls : W.Looks (model prog w) h (classData C) cd := W.looks_clsIn X hcd
  rw [W.osa_eq, refuse_eq]
  refine wpAny_bind (wpAny_bind (I.type.at (wpAny_bind (hmr.at ?_))))
  rw [pass]
  refine wpAny_pure (wpAny_bind (I.type.at (wpAny_bind ((W.looks_findIn X ha).at (wpAny_bind (L3.at ?_))))))
  show wpAny _ _ (storeInOwnDict (.ref x) (.ref C) (.str name tk) name v false) _ _ _
  obtain ⟨nm, bs, mro, ns, qn, hd, sn, sb, ab, col, del⟩ := cd
  dsimp only at hh
  subst hh
  unfold storeInOwnDict ownDictForStores
  repeat (first | with_reducible refine store_in_new ?_ ?_ | with_reducible refine wpAny_loadPart_at hx ?_ | with_reducible refine hcls.at ?_ | wp_step)
  · exact ⟨_, #[], _, (Heap.get?_update_ne _ _ _ _ hxs.symm).trans (Heap.get?_push_at rfl rfl), rfl, fun e he => absurd he (by simp), fun _ => rfl⟩
  · intro h' tk' hn' hs
    have hx₁ : (h.push { cls := .type "dict", data := .dict #[] }).get? x = some { cls := .ref C, data := .fields fv } := Heap.get?_push_of_some _ hx
    refine hq h' tk' h.objs.size (fun b o hb ho => ?_) (Nat.le_refl _) hxs.symm ?_ hn'
    · exact (hs.2 b (Nat.ne_of_lt (Heap.lt_size ho))).trans ((Heap.get?_update_ne _ _ _ _ hb).trans (Heap.get?_push_of_some _ ho))
    · exact (hs.2 x hxs).trans (Heap.get?_update_self _ hx₁ rfl)
end
end XV
end PySem

namespace SE
open PySem PySem.Spec PyProof.Rows L2
/-- what the written part says of a class of exceptions -/
structure OexV (K : PySem.W.Frag) (C : Addr) : Prop where
  cls : ∃ nm q N bs bm sn sub ab col dd k0 k1 k2 k3 k5 newId, K.lookup C = some (excClassObj nm q C N bs bm true sn sub ab col dd k0 k1 k2 k3 k5 newId) ∧ XV.Tail newId bm
  sa : PySem.W.findIn K (.ref C) "__setattr__" = some (some (.builtin "object.__setattr__"))
  kC : PySem.W.keepIn K (.ref C) = true
theorem tail_VE {bm : List Value} (h : PySem.HandSPX.refsVE bm = true) : XV.Tail "ValueError.__new__" bm :=
  ⟨⟨_, _, _, F.excBase_ValueError, by rw [PySem.HandSPX.refsVE_contains _ _ h]; decide +kernel⟩, by rw [PySem.HandSPX.refsVE_contains _ _ h]; decide +kernel, by rw [PySem.HandSPX.refsVE_contains _ _ h]; decide +kernel,
    by rw [PySem.HandSPX.refsVE_contains _ _ h]; decide +kernel, fun self => PySem.HandSPX.refsVE_pass self _ h⟩
theorem tail_LE : XV.Tail "LookupError.__new__" [.type "LookupError", .type "Exception", .type "BaseException", .type "object"] := ⟨⟨_, _, _, F.excBase_LookupError, by decide +kernel⟩, by decide +kernel, by decide +kernel, by decide +kernel, fun self => F.store_LookupError.passes self⟩
theorem tail_RE : XV.Tail "RuntimeError.__new__" [.type "RuntimeError", .type "Exception", .type "BaseException", .type "object"] := ⟨⟨_, _, _, F.excBase_RuntimeError, by decide +kernel⟩, by decide +kernel, by decide +kernel, by decide +kernel, fun self => F.store_RuntimeError.passes self⟩
theorem tail_OE : XV.Tail "OverflowError.__new__" [.type "OverflowError", .type "ArithmeticError", .type "Exception", .type "BaseException", .type "object"] := ⟨⟨_, _, _, F.excBase_OverflowError, by decide +kernel⟩, by decide +kernel, by decide +kernel, by decide +kernel, fun self => F.store_OverflowError.passes self⟩
theorem tail_KE : XV.Tail "LookupError.__new__" [.type "KeyError", .type "LookupError", .type "Exception", .type "BaseException", .type "object"] := ⟨⟨_, _, _, F.excBase_LookupError, by decide +kernel⟩, by decide +kernel, by decide +kernel, by decide +kernel, fun self => by kernel_rfl⟩
section
variable {X : Cx} {pins : List (Addr × Obj)} {σ : L2.St} {H : Hp} {s : Shared} {a C dx : Addr} {f : Str} {y : V} {u : Value} {fs : List (Str × V)} {Q : Unit → Shared → Prop} {E : Value → Shared → Prop} {A : Around}
theorem ost_newV (T : OexV X.K C) (I : Inv X pins σ H s) (e : H a = some (exo a C none)) (hno : PySem.W.findIn X.K (.ref C) f = some none) (ry : RelV y u)
    (h : ∀ dx s', H dx = none → dx ≠ a → Inv X pins σ (upd (upd H dx (exd dx [(f, y)])) a (exo a C (some dx))) s' → Q () s') : wpAny (model X.prog X.w) A (setAttr (.ref a) f u) Q E s := by
  obtain ⟨nm, q, N, bs, bm, sn, sub, ab, col, dd, k0, k1, k2, k3, k5, newId, hC, hT⟩ := T.cls
  have hcl : PySem.W.clsIn X.K C = some { name := nm, bases := bs, mro := .ref C :: bm, ns := N, qualname := q, hasDict := true, slotNames := sn, subclasses := sub, abstract := ab, collection := col, hasDel := false } := by unfold PySem.W.clsIn; rw [hC] <;> rfl
  obtain ⟨t1, ho⟩ := exo_at I.hok e
  obtain ⟨hp, g, d, t, os⟩ := s
  refine PySem.W.set_plain I.kIn (ox := { cls := .ref C, dict := none, data := .fields #[.ref t1, .none, .none, .none, .bool false, .none] }) (od := none) ⟨ho, rfl, rfl, trivial⟩ T.sa ?_
  refine PySem.XV.put_ex I.kIn ho hcl rfl (by show List.contains (Value.ref C :: bm) _ = true; rw [List.contains_cons, hT.ob, Bool.or_true]) (fun self => by rw [refuseLoop_ref]; exact hT.ps self) rfl hno (fun h' tk' dx k dn dne hx hn => ?_)
  have hnd : H dx = none := I.hok.fresh dn
  have nd : ∀ {b : Addr} {o : Obj}, hp.get? b = some o → b ≠ dx := fun {b o} q => Nat.ne_of_lt (Nat.lt_of_lt_of_le (Heap.lt_size q) dn)
  have na : ∀ {b : Addr}, H b = none → b ≠ a := fun {b} n z => by
    rw [z, e] at n
    cases n
  have Un1 : Un X.fs [] H (upd (upd H dx (exd dx [(f, y)])) a (exo a C (some dx))) hp h' := {
    keep := fun b o q n _ _ => k b o (na n) q
    slot := fun b o q n _ _ => ⟨o.slots, k b o (na n) q⟩
    free := fun b o q n _ => by rw [upd_ne (na n), upd_ne (nd q)]; exact n
    there := fun b o q _ => by
      by_cases hb : b = a
      · exact ⟨_, by rw [hb]; exact hx⟩
      · exact ⟨o, k b o hb q⟩
    tups := fun b xs q => by rw [upd_ne (at_ne e q exo_tup), upd_ne (ne_of_none q hnd)]; exact q
    frzs := fun b o v q => by rw [upd_ne (at_ne e q exo_frz), upd_ne (ne_of_none q hnd)]; exact q
    tbls := fun b ps q => ⟨#[], by rw [upd_ne (at_ne e q exo_tbl), upd_ne (ne_of_none q hnd), q]; simp⟩ }
  refine h dx _ hnd dne (I.un (t' := tk') Un1 fun b o q => ?_)
  by_cases hb : b = a
  · subst hb
    rw [upd_same] at q
    cases q
    exact exo_ok hx
  · rw [upd_ne hb] at q
    by_cases hd : b = dx
    · subst hd
      rw [upd_same] at q
      cases q
      exact exd_ok hn (relO_put (fs := []) ry fun g => True.intro)
    · rw [upd_ne hd] at q
      exact (I.hok b o q).stay (fun c v hc z => k c v (by
          rcases hc with hc | hc
          · rw [hc]
            exact hb
          · exact at_ne e hc exo_own) z)
        (fun c hc => by rw [upd_ne (at_ne e hc exo_own), upd_ne (ne_of_none hc hnd)]; exact hc) (fun c xs hc => by rw [upd_ne (at_ne e hc exo_tup), upd_ne (ne_of_none hc hnd)]; exact hc)
def tOstV (K : PySem.W.Frag) (f : Str) (to te : TE) : TS := fun D σ H => te σ H fun y H1 => to σ H1 fun x H2 => ∃ a C : Addr, x = .ref a ∧ OexV K C ∧ PySem.W.findIn K (.ref C) f = some none ∧
  H2 a = some (exo a C none) ∧ ∀ dx, H2 dx = none → dx ≠ a → D.nx σ (upd (upd H2 dx (exd dx [(f, y)])) a (exo a C (some dx)))
theorem ps_ostV {o e : Expr} {to te : TE} {p' pos : Pos} (ho : PE X o to) (he : PE X e te) (hs : swapsWith e (some (.Attribute o f p')) pos.line X.env = pure false := by rfl) : PS X (.Assign [.Attribute o f p'] e pos) (tOstV X.K f to te) := by
  refine ⟨fun pins s σ H D I h => ?_⟩
  refine plainObj_wpAny_Assign_Attribute (thn (he.run pins s σ H _ I h) fun v s1 ⟨y, H1, I1, r1, q1⟩ => thn (ho.run pins s1 σ H1 _ I1 q1) fun u s2 ⟨x, H2, I2, r2, a, C, ex, T, hno, ea, q⟩ => ?_) hs
  subst ex
  obtain rfl : u = Value.ref a := r2
  exact ost_newV T I2 ea hno r1 fun dx s' n ne J => ⟨σ, _, J, q dx n ne⟩
end
theorem init_okV {P : Program} {w : World} {K : PySem.W.Frag} {mg : Str → Option Value} {base : Heap} {q f : Str} {C : Addr} {st : Stmt} {fI : Addr} {fd : FuncData} {p1 p2 p3 p4 : Pos} (F : Fun K "__init__" q st fI fd) (S : FnScope ["self", f] ["self", f] (defScope st)) (T : OexV K C) (noF : PySem.W.findIn K (.ref C) f = some none)
    (hb : defBody st = [.Assign [.Attribute (.Name "self" p1) f p2] (.Name f p3) p4])
    (v0 : Vis (defScope st) "self") (v1 : Vis (defScope st) f) (hdb : (f == ("__debug__" : Str)) = false) (hcd : (f == ("__classdict__" : Str)) = false) : FnOk P w K mg base CX0 1 fI fd ["self", f] (spXI K C f) := by
  refine F.ok S (fun xs H Q E h => ?_) (fun cv A out s H xs Q E hr h => ?_)
  · obtain ⟨a, v, rfl, _⟩ := h
    rfl
  · obtain ⟨a, v, rfl, ha, k⟩ := h
    rw [hb]
    refine ⟨_, pss_one (ps_ostV (pe_var (i := 0) rfl v0) (pe_var (i := 1) rfl v1 (hd := hdb) (hcd := hcd))), ?_⟩
    exact ⟨_, rfl, _, rfl, a, C, rfl, T, noF, ha, fun dx nd ne => k dx nd ne⟩
/-- the class x at C stands under its name; its __init__ (q) sets f; bm: what its mro holds behind it -/
structure XvC (P : Program) (w : World) (K : PySem.W.Frag) (mg : Str → Option Value) (base : Heap) (x q f : Str) (C : Addr) (bm : List Value) : Prop where
  oex : OexV K C
  gC : mg x = some (.ref C)
  init : ∃ (fI : Addr) (fd : FuncData) (st : Stmt), PySem.W.findIn K (.ref C) "__init__" = some (some (.ref fI)) ∧ PySem.W.typeIn K (.ref fI) = some (.type "function") ∧ FnOk P w K mg base CX0 1 fI fd ["self", f] (spXI K C f) ∧ (∃ g, KBn K fd ["self", f] 2 [] g (fun vs _ => vs)) ∧ (∃ g, KBn K fd ["self", f] 1 [f] g (fun vs zs => vs ++ zs)) ∧ Fun K "__init__" q st fI fd
  xf : XfC K C
  noF : PySem.W.findIn K (.ref C) f = some none
  ha : PySem.W.findIn K (.ref C) "__class__" = some (some (.builtin "object.__class__"))
  mr : ∃ cd, PySem.W.clsIn K C = some cd ∧ cd.mro = .ref C :: bm
  tC : PySem.W.typeIn K (.ref C) = some (.type "type")
theorem sub_mr {K : PySem.W.Frag} {C : Addr} {bm : List Value} (h : ∃ cd, PySem.W.clsIn K C = some cd ∧ cd.mro = .ref C :: bm) (b : Value) : PySem.W.subIn K (.ref C) b = some ((Value.ref C :: bm).contains b) := by
  obtain ⟨cd, h1, h2⟩ := h
  show PySem.W.mroIn K C b = _
  unfold PySem.W.mroIn
  rw [h1, Option.bind_some, h2]
  rfl
theorem xv_mk {P : Program} {w : World} {K : PySem.W.Frag} {mg : Str → Option Value} {base : Heap} {x q f : Str} {C : Addr} {st : Stmt} {fI : Addr} {fd : FuncData} {p1 p2 p3 p4 : Pos} {nm qn : Str} {N : Addr} {bs bm : List Value} {sn : List Str} {sub : List Value} {ab : Bool} {col : Option Bool} {dd : Option Addr} {k0 k1 k2 k3 k5 : Option Value} {newId : String}
    (gC : mg x = some (.ref C)) (xl : K.lookup C = some (excClassObj nm qn C N bs bm true sn sub ab col dd k0 k1 k2 k3 k5 newId)) (T : XV.Tail newId bm) (hB : bm.contains (.type "BaseException") = true)
    (sa : PySem.W.findIn K (.ref C) "__setattr__" = some (some (.builtin "object.__setattr__"))) (ga : PySem.W.findIn K (.ref C) "__getattribute__" = some (some (.builtin "BaseException.__getattribute__"))) (gg : PySem.W.findIn K (.ref C) "__getattr__" = some none)
    (nf : PySem.W.findIn K (.ref C) f = some none) (ii : PySem.W.findIn K (.ref C) "__init__" = some (some (.ref fI))) (ti : PySem.W.typeIn K (.ref fI) = some (.type "function")) (kC : PySem.W.keepIn K (.ref C) = true) (cc : PySem.W.findIn K (.ref C) "__class__" = some (some (.builtin "object.__class__")))
    (F : Fun K "__init__" q st fI fd) (S : FnScope ["self", f] ["self", f] (defScope st)) (hb : defBody st = [.Assign [.Attribute (.Name "self" p1) f p2] (.Name f p3) p4])
    (v0 : Vis (defScope st) "self") (v1 : Vis (defScope st) f) (hdb : (f == ("__debug__" : Str)) = false) (hcd : (f == ("__classdict__" : Str)) = false)
    (b1 : ∀ (kV doc pm : Value) (an : Option Addr) (cv ct : Value) (us ws : List Value), us.length = 2 → ws.length = ([] : List Str).length → bindArgs (PySem.W.fnOf "__init__" q (defArgs st) (defBody st) (defScope st) .none kV doc pm an cv ct) ⟨us, ([] : List Str).zip ws⟩ = pure (([("self" : Str), f] : List Str).zip us))
    (b2 : ∀ (kV doc pm : Value) (an : Option Addr) (cv ct : Value) (us ws : List Value), us.length = 1 → ws.length = [f].length → bindArgs (PySem.W.fnOf "__init__" q (defArgs st) (defBody st) (defScope st) .none kV doc pm an cv ct) ⟨us, [f].zip ws⟩ = pure (([("self" : Str), f] : List Str).zip (us ++ ws))) :
    XvC P w K mg base x q f C bm := by
  have hcl : PySem.W.clsIn K C = some { name := nm, bases := bs, mro := .ref C :: bm, ns := N, qualname := qn, hasDict := true, slotNames := sn, subclasses := sub, abstract := ab, collection := col, hasDel := false } := by unfold PySem.W.clsIn; rw [xl] <;> rfl
  have mr : ∃ cd, PySem.W.clsIn K C = some cd ∧ cd.mro = .ref C :: bm := ⟨_, hcl, rfl⟩
  have oe : OexV K C := ⟨⟨_, _, _, _, _, _, _, _, _, _, _, _, _, _, _, _, xl, T⟩, sa, kC⟩
  have hd : PySem.W.hasDictIn K C = true := by
    unfold PySem.W.hasDictIn
    rw [hcl]
    rfl
  refine ⟨oe, gC, ⟨fI, fd, st, ii, ti, init_okV F S oe nf hb v0 v1 hdb hcd, ⟨_, kb_all F 2 [] (fun us _ => us) (fun r _ => r) b1⟩, ⟨_, kb_all F 1 [f] (fun us ws => us ++ ws) (fun r z => r.append z) b2⟩, F⟩,
    ⟨ga, gg, ?_, hd⟩, nf, cc, mr, ?_⟩
  · rw [sub_mr mr, List.contains_cons, hB, Bool.or_true]
  · show (K.lookup C).map (·.cls) = _
    rw [xl]
    rfl
theorem XvC.ne {P : Program} {w : World} {K : PySem.W.Frag} {mg : Str → Option Value} {base : Heap} {x x2 q q2 f f2 : Str} {C C2 : Addr} {bm bm2 : List Value} (h : XvC P w K mg base x q f C bm) (h2 : XvC P w K mg base x2 q2 f2 C2 bm2) (hq : q ≠ q2) : C ≠ C2 := fun e => by
  subst e
  obtain ⟨fI, fd, st, i1, _, _, _, _, F⟩ := h.init
  obtain ⟨fI2, fd2, st2, i2, _, _, _, _, F2⟩ := h2.init
  rw [i1] at i2
  cases i2
  obtain ⟨_, _, _, _, _, _, _, _, _, _, l1, _⟩ := F.ex
  obtain ⟨_, _, _, _, _, _, _, _, _, _, l2, _⟩ := F2.ex
  obtain ⟨oc, od, kV, doc, pm, an, cv, ct, osl, e1, l1, _⟩ := F.ex
  obtain ⟨oc2, od2, kV2, doc2, pm2, an2, cv2, ct2, osl2, e2, l2, _⟩ := F2.ex
  rw [l1] at l2
  cases e1
  cases e2
  have := Option.some.inj l2
  injection this with _ _ z _
  injection z with z
  injection z with _ z
  exact hq z
/-- an exception of the class at C whose field f is v -/
def ExH (H : Hp) (C : Addr) (f : Str) (v : V) (a : Addr) : Prop := ∃ d, H a = some (exo a C (some d)) ∧ H d = some (exd d [(f, v)])
theorem ExH.same {H H' : Hp} {C : Addr} {f : Str} {v : V} {a : Addr} (s : Same H H') (h : ExH H C f v a) : ExH H' C f v a := by
  obtain ⟨d, h1, h2⟩ := h
  exact ⟨d, s _ _ h1, s _ _ h2⟩
section
variable {X : Cx} {pins : List (Addr × Obj)} {σ : L2.St} {H : Hp} {s : Shared} {C fI : Addr} {fd : FuncData} {f x : Str} {g : List Value → List Value → List Value} {gV : List V → List V → List V} {Q : VK} {n : Nat} {ks : List Str}
theorem run_mkV {us ws : List Value} {vs zs : List V} (T : OexV X.K C) (iC : PySem.W.findIn X.K (.ref C) "__init__" = some (some (.ref fI))) (tI : PySem.W.typeIn X.K (.ref fI) = some (.type "function"))
    (F : FnOk X.prog X.w X.K X.mg X.base CX0 1 fI fd ["self", f] (spXI X.K C f)) (room : Room 2 X.A) (bd : KBn X.K fd ["self", f] (n + 1) ks g gV) (I : Inv X pins σ H s) (r1 : Vals vs us) (r2 : Vals zs ws) (l1 : vs.length = n) (l2 : zs.length = ks.length) (hz : n ≤ 1000)
    (h : ∀ a, H a = none → spXI X.K C f (gV (.ref a :: vs) zs) (upd H a (exo a C none)) (fun v H2 => v = .non ∧ Q (.ref a) H2) E0) :
    wpAny (model X.prog X.w) X.A (call (.ref C) us (ks.zip ws)) (EP X pins σ Q) X.xe s := by
  obtain ⟨nm, q, N, bs, bm, sn, sub, ab, col, dd, k0, k1, k2, k3, k5, newId, hC, hT⟩ := T.cls
  obtain ⟨hp, gg, dr, tk, os⟩ := s
  have hsz : hp.objs.size ≤ hp.objs.size + 1 := Nat.le_succ _
  have hn : H (hp.objs.size + 1) = none := I.hok.fresh hsz
  have hq := h (hp.objs.size + 1) hn
  have kk : ∀ b o, hp.get? b = some o → ((hp.push (PySem.W.kdv_tup us)).push (PySem.HandSPX.excO C hp.objs.size)).get? b = some o := fun b o e => Heap.get?_push_of_some _ (Heap.get?_push_of_some _ e)
  have hget : ((hp.push (PySem.W.kdv_tup us)).push (PySem.HandSPX.excO C hp.objs.size)).get? (hp.objs.size + 1) = some (PySem.HandSPX.excO C hp.objs.size) := by heap_get
  have made : Inv X pins σ (upd H (hp.objs.size + 1) (exo (hp.objs.size + 1) C none)) ⟨(hp.push (PySem.W.kdv_tup us)).push (PySem.HandSPX.excO C hp.objs.size), gg, dr, tk, os⟩ :=
    I.laid (t' := tk) (a := hp.objs.size + 1) (o := exo (hp.objs.size + 1) C none) (h' := (hp.push (PySem.W.kdv_tup us)).push (PySem.HandSPX.excO C hp.objs.size)) kk hsz (exo_ok hget)
  have rs : Vals (V.ref (hp.objs.size + 1) :: vs) (Value.ref (hp.objs.size + 1) :: us) := .cons rfl r1
  have len : (Value.ref (hp.objs.size + 1) :: us).length = n + 1 := congrArg (· + 1) (r1.length.symm.trans l1)
  have to := bd.to _ (Value.ref (hp.objs.size + 1) :: us) ws made.kIn len (r2.length.symm.trans l2)
  have run := F.run _ X.stack _ _ ⟨Value.ref (hp.objs.size + 1) :: us, ks.zip ws⟩ (g (Value.ref (hp.objs.size + 1) :: us) ws) _ _ E0 (room.make C us (ks.zip ws)) (made.env0.make C us (ks.zip ws)) to (bd.rel rs r2) hq
  have hus : us.length ≤ sizeLine := by
    rw [← r1.length, l1, sizeLine_eq]
    omega
  refine wpAny_call (PySem.XV.call_ex hT (I.kIn _ _ hC) (PySem.W.looks_findIn I.kIn iC) (fun self => PySem.W.bind_fn I.kIn self tI) hus (codeAny_mono run fun res s2 done => ?_))
  match res, done with
  | .error ev, done => exact done.elim
  | .ok (.ret u), done =>
    obtain ⟨v, H2, I2, rel, ev, q⟩ := made.after done
    subst ev
    exact ⟨rel, V.ref (hp.objs.size + 1), H2, I2, rfl, q⟩
  | .ok .next, done => exact done.elim
  | .ok .brk, done => exact done.elim
  | .ok .cont, done => exact done.elim
/-- C(e), C(f = e): a new exception -/
def tMkV (C : Addr) (f : Str) (ta : TA) : TE := fun σ H Q => ta σ H fun vs H1 => ∃ v, vs = [v] ∧ ∀ a H2, H1 a = none → Same H1 H2 → ExH H2 C f v a → Q (.ref a) H2
theorem mk_sp {H1 : Hp} {a : Addr} {v : V} {Q : VK} (na : H1 a = none) (h : ∀ a H2, H1 a = none → Same H1 H2 → ExH H2 C f v a → Q (.ref a) H2) :
    spXI X.K C f [.ref a, v] (upd H1 a (exo a C none)) (fun v H2 => v = .non ∧ Q (.ref a) H2) E0 := by
  refine ⟨a, v, rfl, upd_same, fun dx nd ne => ⟨rfl, h a _ na (fun b o z => ?_) ⟨dx, upd_same, ?_⟩⟩⟩
  · rw [upd_ne ne] at nd
    have e1 : b ≠ a := fun e => by rw [e, na] at z; cases z
    have e2 : b ≠ dx := fun e => by rw [e, nd] at z; cases z
    rw [upd_ne e1, upd_ne e2, upd_ne e1]
    exact z
  · rw [upd_ne ne]
    exact upd_same
theorem pe_mkV1 {q0 : Str} {bm : List Value} {e : Expr} {ta : TA} {p pos : Pos} (T : XvC X.prog X.w X.K X.mg X.base x q0 f C bm) (room : Room 2 X.A) (ha : PA X [e] ta) (hg : Gl X x := by rfl)
    (hdb : (x == ("__debug__" : Str)) = false := by decide) (he : starEach (e :: []) X.env = (false, eval e X.env) :: starEach [] X.env := by rfl) (hpl : (backTo pos (starEach [] X.env)).any (·.1) = false := by rfl) :
    PE X (.Call (.Name x p) [e] [] pos) (tMkV C f ta) := by
  refine ⟨fun pins s σ H Q I w => ?_⟩
  obtain ⟨fI, fd, _, iC, tI, F, ⟨g, b1⟩, _⟩ := T.init
  refine wpAny_Call_Name_kw (ld_glob I hg T.gC ?_ hdb)
  refine PySem.W.callWith_K (h₀ := X.base) I.ok.mod.kin T.oex.kC (thn (ha.run pos pins s σ H _ I w) fun us s1 z => ?_) he hpl
  obtain ⟨vs, H1, I1, r1, v, ev, q⟩ := z
  subst ev
  exact ⟨I1.kIn, run_mkV (n := 1) (ks := []) (ws := []) (zs := []) T.oex iC tI F room b1 I1 r1 .nil rfl rfl (by omega) fun a na => mk_sp na q⟩
theorem pe_mkV2 {q0 : Str} {bm : List Value} {kws : List Keyword} {tk : TA} {p pos : Pos} (T : XvC X.prog X.w X.K X.mg X.base x q0 f C bm) (room : Room 2 X.A) (hkw : PK X kws tk) (hg : Gl X x := by rfl)
    (hks : (backToKw pos (keywordEach kws X.env)).filterMap (·.1) = [f] := by rfl) (hall : (backToKw pos (keywordEach kws X.env)).all (·.1.isSome) = true := by rfl)
    (hdb : (x == ("__debug__" : Str)) = false := by decide) (hpl : ((backTo pos (starEach [] X.env)).any (·.1) || (backToKw pos (keywordEach kws X.env)).any (·.1.isNone)) = false := by rfl) :
    PE X (.Call (.Name x p) [] kws pos) (tMkV C f tk) := by
  refine ⟨fun pins s σ H Q I w => ?_⟩
  obtain ⟨fI, fd, _, iC, tI, F, _, ⟨g, b2⟩, _⟩ := T.init
  apply wpAny_Call_Name_kw
  apply ld_glob I hg T.gC _ hdb
  refine PySem.W.callWith_KW0 (h₀ := X.base) I.ok.mod.kin T.oex.kC hall (thn (hkw.run pos pins s σ H _ I w) fun ws s2 hh => ?_) hpl
  obtain ⟨zs, H2, I2, rz, v, ev, q⟩ := hh
  subst ev
  refine ⟨I2.kIn, ?_⟩
  rw [hks]
  exact run_mkV (n := 0) (ks := [f]) (us := []) (vs := []) T.oex iC tI F room b2 I2 .nil rz rfl rfl (by omega) fun a na => mk_sp na q
/-- e.f -/
def tFldV (K : PySem.W.Frag) (n : Str) (te : TE) : TE := fun σ H Q => te σ H fun x H1 => ∃ a C v, x = .ref a ∧ XfC K C ∧ PySem.W.findIn K (.ref C) n = some none ∧ ExH H1 C n v a ∧ Q v H1
theorem inst_of {a C d : Addr} {n : Str} {v : V} (I : Inv X pins σ H s) (ea : H a = some (exo a C (some d))) (ed : H d = some (exd d [(n, v)])) :
    ∃ (oe od : Obj) (mA : Str → Option Value), PySem.W.InstAt s.heap a oe C (some od) ∧ (∀ y, PySem.W.lookIn y od = some (mA y)) ∧ ∀ g, RelO ([(n, v)].lookup g) (mA g) := by
  obtain ⟨t1, ho⟩ := exo_at I.hok ea
  obtain ⟨mA, hns, rel⟩ := exd_at I.hok ed
  obtain ⟨od, hd, hl⟩ := lookIn_ns hns
  exact ⟨_, od, mA, ⟨ho, rfl, rfl, hd⟩, hl, rel⟩
theorem pe_fldV {e : Expr} {te : TE} {pos : Pos} {n : Str} (he : PE X e te) (hb : attributeBase e n X.env (eval e X.env) = eval e X.env := by rfl) : PE X (.Attribute e n pos) (tFldV X.K n te) := by
  refine ⟨fun pins s σ H Q I h => ?_⟩
  refine attr_of hb (thn (he.run pins s σ H _ I h) fun u s1 hh => ?_)
  obtain ⟨x, H1, I1, rx, a, C, v, ex, T, hno, ⟨d, ea, ed⟩, q⟩ := hh
  subst ex
  obtain rfl : u = Value.ref a := rx
  obtain ⟨oe, od, mA, J, hl, hr⟩ := inst_of I1 ea ed
  have l : [(n, v)].lookup n = some v := by simp
  obtain ⟨u, hu, ru⟩ := RelO.some_of (v := v) (o := mA n) (by rw [← l]; exact hr n)
  exact HandSPX.exc_get I1.kIn J T.ga T.gg T.exC (PySem.W.findObj_own T.hdC hno rfl (by rw [hl, hu])) (handed_of ru) ⟨v, H1, I1.tok _, ru, q⟩
/-- isinstance(e, c) -/
def rIsV (K : PySem.W.Frag) : List V → Hp → VK → Prop := fun xs H Q => ∃ (a C : Addr) (n : Str) (v c : V) (cv : Value) (b : Bool), xs = [.ref a, c] ∧ ExH H C n v a ∧ XfC K C ∧ PySem.W.findIn K (.ref C) "__class__" = some (some (.builtin "object.__class__")) ∧
  PySem.W.specialIn K (.builtin "object.__class__") "__get__" = some (some (.builtin "getset_descriptor.__get__")) ∧ PySem.W.takesIn K (.builtin "object.__class__") = some true ∧ PySem.W.mroIn K C (.type "object") = some true ∧
  (∀ u, RelV c u → u = cv) ∧ PySem.W.kitOne K (.ref C) cv = some b ∧ Q (.bl b) H
theorem call_isV : CallR X (.builtin "isinstance") (rIsV X.K) := by
  intro pins s σ H xs us Q I r h
  obtain ⟨a, C, n, v, c, cv, b, rfl, ⟨d, ea, ed⟩, T, h1, h2, h3, h4, hcv, e, q⟩ := h
  cases r with
  | cons rx rr =>
    cases rr with
    | cons rt rr =>
      cases rr
      cases rx
      have ec := hcv _ rt
      subst ec
      obtain ⟨oe, od, mA, J, hl, hr⟩ := inst_of I ea ed
      have hcl : (PySem.W.clsIn X.K C).isSome = true := by
        obtain ⟨cd, hc, _⟩ := PySem.W.any_some T.hdC
        rw [hc]
        rfl
      exact PySem.W.kia_one (PySem.W.kitx_exc hcl T.ga T.gg T.exC h1 h2 h3 h4) I.kIn J e (fun z => nomatch z) fun tk => ⟨.bl b, H, I.kept (t' := tk) fun _ _ z => z, rfl, q⟩
end
end SE
/-! Raising exceptions of own classes below any built-in class; methods that may raise. -/
namespace SE
open PySem PySem.Spec PyProof.Rows L2
section
variable {X : Cx} {C : Addr} {x q0 f : Str} {bm : List Value}
/-- C(e), to be raised -/
theorem pmk_xv {e : Expr} {ta : TA} {p pos : Pos} (T : XvC X.prog X.w X.K X.mg X.base x q0 f C bm) (hr : Room 2 X.A) (ha : PA X [e] ta) (hg : Gl X x := by rfl)
    (hdb : (x == ("__debug__" : Str)) = false := by decide) (he : starEach (e :: []) X.env = (false, eval e X.env) :: starEach [] X.env := by rfl) (hpl : (backTo pos (starEach [] X.env)).any (·.1) = false := by rfl) :
    PMk X (.Call (.Name x p) [e] [] pos) (tMkO C (spXI X.K C f) [] ta) := by
  intro pins s σ H Q I h
  obtain ⟨fI, fd, _, iC, tI, F1, ⟨g, bd⟩, _⟩ := T.init
  obtain ⟨nm, q, N, bs, bm', sn, sub, ab, col, dd, k0, k1, k2, k3, k5, newId, hC, hT⟩ := T.oex.cls
  refine wpAny_Call_Name_kw (ld_glob I hg T.gC ?_ hdb)
  refine PySem.W.callWith_K (h₀ := X.base) I.ok.mod.kin T.oex.kC (thn (ha.run pos pins s σ H _ I h) fun us s1 ⟨vs, H1, I1, r1, hz, q1⟩ => ⟨I1.kIn, ?_⟩) he hpl
  show wpAny _ _ (call (.ref C) us) _ _ _
  obtain ⟨hp, gg, dr, tk, os⟩ := s1
  have hsz : hp.objs.size ≤ hp.objs.size + 1 := Nat.le_succ _
  have hn : H1 (hp.objs.size + 1) = none := I1.hok.fresh hsz
  have hq := q1 (hp.objs.size + 1) hn
  rw [List.append_nil] at hq
  have l1 : vs.length = 1 := by
    obtain ⟨a, v, e, _⟩ := hq
    have := congrArg List.length e
    simp at this
    exact this
  have kk : ∀ b o, hp.get? b = some o → ((hp.push (PySem.W.kdv_tup us)).push (PySem.HandSPX.excO C hp.objs.size)).get? b = some o := fun b o e => Heap.get?_push_of_some _ (Heap.get?_push_of_some _ e)
  have hget : ((hp.push (PySem.W.kdv_tup us)).push (PySem.HandSPX.excO C hp.objs.size)).get? (hp.objs.size + 1) = some (PySem.HandSPX.excO C hp.objs.size) := by heap_get
  have I2 : Inv X pins σ (upd H1 (hp.objs.size + 1) (exo (hp.objs.size + 1) C none)) ⟨(hp.push (PySem.W.kdv_tup us)).push (PySem.HandSPX.excO C hp.objs.size), gg, dr, tk, os⟩ :=
    I1.laid (t' := tk) (a := hp.objs.size + 1) (o := exo (hp.objs.size + 1) C none) (h' := (hp.push (PySem.W.kdv_tup us)).push (PySem.HandSPX.excO C hp.objs.size)) kk hsz (exo_ok hget)
  have r2 : Vals (V.ref (hp.objs.size + 1) :: vs) (Value.ref (hp.objs.size + 1) :: us) := .cons rfl r1
  have hus : us.length ≤ sizeLine := by
    rw [← Paired.length r1, sizeLine_eq]
    omega
  have to := bd.to _ (Value.ref (hp.objs.size + 1) :: us) [] I2.kIn (congrArg (· + 1) (r1.length.symm.trans l1)) rfl
  have run := F1.run _ X.stack _ _ ⟨Value.ref (hp.objs.size + 1) :: us, ([] : List Str).zip []⟩ (g (Value.ref (hp.objs.size + 1) :: us) []) _ _ E0 (hr.make C us (([] : List Str).zip [])) (I2.env0.make C us (([] : List Str).zip [])) to (bd.rel r2 .nil) hq
  refine wpAny_call (PySem.XV.call_ex hT (I1.kIn _ _ hC) (PySem.W.looks_findIn I1.kIn iC) (fun self => PySem.W.bind_fn I1.kIn self tI) hus (codeAny_mono run fun res s2 done => ?_))
  match res, done with
  | .error ev, done => exact done.elim
  | .ok (.ret u), done =>
    obtain ⟨v, H2, os2, bare2, un2, hok2, rv, ev, d, fs, ea, ed, hd1, q2⟩ := done
    subst ev
    obtain ⟨h2, g2, d2, t2, os'⟩ := s2
    exact ⟨rv, mk_end (raises_own T.xf.exC T.tC) I1 hsz kk un2 hok2 os2 bare2 ea ed hd1 q2⟩
  | .ok .next, done => exact done.elim
  | .ok .brk, done => exact done.elim
  | .ok .cont, done => exact done.elim
theorem ps_raiseV {W : WX} {e : Expr} {ta : TA} {p pos pos2 : Pos} (hc : X.calm = true) (T : XvC X.prog X.w X.K X.mg X.base x q0 f C bm) (hr : Room 2 X.A) (tk : Takes X W) (ha : PA X [e] ta) (hg : Gl X x := by rfl)
    (hdb : (x == ("__debug__" : Str)) = false := by decide) (he : starEach (e :: []) X.env = (false, eval e X.env) :: starEach [] X.env := by rfl) (hpl : (backTo pos (starEach [] X.env)).any (·.1) = false := by rfl) :
    PS X (.Raise (some (.Call (.Name x p) [e] [] pos)) none pos2) (fun _ σ H => tMkO C (spXI X.K C f) [] ta σ H fun cls d H' => W cls d σ H') := ps_raise hc tk (pmk_xv T hr ha hg hdb he hpl)
end
/-- a method that may raise -/
def MethHasX (P : Program) (w : World) (K : PySem.W.Frag) (mg : Str → Option Value) (base : Heap) (C : Addr) (m : Str) (k : Nat) (ps : List Str) (sp : Sp) : Prop := ∃ f fd, Meth K C m f ∧ FnOk P w K mg base (L2.CX P w) k f fd ps sp ∧ Binds K fd ps []
def tMethX (C : Addr) (m : Str) (sp : Sp) (ex : L2.St → XK) (ta : TE) (t : TA) : TE := fun σ H Q => ta σ H fun x H1 => ∃ a dx fs, x = .ref a ∧ H1 a = some (.ins C dx fs) ∧ fs.lookup m = none ∧
  t σ H1 fun vs H2 => sp (x :: vs) H2 Q (ex σ)
section
variable {X : Cx} {C : Addr} {m : Str} {k : Nat} {ps : List Str} {sp : Sp} {o e : Expr} {es : List Expr} {ta : TE} {t : TA} {ex : L2.St → XK} {apos pos : Pos} {pl : Sem Bool}
/-- o.m(e, ..), its exceptions as ex wishes: WE W in a try, fun _ => E in a def that may raise -/
theorem pe_mX (h : MethHasX X.prog X.w X.K X.mg X.base C m k ps sp) (out : ∀ σ, PassesAt (L2.CX X.prog X.w) X σ (ex σ)) (he : PE X o ta) (c : Cls X.K C) (hr : Room k X.A) (ha : PA X (e :: es) t)
    (hst : starEach (e :: es) X.env = (false, eval e X.env) :: starEach es X.env := by rfl) (hpl : (backTo pos (starEach es X.env)).any (·.1) = false := by rfl)
    (ht : eval (.Call (.Attribute o m apos) (e :: es) [] pos) X.env = (do
      let ov ← eval o X.env
      standAt apos.atName
      let (f, first) ← holding [ov] (getMethod ov m pl)
      callWith pos f first (backTo pos (starEach (e :: es) X.env)) (backToKw pos (keywordEach [] X.env))) := by rfl) : PE X (.Call (.Attribute o m apos) (e :: es) [] pos) (tMethX C m sp ex ta t) := by
  obtain ⟨f, fd, hm, F, hb⟩ := h
  refine ⟨fun pins s σ H Q I h => ?_⟩
  refine PySem.W.methodCall_KW (pl := pl) (thn (he.run pins s σ H _ I h) fun u s1 ⟨x, H1, I1, rx, a, dx, fs, ex, ea, l, q⟩ => ?_) ht
  subst ex
  obtain rfl : u = Value.ref a := rx
  refine getmeth_ok I1 ea c hm l ?_
  refine PySem.W.callWith_K (first := [.ref a]) (h₀ := X.base) I.ok.mod.kin hm.kp (thn (ha.run pos pins s1 σ H1 _ I1 q) fun us s2 ⟨vs, H2, I2, r, q2⟩ => ⟨I2.kIn, ?_⟩) hst hpl
  exact run_fnS (us := .ref a :: us) (vs := .ref a :: vs) F hr hb (out σ) I2 (.cons rfl r) q2
/-- o.m() -/
theorem pe_mX0 (h : MethHasX X.prog X.w X.K X.mg X.base C m k ps sp) (out : ∀ σ, PassesAt (L2.CX X.prog X.w) X σ (ex σ)) (he : PE X o ta) (c : Cls X.K C) (hr : Room k X.A)
    (ht : eval (.Call (.Attribute o m apos) [] [] pos) X.env = (do
      let ov ← eval o X.env
      standAt apos.atName
      let (f, first) ← holding [ov] (getMethod ov m pl)
      callWith pos f first (backTo pos (starEach [] X.env)) (backToKw pos (keywordEach [] X.env))) := by rfl) : PE X (.Call (.Attribute o m apos) [] [] pos) (tMethX C m sp ex ta tNil) := by
  obtain ⟨f, fd, hm, F, hb⟩ := h
  refine ⟨fun pins s σ H Q I h => ?_⟩
  refine PySem.W.methodCall_KW (pl := pl) (thn (he.run pins s σ H _ I h) fun u s1 ⟨x, H1, I1, rx, a, dx, fs, ex, ea, l, q⟩ => ?_) ht
  subst ex
  obtain rfl : u = Value.ref a := rx
  refine getmeth_ok I1 ea c hm l ?_
  exact PySem.W.callWith_K0 (first := [.ref a]) I1.kIn hm.kp (run_fnS (us := [.ref a]) (vs := [.ref a]) F hr hb (out σ) I1 (.cons rfl .nil) q)
end
end SE
namespace SE
open PySem PySem.Spec PyProof.Rows L2
theorem pi_or {X : Cx} {tg e : Expr} {t1 t2 : TI} (h1 : PI X tg e t1) (h2 : PI X tg e t2) : PI X tg e (fun σ H R => t1 σ H R ∨ t2 σ H R) := ⟨fun pins s σ H R I h => h.elim (h1.run pins s σ H R I) (h2.run pins s σ H R I)⟩
theorem stk_some {K : PySem.W.Frag} {H : Hp} {u : V} {st : List Str} (h : StkV K H u (some st)) : ∃ q, u = .ref q ∧ SqT K H q (st.map V.str) := h
/-- how often a step on a stack has failed -/
def cntC (n : Str) (ct : Cn) : Nat := ((ct.find? fun p => decide (p.1 = n)).map (·.2)).getD 0
def bumpC (n : Str) (ct : Cn) : Cn := if ct.any (fun p => decide (p.1 = n)) = true then ct.map (fun p => if p.1 = n then (p.1, cntC n ct + 1) else p) else ct ++ [(n, 1)]
def bumpX (x : Option Addr) (n : Str) (ct : Cn) : Cn := match x with
  | none => ct
  | some _ => bumpC n ct
theorem perfS_app (l : Lim) : ∀ (a b : List NSt) (ss : Sk), perfS l (a ++ b) ss = (perfS l a ss).bind (perfS l b)
  | [], b, ss => rfl
  | s :: a, b, ss => by
    show (match stepL l (s.1, s.2.2) (getS ss s.2.1) with | none => none | some st => perfS l (a ++ b) (putS ss s.2.1 st)) = (match stepL l (s.1, s.2.2) (getS ss s.2.1) with | none => none | some st => perfS l a (putS ss s.2.1 st)).bind (perfS l b)
    cases stepL l (s.1, s.2.2) (getS ss s.2.1) with
    | none => rfl
    | some st => exact perfS_app l a b _
section
variable {P : Program} {w : World} {K : PySem.W.Frag} {mg : Str → Option Value} {base : Heap} {C : Addr}
/-! ### note_failure of a plain session -/
abbrev sSNote : Stmt := inClass sSession 6
def spNf (K : PySem.W.Frag) (C : Addr) (x : Option Addr) : Sp := fun vs H Q _ => ∃ (o L : Addr) (n : Str) (ct : Cn) (ss : Sk) (l : Lim) (ds : List Deed), vs = [.ref o, .str n] ∧ SesX K C x ct H o L ss l ds ∧ Item n ∧ ct.length ≤ 100000 ∧
  ∀ H', Keep (ownS o L x) H H' → SesX K C x (bumpX x n ct) H' o L ss l ds → Q .non H'
theorem scNf : FnScope ["self", "name"] ["self", "name"] (defScope sSNote) := ⟨rfl, rfl, rfl, by decide +kernel, rfl, by decide +kernel, by decide +kernel⟩
theorem ok_nf {f : Addr} {fd : FuncData} (F : Fun K "note_failure" "Session.note_failure" sSNote f fd) : FnOk P w K mg base CX0 1 f fd ["self", "name"] (spNf K C none) := by
  refine F.ok scNf (fun vs H Q E h => ?_) (fun cdv A outer s H vs Q E hr h => ?_)
  · obtain ⟨o, L, n, ct, ss, l, ds, rfl, _⟩ := h
    rfl
  · obtain ⟨o, L, n, ct, ss, l, ds, rfl, h, _, _, k⟩ := h
    exact ⟨_, pss_one ps_pass, k H (Keep.same h.loose (Same.refl H)) h⟩
/-! ### perform, which may fail -/
theorem scPf : FnScope ["self", "steps", "after", "index", "action", "name", "item", "stack"] ["self", "steps"] (defScope sSPerform) := ⟨rfl, rfl, rfl, by decide +kernel, rfl, by decide +kernel, by decide +kernel⟩
def spPf (K : PySem.W.Frag) (C CE : Addr) (x : Option Addr) : Sp := fun vs H Q E => ∃ (o L a : Addr) (ct : Cn) (ss : Sk) (l : Lim) (ds : List Deed) (us : List V) (ns : List NSt) (m b : Nat), vs = [.ref o, .ref a] ∧ SesX K C x ct H o L ss l ds ∧ (SqL K H a us ∨ SqT K H a us) ∧ us.length ≤ 1000 ∧ NSV K H us ns ∧ (∀ s ∈ ns, NOk s) ∧
  SkOk ss m b ∧ m ≤ 90000 ∧ b ≤ 4000 ∧ ds.length ≤ 100000 ∧ ct.length ≤ 100000 ∧ (∀ ss2, perfS l ns ss = some ss2 → ∀ H', Keep (ownS o L x) H H' → SesX K C x ct H' o L (cleanS ss2) l (ds ++ [(ns, ss, l)]) → Q .non H') ∧
  (∀ (j : Nat) (s : NSt) (sj : Sk), ns[j]? = some s → perfS l (ns.take j) ss = some sj → perfS l (ns.take (j + 1)) ss = none → ∀ (d : Addr) (H' : Hp), Keep (ownS o L x) H H' → SesX K C x (bumpX x s.2.1 ct) H' o L ss l ds → H d = none → H' d = some (.xd [("index", .int (j : Int))]) → E (.ref CE) (some d) H')
theorem okX_pf {f : Addr} {fd : FuncData} {CE : Addr} {bm : List Value} {x : Option Addr} (F : Fun K "perform" "Session.perform" sSPerform f fd) (T : SCl K C) (TF : XvC P w K mg base "StepFailed" "StepFailed.__init__" "index" CE bm) (NF : MethHas P w K mg base C "note_failure" 1 ["self", "name"] (spNf K C x)) (GC : Has P w K mg base "check_named_steps" 4 ["steps"] [] (spChkN K)) (GA : Has P w K mg base "after_step" 2 ["step", "stack", "limit"] [] (spAfterL K)) (GW : Has P w K mg base "without_empty" 1 ["stacks"] [] (spWe K))
    (AD : MethHas P w K mg base C "add_deed" 1 ["self", "steps", "stacks", "limit"] (spAd K C x)) (B : Blt mg) (md : mg "dict" = none) : FnOk P w K mg base (L2.CX P w) 5 f fd ["self", "steps"] (spPf K C CE x) := by
  refine F.okX scPf (fun vs H Q E h => ?_) (fun cdv A outer s H vs Q E hr h => ?_)
  · obtain ⟨o, L, a, ct, ss, l, ds, us, ns, m, b, rfl, _⟩ := h
    rfl
  · obtain ⟨o, L, a, ct, ss, l, ds, us, ns, m, b, rfl, hses, hS, hl, hN, hI, ok, hm, hb, hdl, hct, k, kE⟩ := h
    have hr1 : Room 1 _ := hr.mono (by decide)
    have hr2 : Room 2 _ := hr.mono (by decide)
    have hu := room_u hr
    obtain ⟨dx, F, ws, h1, h2, ⟨oF, kvs, h3, h3'⟩, h4, h5⟩ := hses.ex
    have hlo := hses.loose
    refine ⟨_, pss_cons (ps_expr (pe_has GC hr (pa_cons (pv 1) pa_nil)))
      (pss_cons (ps_set (i := 2) scPf.nd rfl (.inl rfl) (pe_callTy call_dictD (by rfl) md (by decide +kernel) (pa_cons (pe_fld (pv 0) rfl) pa_nil)))
      (pss_cons (ps_for (passes_of rfl) rfl (pi_or (pi_enum (by rfl) B.enu (pa_cons (pv 1) pa_nil)) (pi_enumT (by rfl) B.enu (pa_cons (pv 1) pa_nil))) (pg_tup (by rfl) (pgs_cons (pg_name (i := 3) scPf.nd rfl (.inl rfl)) (pgs_cons (pg_tup (by rfl) (pgs_cons (pg_name (i := 4) scPf.nd rfl (.inl rfl)) (pgs_cons (pg_name (i := 5) scPf.nd rfl (.inl rfl)) (pgs_cons (pg_name (i := 6) scPf.nd rfl (.inl rfl)) pgs_nil)))) pgs_nil)))
        (pss_cons (ps_set (i := 7) scPf.nd rfl (.inl rfl) (pe_has GA hr2 (pa_cons (pe_tup (pa_cons (pv 4) (pa_cons (pv 6) pa_nil))) (pa_cons (pe_dget2 hu (pv 2) (pv 5) (pe_tup pa_nil) ⟨rfl, rfl, rfl, rfl⟩) (pa_cons (pe_fld (pv 0) rfl) pa_nil)))))
        (pss_cons (ps_if (pt_cmpR op_isN (pv 7) pe_non (nomark _)) (pss_cons (ps_expr (pe_mH1 NF (pv 0) T.cl hr1 (pa_cons (pv 5) pa_nil))) (pss_one (ps_raiseV rfl TF hr2 tkX (pa_cons (pv 3) pa_nil)))) pss_nil)
        (pss_one (ps_dput hu (pv 2) (pv 5) (pv 7) rfl)))))
      (pss_one (ps_expr (pe_mH1 AD (pv 0) T.cl hr1 (pa_cons (pe_frz (pe_callTy call_list_of (by rfl) B.lst (by decide +kernel) (pa_cons (pv 1) pa_nil))) (pa_cons (pe_frz (pe_has GW hr1 (pa_cons (pv 2) pa_nil))) (pa_cons (pe_fld (pv 0) rfl) pa_nil)))))))), ?_⟩
    refine ⟨_, rfl, a, us, ns, rfl, hS, hl, hN, hI, fun H1 s1 => ?_⟩
    have h1' := s1 _ _ h1
    refine ⟨_, rfl, o, C, dx, _, _, rfl, h1', T.cl, T.nF, rfl, F, kvs, rfl, .inr ⟨oF, s1 _ _ h3⟩, fun D hD => ?_⟩
    have s2 : Same H (upd H1 D (.dK kvs)) := s1.trans (Same.new hD)
    have nD : H D = none := s1.free hD
    have hDD : upd H1 D (.dK kvs) D = some (.dK kvs) := upd_same
    have sk0 : SkH K (upd H1 D (.dK kvs)) kvs ss := skH_same h3' s2
    generalize upd H1 D (.dK kvs) = H2 at s2 hDD sk0 ⊢
    have ln : us.length = ns.length := Paired.length hN
    have hS2 := hS
    rcases hS with hq | hq
    · refine .inl ⟨_, rfl, a, us, rfl, Same.seq s2 hq, for_it (walk_enum (K := K) (a := a) (xs := us)) (fun j σ H3 => ∃ (kvs2 : List (Key × V)) (sj : Sk) (y3 y4 y5 y6 y7 : Option V), σ = [some (.ref o), some (.ref a), some (.ref D), y3, y4, y5, y6, y7] ∧ H3 D = some (.dK kvs2) ∧ SkH K H3 kvs2 sj ∧ SkOk sj (m + j) (b + j) ∧ perfS l (ns.take j) ss = some sj ∧ Same H H3) ⟨kvs, ss, _, _, _, _, _, rfl, hDD, sk0, ok, rfl, s2⟩ (fun j σ H3 _ q => by obtain ⟨_, _, _, _, _, _, _, _, _, _, _, _, s3⟩ := q; exact Same.seq s3 hq) ?_ ?_⟩
      · rintro j xx σ H3 H4 hj ⟨kvs2, sj, y3, y4, y5, y6, y7, rfl, hD3, sk3, ok3, hp3, s3⟩ ⟨T0, pk, y, rfl, nT, rfl, hk, hy⟩
        obtain ⟨st, hst, t, ey, hT⟩ := paired_at hN hy
        subst ey
        have s4 : Same H3 (upd H3 T0 (.tup [pk, .ref t])) := Same.new nT
        have j1 : j < us.length := (List.getElem?_eq_some_iff.mp hy).1
        refine ⟨T0, _, rfl, .of upd_same, rfl, _, _, rfl, _, _, rfl, ⟨t, _, rfl, Same.tup (s3.trans s4) hT, rfl, _, _, rfl, _, _, rfl, _, _, rfl, rfl, ?_⟩⟩
        obtain ⟨c, n, z⟩ := st
        have nok := hI (c, n, z) (List.mem_of_getElem? hst)
        have s34 := s3.trans s4
        have hD4 := s4 _ _ hD3
        have sk4 := skH_same sk3 s4
        generalize upd H3 T0 (.tup [pk, .ref t]) = H4 at s34 hD4 sk4 ⊢
        refine ⟨rfl, ?_⟩
        refine ⟨_, rfl, _, rfl, by show 2 ≤ sizeLine; decide, fun S hS' => ?_⟩
        have sS : Same H4 (upd H4 S (.tup [.str (act c), .str z])) := Same.new hS'
        have hSS : upd H4 S (.tup [.str (act c), .str z]) S = some (.tup [.str (act c), .str z]) := upd_same
        generalize upd H4 S (.tup [.str (act c), .str z]) = H5 at sS hSS ⊢
        have hD5 := sS _ _ hD4
        refine ⟨_, rfl, D, rfl, .inl ⟨_, .inl hD5⟩, _, rfl, by show 0 ≤ sizeLine; decide, fun U hU => ?_⟩
        have sU : Same H5 (upd H5 U (.tup [])) := Same.new hU
        have hUU : upd H5 U (.tup []) U = some (.tup []) := upd_same
        generalize upd H5 U (.tup []) = H6 at sU hUU ⊢
        have s46 := sS.trans sU
        have hD6 := sU _ _ hD5
        have sk6 := skH_same sk4 s46
        refine ⟨_, DGet.k (k := Sum.inr n) hD6, ?_⟩
        obtain ⟨q, eq, hq⟩ : ∃ q, (valV kvs2 (Sum.inr n)).getD (V.ref U) = V.ref q ∧ SqT K H6 q ((getS sj n).map V.str) := by
          unfold getS
          rcases skH_val (n := n) sk6 with ⟨z1, z2⟩ | ⟨p, t2, z1, z2, z3⟩
          · rw [z1, z2]
            exact ⟨U, rfl, .of hUU⟩
          · rw [z1, z2]
            exact ⟨t2, rfl, z3⟩
        rw [eq]
        obtain ⟨g1, g2⟩ := ok3.get n
        have h16 := (s34.trans s46) _ _ h1
        have tk1 : perfS l (ns.take (j + 1)) ss = match stepL l (c, z) (getS sj n) with
            | none => none
            | some st => some (putS sj n st) := by
          rw [List.take_add_one, hst, perfS_app, hp3]
          show perfS l [(c, n, z)] sj = _
          unfold perfS
          cases stepL l (c, z) (getS sj n) <;> rfl
        cases est : stepL l (c, z) (getS sj n) with
        | none =>
          rw [est] at tk1
          refine ⟨_, rfl, o, C, dx, _, _, rfl, h16, T.cl, T.nH, rfl, .ref S, (c, z), q, getS sj n, l, rfl, ⟨S, rfl, .of (sU _ _ hSS)⟩, nok.i, hq, by omega, g1, fun u H7 s7 hk7 => ?_⟩
          rw [est] at hk7
          cases (show u = .non from hk7)
          have s07 := (s34.trans s46).trans s7
          cases Option.some.inj hk
          refine ⟨_, rfl, rfl, _, rfl, iteT ⟨_, rfl, o, dx, _, rfl, s07 _ _ h1, sX_none (by decide) (by decide) (by decide) (by decide), _, rfl, o, L, n, ct, ss, l, ds, rfl, hses.same s07, nok.n, hct, fun H8 k8 hs8 => ⟨_, rfl, mk_red fun d nd => ?_⟩⟩⟩
          exact kE j (c, n, z) sj hst hp3 tk1 d _ (((Keep.same hlo s07).trans k8).trans (Keep.same hs8.loose (Same.new nd))) (hs8.same (Same.new nd)) (by
            cases q : H d with
            | none => rfl
            | some u =>
              have own : d ∉ ownS o L x := fun m => hs8.has d m nd
              rw [k8.2 d u own (s07 _ _ q)] at nd
              cases nd) upd_same
        | some st2 =>
          rw [est] at tk1
          refine ⟨_, rfl, o, C, dx, _, _, rfl, h16, T.cl, T.nH, rfl, .ref S, (c, z), q, getS sj n, l, rfl, ⟨S, rfl, .of (sU _ _ hSS)⟩, nok.i, hq, by omega, g1, fun u H7 s7 hk7 => ?_⟩
          rw [est] at hk7
          obtain ⟨q2, rfl, hq2⟩ := stk_some hk7
          refine ⟨_, rfl, rfl, _, rfl, iteF ?_⟩
          have hD7 := s7 _ _ hD6
          have sk7 := skH_same sk6 s7
          refine ⟨_, rfl, _, rfl, _, rfl, D, _, rfl, .inl ⟨kvs2, Sum.inr n, hD7, rfl, ?_, rfl⟩, putK kvs2 (Sum.inr n) (.ref q2), putS sj n st2, _, _, _, _, _, rfl, upd_same, skH_upd (.dK hD7) (skH_put sk7 hq2), ?_, tk1, Same.free2 ((s34.trans s46).trans s7) nD⟩
          · have l1 := paired_len sk7
            have := ok3.len
            rw [sizeLine_eq]
            omega
          · have q1 : st2.length ≤ b + (j + 1) ∧ ∀ y ∈ st2, Item y := by
              have e := stepL_sub est
              cases c with
              | true =>
                cases e
                refine ⟨by rw [List.length_cons]; omega, fun y my => ?_⟩
                rcases List.mem_cons.mp my with r | r
                · rw [r]; exact nok.i
                · exact g1 y r
              | false =>
                rw [stepM_pop] at e
                split at e
                · cases e
                  exact ⟨by rw [List.length_drop]; omega, fun y my => g1 y (List.mem_of_mem_drop my)⟩
                · cases e
            exact (putS_ok ok3 nok.n q1.2 q1.1 (by omega)).mono (by omega) (Nat.le_refl _)
      · rintro σ H3 ⟨kvs2, sj, y3, y4, y5, y6, y7, rfl, hD3, sk3, ok3, hp3, s3⟩
        rw [ln, List.take_length] at hp3
        have h13 := s3 _ _ h1
        refine ⟨_, rfl, o, dx, _, rfl, h13, sX_none (by decide) (by decide) (by decide) (by decide), ?_⟩
        refine ⟨_, rfl, a, us, rfl, (hS2.imp (Same.seq s3) (Same.tup s3)), fun A2 hA2 => ?_⟩
        have sA : Same H3 (upd H3 A2 (.lst us)) := Same.new hA2
        have hAA : upd H3 A2 (.lst us) A2 = some (.lst us) := upd_same
        generalize eH4 : upd H3 A2 (.lst us) = H4 at sA hAA ⊢
        refine ⟨A2, .lst us, rfl, hAA, trivial, fun oa => ?_⟩
        have sB : Same H3 (upd H4 A2 (.frz oa (.lst us))) := Same.free2 sA hA2
        have hB : upd H4 A2 (.frz oa (.lst us)) A2 = some (.frz oa (.lst us)) := upd_same
        generalize upd H4 A2 (.frz oa (.lst us)) = H5 at sB hB ⊢
        refine ⟨_, rfl, D, kvs2, sj, m + us.length, b + us.length, rfl, sB _ _ hD3, skH_same sk3 sB, ok3, by omega, fun e kvs3 H6 s6 ne he hk3 => ?_⟩
        refine ⟨e, .dK (kvs3), rfl, he, trivial, fun oe => ?_⟩
        have s7 : Same H5 (upd H6 e (.frz oe (.dK kvs3))) := Same.free2 s6 ne
        have he7 : upd H6 e (.frz oe (.dK kvs3)) e = some (.frz oe (.dK kvs3)) := upd_same
        have hk7 : SkH K (upd H6 e (.frz oe (.dK kvs3))) kvs3 (cleanS sj) := skH_upd (.dK he) hk3
        generalize upd H6 e (.frz oe (.dK kvs3)) = H7 at s7 he7 hk7 ⊢
        have s07 := (s3.trans sB).trans s7
        have ses7 := hses.same s07
        exact ⟨_, rfl, o, C, dx, _, _, rfl, s07 _ _ h1, T.cl, T.nH, rfl, o, L, A2, e, ct, ss, cleanS sj, l, l, ds, us, ns, oa, rfl, ses7, s7 _ _ hB, nsv_same hN s07, ⟨oe, kvs3, he7, hk7⟩, hdl, fun H8 k8 hs8 => k sj hp3 H8 ((Keep.same hlo s07).trans k8) hs8⟩
    · refine .inr ⟨_, rfl, a, us, rfl, Same.tup s2 hq, for_it (walk_enumT (K := K) (a := a) (xs := us)) (fun j σ H3 => ∃ (kvs2 : List (Key × V)) (sj : Sk) (y3 y4 y5 y6 y7 : Option V), σ = [some (.ref o), some (.ref a), some (.ref D), y3, y4, y5, y6, y7] ∧ H3 D = some (.dK kvs2) ∧ SkH K H3 kvs2 sj ∧ SkOk sj (m + j) (b + j) ∧ perfS l (ns.take j) ss = some sj ∧ Same H H3) ⟨kvs, ss, _, _, _, _, _, rfl, hDD, sk0, ok, rfl, s2⟩ (fun j σ H3 _ q => by obtain ⟨_, _, _, _, _, _, _, _, _, _, _, _, s3⟩ := q; exact Same.tup s3 hq) ?_ ?_⟩
      · rintro j xx σ H3 H4 hj ⟨kvs2, sj, y3, y4, y5, y6, y7, rfl, hD3, sk3, ok3, hp3, s3⟩ ⟨T0, pk, y, rfl, nT, rfl, hk, hy⟩
        obtain ⟨st, hst, t, ey, hT⟩ := paired_at hN hy
        subst ey
        have s4 : Same H3 (upd H3 T0 (.tup [pk, .ref t])) := Same.new nT
        have j1 : j < us.length := (List.getElem?_eq_some_iff.mp hy).1
        refine ⟨T0, _, rfl, .of upd_same, rfl, _, _, rfl, _, _, rfl, ⟨t, _, rfl, Same.tup (s3.trans s4) hT, rfl, _, _, rfl, _, _, rfl, _, _, rfl, rfl, ?_⟩⟩
        obtain ⟨c, n, z⟩ := st
        have nok := hI (c, n, z) (List.mem_of_getElem? hst)
        have s34 := s3.trans s4
        have hD4 := s4 _ _ hD3
        have sk4 := skH_same sk3 s4
        generalize upd H3 T0 (.tup [pk, .ref t]) = H4 at s34 hD4 sk4 ⊢
        refine ⟨rfl, ?_⟩
        refine ⟨_, rfl, _, rfl, by show 2 ≤ sizeLine; decide, fun S hS' => ?_⟩
        have sS : Same H4 (upd H4 S (.tup [.str (act c), .str z])) := Same.new hS'
        have hSS : upd H4 S (.tup [.str (act c), .str z]) S = some (.tup [.str (act c), .str z]) := upd_same
        generalize upd H4 S (.tup [.str (act c), .str z]) = H5 at sS hSS ⊢
        have hD5 := sS _ _ hD4
        refine ⟨_, rfl, D, rfl, .inl ⟨_, .inl hD5⟩, _, rfl, by show 0 ≤ sizeLine; decide, fun U hU => ?_⟩
        have sU : Same H5 (upd H5 U (.tup [])) := Same.new hU
        have hUU : upd H5 U (.tup []) U = some (.tup []) := upd_same
        generalize upd H5 U (.tup []) = H6 at sU hUU ⊢
        have s46 := sS.trans sU
        have hD6 := sU _ _ hD5
        have sk6 := skH_same sk4 s46
        refine ⟨_, DGet.k (k := Sum.inr n) hD6, ?_⟩
        obtain ⟨q, eq, hq⟩ : ∃ q, (valV kvs2 (Sum.inr n)).getD (V.ref U) = V.ref q ∧ SqT K H6 q ((getS sj n).map V.str) := by
          unfold getS
          rcases skH_val (n := n) sk6 with ⟨z1, z2⟩ | ⟨p, t2, z1, z2, z3⟩
          · rw [z1, z2]
            exact ⟨U, rfl, .of hUU⟩
          · rw [z1, z2]
            exact ⟨t2, rfl, z3⟩
        rw [eq]
        obtain ⟨g1, g2⟩ := ok3.get n
        have h16 := (s34.trans s46) _ _ h1
        have tk1 : perfS l (ns.take (j + 1)) ss = match stepL l (c, z) (getS sj n) with
            | none => none
            | some st => some (putS sj n st) := by
          rw [List.take_add_one, hst, perfS_app, hp3]
          show perfS l [(c, n, z)] sj = _
          unfold perfS
          cases stepL l (c, z) (getS sj n) <;> rfl
        cases est : stepL l (c, z) (getS sj n) with
        | none =>
          rw [est] at tk1
          refine ⟨_, rfl, o, C, dx, _, _, rfl, h16, T.cl, T.nH, rfl, .ref S, (c, z), q, getS sj n, l, rfl, ⟨S, rfl, .of (sU _ _ hSS)⟩, nok.i, hq, by omega, g1, fun u H7 s7 hk7 => ?_⟩
          rw [est] at hk7
          cases (show u = .non from hk7)
          have s07 := (s34.trans s46).trans s7
          cases Option.some.inj hk
          refine ⟨_, rfl, rfl, _, rfl, iteT ⟨_, rfl, o, dx, _, rfl, s07 _ _ h1, sX_none (by decide) (by decide) (by decide) (by decide), _, rfl, o, L, n, ct, ss, l, ds, rfl, hses.same s07, nok.n, hct, fun H8 k8 hs8 => ⟨_, rfl, mk_red fun d nd => ?_⟩⟩⟩
          exact kE j (c, n, z) sj hst hp3 tk1 d _ (((Keep.same hlo s07).trans k8).trans (Keep.same hs8.loose (Same.new nd))) (hs8.same (Same.new nd)) (by
            cases q : H d with
            | none => rfl
            | some u =>
              have own : d ∉ ownS o L x := fun m => hs8.has d m nd
              rw [k8.2 d u own (s07 _ _ q)] at nd
              cases nd) upd_same
        | some st2 =>
          rw [est] at tk1
          refine ⟨_, rfl, o, C, dx, _, _, rfl, h16, T.cl, T.nH, rfl, .ref S, (c, z), q, getS sj n, l, rfl, ⟨S, rfl, .of (sU _ _ hSS)⟩, nok.i, hq, by omega, g1, fun u H7 s7 hk7 => ?_⟩
          rw [est] at hk7
          obtain ⟨q2, rfl, hq2⟩ := stk_some hk7
          refine ⟨_, rfl, rfl, _, rfl, iteF ?_⟩
          have hD7 := s7 _ _ hD6
          have sk7 := skH_same sk6 s7
          refine ⟨_, rfl, _, rfl, _, rfl, D, _, rfl, .inl ⟨kvs2, Sum.inr n, hD7, rfl, ?_, rfl⟩, putK kvs2 (Sum.inr n) (.ref q2), putS sj n st2, _, _, _, _, _, rfl, upd_same, skH_upd (.dK hD7) (skH_put sk7 hq2), ?_, tk1, Same.free2 ((s34.trans s46).trans s7) nD⟩
          · have l1 := paired_len sk7
            have := ok3.len
            rw [sizeLine_eq]
            omega
          · have q1 : st2.length ≤ b + (j + 1) ∧ ∀ y ∈ st2, Item y := by
              have e := stepL_sub est
              cases c with
              | true =>
                cases e
                refine ⟨by rw [List.length_cons]; omega, fun y my => ?_⟩
                rcases List.mem_cons.mp my with r | r
                · rw [r]; exact nok.i
                · exact g1 y r
              | false =>
                rw [stepM_pop] at e
                split at e
                · cases e
                  exact ⟨by rw [List.length_drop]; omega, fun y my => g1 y (List.mem_of_mem_drop my)⟩
                · cases e
            exact (putS_ok ok3 nok.n q1.2 q1.1 (by omega)).mono (by omega) (Nat.le_refl _)
      · rintro σ H3 ⟨kvs2, sj, y3, y4, y5, y6, y7, rfl, hD3, sk3, ok3, hp3, s3⟩
        rw [ln, List.take_length] at hp3
        have h13 := s3 _ _ h1
        refine ⟨_, rfl, o, dx, _, rfl, h13, sX_none (by decide) (by decide) (by decide) (by decide), ?_⟩
        refine ⟨_, rfl, a, us, rfl, (hS2.imp (Same.seq s3) (Same.tup s3)), fun A2 hA2 => ?_⟩
        have sA : Same H3 (upd H3 A2 (.lst us)) := Same.new hA2
        have hAA : upd H3 A2 (.lst us) A2 = some (.lst us) := upd_same
        generalize eH4 : upd H3 A2 (.lst us) = H4 at sA hAA ⊢
        refine ⟨A2, .lst us, rfl, hAA, trivial, fun oa => ?_⟩
        have sB : Same H3 (upd H4 A2 (.frz oa (.lst us))) := Same.free2 sA hA2
        have hB : upd H4 A2 (.frz oa (.lst us)) A2 = some (.frz oa (.lst us)) := upd_same
        generalize upd H4 A2 (.frz oa (.lst us)) = H5 at sB hB ⊢
        refine ⟨_, rfl, D, kvs2, sj, m + us.length, b + us.length, rfl, sB _ _ hD3, skH_same sk3 sB, ok3, by omega, fun e kvs3 H6 s6 ne he hk3 => ?_⟩
        refine ⟨e, .dK (kvs3), rfl, he, trivial, fun oe => ?_⟩
        have s7 : Same H5 (upd H6 e (.frz oe (.dK kvs3))) := Same.free2 s6 ne
        have he7 : upd H6 e (.frz oe (.dK kvs3)) e = some (.frz oe (.dK kvs3)) := upd_same
        have hk7 : SkH K (upd H6 e (.frz oe (.dK kvs3))) kvs3 (cleanS sj) := skH_upd (.dK he) hk3
        generalize upd H6 e (.frz oe (.dK kvs3)) = H7 at s7 he7 hk7 ⊢
        have s07 := (s3.trans sB).trans s7
        have ses7 := hses.same s07
        exact ⟨_, rfl, o, C, dx, _, _, rfl, s07 _ _ h1, T.cl, T.nH, rfl, o, L, A2, e, ct, ss, cleanS sj, l, l, ds, us, ns, oa, rfl, ses7, s7 _ _ hB, nsv_same hN s07, ⟨oe, kvs3, he7, hk7⟩, hdl, fun H8 k8 hs8 => k sj hp3 H8 ((Keep.same hlo s07).trans k8) hs8⟩
end
end SE
/-! len(o) of an object of an own class with __len__. -/
namespace SE
open PySem PySem.Spec PyProof.Rows L2
section
variable {X : Cx} {C g : Addr} {n : Nat} {sp : Sp} {fd : FuncData}
theorem call_lenO (hs : PySem.W.findIn X.K (.ref C) "__len__" = some (some (.ref g))) (hf : PySem.W.isFn X.K (.ref g) = true) (F : FnR X.prog X.w X.K X.mg X.base CX0 n g sp) (hr : Room (n + 1) X.A) :
    CallR X (.builtin "len") (fun xs H Q => ∃ a dx fs, xs = [.ref a] ∧ H a = some (.ins C dx fs) ∧ sp [.ref a] H (fun v H' => ∃ i : Nat, v = .int (i : Int) ∧ (i : Int) < 2 ^ 63 ∧ Q (.int (i : Int)) H') E0) := by
  intro pins s σ H xs us Q I r h
  obtain ⟨a, dx, fs, rfl, ha, q⟩ := h
  obtain ⟨u, rfl, ru⟩ := r.one
  cases (show u = Value.ref a from ru)
  obtain ⟨ox, od, J, _⟩ := StX.insC_at (X := X) (C := C) I (.inr ⟨dx, fs, ha⟩)
  have hr1 : Room n X.A.in1 := hr.in1
  refine Calls.call_function_entry PySem.kind_len PySem.plain_len PySem.entry_len (PySem.args_len1 _) ?_
  unfold Builtin.«len»
  refine wpAny_bind (m := oneArg "len" _) (wpAny_pure ?_)
  refine wpAny_bind (m := callSpecial? (.ref a) (Str.ofString "__len__")) (PySem.W.special_fn I.kIn J hs (beq_iff_eq.mp hf) (wpAny_mono (wpAny_call (SlX.run_at (us := [.ref a]) (ws := [.ref a]) F hr1 I.env0.in1 pass0 I (.cons rfl .nil) q)) (fun v s' z => ?_) fun _ _ x => x))
  obtain ⟨z', H', I', rz, i, ei, hi, qz⟩ := z
  subst ei
  obtain ⟨t, e⟩ := (show ∃ t, v = Value.int (i : Int) t from rz)
  cases e
  refine wpAny_bind (wpAny_holding (wpAny_pure ?_))
  refine wpAny_bind (wpAny_letGo ?_)
  show wpAny _ _ (if (i : Int) < 0 then _ else _) _ _ _
  rw [if_neg (by omega)]
  show wpAny _ _ (if (i : Int) ≥ 2 ^ 63 then _ else _) _ _ _
  rw [if_neg (by omega)]
  exact wpAny_bind (wpAny_mkInt (wpAny_pure ⟨_, rfl, .int (i : Int), H', I'.tok _, ⟨_, rfl⟩, qz⟩))
end
end SE
/-! o.f as one of several targets. -/
namespace SE
open PySem PySem.Spec PyProof.Rows L2
section
variable {X : Cx} {o : Expr} {f : Str} {pos : Pos} {to : TE}
def gFld (K : PySem.W.Frag) (to : TE) (f : Str) : TG := fun v σ H Q => to σ H fun x H1 => ∃ (a C dx : Addr) (fs : List (Str × V)), x = .ref a ∧ H1 a = some (.ins C dx fs) ∧ Cls K C ∧ NoAttr K C f ∧ fs.length < 1000 ∧ Q σ (upd H1 a (.ins C dx (putF f v fs)))
theorem pg_fld (ho : PE X o to) : PG X (.Attribute o f pos) (gFld X.K to f) := by
  constructor
  intro pins s σ H v u Q I r h
  refine PySem.W.kas_attr (thn (ho.run pins s σ H _ I h) fun ov s1 hh => ?_)
  obtain ⟨x, H1, I1, rx, a, C, dx, fs, rfl, ha, c, n, l, q⟩ := hh
  cases rx
  exact setattr_ok I1 ha c n l r fun s2 I2 => ⟨σ, _, I2, q⟩
end
end SE
namespace SE
open PySem PySem.Spec PyProof.Rows L2
theorem pe_or {X : Cx} {e : Expr} {t1 t2 : TE} (h1 : PE X e t1) (h2 : PE X e t2) : PE X e (fun σ H Q => t1 σ H Q ∨ t2 σ H Q) := ⟨fun pins s σ H Q I h => h.elim (h1.run pins s σ H Q I) (h2.run pins s σ H Q I)⟩
theorem skD_keys {K : PySem.W.Frag} {H : Hp} {kvs : List (Key × V)} {ss : Sk} (h : SkH K H kvs ss) : kvs.map (·.1) = (ss.map (·.1)).map Sum.inr := by
  induction h with
  | nil => rfl
  | cons a r ih => rw [List.map_cons, List.map_cons, List.map_cons, ih, a.1]
section
variable {P : Program} {w : World} {K : PySem.W.Frag} {mg : Str → Option Value} {base : Heap} {C : Addr} {x : Option Addr}
/-! ### names, stack, limit, len -/
def spNm (K : PySem.W.Frag) (C : Addr) (x : Option Addr) : Sp := fun vs H Q _ => ∃ (o L : Addr) (ct : Cn) (ss : Sk) (l : Lim) (ds : List Deed), vs = [.ref o] ∧ SesX K C x ct H o L ss l ds ∧ ss.length < 64 ∧
  ∀ (p : Addr) (ys : List Str) (H' : Hp), Same H H' → H p = none → H' p = some (.lst (ys.map V.str)) → ys.Perm (ss.map (·.1)) → sortedS ys = true → Q (.ref p) H'
theorem scNm : FnScope ["self"] ["self"] (defScope sSNames) := ⟨rfl, rfl, rfl, by decide +kernel, rfl, by decide +kernel, by decide +kernel⟩
theorem ok_nm {f : Addr} {fd : FuncData} (F : Fun K "names" "Session.names" sSNames f fd) (T : SCl K C) (ms : mg "sorted" = none) : FnOk P w K mg base CX0 1 f fd ["self"] (spNm K C x) := by
  refine F.ok scNm (fun vs H Q E h => ?_) (fun cdv A outer s H vs Q E hr h => ?_)
  · obtain ⟨o, L, ct, ss, l, ds, rfl, _⟩ := h
    rfl
  · obtain ⟨o, L, ct, ss, l, ds, rfl, hses, hl, k⟩ := h
    obtain ⟨dx, F, ws, h1, h2, ⟨oF, kvs, h3, h3'⟩, h4⟩ := hses.ex
    refine ⟨_, pss_one (ps_ret (pe_callB (call_sortedD rfl) (by rfl) ms (by decide +kernel) (pa_cons (pe_fld (pv 0) rfl) pa_nil))), ?_⟩
    exact ⟨_, rfl, o, C, dx, _, _, rfl, h1, T.cl, T.nF, rfl, F, kvs, ss.map (·.1), rfl, .inr ⟨oF, h3⟩, skD_keys h3', by rw [List.length_map]; exact hl, fun ys p hp hs hn => k p ys _ (Same.new hn) hn upd_same hp hs⟩
def spCn (K : PySem.W.Frag) : Sp := fun vs H Q _ => ∃ n : Str, vs = [.str n] ∧ Item n ∧ ∀ H', Same H H' → Q .non H'
theorem scCkn : FnScope ["name"] ["name"] (defScope sCheckName) := ⟨rfl, rfl, rfl, by decide +kernel, rfl, by decide +kernel, by decide +kernel⟩
theorem has_ckn (D : Def K mg "check_name" sCheckName) (G : Has P w K mg base "is_item" 1 ["value"] [] spIsItem) : Has P w K mg base "check_name" 2 ["name"] [] (spCn K) := by
  refine has_of D scCkn (fun _ _ _ _ _ _ us hl => match us, hl with | [_], _ => rfl) (fun xs H Q E h => ?_) (fun f cv A out s H xs Q E hr h => ?_)
  · obtain ⟨n, rfl, _⟩ := h
    rfl
  · obtain ⟨n, rfl, hn, k⟩ := h
    refine ⟨_, pss_one (ps_if (pt_not (pt_val (pe_has G hr (pa_cons (pv 0) pa_nil)))) pss_never pss_nil), ?_⟩
    exact ⟨_, rfl, n, rfl, hn, fun H' s' => ⟨true, rfl, iteF (k _ s')⟩⟩
def spStk (K : PySem.W.Frag) (C : Addr) (x : Option Addr) : Sp := fun vs H Q _ => ∃ (o L : Addr) (n : Str) (ct : Cn) (ss : Sk) (l : Lim) (ds : List Deed), vs = [.ref o, .str n] ∧ SesX K C x ct H o L ss l ds ∧ Item n ∧ ∀ (t : Addr) (H' : Hp), Same H H' → SqT K H' t ((getS ss n).map V.str) → Q (.ref t) H'
theorem scStk : FnScope ["self", "name"] ["self", "name"] (defScope sSStack) := ⟨rfl, rfl, rfl, by decide +kernel, rfl, by decide +kernel, by decide +kernel⟩
theorem ok_stk {f : Addr} {fd : FuncData} (F : Fun K "stack" "Session.stack" sSStack f fd) (T : SCl K C) (G : Has P w K mg base "check_name" 2 ["name"] [] (spCn K)) : FnOk P w K mg base CX0 3 f fd ["self", "name"] (spStk K C x) := by
  refine F.ok scStk (fun vs H Q E h => ?_) (fun cdv A outer s H vs Q E hr h => ?_)
  · obtain ⟨o, L, n, ct, ss, l, ds, rfl, _⟩ := h
    rfl
  · obtain ⟨o, L, n, ct, ss, l, ds, rfl, hses, hn, k⟩ := h
    have hu := room_u hr
    obtain ⟨dx, F, ws, h1, h2, ⟨oF, kvs, h3, h3'⟩, h4⟩ := hses.ex
    refine ⟨_, pss_cons (ps_expr (pe_has G hr (pa_cons (pv 1) pa_nil))) (pss_one (ps_ret (pe_dget2 hu (pe_fld (pv 0) rfl) (pv 1) (pe_tup pa_nil) ⟨rfl, rfl, rfl, rfl⟩))), ?_⟩
    refine ⟨_, rfl, n, rfl, hn, fun H1 s1 => ?_⟩
    refine ⟨_, rfl, o, C, dx, _, _, rfl, s1 _ _ h1, T.cl, T.nF, rfl, F, rfl, .inl ⟨_, .inr ⟨oF, s1 _ _ h3⟩⟩, _, rfl, by show 0 ≤ sizeLine; decide, fun U hU => ?_⟩
    have sU : Same H1 (upd H1 U (.tup [])) := Same.new hU
    have s2 := s1.trans sU
    refine ⟨_, .inl ⟨kvs, Sum.inr n, .inr ⟨oF, s2 _ _ h3⟩, rfl, rfl⟩, ?_⟩
    rcases skH_val (n := n) (skH_same h3' s2) with ⟨z1, z2⟩ | ⟨p, t2, z1, z2, z3⟩
    · rw [z2]
      refine k U _ s2 ?_
      unfold getS
      rw [z1]
      exact .of upd_same
    · rw [z2]
      refine k t2 _ s2 ?_
      unfold getS
      rw [z1]
      exact z3
abbrev sSLimit : Stmt := inClass sSession 8
abbrev sSSetLimit : Stmt := inClass sSession 10
abbrev sSUndo : Stmt := inClass sSession 11
abbrev sSEffect : Stmt := inClass sSession 12
abbrev sSCopy : Stmt := inClass sSession 13
abbrev sSTake : Stmt := inClass sSession 14
abbrev sSLen : Stmt := inClass sSession 15
abbrev sSEq : Stmt := inClass sSession 16
def spLi (K : PySem.W.Frag) (C : Addr) (x : Option Addr) : Sp := fun vs H Q _ => ∃ (o L : Addr) (ct : Cn) (ss : Sk) (l : Lim) (ds : List Deed), vs = [.ref o] ∧ SesX K C x ct H o L ss l ds ∧ Q (limV l) H
theorem scLi : FnScope ["self"] ["self"] (defScope sSLimit) := ⟨rfl, rfl, rfl, by decide +kernel, rfl, by decide +kernel, by decide +kernel⟩
theorem ok_limit {f : Addr} {fd : FuncData} (F : Fun K "limit" "Session.limit" sSLimit f fd) (T : SCl K C) : FnOk P w K mg base CX0 1 f fd ["self"] (spLi K C x) := by
  refine F.ok scLi (fun vs H Q E h => ?_) (fun cdv A outer s H vs Q E hr h => ?_)
  · obtain ⟨o, L, ct, ss, l, ds, rfl, _⟩ := h
    rfl
  · obtain ⟨o, L, ct, ss, l, ds, rfl, hses, k⟩ := h
    obtain ⟨dx, F, ws, h1, _⟩ := hses.ex
    exact ⟨_, pss_one (ps_ret (pe_fld (pv 0) rfl)), _, rfl, o, C, dx, _, _, rfl, h1, T.cl, T.nH, rfl, k⟩
def spLn (K : PySem.W.Frag) (C : Addr) (x : Option Addr) : Sp := fun vs H Q _ => ∃ (o L : Addr) (ct : Cn) (ss : Sk) (l : Lim) (ds : List Deed), vs = [.ref o] ∧ SesX K C x ct H o L ss l ds ∧ Q (.int (ds.length : Nat)) H
theorem scLn : FnScope ["self"] ["self"] (defScope sSLen) := ⟨rfl, rfl, rfl, by decide +kernel, rfl, by decide +kernel, by decide +kernel⟩
theorem ok_len {f : Addr} {fd : FuncData} (F : Fun K "__len__" "Session.__len__" sSLen f fd) (T : SCl K C) (B : Blt mg) : FnOk P w K mg base CX0 1 f fd ["self"] (spLn K C x) := by
  refine F.ok scLn (fun vs H Q E h => ?_) (fun cdv A outer s H vs Q E hr h => ?_)
  · obtain ⟨o, L, ct, ss, l, ds, rfl, _⟩ := h
    rfl
  · obtain ⟨o, L, ct, ss, l, ds, rfl, hses, k⟩ := h
    obtain ⟨dx, F, ws, h1, h2, h3, h4, _⟩ := hses.ex
    refine ⟨_, pss_one (ps_ret (pe_callB call_len_seq (by rfl) B.len PySem.boot_len (pa_cons (pe_fld (pv 0) rfl) pa_nil))), ?_⟩
    have e := paired_len h4
    refine ⟨_, rfl, o, C, dx, _, _, rfl, h1, T.cl, T.nD, rfl, L, _, rfl, .inl (.of h2), ?_⟩
    rw [e]
    exact k
/-! ### push, pop -/
def spPp (K : PySem.W.Frag) (C CE : Addr) (x : Option Addr) (c : Bool) : Sp := fun vs H Q E => ∃ (o L : Addr) (n z : Str) (ct : Cn) (ss : Sk) (l : Lim) (ds : List Deed) (m b : Nat), vs = [.ref o, .str n, .str z] ∧ SesX K C x ct H o L ss l ds ∧ Item n ∧ Item z ∧ SkOk ss m b ∧ m ≤ 90000 ∧ b ≤ 4000 ∧ ds.length ≤ 100000 ∧ ct.length ≤ 100000 ∧
  (∀ ss2, perfS l [(c, n, z)] ss = some ss2 → ∀ H', Keep (ownS o L x) H H' → SesX K C x ct H' o L (cleanS ss2) l (ds ++ [([(c, n, z)], ss, l)]) → Q .non H') ∧
  (perfS l [(c, n, z)] ss = none → ∀ (d : Addr) (H' : Hp), Keep (ownS o L x) H H' → SesX K C x (bumpX x n ct) H' o L ss l ds → H d = none → H' d = some (.xd [("index", .int 0)]) → E (.ref CE) (some d) H')
theorem scPu' : FnScope ["self", "name", "item"] ["self", "name", "item"] (defScope sSPush) := ⟨rfl, rfl, rfl, by decide +kernel, rfl, by decide +kernel, by decide +kernel⟩
theorem scPo' : FnScope ["self", "name", "item"] ["self", "name", "item"] (defScope sSPop) := ⟨rfl, rfl, rfl, by decide +kernel, rfl, by decide +kernel, by decide +kernel⟩
theorem pp_fin {H : Hp} {Q : VK} {o L CE : Addr} {c : Bool} {n z : Str} {ct : Cn} {ss : Sk} {l : Lim} {ds : List Deed} {m b : Nat} {E : XK} (hses : SesX K C x ct H o L ss l ds) (hn : Item n) (hz : Item z) (ok : SkOk ss m b) (hm : m ≤ 90000) (hb : b ≤ 4000) (hdl : ds.length ≤ 100000) (hct : ct.length ≤ 100000)
    (k : ∀ ss2, perfS l [(c, n, z)] ss = some ss2 → ∀ H', Keep (ownS o L x) H H' → SesX K C x ct H' o L (cleanS ss2) l (ds ++ [([(c, n, z)], ss, l)]) → Q .non H')
    (kE : perfS l [(c, n, z)] ss = none → ∀ (d : Addr) (H' : Hp), Keep (ownS o L x) H H' → SesX K C x (bumpX x n ct) H' o L ss l ds → H d = none → H' d = some (.xd [("index", .int 0)]) → E (.ref CE) (some d) H') :
    ∀ t, H t = none → ∀ a, upd H t (.tup [.str (act c), .str n, .str z]) a = none → spPf K C CE x [.ref o, .ref a] (upd (upd H t (.tup [.str (act c), .str n, .str z])) a (.lst [.ref t])) Q E := by
  intro t ht a ha
  have s1 : Same H (upd H t (.tup [.str (act c), .str n, .str z])) := Same.new ht
  have s2 := Same.new (o := .lst [.ref t]) ha
  have hT := s2 _ _ (upd_same (H := H) (a := t) (o := .tup [.str (act c), .str n, .str z]))
  have hA : upd (upd H t (.tup [.str (act c), .str n, .str z])) a (.lst [.ref t]) a = some (.lst [.ref t]) := upd_same
  have s12 := s1.trans s2
  generalize upd (upd H t (.tup [.str (act c), .str n, .str z])) a (.lst [.ref t]) = H2 at hT hA s12 ⊢
  have lo := hses.loose
  refine ⟨o, L, a, ct, ss, l, ds, [.ref t], [(c, n, z)], m, b, rfl, hses.same s12, .inl (.of hA), (by show 1 ≤ 1000; decide), .cons ⟨t, rfl, .of hT⟩ .nil, fun s ms => by rw [List.mem_singleton.mp ms]; exact ⟨hn, hz⟩, ok, hm, hb, hdl, hct, fun ss2 hp H' k' hs' => k ss2 hp H' ((Keep.same lo s12).trans k') hs', fun j s sj hj h0 h1 d H' k' hs' hd hx => ?_⟩
  cases j with
  | zero =>
    cases hj
    exact kE h1 d H' ((Keep.same lo s12).trans k') hs' (s12.free hd) hx
  | succ j => cases hj
theorem ok_spush {f : Addr} {fd : FuncData} {CE : Addr} (F : Fun K "push" "Session.push" sSPush f fd) (T : SCl K C) (PF : MethHasX P w K mg base C "perform" 5 ["self", "steps"] (spPf K C CE x)) : FnOk P w K mg base (L2.CX P w) 6 f fd ["self", "name", "item"] (spPp K C CE x true) := by
  refine F.okX scPu' (fun vs H Q E h => ?_) (fun cdv A outer s H vs Q E hr h => ?_)
  · obtain ⟨o, L, n, z, ct, ss, l, ds, m, b, rfl, _⟩ := h
    rfl
  · obtain ⟨o, L, n, z, ct, ss, l, ds, m, b, rfl, hses, hn, hz, ok, hm, hb, hdl, hct, k, kE⟩ := h
    obtain ⟨dx, F, ws, h1, _⟩ := hses.ex
    refine ⟨_, pss_one (ps_expr (pe_mX PF (fun σ => passAt tkX σ) (pv 0) T.cl hr (pa_cons (pe_lst (pa_cons (pe_tup (pa_cons pe_str (pa_cons (pv 1) (pa_cons (pv 2) pa_nil)))) pa_nil)) pa_nil))), ?_⟩
    exact ⟨_, rfl, o, dx, _, rfl, h1, sX_none (by decide) (by decide) (by decide) (by decide), _, rfl, _, rfl, by show 3 ≤ sizeLine; decide, fun t ht => ⟨by show 1 ≤ sizeLine; decide, fun a ha => pp_fin (c := true) hses hn hz ok hm hb hdl hct k kE t ht a ha⟩⟩
theorem ok_spop {f : Addr} {fd : FuncData} {CE : Addr} (F : Fun K "pop" "Session.pop" sSPop f fd) (T : SCl K C) (PF : MethHasX P w K mg base C "perform" 5 ["self", "steps"] (spPf K C CE x)) : FnOk P w K mg base (L2.CX P w) 6 f fd ["self", "name", "item"] (spPp K C CE x false) := by
  refine F.okX scPo' (fun vs H Q E h => ?_) (fun cdv A outer s H vs Q E hr h => ?_)
  · obtain ⟨o, L, n, z, ct, ss, l, ds, m, b, rfl, _⟩ := h
    rfl
  · obtain ⟨o, L, n, z, ct, ss, l, ds, m, b, rfl, hses, hn, hz, ok, hm, hb, hdl, hct, k, kE⟩ := h
    obtain ⟨dx, F, ws, h1, _⟩ := hses.ex
    refine ⟨_, pss_one (ps_expr (pe_mX PF (fun σ => passAt tkX σ) (pv 0) T.cl hr (pa_cons (pe_lst (pa_cons (pe_tup (pa_cons pe_str (pa_cons (pv 1) (pa_cons (pv 2) pa_nil)))) pa_nil)) pa_nil))), ?_⟩
    exact ⟨_, rfl, o, dx, _, rfl, h1, sX_none (by decide) (by decide) (by decide) (by decide), _, rfl, _, rfl, by show 3 ≤ sizeLine; decide, fun t ht => ⟨by show 1 ≤ sizeLine; decide, fun a ha => pp_fin (c := false) hses hn hz ok hm hb hdl hct k kE t ht a ha⟩⟩
end
end SE
namespace SE
open PySem PySem.Spec PyProof.Rows L2
section
variable {P : Program} {w : World} {K : PySem.W.Frag} {mg : Str → Option Value} {base : Heap} {C : Addr} {x : Option Addr}
/-! ### check_heights, which may refuse -/
def spChX (K : PySem.W.Frag) (CL : Addr) : Sp := fun xs H Q E => ∃ (d : Addr) (ss : Sk) (m b : Nat) (l : Lim), xs = [.ref d, limV l] ∧ (SkD K H d ss ∨ SkF K H d ss) ∧ SkOk ss m b ∧ m ≤ 100000 ∧ ((∀ p ∈ ss, high l p.2.length = false) → ∀ H', Same H H' → Q .non H') ∧
  ((∃ p ∈ ss, high l p.2.length = true) → ∀ e H', Same H H' → H e = none → H' e = some (.xd [("limit", limV l)]) → E (.ref CL) (some e) H')
theorem hasX_ch {CL : Addr} {bm : List Value} (D : Def K mg "check_heights" sCheckHeights) (G : Has P w K mg base "is_too_high" 1 ["height", "limit"] [] spHighL) (TL : XvC P w K mg base "LimitExceeded" "LimitExceeded.__init__" "limit" CL bm) (B : Blt mg) (ma : mg "any" = none) : HasX P w K mg base "check_heights" 3 ["stacks", "limit"] [] (spChX K CL) := by
  refine hasX_of D scCkH (fun _ _ _ _ _ _ us hl => match us, hl with | [_, _], _ => rfl) (fun xs H Q E h => ?_) (fun f cv A out s H xs Q E hr h => ?_)
  · obtain ⟨d, ss, m, b, l, rfl, _⟩ := h
    rfl
  · obtain ⟨d, ss, m, b, l, rfl, hd, ok, hm, k, kE⟩ := h
    have hr1 : Room 1 _ := hr.mono (by decide)
    have lcP : ∀ {X : Cx}, True := fun {X} => trivial
    refine ⟨_, pss_one (ps_if (pt_val (pe_callB (cr_any rfl) (by rfl) ma (by decide +kernel) (pa_cons
        (pe_or (pe_lock (pe_lc (own := [("stack", 2)]) (g := gName 2) (tt := tYes) (te := tCall spHighL [] E0 (tCons (tCB (Evl.rLenS K) (tCons (tVar 2) tNil)) (tCons (tVar 1) tNil))) rfl scCkH.nd (pi_values (pv 0)) (blkOk_by (own := [("stack", 2)]) (N := nCh) (sc := defScope sCheckHeights) (by decide +kernel))
          (fun _ _ _ _ _ => pg_name (i := 2) scCkH.nd rfl (.inl rfl)) (fun _ _ _ _ _ => pts_nil) (fun _ _ _ _ _ => pe_has G hr1 (pa_cons (pe_callB call_len_seq (by rfl) B.len PySem.boot_len (pa_cons (pv 2) pa_nil)) (pa_cons (pv 1) pa_nil)))))
        (pe_lc (own := [("stack", 2)]) (g := gName 2) (tt := tYes) (te := tCall spHighL [] E0 (tCons (tCB (Evl.rLenS K) (tCons (tVar 2) tNil)) (tCons (tVar 1) tNil))) rfl scCkH.nd (pi_values (pv 0)) (blkOk_by (own := [("stack", 2)]) (N := nCh) (sc := defScope sCheckHeights) (by decide +kernel))
          (fun _ _ _ _ _ => pg_name (i := 2) scCkH.nd rfl (.inl rfl)) (fun _ _ _ _ _ => pts_nil) (fun _ _ _ _ _ => pe_has G hr1 (pa_cons (pe_callB call_len_seq (by rfl) B.len PySem.boot_len (pa_cons (pv 2) pa_nil)) (pa_cons (pv 1) pa_nil))))) pa_nil))) (pss_one (ps_raiseV rfl TL hr tkX (pa_cons (pv 1) pa_nil))) pss_nil), ?_⟩
    have yes : ∀ {Hx : Hp}, Same H Hx → (ss.map fun p => high l p.2.length).any id = true → ∀ e H', Same Hx H' → Hx e = none → H' e = some (.xd [("limit", limV l)]) → E (.ref CL) (some e) H' := fun {Hx} sx c e H' s' he hx => by
      obtain ⟨y, my, hy⟩ := List.any_eq_true.mp c
      obtain ⟨p, mp, rfl⟩ := List.mem_map.mp my
      exact kE ⟨p, mp, hy⟩ e H' (sx.trans s') (sx.free he) hx
    have no : ∀ {Hx : Hp}, Same H Hx → (ss.map fun p => high l p.2.length).any id = false → Q .non Hx := fun {Hx} sx c => by
      refine k (fun p mp => ?_) _ sx
      cases q : high l p.2.length with
      | false => rfl
      | true =>
        rw [List.any_eq_true.mpr ⟨true, List.mem_map.mpr ⟨p, mp, q⟩, rfl⟩] at c
        cases c
    have step : ∀ {kvs : List (Key × V)} {HF H2 : Hp} {DD : Addr} {j : Nat} {v : V} {k' : Key}, SkH K HF kvs ss → kvs[j]? = some (k', v) → ∃ p t, ss[j]? = some p ∧ v = .ref t ∧ SqT K HF t (p.2.map V.str) := fun {kvs HF H2 DD j v k'} sF hkv => by
      obtain ⟨p, hp, e1, t, e2, hT⟩ := paired_at sF hkv
      exact ⟨p, t, hp, e2, hT⟩
    rcases hd with ⟨kvs, hd, hS⟩ | ⟨od, kvs, hd, hS⟩
    · refine .inl ⟨d, .dK kvs, hd, mutK, fun od => ?_⟩
      have hF : upd H d (.frz od (.dK kvs)) d = some (.frz od (.dK kvs)) := upd_same
      have sF : SkH K (upd H d (.frz od (.dK kvs))) kvs ss := skH_upd (.dK hd) hS
      generalize eF : upd H d (.frz od (.dK kvs)) = HF at hF sF
      have lk : kvs.length = ss.length := paired_len sF
      refine ⟨_, rfl, d, od, kvs, rfl, hF, fun DD hDD => lc_it walk_values (fun j H2 => H2 DD = some (.lst (((ss.take j).map fun p => high l p.2.length).map V.bl)) ∧ Same HF H2) ⟨upd_same, Same.new hDD⟩ (fun j H2 _ q => q.2 _ _ hF) ?_ ?_⟩
      · rintro j x H2 H3 hj ⟨h2, s2⟩ ⟨eH, k', hkv⟩
        rw [eH]
        obtain ⟨p, t, hp, e2, hT⟩ := step (H2 := H2) (DD := DD) sF hkv
        subst e2
        have jl := (List.getElem?_eq_some_iff.mp hp).1
        have := ok.len
        refine ⟨rfl, yes_in ⟨_, rfl, t, _, rfl, .inr (Same.tup s2 hT), _, rfl, p.2.length, l, by rw [List.length_map]; rfl, _, h2, by rw [List.length_map, List.length_map, List.length_take, sizeLine_eq]; omega, ?_, Same.free2 s2 hDD⟩⟩
        rw [upd_same, List.take_add_one, hp, List.map_append, List.map_append]
        rfl
      · rintro H2 ⟨h2, s2⟩
        rw [lk, List.take_length] at h2
        have hF2 := s2 _ _ hF
        have dD : DD ≠ d := fun q => by rw [q, hF2] at h2; cases h2
        have sB := Same.back hd eF.symm s2
        refine ⟨hF2, DD, _, rfl, .of (by rw [upd_ne dD]; exact h2), ?_⟩
        cases c : (ss.map fun p => high l p.2.length).any id with
        | true => exact ⟨true, rfl, iteT ⟨_, rfl, mk_red fun e he => yes sB c e _ (Same.new he) he upd_same⟩⟩
        | false => exact ⟨false, rfl, iteF (no sB c)⟩
    · refine .inr ?_
      have lk : kvs.length = ss.length := paired_len hS
      refine ⟨_, rfl, d, od, kvs, rfl, hd, fun DD hDD => lc_it walk_values (fun j H2 => H2 DD = some (.lst (((ss.take j).map fun p => high l p.2.length).map V.bl)) ∧ Same H H2) ⟨upd_same, Same.new hDD⟩ (fun j H2 _ q => q.2 _ _ hd) ?_ ?_⟩
      · rintro j x H2 H3 hj ⟨h2, s2⟩ ⟨eH, k', hkv⟩
        rw [eH]
        obtain ⟨p, t, hp, e2, hT⟩ := step (H2 := H2) (DD := DD) hS hkv
        subst e2
        have jl := (List.getElem?_eq_some_iff.mp hp).1
        have := ok.len
        refine ⟨rfl, yes_in ⟨_, rfl, t, _, rfl, .inr (Same.tup s2 hT), _, rfl, p.2.length, l, by rw [List.length_map]; rfl, _, h2, by rw [List.length_map, List.length_map, List.length_take, sizeLine_eq]; omega, ?_, Same.free2 s2 hDD⟩⟩
        rw [upd_same, List.take_add_one, hp, List.map_append, List.map_append]
        rfl
      · rintro H2 ⟨h2, s2⟩
        rw [lk, List.take_length] at h2
        refine ⟨DD, _, rfl, .of h2, ?_⟩
        cases c : (ss.map fun p => high l p.2.length).any id with
        | true => exact ⟨true, rfl, iteT ⟨_, rfl, mk_red fun e he => yes s2 c e _ (Same.new he) he upd_same⟩⟩
        | false => exact ⟨false, rfl, iteF (no s2 c)⟩
/-! ### set_limit -/
def spSl (K : PySem.W.Frag) (C CL : Addr) (x : Option Addr) : Sp := fun vs H Q E => ∃ (o L : Addr) (ct : Cn) (ss : Sk) (l l2 : Lim) (ds : List Deed) (m b : Nat), vs = [.ref o, limV l2] ∧ SesX K C x ct H o L ss l ds ∧ LimOk l2 ∧ SkOk ss m b ∧ m ≤ 100000 ∧ ds.length ≤ 100000 ∧
  ((∀ p ∈ ss, high l2 p.2.length = false) → ∀ H', Keep (ownS o L x) H H' → SesX K C x ct H' o L ss l2 (ds ++ [([], ss, l)]) → Q .non H') ∧
  ((∃ p ∈ ss, high l2 p.2.length = true) → ∀ e H', Same H H' → H e = none → H' e = some (.xd [("limit", limV l2)]) → E (.ref CL) (some e) H')
theorem scSl : FnScope ["self", "value"] ["self", "value"] (defScope sSSetLimit) := ⟨rfl, rfl, rfl, by decide +kernel, rfl, by decide +kernel, by decide +kernel⟩
theorem ok_setl {f : Addr} {fd : FuncData} {CL : Addr} (F : Fun K "set_limit" "Session.set_limit" sSSetLimit f fd) (T : SCl K C) (GL : Has P w K mg base "check_limit" 4 ["limit"] [] spLim2) (GH : HasX P w K mg base "check_heights" 3 ["stacks", "limit"] [] (spChX K CL)) (AD : MethHas P w K mg base C "add_deed" 1 ["self", "steps", "stacks", "limit"] (spAd K C x)) :
    FnOk P w K mg base (L2.CX P w) 5 f fd ["self", "value"] (spSl K C CL x) := by
  refine F.okX scSl (fun vs H Q E h => ?_) (fun cdv A outer s H vs Q E hr h => ?_)
  · obtain ⟨o, L, ct, ss, l, l2, ds, m, b, rfl, _⟩ := h
    rfl
  · obtain ⟨o, L, ct, ss, l, l2, ds, m, b, rfl, hses, hl2, ok, hm, hdl, k, kE⟩ := h
    have hr3 : Room 3 _ := hr.mono (by decide)
    have hr1 : Room 1 _ := hr.mono (by decide)
    obtain ⟨dx, F, ws, h1, h2, ⟨oF, kvs, h3, h3'⟩, h4, h5⟩ := hses.ex
    have lo := hses.loose
    refine ⟨_, pss_cons (ps_expr (pe_has GL hr (pa_cons (pv 1) pa_nil))) (pss_cons (ps_expr (pe_hasX GH hr3 tkX (pa_cons (pe_fld (pv 0) rfl) (pa_cons (pv 1) pa_nil))))
      (pss_one (ps_expr (pe_mH1 AD (pv 0) T.cl hr1 (pa_cons (pe_frz (pe_lst pa_nil)) (pa_cons (pe_fld (pv 0) rfl) (pa_cons (pv 1) pa_nil))))))), ?_⟩
    refine ⟨_, rfl, l2, rfl, hl2, ?_⟩
    refine ⟨_, rfl, o, C, dx, _, _, rfl, h1, T.cl, T.nF, rfl, _, rfl, F, ss, m, b, l2, rfl, .inr ⟨oF, kvs, h3, h3'⟩, ok, hm, fun hh H1 s1 => ?_, fun hh e H' s' he hx => kE hh e H' s' he hx⟩
    have h11 := s1 _ _ h1
    refine ⟨_, rfl, o, dx, _, rfl, h11, sX_none (by decide) (by decide) (by decide) (by decide), by show 0 ≤ sizeLine; decide, fun A1 hA => ?_⟩
    refine ⟨A1, .lst [], rfl, upd_same, trivial, fun oa => ?_⟩
    have sB : Same H1 (upd (upd H1 A1 (.lst [])) A1 (.frz oa (.lst []))) := Same.free2 (Same.new hA) hA
    have hB : upd (upd H1 A1 (.lst [])) A1 (.frz oa (.lst [])) A1 = some (.frz oa (.lst [])) := upd_same
    generalize upd (upd H1 A1 (.lst [])) A1 (.frz oa (.lst [])) = H2 at sB hB ⊢
    have s02 := s1.trans sB
    exact ⟨_, rfl, o, C, dx, _, _, rfl, s02 _ _ h1, T.cl, T.nF, rfl, _, rfl, o, L, A1, F, ct, ss, ss, l, l2, ds, [], [], oa, rfl, hses.same s02, hB, .nil, ⟨oF, kvs, s02 _ _ h3, skH_same h3' s02⟩, hdl, fun H8 k8 hs8 => k hh H8 ((Keep.same lo s02).trans k8) hs8⟩
end
end SE
/-! A def with a keyword-only parameter and **d behind its first one, called with that one alone: the default, and an empty dict. -/
namespace SE
open PySem PySem.Spec PyProof.Rows L2 StX
section
variable {CX : CXT} {P : Program} {w : World} {K : PySem.W.Frag} {mg : Str → Option Value} {base : Heap} {k : Nat} {f D : Addr} {name qual : Str} {params : Arguments} {body : List Stmt} {scope : Scope} {dV doc pm cdv ct oc dv : Value} {an od : Option Addr}
  {osl : Array (Option Value)} {N : List Str} {sp : Sp} {p1 y pd : Str} {yv : V}
theorem fn_kwd0 (lk : K.lookup f = some ⟨oc, od, .func (PySem.W.fnOf name qual params body scope dV (.ref D) doc pm an cdv ct), osl⟩) (hcd : PySem.W.codeIn K cdv qual = true) (S : FnScope N [p1, y, pd] scope) (hCX : CXUp CX)
    (hy : PySem.W.nsIn K D y = some (some dv)) (ry : RelV yv dv)
    (hb : ∀ u : Value, ∃ (β γ : Type) (k1 : Option Value → Sem β) (k2 : β → Sem γ) (k3 : γ → Sem (List (Str × Value))) (a : β), bindArgs (PySem.W.fnOf name qual params body scope dV (.ref D) doc pm an cdv ct) ⟨[u], []⟩ = ((nsGet D y >>= k1) >>= k2) >>= k3 ∧ k1 (some dv) = pure a ∧
      (k2 a >>= k3) = ((alloc ({ cls := .type "dict", data := .dict #[] } : Obj) : Sem Addr) >>= fun d => pure [(p1, u), (y, dv), (pd, Value.ref d)]))
    (hbody : ∀ (A : Around) (outer : List Env) (s : Shared) (H : Hp) (vs : List V) (Q : VK) (E : XK), Room k (A.deeper (envOfC qual scope s.heap.objs.size f cdv)) → sp vs H Q E →
      ∃ t, PSs (cxOf CX P w K mg base N qual scope f cdv A outer s H E) body t ∧ t { nx := fun _ H' => Q .non H', rt := Q } (start N vs) H) :
    FnR P w K mg base CX (k + 1) f (fun vs H Q E => ∃ x, vs = [x] ∧ ∀ d, H d = Option.none → sp [x, yv, V.ref d] (upd H d (.dK [])) Q E) := by
  intro A outer s H us vs Q E hr e0 r hsp
  obtain ⟨x, ev, hq⟩ := hsp
  subst ev
  obtain ⟨u, eu, rx⟩ := vals1 r
  subst eu
  have KX : K.In s.heap := e0.mod.kin.keeps fun b o e => (e0.bs b o e).1
  have hn : H s.heap.objs.size = Option.none := e0.hok.fresh (Nat.le_refl _)
  refine run_bnd lk hcd S hr e0 (G := fun xs H2 => ∃ d, H d = Option.none ∧ xs = [x, yv, V.ref d] ∧ H2 = upd H d (.dK [])) (fun A' Ex Q' h => ?_) fun s2 H2 xs ⟨d, hd, ex, eH⟩ hr' => ?_
  · obtain ⟨β, γ, k1, k2, k3, a, e1, e2, e3⟩ := hb u
    rw [e1, bind_assoc]
    have l1 : PySem.W.Looks (model P w) s.heap (nsGet D y >>= k1) a := (PySem.W.looks_nsIn KX hy).andThen (PySem.W.Looks.of_pure e2)
    refine wpAny_bind (l1.here ?_)
    show wpAny _ _ (k2 a >>= k3) _ _ _
    rw [e3]
    refine wpAny_bind (wpAny_alloc (wpAny_pure ?_))
    have un := un_laid (fs := frs outer) (s := s) (o := ({ cls := .type "dict", data := .dict #[] } : Obj)) (u := .dK []) hn
    have e2 := env0_laid (u := .dK []) (o := ({ cls := .type "dict", data := .dict #[] } : Obj)) e0 (dk_empty _ (env0_big e0))
    exact h _ _ [x, yv, V.ref s.heap.objs.size] [u, dv, Value.ref s.heap.objs.size] e2 un rfl (fun e s' => hCX outer s H _ _ E e s' un (fun b o q => Heap.get?_push_of_some _ q) rfl) (.cons rx (.cons ry (.cons rfl .nil))) rfl ⟨_, hn, rfl, rfl⟩
  · subst ex eH
    exact hbody A outer s2 _ _ Q E hr' (hq d hd)
end
/-! ### C(), by a promise of its __init__ on the instance alone -/
section
variable {X : Cx} {CX : CXT} {k : Nat} {f C : Addr} {sp : Sp} {E : XK} {x : Str} {p pos : Pos}
def tMakeR0 (C : Addr) (sp : Sp) (E : XK) : TE := fun _ H Q => ∀ x dx, H x = Option.none → H dx = Option.none → dx ≠ x → sp [V.ref x] (upd (upd H dx (.own x)) x (.ins C dx [])) (fun v H2 => v = .non ∧ Q (.ref x) H2) E
theorem pe_makeR0 (M : Mk X.K C f) (F : FnR X.prog X.w X.K X.mg X.base CX k f sp) (hr : Room (k + 1) X.A) (hg : Gl X x) (hm : X.mg x = some (.ref C)) (hx : Passes CX X E) (hdb : (x == ("__debug__" : Str)) = false := by decide) : PE X (.Call (.Name x p) [] [] pos) (tMakeR0 C sp E) := by
  refine ⟨fun pins s σ H Q I h => ?_⟩
  refine wpAny_Call_Name_kw (ld_glob I hg hm ?_ hdb)
  refine PySem.W.callWith_K0 I.kIn M.kp ?_
  exact run_makeR (us := []) (vs := []) M F hr hx I .nil h
end
end SE
/-! A def with a keyword-only parameter and **d behind its first one, called with keywords: what it does not name goes into a new dict. -/
namespace SE
open PySem PySem.Spec PyProof.Rows L2 StX
theorem upd_pushed (h : Heap) (o : Obj) (f : Obj → Obj) : (h.push o).update h.objs.size f = h.push (f o) := by
  obtain ⟨objs, life⟩ := h
  simp only [Heap.update, Heap.push, Heap.mk.injEq, and_true]
  apply Array.ext_getElem?
  intro i
  simp only [Array.getElem?_modify, Array.getElem?_push]
  by_cases h1 : objs.size = i
  · subst h1
    simp
  · have h2 : ¬ i = objs.size := fun q => h1 q.symm
    simp [h1, h2]
section
variable {P : Program} {w : World} {A : Around} {E : Value → Shared → Prop} {h0 : Heap}
open PySem.W in
theorem ns_push {s : Shared} {es : List DictEntry} {n : Nat} {k : Str} {v : Value} {Q : Unit → Shared → Prop} (eh : s.heap = h0.push (dictOf es n)) (hs : ∀ e ∈ es, e.key.isStr k = false) (hr : ∀ e ∈ es, e.refKey = false)
    (h : Q () { s with heap := h0.push (dictOf (es ++ [⟨PyData.keyHash w.params k, .str k s.toks, v⟩]) (n + 1)), toks := s.toks + 1 }) : wpAny (model P w) A (nsSet h0.objs.size k v) Q E s := by
  have e1 : es.any (·.key.isStr k) = false := by
    cases q : es.any (·.key.isStr k) with
    | false => rfl
    | true => obtain ⟨e, he, z⟩ := List.any_eq_true.mp q; rw [hs e he] at z; cases z
  have e2 : es.any (·.refKey) = false := by
    cases q : es.any (·.refKey) with
    | false => rfl
    | true => obtain ⟨e, he, z⟩ := List.any_eq_true.mp q; rw [hr e he] at z; cases z
  have e : Obj.putName k (PyData.keyHash w.params k) (.str k s.toks) v (dictOf es n) = dictOf (es ++ [⟨PyData.keyHash w.params k, .str k s.toks, v⟩]) (n + 1) := by
    rw [putName_dict, putL_new hs]
    show dictOf _ (if es.any (·.key.isStr k) then n else n + 1) = _
    rw [e1, if_neg Bool.false_ne_true]
  have D : s.heap.get? h0.objs.size = some (dictOf es n) := by
    rw [eh]
    exact Heap.get?_push_size _ rfl
  have c : aRefKeyMayBeTheName k es.toArray = false := by
    rw [aRefKeyMayBeTheName_at, ← Array.any_toList, ← Array.any_toList]
    show (!es.any (·.key.isStr k) && es.any (·.refKey)) = false
    rw [e2, Bool.and_false]
  have U : s.heap.update h0.objs.size (Obj.putName k (PyData.keyHash w.params k) (.str k s.toks) v) = h0.push (dictOf (es ++ [⟨PyData.keyHash w.params k, .str k s.toks, v⟩]) (n + 1)) := by
    rw [eh, upd_pushed, e]
  unfold nsSet
  refine wpAny_bind (wpAny_bind (wpAny_askSetting (wpAny_pure (wpAny_bind (wpAny_mkText (wpAny_bind (wpAny_loadPart D ?_)))))))
  dsimp only
  rw [c]
  refine wpAny_updatePart D ?_
  show Q () { s with heap := s.heap.update h0.objs.size (Obj.putName k (PyData.keyHash w.params k) (.str k s.toks) v), toks := s.toks + 1 }
  rw [U]
  exact h
open PySem.W in
theorem fill_push {Q : PUnit → Shared → Prop} : ∀ (ex : List (Str × Value)) (s : Shared) (es : List DictEntry) (n : Nat), s.heap = h0.push (dictOf es n) → (∀ e ∈ es, ∀ x ∈ ex, e.key.isStr x.1 = false) → (∀ e ∈ es, e.refKey = false) → (ex.map (·.1)).Nodup →
    Q ⟨⟩ { s with heap := h0.push (dictOf (es ++ kwEs w.params s.toks ex) (n + ex.length)), toks := s.toks + ex.length } →
    wpAny (model P w) A (forIn ex PUnit.unit fun x _ => (nsSet h0.objs.size x.1 x.2 >>= fun _ => pure (ForInStep.yield PUnit.unit))) Q E s
  | [], s, es, n, eh, _, _, _, h => by
    rw [List.forIn_nil]
    refine wpAny_pure ?_
    have e : es ++ kwEs w.params s.toks [] = es := List.append_nil _
    rw [e] at h
    have e2 : { s with heap := h0.push (dictOf es (n + ([] : List (Str × Value)).length)), toks := s.toks + ([] : List (Str × Value)).length } = s := by
      show { s with heap := h0.push (dictOf es n), toks := s.toks } = s
      rw [← eh]
    rw [e2] at h
    exact h
  | x :: r, s, es, n, eh, hs, hr, hn, h => by
    obtain ⟨hn1, hn2⟩ := List.nodup_cons.mp (show (x.1 :: r.map (·.1)).Nodup from hn)
    rw [List.forIn_cons]
    refine wpAny_bind (wpAny_bind (ns_push eh (fun e he => hs e he x (.head _)) hr (wpAny_pure ?_)))
    show wpAny (model P w) A (forIn r PUnit.unit fun x _ => (nsSet h0.objs.size x.1 x.2 >>= fun _ => pure (ForInStep.yield PUnit.unit))) Q E { s with heap := h0.push (dictOf (es ++ [⟨PyData.keyHash w.params x.1, .str x.1 s.toks, x.2⟩]) (n + 1)), toks := s.toks + 1 }
    refine fill_push r { s with heap := h0.push (dictOf (es ++ [⟨PyData.keyHash w.params x.1, .str x.1 s.toks, x.2⟩]) (n + 1)), toks := s.toks + 1 } _ _ rfl (fun e he y hy => ?_) (fun e he => ?_) hn2 ?_
    · rcases List.mem_append.mp he with he | he
      · exact hs e he y (.tail _ hy)
      · obtain rfl := List.mem_singleton.mp he
        show (x.1 == y.1) = false
        exact beq_eq_false_iff_ne.mpr fun q => hn1 (by rw [q]; exact List.mem_map_of_mem hy)
    · rcases List.mem_append.mp he with he | he
      · exact hr e he
      · obtain rfl := List.mem_singleton.mp he
        rfl
    · have t1 : s.toks + 1 + r.length = s.toks + (r.length + 1) := by omega
      have t2 : n + 1 + r.length = n + (r.length + 1) := by omega
      show Q ⟨⟩ { s with heap := h0.push (dictOf ((es ++ [⟨PyData.keyHash w.params x.1, .str x.1 s.toks, x.2⟩]) ++ kwEs w.params (s.toks + 1) r) (n + 1 + r.length)), toks := s.toks + 1 + r.length }
      rw [t1, t2, List.append_assoc]
      exact h
def exK {α : Type} (l : List (Str × α)) : List (Key × α) := l.map fun p => (Sum.inr p.1, p.2)
open PySem.W in
theorem mix_dict {ex : List (Str × Value)} (t : Tok) (n : Nat) (hn : (ex.map (·.1)).Nodup) : (h0.push (dictOf (kwEs w.params t ex) n)).DictOf (mixKind P w) h0.objs.size (exK ex) := by
  refine ⟨_, (kwEs w.params t ex).toArray, n, Heap.get?_push_size _ rfl, ⟨rfl, rfl, rfl⟩, rfl, fun e he => ?_, ?_, ?_⟩
  · obtain ⟨k, u, hk, hh⟩ := kwEs_key ex t e (List.mem_toArray.mp he)
    exact ⟨Sum.inr k, by rw [hk]; exact keyIs_str k u, hh.trans rfl⟩
  · show Pairs (mixKind P w) (kwEs w.params t ex) (exK ex)
    clear hn
    induction ex generalizing t with
    | nil => exact .nil
    | cons x r ih => exact .cons (keyIs_str x.1 t) rfl (ih (t + 1))
  · have e : (exK ex).map (·.1) = (ex.map (·.1)).map (Sum.inr : Str → Key) := by
      unfold exK
      rw [List.map_map, List.map_map]
      rfl
    rw [e]
    exact List.Pairwise.map _ (fun a b q z => q (Sum.inr.inj z)) hn
end
/-- a def by its promise on one value by position and some by keyword -/
def FnKw (P : Program) (w : World) (K : PySem.W.Frag) (mg : Str → Option Value) (base : Heap) (CX : CXT) (k : Nat) (f : Addr) (ks : List Str) (sp : V → List V → Hp → VK → XK → Prop) : Prop :=
  ∀ (A : Around) (outer : List Env) (s : Shared) (H : Hp) (u : Value) (x : V) (ws : List Value) (zs : List V) (Q : VK) (E : XK), Room k A → Env0 P w K mg base A outer s H → RelV x u → Vals zs ws → zs.length = ks.length → sp x zs H Q E →
    codeAny (model P w) A (.call (.ref f) ⟨[u], ks.zip ws⟩) (CR CX outer P w H s Q E) s
theorem FnKw.mono {P : Program} {w : World} {K : PySem.W.Frag} {mg : Str → Option Value} {base : Heap} {CX : CXT} {j k : Nat} {f : Addr} {ks : List Str} {sp : V → List V → Hp → VK → XK → Prop} (F : FnKw P w K mg base CX j f ks sp) (h : j ≤ k) : FnKw P w K mg base CX k f ks sp :=
  fun A outer s H u x ws zs Q E hr => F A outer s H u x ws zs Q E (hr.mono h)
theorem FnKw.imp {P : Program} {w : World} {K : PySem.W.Frag} {mg : Str → Option Value} {base : Heap} {CX : CXT} {k : Nat} {f : Addr} {ks : List Str} {sp sp' : V → List V → Hp → VK → XK → Prop} (F : FnKw P w K mg base CX k f ks sp) (h : ∀ x zs H Q E, sp' x zs H Q E → sp x zs H Q E) : FnKw P w K mg base CX k f ks sp' :=
  fun A outer s H u x ws zs Q E hr e0 rx rz hl hs => F A outer s H u x ws zs Q E hr e0 rx rz hl (h _ _ _ _ _ hs)
section
variable {CX : CXT} {P : Program} {w : World} {K : PySem.W.Frag} {mg : Str → Option Value} {base : Heap} {k : Nat} {f : Addr} {name qual : Str} {params : Arguments} {body : List Stmt} {scope : Scope} {dV kV doc pm cdv ct oc : Value} {an od : Option Addr}
  {osl : Array (Option Value)} {N : List Str} {sp : Sp} {p1 y pd : Str} {ks : List Str}
theorem fn_kw (lim : List Value → Value) (limv : List V → V) (ex : List Value → List (Str × Value)) (exV : List V → List (Str × V)) (lk : K.lookup f = some ⟨oc, od, .func (PySem.W.fnOf name qual params body scope dV kV doc pm an cdv ct), osl⟩) (hcd : PySem.W.codeIn K cdv qual = true) (S : FnScope N [p1, y, pd] scope) (hCX : CXUp CX)
    (hb : ∀ (u : Value) (ws : List Value), ws.length = ks.length → ∀ (A' : Around) (Ex : Value → Shared → Prop) (Q' : List (Str × Value) → Shared → Prop) (s : Shared), K.In s.heap →
      wpAny (model P w) A' ((alloc ({ cls := .type "dict", data := .dict #[] } : Obj) : Sem Addr) >>= fun d => (forIn (ex ws) PUnit.unit (fun x _ => (nsSet d x.1 x.2 >>= fun _ => pure (ForInStep.yield PUnit.unit))) >>= fun _ => pure [(p1, u), (y, lim ws), (pd, Value.ref d)])) Q' Ex s →
      wpAny (model P w) A' (bindArgs (PySem.W.fnOf name qual params body scope dV kV doc pm an cdv ct) ⟨[u], ks.zip ws⟩) Q' Ex s)
    (hn : ∀ ws : List Value, ws.length = ks.length → ((ex ws).map (·.1)).Nodup ∧ (ex ws).length ≤ sizeLine) (hrel : ∀ (zs : List V) (ws : List Value), Vals zs ws → zs.length = ks.length → RelV (limv zs) (lim ws) ∧ KV (exK (exV zs)) (exK (ex ws)))
    (hbody : ∀ (A : Around) (outer : List Env) (s : Shared) (H : Hp) (vs : List V) (Q : VK) (E : XK), Room k (A.deeper (envOfC qual scope s.heap.objs.size f cdv)) → sp vs H Q E →
      ∃ t, PSs (cxOf CX P w K mg base N qual scope f cdv A outer s H E) body t ∧ t { nx := fun _ H' => Q .non H', rt := Q } (start N vs) H) :
    FnKw P w K mg base CX (k + 1) f ks (fun x zs H Q E => ∀ d, H d = Option.none → sp [x, limv zs, V.ref d] (upd H d (.dK (exK (exV zs)))) Q E) := by
  intro A outer s H u x ws zs Q E hr e0 rx rz hl hq
  have lw : ws.length = ks.length := rz.length.symm.trans hl
  obtain ⟨hn1, hn2⟩ := hn ws lw
  obtain ⟨rl, rk⟩ := hrel zs ws rz hl
  have KX : K.In s.heap := e0.mod.kin.keeps fun b o e => (e0.bs b o e).1
  have hnn : H s.heap.objs.size = Option.none := e0.hok.fresh (Nat.le_refl _)
  refine run_bnd lk hcd S hr e0 (G := fun xs H2 => ∃ d, H d = Option.none ∧ xs = [x, limv zs, V.ref d] ∧ H2 = upd H d (.dK (exK (exV zs)))) (fun A' Ex Q' h => ?_) fun s2 H2 xs ⟨d, hd, ex', eH⟩ hr' => ?_
  · refine hb u ws lw _ _ _ _ KX (wpAny_bind (wpAny_alloc (wpAny_bind ?_)))
    refine fill_push (h0 := s.heap) (ex ws) { s with heap := s.heap.push (PySem.W.dictOf [] 0) } [] 0 rfl (fun e he => nomatch he) (fun e he => nomatch he) hn1 (wpAny_pure ?_)
    have dd := mix_dict (P := P) (w := w) (h0 := s.heap) (ex := ex ws) s.toks (0 + (ex ws).length) hn1
    have z1 : (exK (exV zs)).length ≤ sizeLine := by
      rw [Paired.length rk]
      unfold exK
      rw [List.length_map]
      exact hn2
    have sm : (s.heap.objs.size == sysModules) = false := beq_eq_false_iff_ne.mpr (Ne.symm (Nat.ne_of_lt (env0_big e0)))
    have new : ObjOk P w (upd H s.heap.objs.size (.dK (exK (exV zs)))) (s.heap.push (PySem.W.dictOf (PySem.W.kwEs w.params s.toks (ex ws)) (0 + (ex ws).length))) s.heap.objs.size (.dK (exK (exV zs))) := dk_new z1 sm rk dd
    have un := un_laid (fs := frs outer) (s := s) (o := PySem.W.dictOf (PySem.W.kwEs w.params s.toks (ex ws)) (0 + (ex ws).length)) (u := .dK (exK (exV zs))) hnn
    have e2 := env0_laid e0 new
    have e3 : Env0 P w K mg base A outer { s with heap := s.heap.push (PySem.W.dictOf (PySem.W.kwEs w.params s.toks (ex ws)) (0 + (ex ws).length)), toks := s.toks + (ex ws).length } (upd H s.heap.objs.size (.dK (exK (exV zs)))) := ⟨e2.frames, e2.mod, e2.bs, e2.bsz, e2.funs, e2.frf, e2.hok, e2.bare⟩
    exact h _ _ [x, limv zs, V.ref s.heap.objs.size] [u, lim ws, Value.ref s.heap.objs.size] e3 un rfl (fun e s' => hCX outer s H _ _ E e s' un (fun b o q => Heap.get?_push_of_some _ q) rfl) (.cons rx (.cons rl (.cons rfl .nil))) rfl ⟨_, hnn, rfl, rfl⟩
  · subst ex' eH
    exact hbody A outer s2 _ _ Q E hr' (hq d hd)
end
/-! ### C(k = v, ..), whichever keywords -/
section
variable {X : Cx} {CX : CXT} {k : Nat} {f C : Addr} {ks : List Str} {sp : V → List V → Hp → VK → XK → Prop} {x : Str} {p pos : Pos} {kws : List Keyword} {tk : TA} {ex : L2.St → XK}
def tMakeKw (C : Addr) (n : Nat) (sp : V → List V → Hp → VK → XK → Prop) (ex : L2.St → XK) (tk : TA) : TE := fun σ H Q => tk σ H fun zs H2 => zs.length = n ∧ ∀ b db, H2 b = Option.none → H2 db = Option.none → db ≠ b → sp (V.ref b) zs (upd (upd H2 db (.own b)) b (.ins C db [])) (fun v H3 => v = .non ∧ Q (.ref b) H3) (ex σ)
theorem run_makeKw {pins : List (Addr × Obj)} {σ : L2.St} {H : Hp} {s : Shared} {Q : VK} {ws : List Value} {zs : List V} (M : Mk X.K C f) (F : FnKw X.prog X.w X.K X.mg X.base CX k f ks sp) (room : Room (k + 1) X.A)
    (out : PassesAt CX X σ (ex σ)) (I : Inv X pins σ H s) (r2 : Vals zs ws) (l2 : zs.length = ks.length)
    (h : ∀ b db, H b = Option.none → H db = Option.none → db ≠ b → sp (V.ref b) zs (upd (upd H db (.own b)) b (.ins C db [])) (fun v H2 => v = .non ∧ Q (.ref b) H2) (ex σ)) :
    wpAny (model X.prog X.w) X.A (call (.ref C) [] (ks.zip ws)) (EP X pins σ Q) X.xe s := by
  have new := h (s.heap.objs.size + 1) s.heap.objs.size (I.hok.fresh (Nat.le_succ _)) (I.hok.fresh (Nat.le_refl _)) (Nat.ne_of_lt (Nat.lt_succ_self _))
  have made := Inv.made (C := C) I
  have run := F _ X.stack _ _ (Value.ref (s.heap.objs.size + 1)) (V.ref (s.heap.objs.size + 1)) ws zs _ (ex σ) (room.make C [] (ks.zip ws)) (made.env0.make C [] (ks.zip ws)) rfl r2 l2 new
  refine wpAny_call (make_map (f := f) I.kIn M.makes M.init (beq_iff_eq.mp M.fn) (codeAny_mono run fun res s2 done => ?_))
  match res, done with
  | .error ev, done => exact out pins _ _ ev s2 made done
  | .ok (.ret u), done =>
    obtain ⟨v, H2, I2, rel, ev, q⟩ := made.after done
    subst ev
    exact ⟨rel, V.ref (s.heap.objs.size + 1), H2, I2, rfl, q⟩
  | .ok .next, done => exact done.elim
  | .ok .brk, done => exact done.elim
  | .ok .cont, done => exact done.elim
theorem pe_makeKw (M : Mk X.K C f) (F : FnKw X.prog X.w X.K X.mg X.base CX k f ks sp) (room : Room (k + 1) X.A) (hm : X.mg x = some (.ref C)) (out : ∀ σ, PassesAt CX X σ (ex σ)) (hk : PK X kws tk)
    (hks : (backToKw pos (keywordEach kws X.env)).filterMap (·.1) = ks := by rfl) (hall : (backToKw pos (keywordEach kws X.env)).all (·.1.isSome) = true := by rfl) (hg : Gl X x := by rfl) (hd : (x == ("__debug__" : Str)) = false := by decide)
    (hpl : ((backTo pos (starEach [] X.env)).any (·.1) || (backToKw pos (keywordEach kws X.env)).any (·.1.isNone)) = false := by rfl) :
    PE X (.Call (.Name x p) [] kws pos) (tMakeKw C ks.length sp ex tk) := by
  refine ⟨fun pins s σ H Q I h => ?_⟩
  refine wpAny_Call_Name_kw (ld_glob I hg hm ?_ hd)
  refine PySem.W.callWith_KW0 (h₀ := X.base) I.ok.mod.kin M.kp hall ?_ hpl
  refine thn (hk.run pos pins s σ H _ I h) fun ws s2 ⟨zs, H2, I2, rz, l2, q2⟩ => ⟨I2.kIn, ?_⟩
  rw [hks]
  exact run_makeKw M F room (out σ) I2 rz l2 q2
end
end SE
namespace SE
open PySem PySem.Spec PyProof.Rows L2
section
variable {P : Program} {w : World} {K : PySem.W.Frag} {mg : Str → Option Value} {base : Heap} {C : Addr}
/-! ### Session(limit = .., name = ..) -/
def spSI (K : PySem.W.Frag) (C : Addr) : Sp := fun vs H Q _ => ∃ (x dx d : Addr) (kvs : List (Key × V)) (ss : Sk) (m b : Nat) (l : Lim), vs = [.ref x, limV l, .ref d] ∧ H x = some (.ins C dx []) ∧ H d = some (.dK kvs) ∧ SkH K H kvs ss ∧ SkOk ss m b ∧ m ≤ 100000 ∧ b ≤ 5000 ∧ LimOk l ∧ (∀ p ∈ ss, high l p.2.length = false) ∧
  ∀ L H', (∀ b o, H b = some o → b ≠ x → H' b = some o) → H L = none → SesX K C none [] H' x L (cleanS ss) l [] → Q .non H'
theorem scSI : FnScope ["self", "limit", "stacks"] ["self", "limit", "stacks"] (defScope sSInit) := ⟨rfl, rfl, rfl, by decide +kernel, rfl, by decide +kernel, by decide +kernel⟩
theorem sF_two (f h : V) : ((putF "highest_allowed" h (putF "filled" f [])).length < 1000) := by
  show 2 < 1000
  decide
theorem body_sinit {g : Addr} {cdv : Value} (T : SCl K C) (GL : Has P w K mg base "check_limit" 4 ["limit"] [] spLim2) (GS : Has P w K mg base "check_stacks" 4 ["stacks"] [] (spCkS K)) (GH : Has P w K mg base "check_heights" 2 ["stacks", "limit"] [] (spCkH K)) (GW : Has P w K mg base "without_empty" 1 ["stacks"] [] (spWe K))
    (A : Around) (outer : List Env) (s : Shared) (H : Hp) (vs : List V) (Q : VK) (E : XK) (hr : Room 4 (A.deeper (envOfC "Session.__init__" (defScope sSInit) s.heap.objs.size g cdv))) (h : spSI K C vs H Q E) :
    ∃ t, PSs (cxOf CX0 P w K mg base ["self", "limit", "stacks"] "Session.__init__" (defScope sSInit) g cdv A outer s H E) (defBody sSInit) t ∧ t { nx := fun _ H' => Q .non H', rt := Q } (L2.start ["self", "limit", "stacks"] vs) H := by
  obtain ⟨x, dx, d, kvs, ss, m, b, l, rfl, hx, hd, hS, ok, hm, hb, hl, hh, k⟩ := h
  have hr1 : Room 1 _ := hr.mono (by decide)
  have hr2 : Room 2 _ := hr.mono (by decide)
  refine ⟨_, pss_cons (ps_expr (pe_has GL hr (pa_cons (pv 1) pa_nil))) (pss_cons (ps_expr (pe_has GS hr (pa_cons (pv 2) pa_nil))) (pss_cons (ps_expr (pe_has GH hr2 (pa_cons (pv 2) (pa_cons (pv 1) pa_nil))))
    (pss_cons (ps_fld (pv 0) (pe_frz (pe_has GW hr1 (pa_cons (pv 2) pa_nil))) rfl) (pss_cons (ps_fld (pv 0) (pv 1) rfl) (pss_one (ps_fld (pv 0) (pe_lst pa_nil) rfl)))))), ?_⟩
  refine ⟨_, rfl, l, rfl, hl, ?_⟩
  have sd0 : SkD K H d ss := ⟨kvs, hd, hS⟩
  refine ⟨_, rfl, d, ss, m, b, rfl, sd0, ok, hm, hb, fun H1 s1 => ?_⟩
  refine ⟨_, rfl, _, rfl, d, ss, m, b, l, rfl, sd0.same s1, ok, hm, hh, fun H2 s2 => ?_⟩
  have s12 := s1.trans s2
  refine ⟨_, rfl, d, kvs, ss, m, b, rfl, s12 _ _ hd, skH_same hS s12, ok, hm, fun e kvs2 H3 s3 ne he hk3 => ?_⟩
  refine ⟨e, .dK kvs2, rfl, he, trivial, fun oe => ?_⟩
  have s4 : Same H2 (upd H3 e (.frz oe (.dK kvs2))) := Same.free2 s3 ne
  have hk4 : SkH K (upd H3 e (.frz oe (.dK kvs2))) kvs2 (cleanS ss) := skH_upd (.dK he) hk3
  have he : upd H3 e (.frz oe (.dK kvs2)) e = some (.frz oe (.dK kvs2)) := upd_same
  generalize upd H3 e (.frz oe (.dK kvs2)) = H4 at s4 he hk4 ⊢
  have s13 := s12.trans s4
  have hx3 := s13 _ _ hx
  have ex : e ≠ x := fun q => by rw [q, hx3] at he; cases he
  refine ⟨_, rfl, x, C, dx, [], rfl, hx3, T.cl, T.nF, by show 0 < 1000; decide, _, rfl, _, rfl, x, C, dx, _, rfl, upd_same, T.cl, T.nH, by show 1 < 1000; decide, ?_⟩
  refine ⟨by show 0 ≤ sizeLine; decide, fun L hL => ?_⟩
  have Lx : L ≠ x := fun q => by rw [q, upd_same] at hL; cases hL
  have Le : L ≠ e := fun q => by rw [q, upd_ne ex, upd_ne ex] at hL; rw [he] at hL; cases hL
  refine ⟨_, rfl, x, C, dx, _, rfl, by rw [upd_ne (Ne.symm Lx)]; exact upd_same, T.cl, T.nD, sF_two _ _, ?_⟩
  have hL0 : H L = none := by
    rw [upd_ne Lx, upd_ne Lx] at hL
    exact s13.free hL
  have hk5 : ∀ {fs fs2 fs3 : List (Str × V)}, SkH K (upd (upd (upd (upd H4 x (.ins C dx fs)) x (.ins C dx fs2)) L (.lst [])) x (.ins C dx fs3)) kvs2 (cleanS ss) := fun {fs fs2 fs3} => by
    have n1 : NoTup H4 x := .ins hx3
    have n2 : NoTup (upd H4 x (.ins C dx fs)) x := .ins upd_same
    have h4 := skH_upd (o := .ins C dx fs2) n2 (skH_upd (o := .ins C dx fs) n1 hk4)
    have h5 : SkH K (upd (upd (upd H4 x (.ins C dx fs)) x (.ins C dx fs2)) L (.lst [])) kvs2 (cleanS ss) := skH_same h4 (Same.new (by rw [upd_ne Lx, upd_ne Lx]; rw [upd_ne Lx, upd_ne Lx] at hL; exact hL))
    exact skH_upd (.ins (C := C) (dx := dx) (fs := fs2) (by rw [upd_ne (Ne.symm Lx)]; exact upd_same)) h5
  refine k L _ (fun b o hb bx => ?_) hL0 ⟨dx, e, [], upd_same, by rw [upd_ne Lx]; exact upd_same, ⟨oe, kvs2, ?_, hk5⟩, .nil, trivial⟩
  · rw [upd_ne bx, upd_ne (fun q => by rw [q, hL0] at hb; cases hb), upd_ne bx, upd_ne bx]
    exact s13 _ _ hb
  · rw [upd_ne ex, upd_ne (Ne.symm Le), upd_ne ex, upd_ne ex]
    exact he
/-- the binding: the keyword limit, and two more -/
abbrev ks3 (a b : Str) : List Str := ["limit", a, b]
def lim3 {α : Type} (z : α) : List α → α
  | [l, _, _] => l
  | _ => z
def ex3 {α : Type} (a b : Str) : List α → List (Str × α)
  | [_, u, v] => [(a, u), (b, v)]
  | _ => []
theorem ex3_ok {a b : Str} (ne : a ≠ b) (ws : List Value) : ((ex3 a b ws).map (·.1)).Nodup ∧ (ex3 a b ws).length ≤ sizeLine := by
  unfold ex3
  split
  · exact ⟨by simp [ne], by show 2 ≤ sizeLine; decide⟩
  · exact ⟨.nil, by show 0 ≤ sizeLine; decide⟩
theorem rel3 (a b : Str) (zs : List V) (ws : List Value) (r : Vals zs ws) (hl : zs.length = 3) : RelV (lim3 .non zs) (lim3 .none ws) ∧ KV (exK (ex3 a b zs)) (exK (ex3 a b ws)) := by
  match zs, ws, r, hl with
  | [_, _, _], [_, _, _], .cons r1 (.cons r2 (.cons r3 .nil)), _ => exact ⟨r1, .cons ⟨rfl, r2⟩ (.cons ⟨rfl, r3⟩ .nil)⟩
theorem fk_sinit {g : Addr} {kV doc pm cdv ct oc : Value} {an od : Option Addr} {osl : Array (Option Value)} (lk : K.lookup g = some ⟨oc, od, .func (PySem.W.fnOf "__init__" "Session.__init__" (defArgs sSInit) (defBody sSInit) (defScope sSInit) .none kV doc pm an cdv ct), osl⟩) (hcd : PySem.W.codeIn K cdv "Session.__init__" = true)
    (T : SCl K C) (GL : Has P w K mg base "check_limit" 4 ["limit"] [] spLim2) (GS : Has P w K mg base "check_stacks" 4 ["stacks"] [] (spCkS K)) (GH : Has P w K mg base "check_heights" 2 ["stacks", "limit"] [] (spCkH K)) (GW : Has P w K mg base "without_empty" 1 ["stacks"] [] (spWe K)) :
    FnKw P w K mg base CX0 5 g (ks3 "left" "right") (fun x zs H Q E => ∀ d, H d = none → spSI K C [x, lim3 .non zs, .ref d] (upd H d (.dK (exK (ex3 "left" "right" zs)))) Q E) := by
  refine fn_kw (lim3 .none) (lim3 .non) (ex3 "left" "right") (ex3 "left" "right") lk hcd scSI StX.cxUp_none (fun u ws hl A' Ex Q' s _ h => ?_) (fun ws _ => ex3_ok (by decide) ws) (rel3 "left" "right") (body_sinit T GL GS GH GW)
  match ws, hl with
  | [wa, wb, wc], _ => exact h
end
end SE
/-! {**d, "k": v}: a new dict with what d holds, and one key more; f(**d). -/
namespace SE
open PySem PySem.Spec PyProof.Rows L2 StX
theorem iter_dict : typeLookup (.type "dict") "__iter__" = pure (some (.builtin "dict.__iter__")) := by rw [typeLookup_type, builtinLookup_eq_fast]; kernel_rfl
theorem inst_dict : isSubtype (.type "dict") (.type "dict") = pure true := by rw [isSubtype_type]; kernel_rfl
section
variable {prog : Program} {w : World} {K : Type} [DecidableEq K] {knd : KeyKind prog w K} {A : Around} {E : Value → Shared → Prop} {s : Shared}
/-- d[k] = v where k is new -/
theorem dictPut_new {d : Addr} {kvs : List (K × Value)} {k : K} {key v : Value} {Q : Unit → Shared → Prop} (hkey : knd.is k key = true) (hm : s.heap.DictOf knd d kvs) (hnot : k ∉ kvs.map (·.1))
    (hQ : ∀ h', h'.DictOf knd d (kvs ++ [(k, v)]) → Heap.SameBut d s.heap h' → Q () { s with heap := h' }) (hsz : kvs.length ≤ sizeLine) : wpAny (model prog w) A (dictPut d (knd.hash k) key v) Q E s := by
  obtain ⟨o, es, ep, ho, hc, hd, hk, hp, hn⟩ := hm
  have hes : es.size ≤ sizeLine := by
    have e1 := hp.length
    have e2 : es.toList.length = es.size := by simp
    omega
  unfold dictPut
  refine wpAny_bind (wpAny_dictFind_of hkey ho hd hk ?_)
  have hidx : (es.findIdx? fun e => knd.is k e.key) = kvs.findIdx? fun kv => decide (kv.1 = k) := by
    rw [← hp.findIdx k]; obtain ⟨l⟩ := es; simp
  cases hi : es.findIdx? fun e => knd.is k e.key with
  | some i => exact absurd (any_of_findIdx_some (hidx ▸ hi)) (by
      intro z
      obtain ⟨kv, hkv, he⟩ := List.any_eq_true.mp z
      exact hnot (List.mem_map.mpr ⟨kv, hkv, of_decide_eq_true he⟩))
  | none =>
    refine wpAny_updateDictKeys (hz := hes) ho hd (hQ _ ⟨_, _, ep + 1, Heap.get?_update_self _ ho (Obj.isFreed_of_dict (Obj.data_mapDictKeys hd _)), hc.mapDictKeys _, Obj.data_mapDictKeys hd _, hk.push hkey _, ?_, ?_⟩ (Heap.SameBut.update ..))
    · have := hp.append hkey (knd.hash k) v
      obtain ⟨l⟩ := es
      simpa using this
    · rw [List.map_append, List.nodup_append]
      refine ⟨hn, by simp, ?_⟩
      intro a ha b hb
      simp only [List.map_cons, List.map_nil, List.mem_singleton] at hb
      subst hb
      exact fun e => hnot (e ▸ ha)
theorem find_new {d : Addr} {kvs : List (K × Value)} {k : K} {key : Value} {Q : Option Nat → Shared → Prop} (hkey : knd.is k key = true) (hm : s.heap.DictOf knd d kvs) (hnot : k ∉ kvs.map (·.1)) (hQ : Q none s) :
    wpAny (model prog w) A (dictFind d key (knd.hash k)) Q E s := by
  obtain ⟨o, es, ep, ho, hc, hd, hk, hp, hn⟩ := hm
  refine wpAny_dictFind_of hkey ho hd hk ?_
  have hidx : (es.findIdx? fun e => knd.is k e.key) = kvs.findIdx? fun kv => decide (kv.1 = k) := by
    rw [← hp.findIdx k]; obtain ⟨l⟩ := es; simp
  cases hi : es.findIdx? fun e => knd.is k e.key with
  | some i => exact absurd (any_of_findIdx_some (hidx ▸ hi)) (by
      intro z
      obtain ⟨kv, hkv, he⟩ := List.any_eq_true.mp z
      exact hnot (List.mem_map.mpr ⟨kv, hkv, of_decide_eq_true he⟩))
  | none => exact hQ
theorem mergeMapping_new {u : Bool} {d o : Addr} {kvs more : List (K × Value)} {Q : Unit → Shared → Prop} (hdo : d ≠ o) (hoS : (o == sysModules) = false) (hd : s.heap.DictOf knd d kvs) (ho : s.heap.DictOf knd o more) (hnd : ((kvs ++ more).map (·.1)).Nodup)
    (hQ : ∀ h', h'.DictOf knd d (kvs ++ more) → Heap.SameBut d s.heap h' → Q () { s with heap := h' }) (hsz : kvs.length + more.length ≤ sizeLine) :
    wpAny (model prog w) A (mergeMapping d (.ref o) u) Q E s := by
  obtain ⟨oo, eso, epo, hoo, hco, hdo', hko, hpo, hno⟩ := id ho
  obtain ⟨od, esd, epd, hod, hcd, hdd, hkd, hpd, hnd2⟩ := id hd
  have hT : s.TypeIs (.ref o) "dict" := ⟨_, hoo, hco.1⟩
  have hlen : more.length = eso.size := by rw [← hpo.length]; simp
  have loop : ∀ {u : Bool}, wpAny (model prog w) A (do
      let l ← dictEntries o
      let epoch ← dictEpoch o
      forIn (List.range l.size) PUnit.unit fun i (_ : PUnit) => (do
          let l' ← dictEntries o
          match l'[i]? with
            | some e => do
              holding [e.key, e.val] (if u = true then do
                      let f ← dictFind d e.key e.hash
                      if f.isSome = true then do
                          rule "dict.merge.duplicate-key"
                          let x ← newExc (Value.type "KeyError") [e.key]
                          raiseNew x
                          dictPut d e.hash e.key e.val
                        else dictPut d e.hash e.key e.val
                    else dictPut d e.hash e.key e.val)
              let ep' ← dictEpoch o
              if (ep' != epoch) = true then do
                  (unsupported "dict.changed-during-merge" : Sem PUnit)
                  pure (ForInStep.yield PUnit.unit)
                else pure (ForInStep.yield PUnit.unit)
            | _ => do
              (unsupported "dict.changed-during-merge" : Sem PUnit)
              pure (ForInStep.yield PUnit.unit) : Sem (ForInStep PUnit))
      pure ()) Q E s := by
    intro u
    refine wpAny_bind (wpAny_dictEntries hoo hdo' ?_)
    refine wpAny_bind (wpAny_dictEpoch hoo hdo' ?_)
    refine wpAny_bind ?_
    refine wpAny_forIn_list _
      (fun rest _ s' => ∃ h' i, s' = { s with heap := h' } ∧ rest = List.range' i (eso.size - i) ∧ i ≤ eso.size ∧ h'.DictOf knd d (kvs ++ more.take i) ∧ h'.get? o = some oo ∧ Heap.SameBut d s.heap h')
      _ ?_ ?_ _ _ ⟨s.heap, 0, rfl, by rw [List.range_eq_range']; simp, Nat.zero_le _, by simpa using hd, hoo, Heap.SameBut.refl _ _⟩
    · rintro x rest b s' ⟨h', i, rfl, hr, hi, hd', hoo', hs'⟩
      have hlt : i < eso.size := by
        rcases Nat.lt_or_ge i eso.size with h | h
        · exact h
        · rw [Nat.sub_eq_zero_of_le h] at hr; simp at hr
      obtain ⟨rfl, hrest⟩ : x = i ∧ rest = List.range' (i + 1) (eso.size - (i + 1)) := by
        have e : eso.size - i = (eso.size - (i + 1)) + 1 := by omega
        rw [e, List.range'_succ] at hr
        injection hr with h1 h2
        exact ⟨h1, h2⟩
      refine wpAny_bind (wpAny_dictEntries hoo' hdo' ?_)
      rw [Array.getElem?_eq_getElem hlt]
      obtain ⟨kv, hkv⟩ : ∃ kv, more[x]? = some kv := ⟨more[x]'(by rw [hlen]; exact hlt), List.getElem?_eq_getElem _⟩
      obtain ⟨k, v⟩ := kv
      obtain ⟨hkey, hval⟩ := hpo.get? (e := eso[x]) (by simp [hlt]) hkv
      obtain ⟨k', hkey', hhash⟩ := hko eso[x] (Array.getElem_mem hlt)
      obtain rfl : k' = k := knd.inj _ _ _ hkey' hkey
      have tk : more.take (x + 1) = more.take x ++ [(k', v)] := by rw [List.take_add_one, hkv]; rfl
      have hnot : k' ∉ (kvs ++ more.take x).map (·.1) := by
        have e : kvs ++ more = (kvs ++ more.take x) ++ ((k', v) :: more.drop (x + 1)) := by
          rw [List.append_assoc]
          congr 1
          rw [show (k', v) :: more.drop (x + 1) = [(k', v)] ++ more.drop (x + 1) from rfl, ← List.append_assoc, ← tk, List.take_append_drop]
        rw [e, List.map_append, List.nodup_append] at hnd
        exact fun z => hnd.2.2 _ z k' (by simp) rfl
      have hmx : (kvs ++ more.take x).length ≤ sizeLine := by
        have e2 : (more.take x).length ≤ more.length := by rw [List.length_take]; omega
        rw [List.length_append]
        omega
      have put : ∀ {Z : ForInStep PUnit → Shared → Prop}, (∀ h'', (∃ h' i, ({ s with heap := h'' } : Shared) = { s with heap := h' } ∧ rest = List.range' i (eso.size - i) ∧ i ≤ eso.size ∧ h'.DictOf knd d (kvs ++ more.take i) ∧ h'.get? o = some oo ∧ Heap.SameBut d s.heap h') → Z (.yield PUnit.unit) { s with heap := h'' }) →
          wpAny (model prog w) A (dictPut d (knd.hash k') eso[x].key eso[x].val) (fun _ s' => wpAny (model prog w) A (do
          let ep' ← dictEpoch o
          if (ep' != epo) = true then do
              (unsupported "dict.changed-during-merge" : Sem PUnit)
              pure (ForInStep.yield PUnit.unit)
            else pure (ForInStep.yield PUnit.unit)) Z E s') E { s with heap := h' } := by
        intro Z hZ
        rw [hval]
        refine dictPut_new hkey hd' hnot (fun h'' hd'' hs'' => ?_) hmx
        have hoo'' : h''.get? o = some oo := (hs''.2 o (Ne.symm hdo)).trans hoo'
        refine wpAny_bind (wpAny_dictEpoch hoo'' hdo' ?_)
        rw [if_neg (by simp)]
        exact wpAny_pure (hZ h'' ⟨h'', x + 1, rfl, hrest, hlt, by rw [tk, ← List.append_assoc]; exact hd'', hoo'', hs'.trans hs''⟩)
      refine wpAny_bind (wpAny_holding ?_)
      cases u with
      | false =>
        rw [if_neg Bool.false_ne_true, hhash]
        exact put fun h'' z => z
      | true =>
        rw [if_pos rfl]
        rw [hhash]
        refine wpAny_bind (find_new hkey hd' hnot ?_)
        rw [if_neg (by simp)]
        exact put fun h'' z => z
    · rintro b s' ⟨h', i, rfl, hr, hi, hd', hoo', hs'⟩
      have hin : i = eso.size := by
        rcases Nat.lt_or_ge i eso.size with h | h
        · have e : eso.size - i = (eso.size - (i + 1)) + 1 := by omega
          rw [e, List.range'_succ] at hr; exact nomatch hr
        · exact Nat.le_antisymm hi h
      refine wpAny_pure (hQ h' ?_ hs')
      rw [hin, ← hlen, List.take_length] at hd'; exact hd'
  unfold mergeMapping
  refine wpAny_bind (wpAny_isInstance hT inst_dict ?_)
  rw [if_pos rfl]
  refine wpAny_bind (wpAny_specialOf hT iter_dict ?_)
  have e1 : ((some (Value.builtin "dict.__iter__") : Option Value) == some (Value.builtin "dict.__iter__")) = true := by decide
  rw [e1]
  refine wpAny_bind (wpAny_pure ?_)
  show wpAny _ _ (if (o == sysModules) = true then _ else _) _ _ _
  rw [if_neg (by rw [hoS]; exact Bool.false_ne_true)]
  refine wpAny_bind (wpAny_dictEntries hod hdd ?_)
  dsimp only
  by_cases q : esd.isEmpty = true
  · rw [if_pos q]
    refine wpAny_bind (wpAny_dictEntries hoo hdo' ?_)
    refine wpAny_bind (wpAny_of_eq (a := PUnit.unit) ?_ loop)
    rw [← Array.forIn_toList]
    refine forIn_yield_id _ fun e he c => ?_
    obtain ⟨k, hkey, _⟩ := hko e (Array.mem_toList_iff.mp he)
    have hb := knd.byValue k _ hkey
    split
    · rename_i a q
      rw [q] at hb
      cases hb
    · rfl
  · rw [if_neg q]
    exact loop
end
section
variable {X : Cx} {pins : List (Addr × Obj)} {σ : L2.St} {H : Hp} {s : Shared} {E : Value → Shared → Prop}
theorem kv_map {kvs : List (Key × V)} {vs : List (Key × Value)} (r : KV kvs vs) : kvs.map (·.1) = vs.map (·.1) := by
  induction r with
  | nil => rfl
  | cons a _ ih => rw [List.map_cons, List.map_cons, ih, a.1]
theorem kv_app {kvs kvs2 : List (Key × V)} {vs vs2 : List (Key × Value)} (r : KV kvs vs) (r2 : KV kvs2 vs2) : KV (kvs ++ kvs2) (vs ++ vs2) := by
  induction r with
  | nil => exact r2
  | cons a _ ih => exact .cons a ih
/-- **d, d's keys being new there -/
theorem d_merge {u : Bool} {D a : Addr} {kvs more : List (Key × V)} {Q : Unit → Shared → Prop} (I : Inv X pins σ H s) (hD : H D = some (.dK kvs)) (ha : H a = some (.dK more)) (ne : D ≠ a) (hz : kvs.length + more.length ≤ sizeLine) (hn : ((kvs ++ more).map (·.1)).Nodup)
    (h : ∀ s', Inv X pins σ (upd H D (.dK (kvs ++ more))) s' → Q () s') : wpAny (model X.prog X.w) X.A (mergeMapping D (.ref a) u) Q E s := by
  obtain ⟨z1, d1, vs1, r1, dd1⟩ := dk_of I.hok hD
  obtain ⟨z2, d2, vs2, r2, dd2⟩ := dk_of I.hok ha
  refine mergeMapping_new ne d2 dd1 dd2 (by rw [List.map_append, ← kv_map r1, ← kv_map r2, ← List.map_append]; exact hn) (fun h' dd' hs => h _ ?_) (by rw [← r1.length, ← r2.length]; exact hz)
  have he : ∃ q, h'.get? D = some q := let ⟨q, _, _, hq, _⟩ := dd'; ⟨q, hq⟩
  exact d_write (t' := s.toks) I (by rw [hD]; exact True.intro) hs he (dk_new (by rw [List.length_append]; exact hz) d1 (kv_app r1 r2) dd')
end
end SE
/-! {**d, "k": v} as an expression; what a call reads out of **d. -/
namespace SE
open PySem PySem.Spec PyProof.Rows L2 StX
section
variable {X : Cx}
/-- {**d, k: v} -/
def tDMrg (t1 tk t2 : TE) : TE := fun σ H Q => ∀ D, H D = none → t1 σ (upd H D (.dK [])) fun x H1 => ∃ a kvs, x = .ref a ∧ H1 a = some (.dK kvs) ∧ H1 D = some (.dK []) ∧ D ≠ a ∧ (kvs.map (·.1)).Nodup ∧
  ∀ D2, upd H1 D (.dK kvs) D2 = none → tk σ (upd (upd H1 D (.dK kvs)) D2 (.dK [])) fun y H2 => t2 σ H2 fun z H3 => ∃ k, y = kV k ∧ H3 D = some (.dK kvs) ∧ H3 D2 = some (.dK []) ∧ D ≠ D2 ∧ k ∉ kvs.map (·.1) ∧ kvs.length < sizeLine ∧
    Q (.ref D) (upd (upd H3 D2 (.dK [(k, z)])) D (.dK (kvs ++ [(k, z)])))
theorem pe_dmrg {e1 ek e2 : Expr} {pos : Pos} {t1 tk t2 : TE} (h1 : PE X e1 t1) (hk : PE X ek tk) (h2 : PE X e2 t2) : PE X (.Dict [none, some ek] [e1, e2] pos) (tDMrg t1 tk t2) := by
  refine ⟨fun pins s σ H Q I h => ?_⟩
  rw [arm_eval_Dict]
  refine wpAny_bind (wpAny_standAt ?_)
  show wpAny _ _ (dictDisplay [(none, do let x ← eval e1 X.env; standAt pos; pure x), (some (eval ek X.env), do let x ← eval e2 X.env; standAt pos; pure x)]) _ _ _
  unfold dictDisplay
  dsimp only
  rw [List.forIn_cons]
  dsimp only [List.isEmpty_nil]
  rw [if_pos rfl]
  refine wpAny_bind (wpAny_bind (wpAny_bind (wpAny_pure ?_)))
  dsimp only
  refine wpAny_bind (wpAny_alloc ?_)
  generalize hD : s.heap.objs.size = D
  have hDn : H D = none := I.hok.fresh (Nat.le_of_eq hD)
  have I1 : Inv X pins σ (upd H D (.dK [])) { s with heap := s.heap.push { cls := .type "dict", data := .dict #[] } } := by
    refine I.laid (t' := s.toks) (fun b o e => Heap.get?_push_of_some _ e) (Nat.le_of_eq hD) ?_
    rw [← hD]
    exact dk_empty s.heap I.big
  refine wpAny_bind (wpAny_holding (wpAny_bind (thn (h1.run pins _ σ _ _ I1 (h D hDn)) fun m s2 ⟨x, H1, I2, rx, a, kvs, ex, ha, hD1, ne, nd, k⟩ => wpAny_bind (wpAny_standAt (wpAny_pure ?_)))))
  subst ex
  obtain rfl : m = Value.ref a := rx
  have kz : kvs.length ≤ sizeLine := (dk_of I2.hok ha).1
  refine wpAny_bind (wpAny_onRaise (wpAny_tryCatch (wpAny_onRaise (wpAny_holding (d_merge I2 hD1 ha ne (by simpa using kz) nd fun s3 I3 => ?_)))))
  refine wpAny_pure ?_
  dsimp only
  rw [List.forIn_cons]
  dsimp only
  rw [if_neg (by simp)]
  refine wpAny_bind (wpAny_pure ?_)
  dsimp only
  rw [List.forIn_nil]
  refine wpAny_pure ?_
  dsimp only
  rw [if_neg (by simp)]
  rw [List.nil_append] at I3
  refine wpAny_bind (wpAny_bind (wpAny_holding ?_))
  unfold subDict
  refine wpAny_bind (wpAny_alloc ?_)
  generalize hE : s3.heap.objs.size = D2
  have hEn : upd H1 D (.dK kvs) D2 = none := I3.hok.fresh (Nat.le_of_eq hE)
  have I4 : Inv X pins σ (upd (upd H1 D (.dK kvs)) D2 (.dK [])) { s3 with heap := s3.heap.push { cls := .type "dict", data := .dict #[] } } := by
    refine I3.laid (t' := s3.toks) (fun b o e => Heap.get?_push_of_some _ e) (Nat.le_of_eq hE) ?_
    rw [← hE]
    exact dk_empty s3.heap I3.big
  refine wpAny_bind (wpAny_holding ?_)
  rw [if_pos (by simp)]
  refine wpAny_bind (evalPairs_cons (thn (hk.run pins _ σ _ _ I4 (k D2 hEn)) fun kv s5 ⟨y, H2, I5, ry, q5⟩ => wpAny_bind (thn (h2.run pins _ σ _ _ I5 q5) fun vv s6 ⟨z, H3, I6, rz, kk, ey, e1, e2, ne2, nk, lz, q6⟩ => wpAny_bind (wpAny_standAt (wpAny_pure (evalPairs_nil ?_))))))
  subst ey
  refine wpAny_holding (wpAny_bind ?_)
  rw [List.forIn_cons]
  refine wpAny_bind (wpAny_bind (d_dictSet I6 e2 (by show 0 < sizeLine; decide) ry rz fun s7 I7 => wpAny_pure ?_))
  dsimp only
  rw [List.forIn_nil]
  refine wpAny_pure (wpAny_pure ?_)
  have e1' : upd H3 D2 (.dK (putK [] kk z)) D = some (.dK kvs) := by rw [upd_ne ne2]; exact e1
  refine wpAny_pure ?_
  refine wpAny_bind ?_
  refine wpAny_onRaise (wpAny_holding ?_)
  refine d_merge I7 e1' upd_same ne2 ?_ ?_ fun s8 I8 => ?_
  rotate_left 2
  · refine wpAny_pure ?_
    exact wpAny_pure ⟨V.ref D, _, I8, rfl, q6⟩
  · show kvs.length + 1 ≤ sizeLine
    exact lz
  · show ((kvs ++ [(kk, z)]).map (·.1)).Nodup
    rw [List.map_append, List.nodup_append]
    exact ⟨nd, by simp, fun a ha b hb e => nk (by rw [List.mem_singleton.mp (show b ∈ [kk] from hb)] at e; rw [← e]; exact ha)⟩
end
/-! ### f(**d) -/
section
variable {X : Cx} {pins : List (Addr × Obj)} {σ : L2.St} {H : Hp} {s : Shared} {E : Value → Shared → Prop}
theorem kwIn_go : ∀ (es : List DictEntry) (ex : List (Str × Value)) (kw : List (Str × Value)) (f : Value), Paired (fun (e : DictEntry) (x : Str × Value) => (∃ t, e.key = .str x.1 t) ∧ e.val = x.2) es ex →
    ∀ {M : Model} {A : Around} {Q : List (Str × Value) → Shared → Prop} {B : DictEntry → List (Str × Value) → Sem (ForInStep (List (Str × Value)))}, (∀ e kw x t, e.key = .str x t → B e kw = pure (.yield (kw ++ [(x, e.val)]))) → Q (kw ++ ex) s → wpAny M A (forIn es kw B) Q E s
  | [], _, kw, f, .nil, M, A, Q, B, _, q => by
    rw [List.forIn_nil]
    rw [List.append_nil] at q
    exact wpAny_pure q
  | e :: es, x :: ex, kw, f, .cons ⟨⟨t, h1⟩, h2⟩ r, M, A, Q, B, hB, q => by
    rw [List.forIn_cons, hB e kw x.1 t h1]
    refine wpAny_bind (wpAny_pure ?_)
    refine kwIn_go es ex (kw ++ [(x.1, e.val)]) f r hB ?_
    rw [h2, List.append_assoc]
    exact q
/-- the entries of a tracked dict whose keys are texts -/
theorem d_keywordsIn {D : Addr} {kvs : List (Str × V)} {f : Value} {Q : List (Str × Value) → Shared → Prop} (I : Inv X pins σ H s) (hD : H D = some (.dK (exK kvs)))
    (h : ∀ ws : List Value, Vals (kvs.map (·.2)) ws → Q ((kvs.map (·.1)).zip ws) s) : wpAny (model X.prog X.w) X.A (keywordsIn f D) Q E s := by
  obtain ⟨z1, d1, vs1, r1, o, es, ep, ho, hc, hd, hk, hp, hn⟩ := dk_of I.hok hD
  unfold keywordsIn
  refine wpAny_bind (wpAny_dictEntries ho hd ?_)
  rw [← Array.forIn_toList]
  have key : ∃ ws : List Value, Vals (kvs.map (·.2)) ws ∧ Paired (fun (e : DictEntry) (x : Str × Value) => (∃ t, e.key = .str x.1 t) ∧ e.val = x.2) es.toList ((kvs.map (·.1)).zip ws) := by
    clear hD h z1 hn ho hd hk
    generalize es.toList = el at hp ⊢
    induction kvs generalizing vs1 el with
    | nil =>
      cases r1
      cases hp
      exact ⟨[], .nil, .nil⟩
    | cons p r ih =>
      obtain ⟨x, v⟩ := p
      have r1 : KV ((Sum.inr x, v) :: exK r) vs1 := r1
      cases r1 with
      | @cons _ b _ vr a1 a2 =>
        cases el with
        | nil => cases hp
        | cons e el =>
          obtain ⟨b1, b2⟩ := b
          obtain ⟨q1, q2⟩ := a1
          have q1 : (Sum.inr x : Key) = b1 := q1
          subst q1
          cases hp with
          | cons hkey hval hrest =>
            obtain ⟨ws, w1, w2⟩ := ih _ a2 _ hrest
            rcases keyIs_shape (show keyIs (Sum.inr x) e.key = true from hkey) with ⟨i, t, z, _⟩ | ⟨y, t, z, z2⟩
            · cases z
            · cases z
              exact ⟨b2 :: ws, .cons q2 w1, .cons ⟨⟨t, z2⟩, hval⟩ w2⟩
  obtain ⟨ws, rv, pr⟩ := key
  refine wpAny_bind (kwIn_go _ _ [] f pr (fun e kw x t he => ?_) ?_)
  · rw [he]
  · exact wpAny_pure (h ws rv)
end
end SE
/-! g(**d): its arguments. -/
namespace SE
open PySem PySem.Spec PyProof.Rows L2 StX
section
variable {X : Cx} {pins : List (Addr × Obj)} {σ : L2.St} {H : Hp} {s : Shared}
def tKwStar (K : List (Str × V) → Hp → Prop) (te : TE) : L2.St → Hp → Prop := fun σ H => ∀ D, H D = none → te σ (upd H D (.dK [])) fun x H1 => ∃ a kvs, x = .ref a ∧ H1 a = some (.dK (exK kvs)) ∧ H1 D = some (.dK []) ∧ D ≠ a ∧ (kvs.map (·.1)).Nodup ∧ K kvs (upd H1 D (.dK (exK kvs)))
theorem exK_keys {α : Type} (l : List (Str × α)) (h : (l.map (·.1)).Nodup) : ((exK l).map (·.1)).Nodup := by
  have e : (exK l).map (·.1) = (l.map (·.1)).map (Sum.inr : Str → Key) := by
    unfold exK
    rw [List.map_map, List.map_map]
    rfl
  rw [e]
  exact List.Pairwise.map _ (fun a b q z => q (Sum.inr.inj z)) h
theorem run_evalArgs {e : Expr} {te : TE} {pos p : Pos} {f : Value} {KK : List (Str × V) → Hp → Prop} {Q : Args → Shared → Prop} (he : PE X e te) (I : Inv X pins σ H s) (h : tKwStar KK te σ H)
    (hq : ∀ kvs ws H' s', Inv X pins σ H' s' → Vals (kvs.map (·.2)) ws → KK kvs H' → Q ⟨[], (kvs.map (·.1)).zip ws⟩ s') :
    wpAny (model X.prog X.w) X.A (evalArgs f true [] (backToKw pos (keywordEach [⟨none, e, p⟩] X.env))) Q X.xe s := by
  show wpAny _ _ (evalArgs f true [] [(none, do let v ← eval e X.env; standAt pos; pure v)]) _ _ _
  unfold evalArgs
  refine wpAny_bind (wpAny_of_eq (a := ([] : List Value)) (by first | rfl | (unfold spliced; rfl)) ?_)
  refine wpAny_bind (wpAny_pure ?_)
  refine wpAny_holding ?_
  rw [if_neg (by simp)]
  refine wpAny_bind ?_
  unfold mergedKeywords
  refine wpAny_bind (wpAny_alloc ?_)
  generalize hD : s.heap.objs.size = D
  have hDn : H D = none := I.hok.fresh (Nat.le_of_eq hD)
  have I1 : Inv X pins σ (upd H D (.dK [])) { s with heap := s.heap.push { cls := .type "dict", data := .dict #[] } } := by
    refine I.laid (t' := s.toks) (fun b o e => Heap.get?_push_of_some _ e) (Nat.le_of_eq hD) ?_
    rw [← hD]
    exact dk_empty s.heap I.big
  refine wpAny_bind (wpAny_holding ?_)
  dsimp only
  rw [List.forIn_cons]
  dsimp only
  rw [if_pos (show ([] : List (Str × Sem Value)).isEmpty = true from rfl)]
  refine wpAny_bind (wpAny_bind (wpAny_bind (wpAny_pure ?_)))
  refine wpAny_bind ?_
  refine wpAny_bind (thn (he.run pins _ σ _ _ I1 (h D hDn)) fun m s2 ⟨x, H1, I2, rx, a, kvs, ex, ha, hD1, ne, nd, k⟩ => wpAny_bind (wpAny_standAt (wpAny_pure ?_)))
  subst ex
  obtain rfl : m = Value.ref a := rx
  have kz : (exK kvs).length ≤ sizeLine := (dk_of I2.hok ha).1
  refine wpAny_bind (wpAny_onRaise (wpAny_holding (wpAny_tryCatch (wpAny_onRaise (d_merge I2 hD1 ha ne (by simpa using kz) (by rw [List.nil_append]; exact exK_keys kvs nd) fun s3 I3 => ?_)))))
  rw [List.nil_append] at I3
  refine wpAny_pure ?_
  refine wpAny_pure ?_
  rw [if_pos (show ([] : List (Str × Sem Value)).isEmpty = true from rfl)]
  refine wpAny_pure (wpAny_pure ?_)
  refine wpAny_bind (wpAny_pure ?_)
  refine wpAny_bind (wpAny_holding (d_keywordsIn I3 upd_same fun ws rv => wpAny_pure (hq kvs ws _ _ I3 rv k)))
end
end SE
/-! super().m(**d) within a method of a subclass. -/
namespace SE
open PySem PySem.Spec PyProof.Rows L2 StX
/-- the scope of a method that says super() -/
structure SupScope (N P : List Str) (sc : Scope) : Prop where
  kind : sc.kind = .function
  co : sc.isCoroutine = false
  gen : sc.isGenerator = false
  nd : N.Nodup
  pre : N.take P.length = P
  par : ∀ x ∈ P, sc.names.lookup x = some .local
  nocell : ∀ y ∈ sc.names, y.2 ≠ .cell
  free : ∀ y ∈ sc.names, y.2 = .free → y.1 = ("__class__" : Str)
  cls : sc.names.lookup ("__class__" : Str) = some .free
  sup : sc.names.lookup ("super" : Str) = some .globalImplicit
def cxSup (CX : CXT) (P : Program) (w : World) (K : PySem.W.Frag) (mg : Str → Option Value) (base : Heap) (N : List Str) (qual : Str) (scope : Scope) (f : Addr) (cd : Value) (cc : Addr) (A : Around) (outer : List Env) (s : Shared) (H : Hp) (E : XK) : Cx where
  prog := P
  w := w
  K := K
  mg := mg
  base := base
  A := A.deeper (PySem.W.ksEnv qual scope s.heap.objs.size f cd cc)
  N := N
  s_0 := s
  H_0 := H
  env := PySem.W.ksEnv qual scope s.heap.objs.size f cd cc
  outer := outer
  stack := PySem.W.ksEnv qual scope s.heap.objs.size f cd cc :: outer
  ex := []
  calm := true
  fn := fun _ => false
  pn := []
  xe := fun e s' => wpAny (model P w) (A.deeper (PySem.W.ksEnv qual scope s.heap.objs.size f cd cc)) (leaving (PySem.W.ksEnv qual scope s.heap.objs.size f cd cc) e) (fun _ s'' => CX outer H s E e s'') (fun e' s'' => CX outer H s E e' s'') s'
theorem rev_get {x : Str} {v : Value} : ∀ {P : List Str} {vs : List Value} {i : Nat}, P.Nodup → P[i]? = some x → vs[i]? = some v → (P.zip vs).reverse.lookup x = some v
  | [], _, _, _, h, _ => by simp at h
  | _ :: _, [], _, _, _, h => by simp at h
  | p :: P, u :: vs, 0, nd, h1, h2 => by
    simp at h1 h2
    subst h1
    subst h2
    have e : ((p, u) :: P.zip vs).reverse.lookup p = some u := by
      rw [List.reverse_cons, List.lookup_append]
      have n : (P.zip vs).reverse.lookup p = none := by
        rw [List.lookup_eq_none_iff]
        intro q hq
        have m := (List.of_mem_zip (List.mem_reverse.mp hq : (q.1, q.2) ∈ P.zip vs)).1
        exact bne_iff_ne.mpr (fun z => (List.nodup_cons.mp nd).1 (by rw [z]; exact m))
      rw [n]
      simp [List.lookup]
    exact e
  | p :: P, u :: vs, i + 1, nd, h1, h2 => by
    have ih := rev_get (P := P) (vs := vs) (i := i) (List.nodup_cons.mp nd).2 (by simpa using h1) (by simpa using h2)
    show ((p, u) :: P.zip vs).reverse.lookup x = some v
    rw [List.reverse_cons, List.lookup_append, ih]
    rfl
section
variable {CX : CXT} {P : Program} {w : World} {K : PySem.W.Frag} {mg : Str → Option Value} {base : Heap} {N ps : List Str} {qual : Str} {scope : Scope} {f cc D : Addr} {cd cl : Value} {cld : Option Addr} {csl : Array (Option Value)} {A : Around} {outer : List Env} {s : Shared} {H : Hp} {E : XK} {us : List Value} {vs : List V} {h' : Heap} {tk : Nat}
theorem inv_startS (S : SupScope N ps scope) (hcc : K.lookup cc = some ⟨cl, cld, .cell (some (.ref D)), csl⟩) (hd : A.handled = none) (e0 : Env0 P w K mg base A outer s H) (hl : vs.length = ps.length) (r : Vals vs us)
    (hns : h'.Ns s.heap.objs.size (fun x => (ps.zip us).reverse.lookup x)) (hk : ∀ b o, s.heap.get? b = some o → h'.get? b = some o) :
    Inv (cxSup CX P w K mg base N qual scope f cd cc A outer s H E) [] (L2.start N vs) H { s with heap := h', toks := tk } := by
  have hpl : ps.length ≤ N.length := by have := congrArg List.length S.pre; rw [List.length_take] at this; omega
  have noA : ∀ b : Addr, b ∉ (cxSup CX P w K mg base N qual scope f cd cc A outer s H E).ex := fun b z => absurd (show b ∈ ([] : List Addr) from z) (by simp)
  have KX : K.In s.heap := e0.mod.kin.keeps fun b o e => (e0.bs b o e).1
  have hbc := e0.mod.kin _ _ hcc
  have hcs : s.heap.get? cc = some ⟨cl, cld, .cell (some (.ref D)), csl⟩ := (e0.bs _ _ hbc).1
  have one : ∀ x c, List.lookup x [(("__class__" : Str), cc)] = some c → x = ("__class__" : Str) ∧ c = cc := fun x c h => by
    unfold List.lookup at h
    split at h
    · rename_i q
      exact ⟨eq_of_beq q, (Option.some.inj h).symm⟩
    · cases h
  refine ⟨⟨e0.mod, S.kind, rfl, rfl, Nat.le_refl _, fun y z c h1 h2 => (one y c h1).1.trans (one z c h2).1.symm, fun y hy => ?_, fun y c q h => absurd q Bool.false_ne_true, fun _ => hd, Around.frames_deeper e0.frames, .inr ⟨rfl, rfl⟩, fun b z => absurd z (noA b), e0.bs, e0.bsz, fun b _ _ => noA b, fun b z => absurd z (noA b), e0.funs, e0.frf⟩,
    rfl, e0.bare, Un.kept hk, ⟨_, hns, fun i y v h1 h2 h3 => ?_⟩, fun y c h => ⟨some (.ref D), by rw [(one y c h).2]; exact ⟨_, hk _ _ hcs, rfl⟩⟩, e0.hok.fresh (Nat.le_refl _), fun y c h => by rw [(one y c h).2]; exact (e0.bs _ _ hbc).2, fun p hp => absurd (show p ∈ ([] : List (Addr × Obj)) from hp) (by simp), e0.hok.kept hk, ?_⟩
  · have hy : scope.names.lookup y = some .cell ∨ scope.names.lookup y = some .free := hy
    rcases hy with hy | hy
    · exact absurd rfl (S.nocell _ (PySem.mem_of_lookup hy))
    · have e := S.free _ (PySem.mem_of_lookup hy) rfl
      dsimp only at e
      rw [e]
      exact ⟨cc, by show List.lookup ("__class__" : Str) [(("__class__" : Str), cc)] = some cc; simp [List.lookup]⟩
  · have hi : i < vs.length := by
      unfold L2.start at h2
      by_cases hi : i < vs.length
      · exact hi
      · rw [List.getElem?_append_right (by simpa using hi)] at h2
        rw [List.getElem?_replicate] at h2
        split at h2 <;> cases h2
    have ha : vs[i]? = some v := by
      unfold L2.start at h2
      rw [List.getElem?_append_left (by simpa using hi), List.getElem?_map] at h2
      cases e : vs[i]? with
      | none => rw [e] at h2; cases h2
      | some a => rw [e] at h2; cases h2; rfl
    obtain ⟨u, hu, rv⟩ := r.get ha
    have hp : ps[i]? = some y := by
      rw [← S.pre, List.getElem?_take_of_lt (by omega)]; exact h1
    have ndP : ps.Nodup := by rw [← S.pre]; exact S.nd.sublist (List.take_sublist _ _)
    exact ⟨u, rv, .inl ⟨S.par y (List.mem_of_getElem? hp), rev_get ndP hp hu⟩⟩
  · unfold L2.start
    show _ = N.length
    rw [List.length_append, List.length_map, List.length_replicate]
    omega
/-- statements of a def's own frame -/
def PAt (X : Cx) (body st : List Stmt) (t : TS) : Prop := ∀ (s : Shared) (σ : L2.St) (H : Hp) (D : Ends), Inv X [] σ H s → t D σ H → PySem.wpAt (model X.prog X.w) X.A (.func body X.env) (execs st X.env) (SP X [] D) X.xe s
theorem pat_of {X : Cx} {body st : List Stmt} {t : TS} (h : PSs X st t) : PAt X body st t := fun s σ H D I ht => wpAt_of_wpAny (h.run [] s σ H D I ht)
def PA1 (X : Cx) (body : List Stmt) (st : Stmt) (t : TS) : Prop := ∀ (s : Shared) (σ : L2.St) (H : Hp) (D : Ends), Inv X [] σ H s → t D σ H → PySem.wpAt (model X.prog X.w) X.A (.func body X.env) (exec st X.env) (SP X [] D) X.xe s
theorem pa1_of {X : Cx} {body : List Stmt} {st : Stmt} {t : TS} (h : PS X st t) : PA1 X body st t := fun s σ H D I ht => wpAt_of_wpAny (h.run [] s σ H D I ht)
theorem pat_cons {X : Cx} {body rest : List Stmt} {st : Stmt} {t u : TS} (h1 : PA1 X body st t) (h2 : PAt X body rest u) : PAt X body (st :: rest) (tSeq t u) := fun s σ H D I h =>
  ks_wpAt_execs_cons (ks_wpAt_mono (h1 s σ H { D with nx := u D } I h) (fun f s1 q => by
    cases f with
    | next =>
      obtain ⟨σ', H', I', q⟩ := q
      exact h2 s1 σ' H' D I' q
    | ret v => exact q
    | brk => exact q
    | cont => exact q) fun _ _ z => z)
end
section
variable {CX : CXT} {P : Program} {w : World} {K : PySem.W.Frag} {mg : Str → Option Value} {base : Heap} {k : Nat} {f cc D : Addr} {name qual : Str} {params : Arguments} {body : List Stmt} {scope : Scope} {dV kV doc pm cdv ct oc cl : Value} {an od cld : Option Addr}
  {osl csl : Array (Option Value)} {N ps : List Str} {sp : Sp}
theorem run_bndS {A : Around} {outer : List Env} {s : Shared} {H : Hp} {args : Args} {Q : VK} {E : XK} {G : List V → Hp → Prop} (lk : K.lookup f = some ⟨oc, od, .func (PySem.W.ksFn name qual params body scope dV kV doc pm an cdv ct cc), osl⟩) (hcd : PySem.W.codeIn K cdv qual = true)
    (hcc : K.lookup cc = some ⟨cl, cld, .cell (some (.ref D)), csl⟩)
    (S : SupScope N ps scope) (hr : Room (k + 1) A) (e0 : Env0 P w K mg base A outer s H) (hb : Bnd CX P w K mg base (PySem.W.ksFn name qual params body scope dV kV doc pm an cdv ct cc) args ps A outer s H E G)
    (hbody : ∀ (s2 : Shared) (H2 : Hp) (vs : List V), G vs H2 → Room k (A.deeper (PySem.W.ksEnv qual scope s2.heap.objs.size f cdv cc)) →
      ∃ t, PAt (cxSup CX P w K mg base N qual scope f cdv cc A outer s2 H2 E) body body t ∧ t { nx := fun _ H' => Q .non H', rt := Q } (L2.start N vs) H2) : codeAny (model P w) A (.call (.ref f) args) (CR CX outer P w H s Q E) s := by
  have KX : K.In s.heap := e0.mod.kin.keeps fun b o e => (e0.bs b o e).1
  refine codeAny_call_function hr.depth (KX _ _ lk) rfl S.co S.gen rfl (PySem.W.codeRec_of KX hcd) ?_
  refine hb _ _ _ fun s2 H2 vs us e2 un ho hx r hl g => ?_
  have lim : s2.heap.NoLimit := e0.mod.nolimit.keeps fun b o e => (e2.bs b o e).1
  refine wpAny_newFunctionEnv S.nocell (fun y hy => S.par y.1 (List.of_mem_zip (show (y.1, y.2) ∈ ps.zip us from hy)).1) (fun h₀ hns₀ hsb₀ => ?_) S.kind
  have hk₀ : ∀ b o, s2.heap.get? b = some o → h₀.get? b = some o := fun b o e => hsb₀.extBut b o (Nat.ne_of_lt (Heap.lt_size e)) (Heap.get?_push_of_some _ e)
  refine ⟨lim.keeps hk₀, ?_⟩
  show codeAny _ _ (.func body (PySem.W.ksEnv qual scope s2.heap.objs.size f cdv cc)) _ _
  refine ks_codeAny_funcAt ?_
  obtain ⟨t, ht, hq⟩ := hbody s2 H2 vs g (hr.deeper _)
  have I := inv_startS (CX := CX) (E := E) (f := f) (cd := cdv) (qual := qual) (tk := s2.toks + (ps.zip us).length) S hcc hr.hd e2 hl r hns₀ hk₀
  refine ks_wpAt_mono (ht _ _ _ _ I hq) (fun fl s' hs => ?_) fun e s' hs => ?_
  · have fin : ∀ {σ' : L2.St} {H' : Hp} {v' : V} {u' : Value}, Inv (cxSup CX P w K mg base N qual scope f cdv cc A outer s2 H2 E) [] σ' H' s' → RelV v' u' → Q v' H' → CE outer P w H s Q u' s' :=
      fun {σ' H' v' u'} J rv' q => ⟨v', H', J.os.trans ho, J.bare, un.trans J.base, J.hok, rv', q⟩
    cases fl with
    | ret u' =>
      obtain ⟨v', σ', H', J, rv', q⟩ := hs
      exact fin J rv' q
    | next =>
      obtain ⟨σ', H', J, q⟩ := hs
      exact fin (v' := V.non) (u' := Value.none) J rfl q
    | brk =>
      obtain ⟨_, _, _, q⟩ := hs
      exact False.elim q
    | cont =>
      obtain ⟨_, _, _, q⟩ := hs
      exact False.elim q
  · exact wpAny_mono hs (fun _ s'' z => hx e s'' z) fun e' s'' z => hx e' s'' z
end
end SE
/-! super().__init__(**d) -/
namespace SE
open PySem PySem.Spec PyProof.Rows L2 StX
/-- what the frame's def and its class must have: f the def, cda its code, cc the cell of __class__, D the class, f2 the method above -/
structure SupOk (P : Program) (K : PySem.W.Frag) (m : Str) (f cda cc D f2 : Addr) : Prop where
  fn : ∃ (oc : Value) (od : Option Addr) (fd : FuncData) (osl : Array (Option Value)) (ar : Arg), K.lookup f = some ⟨oc, od, .func fd, osl⟩ ∧ (fd.params.posonlyargs ++ fd.params.args).head? = some ar ∧ ar.arg = "self"
  code : ∃ (ccl : Value) (cdd : Option Addr) (vs : Array Value) (ccs : Array (Option Value)) (file : Str) (tf : Tok), K.lookup cda = some ⟨ccl, cdd, .fields vs, ccs⟩ ∧ vs[2]? = some (.str file tf) ∧ ((P.main.file : Str) == file) = true
  cell : ∃ (cl : Value) (cld : Option Addr) (csl : Array (Option Value)), K.lookup cc = some ⟨cl, cld, .cell (some (.ref D)), csl⟩
  cls : ∃ cdD, PySem.W.clsIn K D = some cdD
  mro : PySem.W.mroIn K D (.ref D) = some true
  sup : PySem.W.nsIn K mainGlobals "super" = some none
  top : (P.main.scope.names.lookup ("super" : Str)).isSome = false
  opq : PySem.W.nsIn K cStatics "thirdparty.any" = some none
  find : PySem.W.ks_superIn K D D m = some (some (.ref f2))
  typ : PySem.W.typeIn K (.ref f2) = some (.type "function")
  fun2 : ∃ (oc : Value) (od : Option Addr) (fd : FuncData) (osl : Array (Option Value)), K.lookup f2 = some ⟨oc, od, .func fd, osl⟩
theorem boot_super : bootBuiltins "super" = some (.type "super") := by first | rfl | decide +kernel | kernel_rfl
section
variable {prog : Program} {w : World} {A : Around} {E : Value → Shared → Prop} {h : Heap} {g : Array GenState} {d : Drawn} {t : Nat} {os : OsState}
theorem getAttr_super {so D x C f : Addr} {of : Obj} {l₀ l : List Value} {K : PySem.W.Frag} {name : Str} {Q : Value → Shared → Prop}
    (hso : h.get? so = some { cls := .type "super", dict := none, data := .fields #[.ref D, .ref x, .ref C], slots := #[] }) (hno : PySem.W.Looks (model prog w) h (opaqueClassAbove (.ref C)) none)
    (hC : PySem.W.Looks (model prog w) h (mroOf (.ref C)) l₀) (hl : (l₀.dropWhile (· != .ref D)).drop 1 = l) (X : K.In h)
    (hf : PySem.W.alongIn K name l = some (some (.ref f))) (hfo : h.get? f = some of) (hfc : of.cls = .type "function") (hxC : x ≠ C) (hn : (name == ("__class__" : Str)) = false)
    (hq : Q (.ref h.objs.size) ⟨h.push { cls := .type "method", data := .fields #[.ref f, .ref x] }, g, d, t + 1, os⟩) :
    wpAny (model prog w) A (getAttr (.ref so) name true) Q E ⟨h, g, d, t, os⟩ := by
  have hlk := F.ks_slot_super_ga.lookup
  have hT : ∀ t', (⟨h, g, d, t', os⟩ : Shared).TypeIs (.ref so) "super" := fun _ => ⟨_, hso, rfl⟩
  unfold getAttr getAttrBy
  refine wpAny_bind (wpAny_mkText (wpAny_holding (wpAny_bind (wpAny_typeOf (hT _) (wpAny_bind (wpAny_of_eq hlk ?_))))))
  show wpAny _ _ (getAttrByItsOwn (.ref so) (.str name t) (.type "super") (.builtin "super.__getattribute__") true true) _ _ _
  unfold getAttrByItsOwn hookBefore callGetattribute boundAndCalled
  refine wpAny_bind (wpAny_of_eq (show (if onTheHeap (.type "super") then typeLookup (.type "super") "__getattr__" else pure none) = pure none from rfl) ?_)
  refine wpAny_bind (wpAny_attempt (wpAny_holding ?_))
  show wpAny _ _ (bindSpecial (.builtin "super.__getattribute__") (.ref so) >>= _) _ _ _
  refine wpAny_bind (wpAny_of_eq (F.ks_slot_super_ga.bind _) ?_)
  refine wpAny_mono (Q := fun v s' => v = .ref h.objs.size ∧ s' = ⟨h.push { cls := .type "method", data := .fields #[.ref f, .ref x] }, g, d, t + 1, os⟩) (E := fun _ _ => False)
    (wpAny_call_entry F.ks_slot_super_ga (hT _) F.ks_entry_super_ga (ks_wpAny_super_ga hso hno hC hl X hf hfo hfc hxC hn ⟨_, rfl, rfl, rfl⟩) (F.ks_gaArgs_super _ _)) (fun v s' hv => ?_) fun _ _ z => z.elim
  obtain ⟨rfl, rfl⟩ := hv
  exact wpAny_pure hq
end
section
variable {X : Cx} {pins : List (Addr × Obj)} {σ : L2.St} {H : Hp} {s : Shared}
theorem callWith_bk {pos : Pos} {q f2 : Addr} {x : Value} {kws : List (Option Str × Sem Value)} {A : Around} {M : Model} {E : Value → Shared → Prop} {Q : Value → Shared → Prop} (hst : kws.any (·.1.isNone) = true)
    (h : wpAny M A (evalArgs (.ref q) true [] kws) (fun a s1 => s1.heap.get? q = some (PySem.W.methodObj (.ref f2) x) ∧ (∃ o fd, s1.heap.get? f2 = some o ∧ o.data = .func fd) ∧ wpAny M A (call (.ref q) ([] ++ a.pos) a.kw) Q E s1) E s) :
    wpAny M A (callWith pos (.ref q) [] [] kws) Q E s := by
  unfold callWith
  refine wpAny_bind (wpAny_holding (wpAny_mono h (fun a s₁ ⟨hq, ⟨o, fd, ho, hd⟩, hc⟩ => wpAny_bind (wpAny_standAt ?_)) fun _ _ x => x))
  dsimp only
  refine wpAny_bind (m := keeperOf (.ref q)) ?_
  unfold keeperOf
  refine wpAny_bind (wpAny_load hq ?_)
  dsimp only
  rw [if_neg (by decide)]
  refine wpAny_bind ?_
  show wpAny M A (load f2) _ E s₁
  refine wpAny_load ho ?_
  rw [hd, hst]
  refine wpAny_pure ?_
  exact wpAny_bind (wpAny_operateT (wpAny_mono hc (fun r s₂ hr => wpAny_bind (wpAny_holding (wpAny_point (wpAny_pure hr)))) fun _ _ x => x))

/-- super().m(**e): sp, what the method above promises by keywords ks; i: the slot of self -/
def tSuper (i : Nat) (D : Addr) (ok : List Str → Prop) (sp : List Str → V → List V → Hp → VK → XK → Prop) (E : XK) (te : TE) : TS := fun Dn σ H => ∃ x dx fs, σ[i]? = some (some (.ref x)) ∧ H x = some (.ins D dx fs) ∧
  tKwStar (fun kvs H' => ok (kvs.map (·.1)) ∧ sp (kvs.map (·.1)) (.ref x) (kvs.map (·.2)) H' (fun _ H2 => Dn.nx σ H2) E) te σ H
theorem pa_super {CX : CXT} {k i : Nat} {body : List Stmt} {q m : Str} {scope : Scope} {L f cda cc D f2 : Addr} {ok : List Str → Prop} {sp : List Str → V → List V → Hp → VK → XK → Prop} {E : XK} {e : Expr} {te : TE} {p0 p1 apos p pos pos' : Pos}
    (S : SupOk X.prog X.K m f cda cc D f2) (hE : X.env = PySem.W.ksEnv q scope L f (.ref cda) cc) (hk : scope.kind = .function) (hks : scope.names.lookup ("super" : Str) = some .globalImplicit) (hkc : scope.names.lookup ("__class__" : Str) = some .free) (hka : scope.names.lookup ("self" : Str) = some .local)
    (hN : X.N[i]? = some ("self" : Str)) (hm : (m == ("__class__" : Str)) = false) (F : ∀ ks, ok ks → FnKw X.prog X.w X.K X.mg X.base CX k f2 ks (sp ks)) (hr : Room k X.A) (hx : Passes CX X E) (he : PE X e te)
    (hms : X.mg "super" = none) (hev : eval (.Call (.Attribute (.Call (.Name "super" p0) [] [] p1) m apos) [] [⟨none, e, p⟩] pos) X.env = (do
      let ov ← attributeBase (.Call (.Name "super" p0) [] [] p1) m X.env (eval (.Call (.Name "super" p0) [] [] p1) X.env)
      standAt apos.atName
      let (g, first) ← holding [ov] (do pure (← getAttr ov m true, []))
      callWith pos g first (backTo pos (starEach [] X.env)) (backToKw pos (keywordEach [⟨none, e, p⟩] X.env))) := by rfl) :
    PA1 X body (.Expr (.Call (.Attribute (.Call (.Name "super" p0) [] [] p1) m apos) [] [⟨none, e, p⟩] pos) pos') (tSuper i D ok sp E te) := by
  intro s σ H Dn I ⟨x, dx, fs, hs, hxo, ht⟩
  have hmg := I.ok.mod
  obtain ⟨oc, od, fd, osl, ar, hf, hp, har⟩ := S.fn
  obtain ⟨ccl, cdd, vs, ccs, file, tf, hcode, hvs, hfile⟩ := S.code
  obtain ⟨cl, cld, csl, hcell⟩ := S.cell
  obtain ⟨cdD, hD⟩ := S.cls
  have KX : X.K.In s.heap := I.kIn
  obtain ⟨oD, hD1, hD2⟩ : ∃ oD, s.heap.get? D = some oD ∧ oD.data = .cls cdD := by
    have hD := hD
    unfold PySem.W.clsIn at hD
    split at hD
    · rename_i c d cd' sl ho
      cases hD
      exact ⟨_, KX _ _ ho, rfl⟩
    · cases hD
  obtain ⟨mA, O, _⟩ := ins_get I.hok hxo
  obtain ⟨odx, J, _⟩ := O.look
  obtain ⟨mm, hns, hloc⟩ := I.loc
  have hself : mm "self" = some (.ref x) := by
    obtain ⟨u, hu, hl⟩ := hloc i _ _ hN hs (by rw [hE]; exact .inl hka)
    obtain rfl : u = .ref x := hu
    rcases hl with ⟨_, z⟩ | ⟨z | z, _⟩
    · exact z
    · have z : scope.names.lookup ("self" : Str) = some .cell := by rw [hE] at z; exact z
      rw [hka] at z
      cases z
    · have z : scope.names.lookup ("self" : Str) = some .free := by rw [hE] at z; exact z
      rw [hka] at z
      cases z
  obtain ⟨mb, hbn, hbv⟩ := hmg.blt
  refine ks_wpAt_Expr_any ?_ (I.quiet) (by rfl)
  rw [hev]
  refine PySem.wpAt_bind ?_
  -- the super object
  have base0 : PySem.wpAt (model X.prog X.w) X.A (.func body X.env) (attributeBase (.Call (.Name "super" p0) [] [] p1) m X.env (eval (.Call (.Name "super" p0) [] [] p1) X.env))
      (fun ov s1 => ∃ so, ov = .ref so ∧ Inv X [] σ H s1 ∧ s1.heap.get? so = some (PySem.W.ks_superObj D x D)) X.xe s := by
    have hl : X.env.locals = L := by rw [hE]
    refine ks_wpAt_super_base (f := f) (cc := cda) (fd := fd) (ar := ar) (by rw [hE]; exact hks) (by rw [hE]; exact hkc) hm (by rw [hE]) (KX _ _ hf) rfl hp (by rw [hE]) (KX _ _ hcode) rfl hvs hfile S.top ?_
    refine PySem.W.ks_loadName_global (by rw [hE]; exact hk) (by rw [hE]; exact hks) (PySem.Calls.loadGlobal_builtin (hmg.glob.keeps I.bk |> fun z => by rw [I.ok.glob]; exact z) hms (by rw [I.ok.blt]; exact hbn.keeps I.bk) ((hbv _ (by decide +kernel)).trans boot_super) ⟨rfl, ?_⟩)
    refine wpAny_loadName_free (c := cc) (by rw [hE]; exact hk) (by rw [hE]; exact hkc) (by rw [hE]; rfl) ⟨_, KX _ _ hcell, rfl⟩ ?_
    rw [har]
    refine wpAny_loadName_local (by rw [hE]; exact hk) (by rw [hE]; exact hka) hns hself ?_
    refine ks_wpAny_isType_cls hD1 hD2 ⟨rfl, ?_⟩
    refine ks_wpAny_call_super hD1 hD2 J.at_ J.cls (fun c e => ?_) (PySem.W.looks_mroIn KX S.mro) (fun h' e k => ?_)
    · have := J.no
      unfold PySem.W.notCls at this
      rw [e] at this
      exact Bool.noConfusion this
    · exact ⟨_, rfl, I.kept (t' := s.toks) k, e⟩
  refine ks_wpAt_mono base0 (fun ov s1 ⟨so, eo, I1, hso⟩ => PySem.wpAt_of_wpAny ?_) fun _ _ z => z
  subst eo
  refine wpAny_bind (wpAny_standAt (wpAny_bind (wpAny_holding (wpAny_bind ?_))))
  have KX1 : X.K.In s1.heap := I1.kIn
  obtain ⟨cd, hcd⟩ : ∃ cd, PySem.W.clsIn X.K D = some cd := S.cls
  have hfind := S.find
  unfold PySem.W.ks_superIn at hfind
  rw [hcd] at hfind
  obtain ⟨oc2, od2, fd2, osl2, hf2⟩ := S.fun2
  have ty := S.typ
  have hcls2 : oc2 = .type "function" := by
    have ht' : (X.K.lookup f2).map (·.cls) = some (.type "function") := ty
    rw [hf2] at ht'
    exact Option.some.inj ht'
  obtain ⟨mA1, O1, _⟩ := ins_get I1.hok hxo
  obtain ⟨odx1, J1, _⟩ := O1.look
  refine getAttr_super (X := KX1) (l₀ := cd.mro) hso (PySem.W.looks_opaque KX1 S.opq) (fun A Q E s k q => wpAny_bind ((PySem.W.looks_clsIn KX1 hcd) A _ E s k (wpAny_pure q))) rfl hfind (KX1 _ _ hf2) hcls2 (PySem.W.ks_ne KX1 J1 hcd) hm ?_
  refine wpAny_pure ?_
  have I2a : Inv X [] σ H { s1 with heap := s1.heap.push (PySem.W.methodObj (.ref f2) (.ref x)), toks := s1.toks + 1 } := I1.kept (t' := s1.toks + 1) (fun b o e => Heap.get?_push_of_some _ e)
  have I2 : Inv X [(s1.heap.objs.size, PySem.W.methodObj (.ref f2) (.ref x))] σ H { s1 with heap := s1.heap.push (PySem.W.methodObj (.ref f2) (.ref x)), toks := s1.toks + 1 } := by
    refine I2a.pins_of fun p hp => ?_
    · rw [List.mem_singleton.mp hp]
      exact ⟨Heap.get?_push_at rfl rfl, I1.hok.fresh (Nat.le_refl _), Ne.symm (Nat.ne_of_lt I1.lt), I1.nofs (Nat.le_refl _), fun v z => nomatch z⟩
  show wpAny _ _ (callWith pos (.ref s1.heap.objs.size) [] [] (backToKw pos (keywordEach [⟨none, e, p⟩] X.env))) _ _ _
  refine callWith_bk (f2 := f2) (x := .ref x) rfl (run_evalArgs he I2 ht fun kvs ws H' s' I3 rv ⟨hok, hq⟩ => ?_)
  have hpin := (I3.pin (s1.heap.objs.size, PySem.W.methodObj (.ref f2) (.ref x)) (List.mem_append_right _ (List.mem_singleton.mpr rfl))).1
  refine ⟨hpin, ⟨_, fd2, I3.kIn _ _ hf2, rfl⟩, wpAny_call (ks_codeAny_call_bound hpin ?_)⟩
  have lk : (kvs.map (·.2)).length = (kvs.map (·.1)).length := by rw [List.length_map, List.length_map]
  refine codeAny_mono (F _ hok X.A X.stack s' H' (.ref x) (.ref x) ws (kvs.map (·.2)) _ E hr I3.env0 rfl rv lk hq) fun r s4 hq4 => ?_
  cases r with
  | error e => exact hx _ σ H' s' e s4 I3 hq4
  | ok fl =>
    cases fl with
    | ret u =>
      obtain ⟨v, H4, I4, _, q4⟩ := I3.after hq4
      exact ⟨σ, H4, I4.pins_of (fun p hp => absurd hp (by simp)), q4⟩
    | next => exact False.elim hq4
    | brk => exact False.elim hq4
    | cont => exact False.elim hq4
end
end SE
/-! Defs with a keyword-only parameter and **d: those that say super(); the default where the keyword is not given. -/
namespace SE
open PySem PySem.Spec PyProof.Rows L2 StX
/-- what a binding with **d asks for -/
def BndKw (P : Program) (w : World) (K : PySem.W.Frag) (fd : FuncData) (p1 y pd : Str) (ks : List Str) (lim : List Value → Value) (ex : List Value → List (Str × Value)) : Prop :=
  ∀ (u : Value) (ws : List Value), ws.length = ks.length → ∀ (A' : Around) (Ex : Value → Shared → Prop) (Q' : List (Str × Value) → Shared → Prop) (s : Shared), K.In s.heap →
      wpAny (model P w) A' ((alloc ({ cls := .type "dict", data := .dict #[] } : Obj) : Sem Addr) >>= fun d => (forIn (ex ws) PUnit.unit (fun x _ => (nsSet d x.1 x.2 >>= fun _ => pure (ForInStep.yield PUnit.unit))) >>= fun _ => pure [(p1, u), (y, lim ws), (pd, Value.ref d)])) Q' Ex s →
      wpAny (model P w) A' (bindArgs fd ⟨[u], ks.zip ws⟩) Q' Ex s
/-- the keyword-only parameter by its default -/
theorem bnd_dflt {P : Program} {w : World} {K : PySem.W.Frag} {fd : FuncData} {p1 y pd : Str} {ks : List Str} {dv : Value} {D : Addr} {ex : List Value → List (Str × Value)} (hy : PySem.W.nsIn K D y = some (some dv))
    (hb : ∀ (u : Value) (ws : List Value), ws.length = ks.length → ∃ (β γ : Type) (k1 : Option Value → Sem β) (k2 : β → Sem γ) (k3 : γ → Sem (List (Str × Value))) (a : β), bindArgs fd ⟨[u], ks.zip ws⟩ = ((nsGet D y >>= k1) >>= k2) >>= k3 ∧ k1 (some dv) = pure a ∧
      (k2 a >>= k3) = ((alloc ({ cls := .type "dict", data := .dict #[] } : Obj) : Sem Addr) >>= fun d => (forIn (ex ws) PUnit.unit (fun x _ => (nsSet d x.1 x.2 >>= fun _ => pure (ForInStep.yield PUnit.unit))) >>= fun _ => pure [(p1, u), (y, dv), (pd, Value.ref d)]))) :
    BndKw P w K fd p1 y pd ks (fun _ => dv) ex := by
  intro u ws hl A' Ex Q' s KX h
  obtain ⟨β, γ, k1, k2, k3, a, e1, e2, e3⟩ := hb u ws hl
  rw [e1, bind_assoc]
  have l1 : PySem.W.Looks (model P w) s.heap (nsGet D y >>= k1) a := (PySem.W.looks_nsIn KX hy).andThen (PySem.W.Looks.of_pure e2)
  refine wpAny_bind (l1.here ?_)
  show wpAny _ _ (k2 a >>= k3) _ _ _
  rw [e3]
  exact h
section
variable {CX : CXT} {P : Program} {w : World} {K : PySem.W.Frag} {mg : Str → Option Value} {base : Heap} {k : Nat} {f cc D : Addr} {name qual : Str} {params : Arguments} {body : List Stmt} {scope : Scope} {dV kV doc pm cdv ct oc cl : Value} {an od cld : Option Addr}
  {osl csl : Array (Option Value)} {N : List Str} {sp : Sp} {p1 y pd : Str} {ks : List Str}
theorem bnd_run {fd : FuncData} {A : Around} {outer : List Env} {s : Shared} {H : Hp} {E : XK} {u : Value} {x : V} {ws : List Value} {zs : List V} (lim : List Value → Value) (limv : List V → V) (ex : List Value → List (Str × Value)) (exV : List V → List (Str × V)) (hCX : CXUp CX)
    (e0 : Env0 P w K mg base A outer s H) (hb : BndKw P w K fd p1 y pd ks lim ex) (rx : RelV x u) (rz : Vals zs ws) (hl : zs.length = ks.length)
    (hn : ∀ ws : List Value, ws.length = ks.length → ((ex ws).map (·.1)).Nodup ∧ (ex ws).length ≤ sizeLine) (hrel : ∀ (zs : List V) (ws : List Value), Vals zs ws → zs.length = ks.length → RelV (limv zs) (lim ws) ∧ KV (exK (exV zs)) (exK (ex ws))) :
    Bnd CX P w K mg base fd ⟨[u], ks.zip ws⟩ [p1, y, pd] A outer s H E (fun xs H2 => ∃ d, H d = Option.none ∧ xs = [x, limv zs, V.ref d] ∧ H2 = upd H d (.dK (exK (exV zs)))) := by
  have lw : ws.length = ks.length := rz.length.symm.trans hl
  obtain ⟨hn1, hn2⟩ := hn ws lw
  obtain ⟨rl, rk⟩ := hrel zs ws rz hl
  have KX : K.In s.heap := e0.mod.kin.keeps fun b o e => (e0.bs b o e).1
  have hnn : H s.heap.objs.size = Option.none := e0.hok.fresh (Nat.le_refl _)
  intro A' Ex Q' h
  refine hb u ws lw _ _ _ _ KX (wpAny_bind (wpAny_alloc (wpAny_bind ?_)))
  refine fill_push (h0 := s.heap) (ex ws) { s with heap := s.heap.push (PySem.W.dictOf [] 0) } [] 0 rfl (fun e he => nomatch he) (fun e he => nomatch he) hn1 (wpAny_pure ?_)
  have dd := mix_dict (P := P) (w := w) (h0 := s.heap) (ex := ex ws) s.toks (0 + (ex ws).length) hn1
  have z1 : (exK (exV zs)).length ≤ sizeLine := by
    rw [Paired.length rk]
    unfold exK
    rw [List.length_map]
    exact hn2
  have sm : (s.heap.objs.size == sysModules) = false := beq_eq_false_iff_ne.mpr (Ne.symm (Nat.ne_of_lt (env0_big e0)))
  have new : ObjOk P w (upd H s.heap.objs.size (.dK (exK (exV zs)))) (s.heap.push (PySem.W.dictOf (PySem.W.kwEs w.params s.toks (ex ws)) (0 + (ex ws).length))) s.heap.objs.size (.dK (exK (exV zs))) := dk_new z1 sm rk dd
  have un := un_laid (fs := frs outer) (s := s) (o := PySem.W.dictOf (PySem.W.kwEs w.params s.toks (ex ws)) (0 + (ex ws).length)) (u := .dK (exK (exV zs))) hnn
  have e2 := env0_laid e0 new
  have e3 : Env0 P w K mg base A outer { s with heap := s.heap.push (PySem.W.dictOf (PySem.W.kwEs w.params s.toks (ex ws)) (0 + (ex ws).length)), toks := s.toks + (ex ws).length } (upd H s.heap.objs.size (.dK (exK (exV zs)))) := ⟨e2.frames, e2.mod, e2.bs, e2.bsz, e2.funs, e2.frf, e2.hok, e2.bare⟩
  exact h _ _ [x, limv zs, V.ref s.heap.objs.size] [u, lim ws, Value.ref s.heap.objs.size] e3 un rfl (fun e s' => hCX outer s H _ _ E e s' un (fun b o q => Heap.get?_push_of_some _ q) rfl) (.cons rx (.cons rl (.cons rfl .nil))) rfl ⟨_, hnn, rfl, rfl⟩
theorem fn_kwS (lim : List Value → Value) (limv : List V → V) (ex : List Value → List (Str × Value)) (exV : List V → List (Str × V)) (lk : K.lookup f = some ⟨oc, od, .func (PySem.W.ksFn name qual params body scope dV kV doc pm an cdv ct cc), osl⟩) (hcd : PySem.W.codeIn K cdv qual = true)
    (hcc : K.lookup cc = some ⟨cl, cld, .cell (some (.ref D)), csl⟩) (S : SupScope N [p1, y, pd] scope) (hCX : CXUp CX) (hb : BndKw P w K (PySem.W.ksFn name qual params body scope dV kV doc pm an cdv ct cc) p1 y pd ks lim ex)
    (hn : ∀ ws : List Value, ws.length = ks.length → ((ex ws).map (·.1)).Nodup ∧ (ex ws).length ≤ sizeLine) (hrel : ∀ (zs : List V) (ws : List Value), Vals zs ws → zs.length = ks.length → RelV (limv zs) (lim ws) ∧ KV (exK (exV zs)) (exK (ex ws)))
    (hbody : ∀ (A : Around) (outer : List Env) (s : Shared) (H : Hp) (vs : List V) (Q : VK) (E : XK), Room k (A.deeper (PySem.W.ksEnv qual scope s.heap.objs.size f cdv cc)) → sp vs H Q E →
      ∃ t, PAt (cxSup CX P w K mg base N qual scope f cdv cc A outer s H E) body body t ∧ t { nx := fun _ H' => Q .non H', rt := Q } (L2.start N vs) H) :
    FnKw P w K mg base CX (k + 1) f ks (fun x zs H Q E => ∀ d, H d = Option.none → sp [x, limv zs, V.ref d] (upd H d (.dK (exK (exV zs)))) Q E) := by
  intro A outer s H u x ws zs Q E hr e0 rx rz hl hq
  refine run_bndS lk hcd hcc S hr e0 (bnd_run lim limv ex exV hCX e0 hb rx rz hl hn hrel) fun s2 H2 xs ⟨d, hd, ex', eH⟩ hr' => ?_
  subst ex' eH
  exact hbody A outer s2 _ _ Q E hr' (hq d hd)
theorem fn_kw2 (lim : List Value → Value) (limv : List V → V) (ex : List Value → List (Str × Value)) (exV : List V → List (Str × V)) (lk : K.lookup f = some ⟨oc, od, .func (PySem.W.fnOf name qual params body scope dV kV doc pm an cdv ct), osl⟩) (hcd : PySem.W.codeIn K cdv qual = true)
    (S : FnScope N [p1, y, pd] scope) (hCX : CXUp CX) (hb : BndKw P w K (PySem.W.fnOf name qual params body scope dV kV doc pm an cdv ct) p1 y pd ks lim ex)
    (hn : ∀ ws : List Value, ws.length = ks.length → ((ex ws).map (·.1)).Nodup ∧ (ex ws).length ≤ sizeLine) (hrel : ∀ (zs : List V) (ws : List Value), Vals zs ws → zs.length = ks.length → RelV (limv zs) (lim ws) ∧ KV (exK (exV zs)) (exK (ex ws)))
    (hbody : ∀ (A : Around) (outer : List Env) (s : Shared) (H : Hp) (vs : List V) (Q : VK) (E : XK), Room k (A.deeper (envOfC qual scope s.heap.objs.size f cdv)) → sp vs H Q E →
      ∃ t, PSs (cxOf CX P w K mg base N qual scope f cdv A outer s H E) body t ∧ t { nx := fun _ H' => Q .non H', rt := Q } (L2.start N vs) H) :
    FnKw P w K mg base CX (k + 1) f ks (fun x zs H Q E => ∀ d, H d = Option.none → sp [x, limv zs, V.ref d] (upd H d (.dK (exK (exV zs)))) Q E) := by
  intro A outer s H u x ws zs Q E hr e0 rx rz hl hq
  refine run_bnd lk hcd S hr e0 (bnd_run lim limv ex exV hCX e0 hb rx rz hl hn hrel) fun s2 H2 xs ⟨d, hd, ex', eH⟩ hr' => ?_
  subst ex' eH
  exact hbody A outer s2 _ _ Q E hr' (hq d hd)
/-- called without keywords -/
theorem FnKw.nil {sp : V → List V → Hp → VK → XK → Prop} (F : FnKw P w K mg base CX k f [] sp) : FnR P w K mg base CX k f (fun vs H Q E => ∃ x, vs = [x] ∧ sp x [] H Q E) := by
  intro A outer s H us vs Q E hr e0 r ⟨x, ev, h⟩
  subst ev
  cases r with
  | cons ru rr =>
    cases rr
    exact F A outer s H _ x [] [] Q E hr e0 ru .nil rfl h
end
end SE
namespace SE
open PySem PySem.Spec PyProof.Rows L2
/-! ### Session(..) and Recorder(..), whichever of their keywords are named -/
def limE {α : Type} (z : α) (ns : List Str) (ws : List α) : α := ws.getD ns.length z
def exE {α : Type} (ns : List Str) (ws : List α) : List (Str × α) := ns.zip ws
def NsOk (ns : List Str) : Prop := ns = [] ∨ ns = [("left" : Str)] ∨ ns = [("right" : Str)] ∨ ns = [("left" : Str), ("right" : Str)]
theorem NsOk.nd {ns : List Str} (h : NsOk ns) : ns.Nodup := by
  rcases h with rfl | rfl | rfl | rfl <;> decide
theorem NsOk.len {ns : List Str} (h : NsOk ns) : ns.length ≤ 2 := by
  rcases h with rfl | rfl | rfl | rfl <;> decide
theorem NsOk.lim {ns : List Str} (h : NsOk ns) : ("limit" : Str) ∉ ns := by
  rcases h with rfl | rfl | rfl | rfl <;> decide
theorem zip_keys {α : Type} : ∀ (ns : List Str) (ws : List α), ((ns.zip ws).map (·.1)) = ns.take ws.length
  | [], ws => by simp
  | n :: ns, [] => by simp
  | n :: ns, w :: ws => by simp [zip_keys ns ws]
theorem exE_ok {ns : List Str} (h : NsOk ns) (ws : List Value) : ((exE ns ws).map (·.1)).Nodup ∧ (exE ns ws).length ≤ sizeLine := by
  refine ⟨?_, ?_⟩
  · unfold exE
    rw [zip_keys]
    exact h.nd.sublist (List.take_sublist _ _)
  · unfold exE
    have := h.len
    rw [List.length_zip, sizeLine_eq]
    omega
theorem vals_getD : ∀ {zs : List V} {ws : List Value} (n : Nat), Vals zs ws → RelV (zs.getD n .non) (ws.getD n .none)
  | [], [], n, .nil => rfl
  | z :: zs, w :: ws, 0, .cons a _ => a
  | z :: zs, w :: ws, n + 1, .cons _ r => vals_getD n r
theorem kv_zip : ∀ (ns : List Str) {zs : List V} {ws : List Value}, Vals zs ws → KV (exK (ns.zip zs)) (exK (ns.zip ws))
  | [], _, _, _ => .nil
  | n :: ns, [], [], .nil => .nil
  | n :: ns, z :: zs, w :: ws, .cons a r => .cons ⟨rfl, a⟩ (kv_zip ns r)
theorem relE (ns : List Str) (zs : List V) (ws : List Value) (r : Vals zs ws) : RelV (limE .non ns zs) (limE .none ns ws) ∧ KV (exK (exE ns zs)) (exK (exE ns ws)) := ⟨vals_getD _ r, kv_zip ns r⟩
section
variable {P : Program} {w : World} {K : PySem.W.Frag} {mg : Str → Option Value} {base : Heap} {C : Addr}
def spSN (K : PySem.W.Frag) (C : Addr) (ns : List Str) : V → List V → Hp → VK → XK → Prop := fun x zs H Q E => ∀ d, H d = none → spSI K C [x, limE .non ns zs, .ref d] (upd H d (.dK (exK (exE ns zs)))) Q E
/-- Session.__init__: the limit named last -/
theorem fk_sinitL {g : Addr} {kV doc pm cdv ct oc : Value} {an od : Option Addr} {osl : Array (Option Value)} (lk : K.lookup g = some ⟨oc, od, .func (PySem.W.fnOf "__init__" "Session.__init__" (defArgs sSInit) (defBody sSInit) (defScope sSInit) .none kV doc pm an cdv ct), osl⟩) (hcd : PySem.W.codeIn K cdv "Session.__init__" = true)
    (T : SCl K C) (GL : Has P w K mg base "check_limit" 4 ["limit"] [] spLim2) (GS : Has P w K mg base "check_stacks" 4 ["stacks"] [] (spCkS K)) (GH : Has P w K mg base "check_heights" 2 ["stacks", "limit"] [] (spCkH K)) (GW : Has P w K mg base "without_empty" 1 ["stacks"] [] (spWe K)) {ns : List Str} (hns : NsOk ns) :
    FnKw P w K mg base CX0 5 g (ns ++ [("limit" : Str)]) (spSN K C ns) := by
  have hb : BndKw P w K (PySem.W.fnOf "__init__" "Session.__init__" (defArgs sSInit) (defBody sSInit) (defScope sSInit) .none kV doc pm an cdv ct) "self" "limit" "stacks" (ns ++ [("limit" : Str)]) (limE .none ns) (exE ns) := by
    rcases hns with rfl | rfl | rfl | rfl
    · intro u ws hl A' Ex Q' s _ h
      match ws, hl with
      | [wa], _ => exact h
    · intro u ws hl A' Ex Q' s _ h
      match ws, hl with
      | [wa, wb], _ => exact h
    · intro u ws hl A' Ex Q' s _ h
      match ws, hl with
      | [wa, wb], _ => exact h
    · intro u ws hl A' Ex Q' s _ h
      match ws, hl with
      | [wa, wb, wc], _ => exact h
  exact fn_kw2 (limE .none ns) (limE .non ns) (exE ns) (exE ns) lk hcd scSI StX.cxUp_none hb (fun ws _ => exE_ok hns ws) (fun zs ws r _ => relE ns zs ws r) (body_sinit T GL GS GH GW)
/-- Session.__init__: the limit not named -/
theorem fk_sinitN {g D : Addr} {doc pm cdv ct oc : Value} {an od : Option Addr} {osl : Array (Option Value)} (lk : K.lookup g = some ⟨oc, od, .func (PySem.W.fnOf "__init__" "Session.__init__" (defArgs sSInit) (defBody sSInit) (defScope sSInit) .none (.ref D) doc pm an cdv ct), osl⟩) (hcd : PySem.W.codeIn K cdv "Session.__init__" = true)
    (hy : PySem.W.nsIn K D "limit" = some (some .none)) (T : SCl K C) (GL : Has P w K mg base "check_limit" 4 ["limit"] [] spLim2) (GS : Has P w K mg base "check_stacks" 4 ["stacks"] [] (spCkS K)) (GH : Has P w K mg base "check_heights" 2 ["stacks", "limit"] [] (spCkH K)) (GW : Has P w K mg base "without_empty" 1 ["stacks"] [] (spWe K)) {ns : List Str} (hns : NsOk ns) :
    FnKw P w K mg base CX0 5 g ns (fun x zs H Q E => ∀ d, H d = none → spSI K C [x, .non, .ref d] (upd H d (.dK (exK (exE ns zs)))) Q E) := by
  have hb : BndKw P w K (PySem.W.fnOf "__init__" "Session.__init__" (defArgs sSInit) (defBody sSInit) (defScope sSInit) .none (.ref D) doc pm an cdv ct) "self" "limit" "stacks" ns (fun _ => .none) (exE ns) := by
    refine bnd_dflt hy fun u ws hl => ?_
    rcases hns with rfl | rfl | rfl | rfl
    · match ws, hl with
      | [], _ => exact ⟨_, _, _, _, _, _, rfl, rfl, rfl⟩
    · match ws, hl with
      | [wa], _ => exact ⟨_, _, _, _, _, _, rfl, rfl, rfl⟩
    · match ws, hl with
      | [wa], _ => exact ⟨_, _, _, _, _, _, rfl, rfl, rfl⟩
    · match ws, hl with
      | [wa, wb], _ => exact ⟨_, _, _, _, _, _, rfl, rfl, rfl⟩
  exact fn_kw2 (fun _ => .none) (fun _ => .non) (exE ns) (exE ns) lk hcd scSI StX.cxUp_none hb (fun ws _ => exE_ok hns ws) (fun zs ws r _ => ⟨rfl, (relE ns zs ws r).2⟩) (body_sinit T GL GS GH GW)
end
end SE
namespace SE
open PySem PySem.Spec PyProof.Rows L2
/-! ### Recorder.__init__ -/
abbrev sRInit : Stmt := inClass sRecorder 0
abbrev sRNote : Stmt := inClass sRecorder 1
abbrev sRFailures : Stmt := inClass sRecorder 2
abbrev sRCopy : Stmt := inClass sRecorder 3
structure RCl (K : PySem.W.Frag) (C : Addr) : Prop extends SCl K C where
  nX : NoAttr K C "failed"
abbrev nRI : List Str := ["self", "limit", "stacks", "given"]
theorem scRI : SupScope nRI ["self", "limit", "stacks"] (defScope sRInit) := ⟨rfl, rfl, rfl, by decide +kernel, rfl, by decide +kernel, by decide +kernel, by decide +kernel, rfl, rfl⟩
section
variable {P : Program} {w : World} {K : PySem.W.Frag} {mg : Str → Option Value} {base : Heap} {C : Addr}
/-- what Recorder.__init__ makes of its arguments -/
def spRI (K : PySem.W.Frag) (C : Addr) : Sp := fun vs H Q _ => ∃ (x dx d : Addr) (ns : List Str) (zs : List V) (ss : Sk) (m b : Nat) (l : Lim), vs = [.ref x, limV l, .ref d] ∧ H x = some (.ins C dx []) ∧ NsOk ns ∧ zs.length = ns.length ∧ H d = some (.dK (exK (ns.zip zs))) ∧ SkH K H (exK (ns.zip zs)) ss ∧ SkOk ss m b ∧ m ≤ 100000 ∧ b ≤ 5000 ∧ LimOk l ∧ (∀ p ∈ ss, high l p.2.length = false) ∧
  ∀ L D H', (∀ b o, H b = some o → b ≠ x → H' b = some o) → H L = none → H D = none → SesX K C (some D) [] H' x L (cleanS ss) l [] → Q .non H'
/-- Session.__init__, as super() calls it -/
def spSup (K : PySem.W.Frag) (C : Addr) (ks : List Str) : V → List V → Hp → VK → XK → Prop := fun x zs H Q E => ∃ ns, ks = ns ++ [("limit" : Str)] ∧ NsOk ns ∧ spSN K C ns x zs H Q E
def okSup (ks : List Str) : Prop := ∃ ns, ks = ns ++ [("limit" : Str)] ∧ NsOk ns
theorem zip_fst {α : Type} : ∀ {ns : List Str} {zs : List α}, zs.length = ns.length → (ns.zip zs).map (·.1) = ns
  | [], [], _ => rfl
  | n :: ns, z :: zs, h => by simp [zip_fst (ns := ns) (zs := zs) (by simpa using h)]
theorem zip_snd {α : Type} : ∀ {ns : List Str} {zs : List α}, zs.length = ns.length → (ns.zip zs).map (·.2) = zs
  | [], [], _ => rfl
  | n :: ns, z :: zs, h => by simp [zip_snd (ns := ns) (zs := zs) (by simpa using h)]
theorem zip_more {α : Type} : ∀ {ns : List Str} {zs : List α} (y : List α), zs.length = ns.length → ns.zip (zs ++ y) = ns.zip zs
  | [], [], _, _ => by simp
  | n :: ns, z :: zs, y, h => by simp [zip_more (ns := ns) (zs := zs) y (by simpa using h)]
theorem limE_last {ns : List Str} {zs : List V} {y : V} (h : zs.length = ns.length) : limE .non ns (zs ++ [y]) = y := by
  unfold limE
  rw [List.getD_eq_getElem?_getD, List.getElem?_append_right (by omega)]
  simp [h]
theorem body_rinit {g gs cda cc : Addr} (S : SupOk P K "__init__" g cda cc C gs) (T : RCl K C) (hms : mg "super" = none) (FS : ∀ ks, okSup ks → FnKw P w K mg base CX0 5 gs ks (spSup K C ks))
    (A : Around) (outer : List Env) (s : Shared) (H : Hp) (vs : List V) (Q : VK) (E : XK) (hr : Room 5 (A.deeper (PySem.W.ksEnv "Recorder.__init__" (defScope sRInit) s.heap.objs.size g (.ref cda) cc))) (h : spRI K C vs H Q E) :
    ∃ t, PAt (cxSup CX0 P w K mg base nRI "Recorder.__init__" (defScope sRInit) g (.ref cda) cc A outer s H E) (defBody sRInit) (defBody sRInit) t ∧ t { nx := fun _ H' => Q .non H', rt := Q } (L2.start nRI vs) H := by
  obtain ⟨x, dx, d, ns, zs, ss, m, b, l, rfl, hx, hns, hzs, hd, hS, ok, hm, hb, hl, hh, k⟩ := h
  refine ⟨_, pat_cons (pa1_of (ps_set (i := 3) (show nRI.Nodup by decide) rfl (.inl rfl) (pe_dmrg (pv 2) pe_str (pv 1)))) (pat_cons (pa_super (i := 0) (E := E0) (ok := okSup) (sp := spSup K C) S rfl rfl rfl rfl rfl rfl (by decide) FS hr pass0 (pv 3) hms) (pat_of (pss_one (ps_fld (pv 0) pe_dnewK rfl)))), ?_⟩
  intro D hD
  have dD : d ≠ D := fun q => by rw [q, hD] at hd; cases hd
  have xD : x ≠ D := fun q => by rw [q, hD] at hx; cases hx
  have keys : (exK (ns.zip zs)).map (·.1) = ns.map (Sum.inr : Str → Key) := by
    unfold exK
    rw [List.map_map, show ((fun p : Key × V => p.1) ∘ fun p : Str × V => ((Sum.inr p.1 : Key), p.2)) = (Sum.inr : Str → Key) ∘ (fun p => p.1) from rfl, ← List.map_map, zip_fst hzs]
  have nk : ((exK (ns.zip zs)).map (·.1)).Nodup := by
    rw [keys]
    exact List.Pairwise.map _ (fun a b q z => q (Sum.inr.inj z)) hns.nd
  refine ⟨_, rfl, d, exK (ns.zip zs), rfl, by rw [upd_ne dD]; exact hd, upd_same, Ne.symm dD, nk, fun D2 hD2 => ?_⟩
  have D2D : D2 ≠ D := fun q => by rw [q, upd_same] at hD2; cases hD2
  have hD20 : H D2 = none := by
    rw [upd_ne D2D, upd_ne D2D] at hD2
    exact hD2
  have xD2 : x ≠ D2 := fun q => by rw [q, hD20] at hx; cases hx
  refine ⟨_, rfl, Sum.inr "limit", rfl, by rw [upd_ne (Ne.symm D2D)]; exact upd_same, upd_same, Ne.symm D2D, ?_, ?_, ?_⟩
  · rw [keys]
    intro z
    obtain ⟨n, hn, e⟩ := List.mem_map.mp z
    exact hns.lim (by rw [← Sum.inr.inj e]; exact hn)
  · have := hns.len
    unfold exK
    rw [List.length_map, List.length_zip, sizeLine_eq]
    omega
  have ek : exK (ns.zip zs) ++ [((Sum.inr "limit" : Key), limV l)] = exK (ns.zip zs ++ [(("limit" : Str), limV l)]) := by
    unfold exK
    rw [List.map_append]
    rfl
  rw [ek]
  -- the heap of given
  have s0 : Same H (upd (upd (upd (upd (upd H D (.dK [])) D (.dK (exK (ns.zip zs)))) D2 (.dK [])) D2 (.dK [((Sum.inr "limit" : Key), limV l)])) D (.dK (exK (ns.zip zs ++ [(("limit" : Str), limV l)])))) := fun c u hc => by
    have c1 : c ≠ D := fun q => by rw [q, hD] at hc; cases hc
    have c2 : c ≠ D2 := fun q => by rw [q, hD20] at hc; cases hc
    rw [upd_ne c1, upd_ne c2, upd_ne c2, upd_ne c1, upd_ne c1]
    exact hc
  have hDg : upd (upd (upd (upd (upd H D (.dK [])) D (.dK (exK (ns.zip zs)))) D2 (.dK [])) D2 (.dK [((Sum.inr "limit" : Key), limV l)])) D (.dK (exK (ns.zip zs ++ [(("limit" : Str), limV l)]))) D = some (.dK (exK (ns.zip zs ++ [(("limit" : Str), limV l)]))) := upd_same
  generalize upd (upd (upd (upd (upd H D (.dK [])) D (.dK (exK (ns.zip zs)))) D2 (.dK [])) D2 (.dK [((Sum.inr "limit" : Key), limV l)])) D (.dK (exK (ns.zip zs ++ [(("limit" : Str), limV l)]))) = H1 at s0 hDg ⊢
  refine ⟨x, dx, [], rfl, s0 _ _ hx, fun D3 hD3 => ?_⟩
  have DD3 : D ≠ D3 := fun q => by rw [← q, hDg] at hD3; cases hD3
  have kz : ((ns.zip zs ++ [(("limit" : Str), limV l)]).map (·.1)) = ns ++ [("limit" : Str)] := by
    rw [List.map_append, zip_fst hzs]
    rfl
  have kz2 : ((ns.zip zs ++ [(("limit" : Str), limV l)]).map (·.2)) = zs ++ [limV l] := by
    rw [List.map_append, zip_snd hzs]
    rfl
  refine ⟨_, rfl, D, ns.zip zs ++ [(("limit" : Str), limV l)], rfl, by rw [upd_ne DD3]; exact hDg, upd_same, Ne.symm DD3, by
    rw [kz, List.nodup_append]
    exact ⟨hns.nd, by simp, fun a ha b hb e => hns.lim (by rw [List.mem_singleton.mp hb] at e; rw [← e]; exact ha)⟩, ?_⟩
  dsimp only
  rw [kz, kz2]
  refine ⟨⟨ns, rfl, hns⟩, ns, rfl, hns, fun d5 hd5 => ?_⟩
  rw [limE_last hzs, show exE ns (zs ++ [limV l]) = ns.zip zs from zip_more _ hzs]
  have s1 : Same H (upd (upd H1 D3 (.dK [])) D3 (.dK (exK (ns.zip zs ++ [(("limit" : Str), limV l)])))) := fun c u hc => by
    have hc1 := s0 _ _ hc
    have c3 : c ≠ D3 := fun q => by rw [q, hD3] at hc1; cases hc1
    rw [upd_ne c3, upd_ne c3]
    exact hc1
  generalize upd (upd H1 D3 (.dK [])) D3 (.dK (exK (ns.zip zs ++ [(("limit" : Str), limV l)]))) = H2 at s1 hd5 ⊢
  have s2 : Same H (upd H2 d5 (.dK (exK (ns.zip zs)))) := s1.trans (Same.new hd5)
  refine ⟨x, dx, d5, exK (ns.zip zs), ss, m, b, l, rfl, s2 _ _ hx, upd_same, skH_same hS s2, ok, hm, hb, hl, hh, fun L H3 hk hL hs => ?_⟩
  have hL0 : H L = none := s2.free hL
  have Lx := hs.ne
  obtain ⟨dx2, F, us, a1, a2, a3, a4, a5⟩ := hs.ex
  intro D6 hD6
  have D6x : D6 ≠ x := fun q => by rw [q, a1] at hD6; cases hD6
  have D6L : D6 ≠ L := fun q => by rw [q, a2] at hD6; cases hD6
  have hD60 : H D6 = none := by
    cases e : H D6 with
    | none => rfl
    | some u =>
      have := hk D6 u (s2 _ _ e) D6x
      rw [hD6] at this
      cases this
  have s6 : Same H3 (upd H3 D6 (.dK [])) := Same.new hD6
  refine ⟨_, rfl, x, C, dx2, _, rfl, s6 _ _ a1, T.cl, T.nX, by show 3 < 1000; decide, ?_⟩
  refine k L D6 _ (fun c u hc cx => ?_) hL0 hD60 ⟨dx2, F, us, upd_same, by rw [upd_ne (Ne.symm Lx)]; exact s6 _ _ a2, ?_, ?_, ?_⟩
  · rw [upd_ne cx]
    exact s6 _ _ (hk c u (s2 _ _ hc) cx)
  · exact SkF.upd (Loose.ins (s6 _ _ a1)) (a3.same s6)
  · exact deeds_upd (Loose.ins (s6 _ _ a1)) (deeds_same a4 s6)
  · show upd (upd H3 D6 (.dK [])) x _ D6 = _
    rw [upd_ne D6x]
    exact upd_same
end
end SE
namespace SE
open PySem PySem.Spec PyProof.Rows L2
section
variable {P : Program} {w : World} {K : PySem.W.Frag} {mg : Str → Option Value} {base : Heap} {C : Addr}
/-- Recorder.__init__ by its arguments -/
def spRN (K : PySem.W.Frag) (C : Addr) (ns : List Str) : V → List V → Hp → VK → XK → Prop := fun x zs H Q E => ∀ d, H d = none → spRI K C [x, limE .non ns zs, .ref d] (upd H d (.dK (exK (exE ns zs)))) Q E
def RFun (K : PySem.W.Frag) (g gd cda cc C : Addr) : Prop := ∃ (oc : Value) (od : Option Addr) (doc pm : Value) (an : Option Addr) (ct : Value) (osl : Array (Option Value)) (cl : Value) (cld : Option Addr) (csl : Array (Option Value)),
  K.lookup g = some ⟨oc, od, .func (PySem.W.ksFn "__init__" "Recorder.__init__" (defArgs sRInit) (defBody sRInit) (defScope sRInit) .none (.ref gd) doc pm an (.ref cda) ct cc), osl⟩ ∧ PySem.W.codeIn K (.ref cda) "Recorder.__init__" = true ∧ K.lookup cc = some ⟨cl, cld, .cell (some (.ref C)), csl⟩ ∧ PySem.W.nsIn K gd "limit" = some (some .none)
theorem fk_rinitL {g gd gs cda cc : Addr} (R : RFun K g gd cda cc C) (S : SupOk P K "__init__" g cda cc C gs) (T : RCl K C) (hms : mg "super" = none) (FS : ∀ ks, okSup ks → FnKw P w K mg base CX0 5 gs ks (spSup K C ks)) {ns : List Str} (hns : NsOk ns) :
    FnKw P w K mg base CX0 6 g (ns ++ [("limit" : Str)]) (spRN K C ns) := by
  obtain ⟨oc, od, doc, pm, an, ct, osl, cl, cld, csl, lk, hcd, hcc, hy⟩ := R
  have hb : BndKw P w K (PySem.W.ksFn "__init__" "Recorder.__init__" (defArgs sRInit) (defBody sRInit) (defScope sRInit) .none (.ref gd) doc pm an (.ref cda) ct cc) "self" "limit" "stacks" (ns ++ [("limit" : Str)]) (limE .none ns) (exE ns) := by
    rcases hns with rfl | rfl | rfl | rfl
    · intro u ws hl A' Ex Q' s _ h
      match ws, hl with
      | [wa], _ => exact h
    · intro u ws hl A' Ex Q' s _ h
      match ws, hl with
      | [wa, wb], _ => exact h
    · intro u ws hl A' Ex Q' s _ h
      match ws, hl with
      | [wa, wb], _ => exact h
    · intro u ws hl A' Ex Q' s _ h
      match ws, hl with
      | [wa, wb, wc], _ => exact h
  exact fn_kwS (limE .none ns) (limE .non ns) (exE ns) (exE ns) lk hcd hcc scRI StX.cxUp_none hb (fun ws _ => exE_ok hns ws) (fun zs ws r _ => relE ns zs ws r) (body_rinit S T hms FS)
theorem limE_none {ns : List Str} {zs : List V} (h : zs.length = ns.length) : limE .non ns zs = .non := by
  unfold limE
  rw [List.getD_eq_getElem?_getD, List.getElem?_eq_none (by omega)]
  rfl
theorem fk_rinitN {g gd gs cda cc : Addr} (R : RFun K g gd cda cc C) (S : SupOk P K "__init__" g cda cc C gs) (T : RCl K C) (hms : mg "super" = none) (FS : ∀ ks, okSup ks → FnKw P w K mg base CX0 5 gs ks (spSup K C ks)) {ns : List Str} (hns : NsOk ns) :
    FnKw P w K mg base CX0 6 g ns (spRN K C ns) := by
  obtain ⟨oc, od, doc, pm, an, ct, osl, cl, cld, csl, lk, hcd, hcc, hy⟩ := R
  have hb : BndKw P w K (PySem.W.ksFn "__init__" "Recorder.__init__" (defArgs sRInit) (defBody sRInit) (defScope sRInit) .none (.ref gd) doc pm an (.ref cda) ct cc) "self" "limit" "stacks" ns (fun _ => .none) (exE ns) := by
    refine bnd_dflt hy fun u ws hl => ?_
    rcases hns with rfl | rfl | rfl | rfl
    · match ws, hl with
      | [], _ => exact ⟨_, _, _, _, _, _, rfl, rfl, rfl⟩
    · match ws, hl with
      | [wa], _ => exact ⟨_, _, _, _, _, _, rfl, rfl, rfl⟩
    · match ws, hl with
      | [wa], _ => exact ⟨_, _, _, _, _, _, rfl, rfl, rfl⟩
    · match ws, hl with
      | [wa, wb], _ => exact ⟨_, _, _, _, _, _, rfl, rfl, rfl⟩
  have F := fn_kwS (CX := CX0) (mg := mg) (base := base) (k := 5) (fun _ => .none) (fun _ => .non) (exE ns) (exE ns) lk hcd hcc scRI StX.cxUp_none hb (fun ws _ => exE_ok hns ws) (fun zs ws r _ => ⟨rfl, (relE ns zs ws r).2⟩) (body_rinit S T hms FS)
  intro A outer s H u x ws zs Q E hr e0 rx rz hl hs
  refine F A outer s H u x ws zs Q E hr e0 rx rz hl ?_
  unfold spRN at hs
  rw [limE_none hl] at hs
  exact hs
/-! ### the classes, called -/
def SesMk (P : Program) (w : World) (K : PySem.W.Frag) (mg : Str → Option Value) (base : Heap) (C : Addr) : Prop := ∃ f, Mk K C f ∧ ∀ ns, NsOk ns → FnKw P w K mg base CX0 5 f (ns ++ [("limit" : Str)]) (spSN K C ns) ∧ FnKw P w K mg base CX0 5 f ns (spSN K C ns)
def RecMk (P : Program) (w : World) (K : PySem.W.Frag) (mg : Str → Option Value) (base : Heap) (C : Addr) : Prop := ∃ f, Mk K C f ∧ ∀ ns, NsOk ns → FnKw P w K mg base CX0 6 f (ns ++ [("limit" : Str)]) (spRN K C ns) ∧ FnKw P w K mg base CX0 6 f ns (spRN K C ns)
/-- the arguments of either -/
def ArgsS (K : PySem.W.Frag) (H : Hp) (ns : List Str) (zs : List V) (ss : Sk) (l : Lim) : Prop := ∃ m b, (zs.length = ns.length ∨ zs.length = ns.length + 1) ∧ limE .non ns zs = limV l ∧ SkH K H (exK (ns.zip zs)) ss ∧ SkOk ss m b ∧ m ≤ 100000 ∧ b ≤ 5000 ∧ LimOk l ∧ ∀ p ∈ ss, high l p.2.length = false
def tNewS (K : PySem.W.Frag) (C : Addr) (n : Nat) (ns : List Str) (tk : TA) : TE := fun σ H Q => tk σ H fun zs H2 => zs.length = n ∧ ∃ ss l, ArgsS K H2 ns zs ss l ∧ ∀ o L H', Same H2 H' → H2 o = none → H2 L = none → SesX K C none [] H' o L (cleanS ss) l [] → Q (.ref o) H'
def tNewR (K : PySem.W.Frag) (C : Addr) (n : Nat) (ns : List Str) (tk : TA) : TE := fun σ H Q => tk σ H fun zs H2 => zs.length = n ∧ ∃ ss l, ArgsS K H2 ns zs ss l ∧ ∀ o L D H', Same H2 H' → H2 o = none → H2 L = none → H2 D = none → SesX K C (some D) [] H' o L (cleanS ss) l [] → Q (.ref o) H'
theorem sp_newS {H2 : Hp} {ns : List Str} {zs : List V} {ss : Sk} {l : Lim} {Q : VK} (h : ArgsS K H2 ns zs ss l) (k : ∀ o L H', Same H2 H' → H2 o = none → H2 L = none → SesX K C none [] H' o L (cleanS ss) l [] → Q (.ref o) H') {x dx : Addr} (hx0 : H2 x = none) (hdx : H2 dx = none) (ne : dx ≠ x) :
    spSN K C ns (.ref x) zs (upd (upd H2 dx (.own x)) x (.ins C dx [])) (fun v H3 => v = .non ∧ Q (.ref x) H3) E0 := by
  obtain ⟨m, b, hl0, hlim, hS, ok, hm, hb, hl, hh⟩ := h
  intro d hd
  have s1 : Same H2 (upd H2 dx (.own x)) := Same.new hdx
  have hx1 : upd H2 dx (.own x) x = none := by rw [upd_ne (Ne.symm ne)]; exact hx0
  have s2 := s1.trans (Same.new (o := .ins C dx []) hx1)
  have s3 := s2.trans (Same.new (o := .dK (exK (exE ns zs))) hd)
  have dxx : d ≠ x := fun q => by rw [q, upd_same] at hd; cases hd
  rw [hlim]
  refine ⟨x, dx, d, _, ss, m, b, l, rfl, by rw [upd_ne (Ne.symm dxx)]; exact upd_same, upd_same, skH_same hS s3, ok, hm, hb, hl, hh, fun L H' hbk hL hs => ⟨rfl, k x L H' (fun c o e => ?_) hx0 (s3.free hL) hs⟩⟩
  have bx : c ≠ x := fun q => by rw [q, hx0] at e; cases e
  exact hbk c o (s3 _ _ e) bx
theorem exE_trim {α : Type} : ∀ (ns : List Str) (zs : List α), exE ns zs = exE ns (zs.take ns.length)
  | [], zs => by simp [exE]
  | n :: ns, [] => by simp [exE]
  | n :: ns, z :: zs => by
    have ih := exE_trim ns zs
    unfold exE at ih ⊢
    rw [List.length_cons, List.take_succ_cons, List.zip_cons_cons, List.zip_cons_cons, ← ih]
theorem sp_newR {H2 : Hp} {ns : List Str} {zs : List V} {ss : Sk} {l : Lim} {Q : VK} (hns : NsOk ns) (h : ArgsS K H2 ns zs ss l) (k : ∀ o L D H', Same H2 H' → H2 o = none → H2 L = none → H2 D = none → SesX K C (some D) [] H' o L (cleanS ss) l [] → Q (.ref o) H') {x dx : Addr} (hx0 : H2 x = none) (hdx : H2 dx = none) (ne : dx ≠ x) :
    spRN K C ns (.ref x) zs (upd (upd H2 dx (.own x)) x (.ins C dx [])) (fun v H3 => v = .non ∧ Q (.ref x) H3) E0 := by
  obtain ⟨m, b, hl0, hlim, hS, ok, hm, hb, hl, hh⟩ := h
  intro d hd
  have s1 : Same H2 (upd H2 dx (.own x)) := Same.new hdx
  have hx1 : upd H2 dx (.own x) x = none := by rw [upd_ne (Ne.symm ne)]; exact hx0
  have s2 := s1.trans (Same.new (o := .ins C dx []) hx1)
  have s3 := s2.trans (Same.new (o := .dK (exK (exE ns zs))) hd)
  have dxx : d ≠ x := fun q => by rw [q, upd_same] at hd; cases hd
  have ez : exE ns zs = ns.zip (zs.take ns.length) := exE_trim ns zs
  rw [hlim]
  refine ⟨x, dx, d, ns, zs.take ns.length, ss, m, b, l, rfl, by rw [upd_ne (Ne.symm dxx)]; exact upd_same, hns, by rw [List.length_take]; omega, by rw [upd_same, ez], by rw [← ez]; exact skH_same hS s3, ok, hm, hb, hl, hh, fun L D H' hbk hL hD hs => ⟨rfl, k x L D H' (fun c o e => ?_) hx0 (s3.free hL) (s3.free hD) hs⟩⟩
  have bx : c ≠ x := fun q => by rw [q, hx0] at e; cases e
  exact hbk c o (s3 _ _ e) bx
section
variable {X : Cx} {n : Str} {p pos : Pos} {kws : List Keyword} {tk : TA} {ns : List Str}
theorem pe_newS (M : SesMk X.prog X.w X.K X.mg X.base C) (hns : NsOk ns) (hm : X.mg n = some (.ref C)) (hr : Room 6 X.A) (hk : PK X kws tk)
    (hks : (backToKw pos (keywordEach kws X.env)).filterMap (·.1) = ns ++ [("limit" : Str)] ∨ (backToKw pos (keywordEach kws X.env)).filterMap (·.1) = ns := by first | exact .inl rfl | exact .inr rfl) (hall : (backToKw pos (keywordEach kws X.env)).all (·.1.isSome) = true := by rfl) (hg : Gl X n := by rfl) (hd : (n == ("__debug__" : Str)) = false := by decide)
    (hpl : ((backTo pos (starEach [] X.env)).any (·.1) || (backToKw pos (keywordEach kws X.env)).any (·.1.isNone)) = false := by rfl) : PE X (.Call (.Name n p) [] kws pos) (tNewS X.K C ((backToKw pos (keywordEach kws X.env)).filterMap (·.1)).length ns tk) := by
  obtain ⟨f, M1, F⟩ := M
  refine ⟨fun pins s σ H Q I h => ?_⟩
  refine wpAny_Call_Name_kw (ld_glob I hg hm ?_ hd)
  refine PySem.W.callWith_KW0 (h₀ := X.base) I.ok.mod.kin M1.kp hall ?_ hpl
  refine thn (hk.run pos pins s σ H _ I h) fun ws s2 ⟨zs, H2, I2, rz, q2⟩ => ⟨I2.kIn, ?_⟩
  obtain ⟨ln, ss, l, ar, k⟩ := q2
  rcases hks with hks | hks
  · rw [hks] at ln ⊢
    exact run_makeKw (ex := fun _ => E0) M1 (F ns hns).1 hr (fun _ _ _ _ _ _ h => h.elim) I2 rz ln fun x dx hx0 hdx ne => sp_newS ar k hx0 hdx ne
  · rw [hks] at ln ⊢
    exact run_makeKw (ex := fun _ => E0) M1 (F ns hns).2 hr (fun _ _ _ _ _ _ h => h.elim) I2 rz ln fun x dx hx0 hdx ne => sp_newS ar k hx0 hdx ne
theorem pe_newR (M : RecMk X.prog X.w X.K X.mg X.base C) (hns : NsOk ns) (hm : X.mg n = some (.ref C)) (hr : Room 7 X.A) (hk : PK X kws tk)
    (hks : (backToKw pos (keywordEach kws X.env)).filterMap (·.1) = ns ++ [("limit" : Str)] ∨ (backToKw pos (keywordEach kws X.env)).filterMap (·.1) = ns := by first | exact .inl rfl | exact .inr rfl) (hall : (backToKw pos (keywordEach kws X.env)).all (·.1.isSome) = true := by rfl) (hg : Gl X n := by rfl) (hd : (n == ("__debug__" : Str)) = false := by decide)
    (hpl : ((backTo pos (starEach [] X.env)).any (·.1) || (backToKw pos (keywordEach kws X.env)).any (·.1.isNone)) = false := by rfl) : PE X (.Call (.Name n p) [] kws pos) (tNewR X.K C ((backToKw pos (keywordEach kws X.env)).filterMap (·.1)).length ns tk) := by
  obtain ⟨f, M1, F⟩ := M
  refine ⟨fun pins s σ H Q I h => ?_⟩
  refine wpAny_Call_Name_kw (ld_glob I hg hm ?_ hd)
  refine PySem.W.callWith_KW0 (h₀ := X.base) I.ok.mod.kin M1.kp hall ?_ hpl
  refine thn (hk.run pos pins s σ H _ I h) fun ws s2 ⟨zs, H2, I2, rz, q2⟩ => ⟨I2.kIn, ?_⟩
  obtain ⟨ln, ss, l, ar, k⟩ := q2
  rcases hks with hks | hks
  · rw [hks] at ln ⊢
    exact run_makeKw (ex := fun _ => E0) M1 (F ns hns).1 hr (fun _ _ _ _ _ _ h => h.elim) I2 rz ln fun x dx hx0 hdx ne => sp_newR hns ar k hx0 hdx ne
  · rw [hks] at ln ⊢
    exact run_makeKw (ex := fun _ => E0) M1 (F ns hns).2 hr (fun _ _ _ _ _ _ h => h.elim) I2 rz ln fun x dx hx0 hdx ne => sp_newR hns ar k hx0 hdx ne
/-- without arguments -/
def tNew0S (K : PySem.W.Frag) (C : Addr) : TE := fun _ H Q => ∀ o L H', Same H H' → H o = none → H L = none → SesX K C none [] H' o L [] none [] → Q (.ref o) H'
def tNew0R (K : PySem.W.Frag) (C : Addr) : TE := fun _ H Q => ∀ o L D H', Same H H' → H o = none → H L = none → H D = none → SesX K C (some D) [] H' o L [] none [] → Q (.ref o) H'
theorem args0 {H : Hp} : ArgsS K H [] [] [] none := ⟨0, 0, .inl rfl, rfl, .nil, ⟨.nil, fun p m => (by cases m), Nat.le_refl _⟩, by decide, by decide, fun n e => (by cases e), fun p m => (by cases m)⟩
theorem pe_new0S (M : SesMk X.prog X.w X.K X.mg X.base C) (hm : X.mg n = some (.ref C)) (hr : Room 6 X.A) (hg : Gl X n := by rfl) (hd : (n == ("__debug__" : Str)) = false := by decide) : PE X (.Call (.Name n p) [] [] pos) (tNew0S X.K C) := by
  obtain ⟨f, M1, F⟩ := M
  refine ⟨fun pins s σ H Q I h => (pe_makeR0 (E := E0) M1 (F [] (.inl rfl)).2.nil hr hg hm pass0 hd).run pins s σ H Q I fun x dx hx hdx ne => ⟨_, rfl, sp_newS args0 h hx hdx ne⟩⟩
theorem pe_new0R (M : RecMk X.prog X.w X.K X.mg X.base C) (hm : X.mg n = some (.ref C)) (hr : Room 7 X.A) (hg : Gl X n := by rfl) (hd : (n == ("__debug__" : Str)) = false := by decide) : PE X (.Call (.Name n p) [] [] pos) (tNew0R X.K C) := by
  obtain ⟨f, M1, F⟩ := M
  refine ⟨fun pins s σ H Q I h => (pe_makeR0 (E := E0) M1 (F [] (.inl rfl)).2.nil hr hg hm pass0 hd).run pins s σ H Q I fun x dx hx hdx ne => ⟨_, rfl, sp_newR (.inl rfl) args0 h hx hdx ne⟩⟩
end
end
end SE
/-! == and != by an own __eq__, whatever it answers; repr by an own __repr__. -/
namespace SE
open PySem PySem.Spec PyProof.Rows L2
section
variable {prog : Program} {w : World} {A : Around} {E : Value → Shared → Prop} {s : Shared} {K : PySem.W.Frag} {x y C f : Addr} {ox oy : Obj} {od oe : Option Obj} {Q : Value → Shared → Prop}
/-- a special method that is a built-in's slot -/
theorem bound_slot {M : Model} {name : Str} {id : String} {args : List Value} {R : Option Value → Shared → Prop} (X : K.In s.heap) (I : PySem.W.InstAt s.heap x ox C od) (hs : PySem.W.findIn K (.ref C) name = some (some (.builtin id)))
    (hb : ∀ v, bindSpecial (.builtin id) v = pure (.builtin id, [v])) (h : wpAny M A (call (.builtin id) (.ref x :: args)) (fun v => R (some v)) E s) : wpAny M A (callSpecialIfBound? (.ref x) name args) R E s := by
  simp only [callSpecialIfBound?, bindSpecialIfBound?]
  refine wpAny_holding (wpAny_bind (wpAny_bind (wpAny_bind (I.type.here ((PySem.W.looks_findIn X hs).here (wpAny_bind (wpAny_askSetting (wpAny_ite ?_))))))))
  have last : wpAny M A (call (.builtin id) ([.ref x] ++ args) >>= fun v => pure (some v)) R E s := wpAny_bind (wpAny_mono h (fun v s2 z => wpAny_pure z) fun _ _ z => z)
  split
  · exact wpAny_bind ((PySem.W.Looks.of_pure (hb _)).here (wpAny_pure (by exact last)))
  · exact wpAny_tryCatch (wpAny_bind ((PySem.W.Looks.of_pure (hb _)).here (wpAny_pure (by exact last))))
open Builtin in
theorem ne_call {v : Value} (hu : A.in1.units < cLine) (X : K.In s.heap) (I : PySem.W.InstAt s.heap x ox C od) (hm : PySem.W.mroIn K C (.type "object") = some true) (hs : PySem.W.findIn K (.ref C) "__eq__" = some (some (.ref f))) (hf : PySem.W.isFn K (.ref f) = true)
    (h : wpAny (model prog w) A.in1 (call (.ref f) [.ref x, v]) (fun r s2 => ∃ b, r = .bool b ∧ Q (.bool (!b)) s2) E s) : wpAny (model prog w) A (call (.builtin "object.__ne__") [.ref x, v]) Q E s := by
  refine wpAny_call (codeAny_call_builtin PySem.F.cmp_object.ne.plain PySem.F.cmpEntry_ne (PySem.W.check_slot PySem.F.cmpKind_ne PySem.F.cmpSplit_ne (I.type.andThen (PySem.W.looks_mroIn X hm)) (PySem.F.cmpArgs_ne _ _) ?_))
  unfold Builtin.«object.__ne__»
  refine wpAny_bind (m := slotArgs "__ne__" 1 _) (wpAny_pure ?_)
  refine wpAny_bind (m := cRoomFor _ _) (wpAny_cRoomFor hu ?_)
  refine wpAny_bind (m := callSpecialIfBound? (.ref x) (Str.ofString "__eq__") _) (PySem.W.ifBound_K X I hs hf (wpAny_mono h (fun r s2 z => ?_) fun _ _ z => z))
  obtain ⟨b, rfl, q⟩ := z
  exact wpAny_bind (wpAny_truthy_bool (wpAny_pure q))
theorem ne_inst (hu : A.units + 1 < cLine) (X : K.In s.heap) (I : PySem.W.InstAt s.heap x ox C od) (J : PySem.W.InstAt s.heap y oy C oe) (hm : PySem.W.mroIn K C (.type "object") = some true)
    (hn : PySem.W.findIn K (.ref C) "__ne__" = some (some (.builtin "object.__ne__"))) (hs : PySem.W.findIn K (.ref C) "__eq__" = some (some (.ref f))) (hf : PySem.W.isFn K (.ref f) = true)
    (h : wpAny (model prog w) A.in1 (call (.ref f) [.ref x, .ref y]) (fun r s2 => ∃ b, r = .bool b ∧ Q (.bool (!b)) s2) E s) : wpAny (model prog w) A (richCompare .NotEq (.ref x) (.ref y)) Q E s := by
  have one : wpAny (model prog w) A (tryCompare (.ref x) (cmpInfo .NotEq).2.1 (.ref y)) (fun r s2 => ∃ v, r = some v ∧ Q v s2) E s := by
    unfold tryCompare
    refine wpAny_bind (bound_slot X I hn PySem.F.cmp_object.ne.bind (ne_call hu X I hm hs hf (wpAny_mono h (fun v s2 z => ?_) fun _ _ z => z)))
    obtain ⟨b, rfl, q⟩ := z
    exact ⟨b, rfl, wpAny_pure ⟨_, rfl, q⟩⟩
  unfold richCompare
  simp only [oneThing_ref]
  refine wpAny_holding (wpAny_bind (wpAny_cRoomFor (Nat.lt_of_succ_lt hu) (wpAny_bind (I.type.here (wpAny_bind (J.type.here ?_))))))
  rw [show (Value.ref C != Value.ref C) = false by simp]
  simp only [Bool.false_eq_true, if_false]
  refine wpAny_bind (wpAny_pure ?_)
  simp only [Bool.false_eq_true, if_false]
  refine wpAny_bind (wpAny_mono one (fun r s2 z => ?_) fun _ _ z => z)
  obtain ⟨v, rfl, q⟩ := z
  exact wpAny_pure q
end
/-! ### the rules -/
/-- what an own == promises -/
def spEqB (R : Addr → Addr → Bool → Hp → Prop) : Sp := fun vs H Q _ => ∃ (a b : Addr) (c : Bool), vs = [.ref a, .ref b] ∧ R a b c H ∧ ∀ H', Same H H' → Q (.bl c) H'
def rCmp (C : Addr) (R : Addr → Addr → Bool → Hp → Prop) (neg : Bool) : R2 := fun x y H Q => ∃ (a b : Addr) (c : Bool) (dx dy : Addr) (fs gs : List (Str × V)), x = .ref a ∧ y = .ref b ∧ H a = some (.ins C dx fs) ∧ H b = some (.ins C dy gs) ∧ R a b c H ∧ ∀ H', Same H H' → Q (.bl (c != neg)) H'
section
variable {X : Cx} {n : Nat} {C f : Addr} {fd : FuncData} {ps : List Str} {R : Addr → Addr → Bool → Hp → Prop}
theorem op_eqE (F : FnOk X.prog X.w X.K X.mg X.base CX0 n f fd ps (spEqB R)) (hs : PySem.W.findIn X.K (.ref C) "__eq__" = some (some (.ref f))) (hf : PySem.W.isFn X.K (.ref f) = true) (hb : Binds X.K fd ps []) (hr : Room n X.A) : OpR X (compareOp .Eq) (rCmp C R false) := by
  intro pins s σ H x y u v Q I rx ry hq
  obtain ⟨a, b, c, dx, dy, fs, gs, rfl, rfl, ha, hb2, hR, k⟩ := hq
  cases rx
  cases ry
  obtain ⟨mA, J, _⟩ := ins_get I.hok ha
  obtain ⟨mB, J2, _⟩ := ins_get I.hok hb2
  obtain ⟨od, J, _⟩ := J.look
  obtain ⟨oe, J2, _⟩ := J2.look
  obtain ⟨m, hF⟩ := I.fr
  show wpAny (model X.prog X.w) X.A (richCompare .Eq (.ref a) (.ref b)) (EP X pins σ Q) X.xe s
  refine PySem.W.cmp_K (op := .Eq) (tb := .ref C) hr.units0 hF I.ok.mod.kin J J2.type (by simp [PySem.W.notFirst]) hs hf ?_
  have hsp : spEqB R [.ref a, .ref b] H (fun z H' => z = .bl c ∧ Same H H') (fun _ _ _ => False) := ⟨a, b, c, rfl, hR, fun H' e => ⟨rfl, e⟩⟩
  have hl := F.len _ _ _ _ hsp
  refine wpAny_call (codeAny_mono (F.run X.A X.stack s H ⟨[.ref a, .ref b], []⟩ [.ref a, .ref b] [.ref a, .ref b] _ _ hr I.env0 (by simpa using hb s [.ref a, .ref b] I.kIn (by simpa using hl)) (.cons rfl (.cons rfl .nil)) hsp) fun r s2 hq => ?_)
  cases r with
  | error e => exact hq.elim
  | ok fl =>
    cases fl with
    | ret z =>
      obtain ⟨y, H2, I2, rz, ez, ex⟩ := I.after hq
      subst ez
      cases rz
      refine ⟨.bl c, H2, I2, rfl, ?_⟩
      have q := k H2 ex
      rw [show (c != false) = c by cases c <;> rfl] at q
      exact q
    | next => exact hq.elim
    | brk => exact hq.elim
    | cont => exact hq.elim
theorem op_neE (F : FnOk X.prog X.w X.K X.mg X.base CX0 n f fd ps (spEqB R)) (hs : PySem.W.findIn X.K (.ref C) "__eq__" = some (some (.ref f))) (hf : PySem.W.isFn X.K (.ref f) = true) (hb : Binds X.K fd ps []) (hm : PySem.W.mroIn X.K C (.type "object") = some true)
    (hn : PySem.W.findIn X.K (.ref C) "__ne__" = some (some (.builtin "object.__ne__"))) (hr : Room (n + 1) X.A) : OpR X (compareOp .NotEq) (rCmp C R true) := by
  intro pins s σ H x y u v Q I rx ry hq
  obtain ⟨a, b, c, dx, dy, fs, gs, rfl, rfl, ha, hb2, hR, k⟩ := hq
  cases rx
  cases ry
  obtain ⟨mA, J, _⟩ := ins_get I.hok ha
  obtain ⟨mB, J2, _⟩ := ins_get I.hok hb2
  obtain ⟨od, J, _⟩ := J.look
  obtain ⟨oe, J2, _⟩ := J2.look
  show wpAny (model X.prog X.w) X.A (richCompare .NotEq (.ref a) (.ref b)) (EP X pins σ Q) X.xe s
  refine ne_inst (by have := hr.in1.units0; exact this) I.kIn J J2 hm hn hs hf ?_
  have hsp : spEqB R [.ref a, .ref b] H (fun z H' => z = .bl c ∧ Same H H') (fun _ _ _ => False) := ⟨a, b, c, rfl, hR, fun H' e => ⟨rfl, e⟩⟩
  have hl := F.len _ _ _ _ hsp
  refine wpAny_call (codeAny_mono (F.run X.A.in1 X.stack s H ⟨[.ref a, .ref b], []⟩ [.ref a, .ref b] [.ref a, .ref b] _ _ hr.in1 I.env0.in1 (by simpa using hb s [.ref a, .ref b] I.kIn (by simpa using hl)) (.cons rfl (.cons rfl .nil)) hsp) fun r s2 hq => ?_)
  cases r with
  | error e => exact hq.elim
  | ok fl =>
    cases fl with
    | ret z =>
      obtain ⟨y, H2, I2, rz, ez, ex⟩ := I.after hq
      subst ez
      cases rz
      refine ⟨c, rfl, .bl (!c), H2, I2, rfl, ?_⟩
      have q := k H2 ex
      rw [show (c != true) = !c by cases c <;> rfl] at q
      exact q
    | next => exact hq.elim
    | brk => exact hq.elim
    | cont => exact hq.elim
/-- repr(o), an own __repr__ -/
theorem call_reprE {sp : Sp} (F : GOk X.prog X.w X.K X.mg X.base n f fd ["self"] sp) (hs : PySem.W.findIn X.K (.ref C) "__repr__" = some (some (.ref f))) (hf : PySem.W.isFn X.K (.ref f) = true) (hb : Binds X.K fd ["self"] []) (hgu : X.A.guards = some []) (hr : Room (n + 1) X.A) :
    CallR X (.builtin "repr") (fun xs H Q => ∃ (a dx : Addr) (fs : List (Str × V)), xs = [.ref a] ∧ H a = some (.ins C dx fs) ∧ sp [.ref a] H (fun v H' => ∃ z, v = .str z ∧ Q (.str z) H') (fun _ _ _ => False)) := by
  intro pins s σ H xs us Q I r h
  obtain ⟨a, dx, fs, rfl, ha, hsp⟩ := h
  cases r with
  | cons r1 r2 =>
    cases r2
    cases r1
    obtain ⟨mA, J, _⟩ := ins_get I.hok ha
    obtain ⟨od, J, _⟩ := J.look
    obtain ⟨m, hF⟩ := I.fr
    refine PySem.W.repr_K hr.in1.units0 hF I.ok.mod.kin J hs hf ?_
    refine wpAny_call (codeAny_mono (F.run X.A.in1 X.stack s H ⟨[.ref a], []⟩ [.ref a] [.ref a] _ _ hgu hr.in1 I.env0.in1 (by simpa using hb s [.ref a] I.kIn rfl) (.cons rfl .nil) hsp) fun r s2 hq => ?_)
    cases r with
    | error e => exact hq.elim
    | ok fl =>
      cases fl with
      | ret z =>
        obtain ⟨y, H2, I2, rz, t, ez, q⟩ := I.after hq
        subst ez
        obtain ⟨tk, rfl⟩ := rz
        exact ⟨.str t, H2, I2, ⟨_, rfl⟩, q⟩
      | next => exact hq.elim
      | brk => exact hq.elim
      | cont => exact hq.elim
/-- {x!r}, x plain data -/
def tFmtT (K : PySem.W.Frag) (te : TE) : TE := fun σ H Q => te σ H fun x H1 => ∃ (a : Addr) (d : PyData), x = .ref a ∧ Dp K H1 x d ∧ d.showable = true ∧ d.hasDict = false ∧ d.depth ≤ 20 ∧ d.shown.length ≤ sizeLine ∧ Q (.str d.shown) H1
theorem pe_fmtT {e : Expr} {te : TE} {pos : Pos} (hgu : X.A.guards = some []) (hu : X.A.units + 64 < cLine) (he : PE X e te) : PE X (.FormattedValue e 114 none pos) (tFmtT X.K te) := by
  constructor
  intro pins s σ H Q I h
  refine wpAny_FormattedValue_repr (thn (he.run pins s σ H _ I h) fun v s1 hv => ?_)
  obtain ⟨x, H1, I1, r1, a, d, rfl, hd, hs, hn, hdep, hz, q⟩ := hv
  cases r1
  obtain ⟨as, rd⟩ := Dp.reads I1 d (.ref a) (.ref a) hd rfl
  refine pyReprObj_of_reads rd hs (PyData.noDict_hsm hn) hgu (by omega) (fun _ _ z => z) (fun h2 u tk keep => ?_) hz
  have I2 := I1.kept (t' := tk) keep
  exact wpAny_formatField_str ⟨.str d.shown, H1, I2, ⟨u, rfl⟩, q⟩ ⟨.str d.shown, H1, I2.tok _, ⟨_, rfl⟩, q⟩ hz
end
theorem Nice.shownLe {k B : Nat} {d : PyData} (h : Nice k B d) : d.shown.length ≤ 15 * B + 13 := by
  have q := PyData.shown_le 13 (by decide) d (PyData.leavesShort_of_canLay0 13 d h.lay h.ish)
  have := h.wt
  omega
end SE
/-! own ==, != with whatever stands beside on the right. -/
namespace SE
open PySem PySem.Spec PyProof.Rows L2
section
variable {prog : Program} {w : World} {A : Around} {E : Value → Shared → Prop} {s : Shared} {K : PySem.W.Frag} {x C f : Addr} {ox : Obj} {od : Option Obj} {b tb : Value} {Q : Value → Shared → Prop}
theorem ne_any (hu : A.units + 1 < cLine) (X : K.In s.heap) (I : PySem.W.InstAt s.heap x ox C od) (hb : PySem.W.Looks (model prog w) s.heap (typeOf b) tb) (hnf : PySem.W.notFirst K C tb = true) (hm : PySem.W.mroIn K C (.type "object") = some true)
    (hn : PySem.W.findIn K (.ref C) "__ne__" = some (some (.builtin "object.__ne__"))) (hs : PySem.W.findIn K (.ref C) "__eq__" = some (some (.ref f))) (hf : PySem.W.isFn K (.ref f) = true)
    (h : wpAny (model prog w) A.in1 (call (.ref f) [.ref x, b]) (fun r s2 => ∃ b, r = .bool b ∧ Q (.bool (!b)) s2) E s) : wpAny (model prog w) A (richCompare .NotEq (.ref x) b) Q E s := by
  have one : wpAny (model prog w) A (tryCompare (.ref x) (cmpInfo .NotEq).2.1 b) (fun r s2 => ∃ v, r = some v ∧ Q v s2) E s := by
    unfold tryCompare
    refine wpAny_bind (bound_slot X I hn PySem.F.cmp_object.ne.bind (ne_call hu X I hm hs hf (wpAny_mono h (fun v s2 z => ?_) fun _ _ z => z)))
    obtain ⟨b, rfl, q⟩ := z
    exact ⟨b, rfl, wpAny_pure ⟨_, rfl, q⟩⟩
  unfold richCompare
  simp only [oneThing_ref]
  refine wpAny_holding (wpAny_bind (wpAny_cRoomFor (Nat.lt_of_succ_lt hu) (wpAny_bind (I.type.here (wpAny_bind (hb.here ?_))))))
  have fin : wpAny (model prog w) A (tryCompare (.ref x) (cmpInfo .NotEq).2.1 b) (fun r s2 => ∃ v, r = some v ∧ Q v s2) E s := one
  split
  · rename_i q
    have e : PySem.W.subIn K tb (.ref C) = some false := by
      rcases Bool.or_eq_true_iff.mp hnf with e | e
      · rw [beq_iff_eq.mp e] at q; simp at q
      · exact beq_iff_eq.mp e
    refine wpAny_bind ((PySem.W.looks_subIn X e).here ?_)
    simp only [Bool.false_eq_true, if_false]
    refine wpAny_bind (wpAny_mono one (fun r s' z => ?_) fun _ _ e => e)
    obtain ⟨v, rfl, hq⟩ := z
    exact wpAny_pure hq
  · refine wpAny_bind (wpAny_pure ?_)
    simp only [Bool.false_eq_true, if_false]
    refine wpAny_bind (wpAny_mono one (fun r s' z => ?_) fun _ _ e => e)
    obtain ⟨v, rfl, hq⟩ := z
    exact wpAny_pure hq
end
/-- what an own == promises of any value beside it -/
def spEqW (R : Addr → V → Bool → Hp → Prop) : Sp := fun vs H Q _ => ∃ (a : Addr) (y : V) (c : Bool), vs = [.ref a, y] ∧ R a y c H ∧ ∀ H', Same H H' → Q (.bl c) H'
def rCmpW (K : PySem.W.Frag) (C : Addr) (R : Addr → V → Bool → Hp → Prop) (neg : Bool) : R2 := fun x y H Q => ∃ (a : Addr) (c : Bool) (dx : Addr) (fs : List (Str × V)) (t : Value), x = .ref a ∧ H a = some (.ins C dx fs) ∧ TyX K H y t ∧ PySem.W.notFirst K C t = true ∧ R a y c H ∧ ∀ H', Same H H' → Q (.bl (c != neg)) H'
section
variable {X : Cx} {n : Nat} {C f : Addr} {fd : FuncData} {ps : List Str} {R : Addr → V → Bool → Hp → Prop}
theorem op_eqW (F : FnOk X.prog X.w X.K X.mg X.base CX0 n f fd ps (spEqW R)) (hs : PySem.W.findIn X.K (.ref C) "__eq__" = some (some (.ref f))) (hf : PySem.W.isFn X.K (.ref f) = true) (hb : Binds X.K fd ps []) (hr : Room n X.A) : OpR X (compareOp .Eq) (rCmpW X.K C R false) := by
  intro pins s σ H x y u v Q I rx ry hq
  obtain ⟨a, c, dx, fs, t, rfl, ha, ty, nf, hR, k⟩ := hq
  cases rx
  obtain ⟨P, Z, p, _⟩ := kit_of I ry ty
  obtain ⟨mA, J, _⟩ := ins_get I.hok ha
  obtain ⟨od, J, _⟩ := J.look
  obtain ⟨m, hF⟩ := I.fr
  show wpAny (model X.prog X.w) X.A (richCompare .Eq (.ref a) v) (EP X pins σ Q) X.xe s
  refine PySem.W.cmp_K (op := .Eq) (tb := t) hr.units0 hF I.ok.mod.kin J (Z.ty _ _ I.kIn p) nf hs hf ?_
  have hsp : spEqW R [.ref a, y] H (fun z H' => z = .bl c ∧ Same H H') (fun _ _ _ => False) := ⟨a, y, c, rfl, hR, fun H' e => ⟨rfl, e⟩⟩
  have hl := F.len _ _ _ _ hsp
  refine wpAny_call (codeAny_mono (F.run X.A X.stack s H ⟨[.ref a, v], []⟩ [.ref a, v] [.ref a, y] _ _ hr I.env0 (by simpa using hb s [.ref a, v] I.kIn (by simpa using hl)) (.cons rfl (.cons ry .nil)) hsp) fun r s2 hq => ?_)
  cases r with
  | error e => exact hq.elim
  | ok fl =>
    cases fl with
    | ret z =>
      obtain ⟨y, H2, I2, rz, ez, ex⟩ := I.after hq
      subst ez
      cases rz
      refine ⟨.bl c, H2, I2, rfl, ?_⟩
      have q := k H2 ex
      rw [show (c != false) = c by cases c <;> rfl] at q
      exact q
    | next => exact hq.elim
    | brk => exact hq.elim
    | cont => exact hq.elim
theorem op_neW (F : FnOk X.prog X.w X.K X.mg X.base CX0 n f fd ps (spEqW R)) (hs : PySem.W.findIn X.K (.ref C) "__eq__" = some (some (.ref f))) (hf : PySem.W.isFn X.K (.ref f) = true) (hb : Binds X.K fd ps []) (hm : PySem.W.mroIn X.K C (.type "object") = some true)
    (hn : PySem.W.findIn X.K (.ref C) "__ne__" = some (some (.builtin "object.__ne__"))) (hr : Room (n + 1) X.A) : OpR X (compareOp .NotEq) (rCmpW X.K C R true) := by
  intro pins s σ H x y u v Q I rx ry hq
  obtain ⟨a, c, dx, fs, t, rfl, ha, ty, nf, hR, k⟩ := hq
  cases rx
  obtain ⟨P, Z, p, _⟩ := kit_of I ry ty
  obtain ⟨mA, J, _⟩ := ins_get I.hok ha
  obtain ⟨od, J, _⟩ := J.look
  show wpAny (model X.prog X.w) X.A (richCompare .NotEq (.ref a) v) (EP X pins σ Q) X.xe s
  refine ne_any (tb := t) (by have := hr.in1.units0; exact this) I.kIn J (Z.ty _ _ I.kIn p) nf hm hn hs hf ?_
  have hsp : spEqW R [.ref a, y] H (fun z H' => z = .bl c ∧ Same H H') (fun _ _ _ => False) := ⟨a, y, c, rfl, hR, fun H' e => ⟨rfl, e⟩⟩
  have hl := F.len _ _ _ _ hsp
  refine wpAny_call (codeAny_mono (F.run X.A.in1 X.stack s H ⟨[.ref a, v], []⟩ [.ref a, v] [.ref a, y] _ _ hr.in1 I.env0.in1 (by simpa using hb s [.ref a, v] I.kIn (by simpa using hl)) (.cons rfl (.cons ry .nil)) hsp) fun r s2 hq => ?_)
  cases r with
  | error e => exact hq.elim
  | ok fl =>
    cases fl with
    | ret z =>
      obtain ⟨y, H2, I2, rz, ez, ex⟩ := I.after hq
      subst ez
      cases rz
      refine ⟨c, rfl, .bl (!c), H2, I2, rfl, ?_⟩
      have q := k H2 ex
      rw [show (c != true) = !c by cases c <;> rfl] at q
      exact q
    | next => exact hq.elim
    | brk => exact hq.elim
    | cont => exact hq.elim
end
/-- a built-in type that is no own class -/
theorem sub_ty {K : PySem.W.Frag} {C : Addr} {T : String} {l : List Value} (h : PySem.W.subIn K (.type T) (.ref C) = some false) : PySem.W.notFirst K C (.type T) = true := by
  unfold PySem.W.notFirst
  rw [h]
  simp
theorem kit_ty0 {K : PySem.W.Frag} {C : Addr} {T : String} (h : PySem.W.subIn K (.type T) (.ref C) = some false) (h2 : PySem.W.typeIn K (.ref C) = some (.type "type")) (h3 : PySem.W.hasDictIn K C = true) : PySem.W.kitOne K (.type T) (.ref C) = some false := by
  obtain ⟨cd, hc, _⟩ := PySem.W.any_some h3
  unfold PySem.W.kitOne
  rw [if_neg (by simp)]
  show (if ((PySem.W.clsIn K C).isSome && PySem.W.typeIn K (.ref C) == some (.type "type")) = true then PySem.W.subIn K (.type T) (.ref C) else none) = some false
  rw [if_pos (by rw [hc, h2]; rfl)]
  exact h
theorem sub_of {K : PySem.W.Frag} {C : Addr} {T : String} {l : List Value} (h : fastBuiltinMro T = some l) (h2 : ∀ v ∈ l, ∃ T', v = .type T') : PySem.W.subIn K (.type T) (.ref C) = some false := by
  show (fastBuiltinMro T).map (·.contains (.ref C)) = some false
  rw [h]
  simp only [Option.map_some, Option.some.injEq]
  rw [Bool.eq_false_iff]
  intro q
  obtain ⟨T', e⟩ := h2 _ (List.contains_iff_mem.mp q)
  cases e
end SE
/-! repr of a list of objects with an own __repr__; an own __repr__ while a list's repr is under way. -/
namespace SE
open PySem PySem.Spec PyProof.Rows L2
/-- the promise of a def that is called while the reprs g are under way -/
structure GOkG (P : Program) (w : World) (K : PySem.W.Frag) (mg : Str → Option Value) (base : Heap) (g : List Code) (k : Nat) (f : Addr) (fd : FuncData) (ps : List Str) (sp : Sp) : Prop where
  len : ∀ xs H Q E, sp xs H Q E → xs.length = ps.length
  run : ∀ (A : Around) (out : List Env) (s : Shared) (H : Hp) (args : Args) (us : List Value) (xs : List V) (Q : VK) (E : XK), A.guards = some g → Room k A → Env0 P w K mg base A out s H →
    BindsTo s fd args (ps.zip us) → Vals xs us → sp xs H Q E → codeAny (model P w) A (.call (.ref f) args) (CR (fun _ _ _ _ _ _ => False) out P w H s Q E) s
section
variable {P : Program} {w : World} {K : PySem.W.Frag} {mg : Str → Option Value} {base : Heap} {g : List Code}
theorem gok_ofG {k : Nat} {f : Addr} {nm ql : Str} {pars : Arguments} {bd : List Stmt} {sc : Scope} {dV kV doc pm cv ct oc : Value} {an od : Option Addr}
    {osl : Array (Option Value)} {N ps : List Str} {sp : Sp} (look : K.lookup f = some ⟨oc, od, .func (PySem.W.fnOf nm ql pars bd sc dV kV doc pm an cv ct), osl⟩) (hcode : PySem.W.codeIn K cv ql = true) (S : FnScope N ps sc)
    (len : ∀ xs H Q E, sp xs H Q E → xs.length = ps.length)
    (hbd : ∀ (A : Around) (out : List Env) (s : Shared) (H : Hp) (xs : List V) (Q : VK) (E : XK), A.guards = some g → Room k (A.deeper (envOfC ql sc s.heap.objs.size f cv)) → sp xs H Q E →
      ∃ t, PSs (cxOf (fun _ _ _ _ _ _ => False) P w K mg base N ql sc f cv A out s H E) bd t ∧ t { nx := fun _ H2 => Q .non H2, rt := Q } (start N xs) H) :
    GOkG P w K mg base g (k + 1) f (PySem.W.fnOf nm ql pars bd sc dV kV doc pm an cv ct) ps sp := by
  constructor
  · exact len
  intro A out s H args us xs Q E hgu hroom env hbind hvals hpre
  have hlen := len _ _ _ _ hpre
  have kin : K.In s.heap := env.mod.kin.keeps fun b o z => (env.bs b o z).1
  have nolim : s.heap.NoLimit := env.mod.nolimit.keeps fun b o z => (env.bs b o z).1
  have kinds : ∀ y ∈ ps.zip us, sc.names.lookup y.1 = some .local ∨ (sc.names.lookup y.1 = some .cell ∧ ((cellsFrom (s.heap.objs.size + 1) sc.names []).lookup y.1).isSome = true) := by
    rintro ⟨n, v⟩ hy
    rcases S.par n (List.of_mem_zip hy).1 with q | q
    · exact .inl q
    · exact .inr ⟨q, PySem.W.cellsFrom_some _ _ _ (.inl q)⟩
  apply codeAny_call_function hroom.depth (kin _ _ look) rfl S.co S.gen rfl (PySem.W.codeRec_of kin hcode)
  apply hbind
  refine wpAny_newFunctionEnv_cells S.kind kinds fun ev hev s2 inc => ?_
  subst hev
  refine ⟨nolim.keeps inc.toInCall.keep, codeAny_func ?_⟩
  obtain ⟨t, der, rd⟩ := hbd A out s H xs Q E hgu (hroom.deeper _) hpre
  have J0 : Inv (cxOf (fun _ _ _ _ _ _ => False) P w K mg base N ql sc f cv A out s H E) [] (start N xs) H s2 := inv_start S hroom.hd env hlen hvals inc
  refine wpAny_mono (der.run [] s2 (start N xs) H _ J0 rd) (fun fl s3 hs => ?_) fun e s3 hs => hs
  cases fl with
  | ret u =>
    obtain ⟨v, σ3, H3, J, rv, q⟩ := hs
    exact ⟨v, H3, J.os, J.bare, J.base, J.hok, rv, q⟩
  | next =>
    obtain ⟨σ3, H3, J, q⟩ := hs
    exact ⟨V.non, H3, J.os, J.bare, J.base, J.hok, rfl, q⟩
  | brk => exact hs.elim fun _ z => z.elim fun _ z => z.2.elim
  | cont => exact hs.elim fun _ z => z.elim fun _ z => z.2.elim
end
section
variable {prog : Program} {w : World} {A : Around} {E : Value → Shared → Prop} {s : Shared} {K : PySem.W.Frag} {x C f : Addr} {ox : Obj} {od : Option Obj}
/-- the repr of an object with an own __repr__, inside a list's -/
theorem under_own {b : Nat} {Q : Value → Shared → Prop} (hu : A.units < cLine) (X : K.In s.heap) (I : PySem.W.InstAt s.heap x ox C od) (hs : PySem.W.findIn K (.ref C) "__repr__" = some (some (.ref f))) (hf : PySem.W.isFn K (.ref f) = true)
    (h : wpAny (model prog w) A (call (.ref f) [.ref x]) (fun r s' => ∃ t u, r = .str t u ∧ Q (.str t u) s') E s) : wpAny (model prog w) A (pyReprObjUnder b (.ref x)) Q E s := by
  unfold pyReprObjUnder pyReprObjBy
  refine wpAny_bind (wpAny_cRoomFor hu ?_)
  refine wpAny_bind (wpAny_bind (I.type.here ((PySem.W.looks_findIn X hs).here ?_)))
  show wpAny _ _ (if (some (Value.ref f)).isNone = true then _ else _) _ _ _
  rw [if_neg (by simp)]
  simp only [callSpecialIfBoundBy?, bindSpecialIfBound?]
  have fin : ∀ {R : Option Value → Shared → Prop}, (∀ t u s', Q (.str t u) s' → R (some (.str t u)) s') → wpAny (model prog w) A (call (.ref f) ([.ref x] ++ []) >>= fun v => pure (some v)) R E s := fun hR =>
    wpAny_bind (wpAny_mono h (fun v s' h' => by
      obtain ⟨t, u, rfl, q⟩ := h'
      exact wpAny_pure (hR t u s' q)) fun _ _ h' => h')
  have post : ∀ t u s', Q (.str t u) s' → wpAny (model prog w) A (do
      if ← isInstance (.str t u) (.type "str") then pure (Value.str t u) else raiseError "TypeError" s!"__repr__ returned non-string (type {← typeNameOf (.str t u)})") Q E s' := fun t u s' q =>
    wpAny_bind (wpAny_isInstance (typeIs_str _ _ _) isSubtype_str_str (by exact wpAny_pure q))
  refine wpAny_bind (wpAny_holding (wpAny_bind (wpAny_bind (wpAny_bind (I.type.here ((PySem.W.looks_findIn X hs).here ?_))))))
  refine wpAny_bind (wpAny_askSetting (wpAny_ite ?_))
  split
  · exact wpAny_bind ((PySem.W.bind_fn X _ (beq_iff_eq.mp hf)).here (wpAny_pure (by exact fin post)))
  · exact wpAny_tryCatch (wpAny_bind ((PySem.W.bind_fn X _ (beq_iff_eq.mp hf)).here (wpAny_pure (by exact fin post))))
end
theorem vals_strs : ∀ {ts : List Str} {its : List Value}, Vals (ts.map V.str) its → ∃ done : List (Str × Tok), its = strValues done ∧ done.map (·.1) = ts
  | [], _, h => by
    cases h
    exact ⟨[], rfl, rfl⟩
  | t :: ts, _, h => by
    cases h with
    | cons r q =>
      obtain ⟨u, rfl⟩ := r
      obtain ⟨done, rfl, e⟩ := vals_strs q
      exact ⟨(t, u) :: done, rfl, by rw [List.map_cons, e]⟩
theorem vals_refs : ∀ {es : List Addr} {its : List Value}, Vals (es.map V.ref) its → its = es.map Value.ref
  | [], _, h => by
    cases h
    rfl
  | e :: es, _, h => by
    cases h with
    | cons r q =>
      cases r
      rw [vals_refs q]
      rfl
theorem loop_depth {A : Around} {args : Args} : (A.under (.builtin "list.__repr__.loop" args)).depth ≤ A.depth + 1 := by
  simp [Around.under, Code.weight, Code.isCreation, Code.isGuard, Code.isCaller, Code.frames, Code.isFrame, guardIds]
theorem Room.loop {k : Nat} {A : Around} (r : Room (k + 1) A) (args : Args) : Room k (A.under (.builtin "list.__repr__.loop" args)) :=
  ⟨r.hd, by have := r.dp; have := loop_depth (A := A) (args := args); omega, by have := r.un; rw [units_under_list_loop]; omega⟩
theorem Env0.loop {P : Program} {w : World} {K : PySem.W.Frag} {mg : Str → Option Value} {base : Heap} {A : Around} {outer : List Env} {s : Shared} {H : Hp} (e : Env0 P w K mg base A outer s H) (args : Args) :
    Env0 P w K mg base (A.under (.builtin "list.__repr__.loop" args)) outer s H := ⟨by first | exact e.frames | (simpa [Around.under, Code.envs, Code.isFrame, pushEnvs] using e.frames), e.mod, e.bs, e.bsz, e.funs, e.frf, e.hok, e.bare⟩
section
variable {X : Cx} {n : Nat} {C f : Addr} {fd : FuncData}
open Builtin Builtin.List in
theorem repr_go {pins : List (Addr × Obj)} {σ : L2.St} {H : Hp} {sp : List Code → Sp} {R : Result → Shared → Prop} {L P : Addr} {es : List Addr} {ts : List Str} (F : ∀ g, GOkG X.prog X.w X.K X.mg X.base g n f fd ["self"] (sp g)) (hs : PySem.W.findIn X.K (.ref C) "__repr__" = some (some (.ref f))) (hf : PySem.W.isFn X.K (.ref f) = true) (hb : Binds X.K fd ["self"] [])
    (hgu : X.A.guards = some []) (hr : Room (n + 3) X.A) (hLP : L ≠ P) (hL : H L = some (.lst (es.map V.ref))) (hP : H P = none) (hlen : es.length = ts.length) (hsz : (listText ts).length ≤ sizeLine)
    (hT : ∀ (i : Nat) (e : Addr), es[i]? = some e → ∃ t, ts[i]? = some t ∧ (∃ dx fs, H e = some (.ins C dx fs)) ∧ ∀ (rest : List Value) (ys : List V), sp [.builtin "list.__repr__.loop" ⟨.ref L :: rest, []⟩] [.ref e] (upd H P (.lst ys)) (fun v H' => v = .str t ∧ H' = upd H P (.lst ys)) (fun _ _ _ => False))
    (hR : ∀ u s', Inv X pins σ (upd H P (.lst (ts.map V.str))) s' → R (.ok (.ret (.str (listText ts) u))) s') :
    ∀ (k i : Nat) (s : Shared), es.length - i = k → i ≤ es.length → Inv X pins σ (upd H P (.lst ((ts.take i).map V.str))) s →
    codeAny (model X.prog X.w) X.A.in1 (.builtin "list.__repr__.loop" ⟨[.ref L, rawInt i, .ref P, rawInt ((0 + piled (ts.take i) : Nat) : Int)], []⟩) R s := by
  have hX : (listText ts).length = (textFrom 0 "[" ts).length + 1 := by
    show (textFrom 0 "[" ts ++ "]").length = _
    rw [strLen_append]; rfl
  have hLn := textFrom_len ts 0 "["
  have hsz1 : es.length ≤ sizeLine := by
    have h1 := hLn.1
    rw [if_neg (Nat.lt_irrefl 0)] at h1
    omega
  have hsz2 : ∀ t ∈ ts, t.length ≤ sizeLine := fun t ht => by
    have h2 := hLn.2.1 t ht
    omega
  have hp3 := piled_le_listText ts
  intro k
  induction k with
  | zero =>
    intro i s hk hi I
    have hin : i = es.length := by omega
    have hLs : (upd H P (.lst ((ts.take i).map V.str))) L = some (.lst (es.map V.ref)) := by rw [upd_ne hLP]; exact hL
    obtain ⟨_, its, nL, rL, lL, eL⟩ := I.lstM hLs
    obtain ⟨_, itp, nP, rP, lP, eP⟩ := I.lstM (l := P) upd_same
    obtain ⟨done, rfl, hdone⟩ := vals_strs rP
    refine codeAny_builtin PySem.F.entry_list_repr_loop ?_
    show wpAny _ _ («list.__repr__.loop» ⟨[.ref L, .int i 0, .ref P, .int ((0 + piled (ts.take i) : Nat) : Int) 0], []⟩) _ _ s
    rw [repr_loop_tree]
    refine wpAny_bind (wpAny_listItems eL rfl ?_)
    have hnone : its.toArray[(i : Int).toNat]? = none := by
      rw [List.length_map] at lL
      simp only [Int.toNat_natCast, List.getElem?_toArray]
      exact List.getElem?_eq_none (by omega)
    simp only [hnone]
    unfold reprEnd
    refine wpAny_bind (wpAny_listItems eP rfl ?_)
    rw [show (strValues done).toArray.toList = strValues done from List.toList_toArray .., repr_fold]
    refine wpAny_bind (wpAny_pure ?_)
    have hall : done.map (·.1) = ts := by rw [hdone, hin, hlen, List.take_length]
    rw [hall]
    refine wpAny_bind (wpAny_mkStr (wpAny_pure ?_) hsz)
    rw [hin, hlen, List.take_length] at I
    exact hR _ _ (I.tok _)
  | succ k ih =>
    intro i s hk hi I
    have hlt : i < es.length := by omega
    have hLs : (upd H P (.lst ((ts.take i).map V.str))) L = some (.lst (es.map V.ref)) := by rw [upd_ne hLP]; exact hL
    obtain ⟨_, its, nL, rL, lL, eL⟩ := I.lstM hLs
    have hits := vals_refs rL
    subst hits
    obtain ⟨t, ht, ⟨dx, fs, he⟩, hsp⟩ := hT i es[i] (by simp [hlt])
    have hp1 := piled_take_succ ht
    have hp2 := piled_take_le ts (i + 1)
    refine codeAny_builtin PySem.F.entry_list_repr_loop ?_
    show wpAny _ _ («list.__repr__.loop» ⟨[.ref L, .int i 0, .ref P, .int ((0 + piled (ts.take i) : Nat) : Int) 0], []⟩) _ _ s
    rw [repr_loop_tree]
    refine wpAny_bind (wpAny_listItems eL rfl ?_)
    have hsome : (es.map Value.ref).toArray[(i : Int).toNat]? = some (.ref es[i]) := by simp [hlt]
    simp only [hsome]
    rw [Int.toNat_natCast]
    have ePne : es[i] ≠ P := fun z => by rw [z, hP] at he; cases he
    have heP : (upd H P (.lst ((ts.take i).map V.str))) es[i] = some (.ins C dx fs) := by rw [upd_ne ePne]; exact he
    obtain ⟨mA, J, _⟩ := ins_get I.hok heP
    obtain ⟨od, J, _⟩ := J.look
    have gG : ((X.A.in1).under (.builtin "list.__repr__.loop" ⟨[.ref L, .int i 0, .ref P, .int ((0 + piled (ts.take i) : Nat) : Int) 0], []⟩)).guards = some [.builtin "list.__repr__.loop" ⟨[.ref L, .int i 0, .ref P, .int ((0 + piled (ts.take i) : Nat) : Int) 0], []⟩] := guards_under_guard (isGuard_list_loop _) hgu
    have hrA := Room.loop (k := n) ((show Room (n + 2) X.A.in1 from Room.in1 hr).mono (by omega)) ⟨[.ref L, .int i 0, .ref P, .int ((0 + piled (ts.take i) : Nat) : Int) 0], []⟩
    refine wpAny_bind (wpAny_holding (wpAny_pyReprUnder_ref (by omega) (under_own hrA.units0 I.kIn J hs hf ?_)))
    refine wpAny_call (codeAny_mono ((F _).run _ X.stack s _ ⟨[.ref es[i]], []⟩ [.ref es[i]] [.ref es[i]] _ _ gG hrA (Env0.loop I.env0.in1 _) (by simpa using hb s [.ref es[i]] I.kIn rfl) (.cons rfl .nil) (hsp _ ((ts.take i).map V.str))) fun r s2 hq => ?_)
    cases r with
    | error e => exact hq.elim
    | ok fl =>
      cases fl with
      | next => exact hq.elim
      | brk => exact hq.elim
      | cont => exact hq.elim
      | ret z =>
        obtain ⟨y, H2, I2, rz, ey, eH⟩ := I.after hq
        subst ey
        subst eH
        obtain ⟨tk, rfl⟩ := rz
        refine ⟨t, tk, rfl, t, tk, rfl, ?_⟩
        refine wpAny_bind (wpAny_mkStr ?_ (hsz2 t (List.mem_of_getElem? ht)))
        refine wpAny_bind ?_
        show wpAny _ _ (updateSeq P _) _ _ _
        have I3 := I2.tok (s2.toks + 1)
        obtain ⟨zP, itp, nP, rP, lP, eP⟩ := I3.lstM (l := P) upd_same
        have lt : ((ts.take i).map V.str).length ≤ i := by rw [List.length_map, List.length_take]; omega
        have hasz : itp.toArray.size ≤ sizeLine := by rw [List.size_toArray]; omega
        refine wpAny_updateSeq eP rfl (wpAny_pure ⟨PySem.F.quiet_list_repr_loop _, ?_⟩) hasz
        have e1 : ((i : Int) + 1) = ((i + 1 : Nat) : Int) := by omega
        have e2 : 0 + piled (ts.take i) + (t.length + 2) = 0 + piled (ts.take (i + 1)) := by omega
        rw [e1, e2]
        refine ih (i + 1) _ (by omega) hlt ?_
        have ev : (ts.take (i + 1)).map V.str = (ts.take i).map V.str ++ [V.str t] := by
          rw [List.take_add_one, ht, List.map_append]
          rfl
        have I4 := I3.lset (its' := itp ++ [.str t s2.toks]) (f := fun x => x.push (.str t s2.toks)) (ys := (ts.take (i + 1)).map V.str) (t' := s2.toks + 1) upd_same eP (by simp) (by rw [ev]; exact rP.append (.cons ⟨_, rfl⟩ .nil)) (by rw [List.length_map, List.length_take]; omega)
        rw [upd_upd] at I4
        exact I4
/-- repr of a list of objects with an own __repr__ -/
def rReprL (C : Addr) (sp : List Code → Sp) : List V → Hp → VK → Prop := fun xs H Q => ∃ (L : Addr) (es : List Addr) (ts : List Str), xs = [.ref L] ∧ H L = some (.lst (es.map V.ref)) ∧ es ≠ [] ∧ es.length = ts.length ∧ (listText ts).length ≤ sizeLine ∧
  (∀ (i : Nat) (e : Addr), es[i]? = some e → ∃ t, ts[i]? = some t ∧ (∃ dx fs, H e = some (.ins C dx fs)) ∧ ∀ (P : Addr) (rest : List Value) (ys : List V), H P = none → sp [.builtin "list.__repr__.loop" ⟨.ref L :: rest, []⟩] [.ref e] (upd H P (.lst ys)) (fun v H' => v = .str t ∧ H' = upd H P (.lst ys)) (fun _ _ _ => False)) ∧
  ∀ P, H P = none → Q (.str (listText ts)) (upd H P (.lst (ts.map V.str)))
theorem call_reprL {sp : List Code → Sp} (F : ∀ g, GOkG X.prog X.w X.K X.mg X.base g n f fd ["self"] (sp g)) (hs : PySem.W.findIn X.K (.ref C) "__repr__" = some (some (.ref f))) (hf : PySem.W.isFn X.K (.ref f) = true) (hb : Binds X.K fd ["self"] [])
    (hgu : X.A.guards = some []) (hr : Room (n + 3) X.A) : CallR X (.builtin "repr") (rReprL C sp) := by
  intro pins s σ H xs us Q I r h
  obtain ⟨L, es, ts, rfl, hL, hne, hlen, hsz, hT, k⟩ := h
  cases r with
  | cons r1 r2 =>
    cases r2
    cases r1
    obtain ⟨_, its, nL, rL, lL, eL⟩ := I.lstM hL
    have hits := vals_refs rL
    subst hits
    cases es with
    | nil => exact absurd rfl hne
    | cons e es =>
      have hu := hr.units
      refine call_repr_slot (T := "list") (by omega) ⟨_, eL, rfl⟩ PySem.F.slot_list_repr.toG ?_
      refine wpAny_call (codeAny_call_builtin PySem.F.slot_list_repr.plain PySem.F.entry_list_repr (PySem.F.slot_list_repr.check _ _ _ _ _ _ _ _ ⟨_, eL, rfl⟩ (PySem.F.args_list_repr_1 _) ?_))
      have hg2 : (X.A.in1).in1.guards = some [] := hgu
      refine wpAny_list_repr_head (A := X.A.in1.in1) hg2 (fun v rest kw hm => (by cases hm)) eL rfl ?_
      refine wpAny_bind (m := newList []) (wpAny_newObj_type ?_)
      refine wpAny_pure ⟨PySem.F.quiet_list_repr_loop _, ?_⟩
      have hP : H s.heap.objs.size = none := I.hok.fresh (Nat.le_refl _)
      have I1 : Inv X pins σ (upd H s.heap.objs.size (.lst [])) { s with heap := s.heap.push ({ cls := .type "list", data := .seq #[] } : Obj) } := I.laid (t' := s.toks) (fun b u q => Heap.get?_push_of_some _ q) (Nat.le_refl _) ⟨Nat.zero_le _, [], 0, .nil, Heap.get?_push_size _ rfl⟩
      have hLP : L ≠ s.heap.objs.size := fun z => by rw [z, hP] at hL; cases hL
      exact repr_go (R := callEnd (fun r s₁ => ∃ x t, r = .str x t ∧ EP X pins σ Q r s₁) X.xe) F hs hf hb hgu hr hLP hL hP hlen hsz (fun i e he => by
        obtain ⟨t, ht, hi, q⟩ := hT i e he
        exact ⟨t, ht, hi, fun rest ys => q _ rest ys hP⟩) (fun u s' I' => ⟨_, _, rfl, .str (listText ts), _, I', ⟨u, rfl⟩, k _ hP⟩) _ 0 _ rfl (Nat.zero_le _) I1
end
theorem repr_strs {prog : Program} {w : World} {h₀ : Heap} : ∀ (done : List (Str × Tok)), (∀ z ∈ done.map (·.1), (reprText z).length ≤ sizeLine) → ReprAllK prog w [] h₀ 0 (strValues done) (PyData.shownAll ((done.map (·.1)).map PyData.str))
  | [], _ => .nil
  | (z, t) :: r, h => .cons (.of_is (.str z t (h z (List.mem_cons_self ..))) _ _ _) (repr_strs r fun y m => h y (List.mem_cons_of_mem _ m))
theorem mem_shownAll {z : Str} : ∀ {zs : List Str}, z ∈ zs → reprText z ∈ PyData.shownAll (zs.map PyData.str)
  | [], m => by cases m
  | y :: r, m => by
    rcases List.mem_cons.mp m with e | e
    · rw [e]
      exact List.mem_cons_self ..
    · exact List.mem_cons_of_mem _ (mem_shownAll e)
section
variable {X : Cx}
/-- the reprs under way are those of lists -/
def GuL (g : List Code) (H : Hp) : Prop := ∀ id v rest kw, Code.builtin id ⟨v :: rest, kw⟩ ∈ g → ∃ L us, v = .ref L ∧ H L = some (.lst us)
/-- {x!r}, x a tuple of texts, while the reprs g are under way -/
def tFmtG (K : PySem.W.Frag) (g : List Code) (te : TE) : TE := fun σ H Q => te σ H fun x H1 => ∃ (a : Addr) (zs : List Str), x = .ref a ∧ SqT K H1 a (zs.map V.str) ∧ GuL g H1 ∧ (PyData.tuple (zs.map PyData.str)).shown.length ≤ sizeLine ∧ Q (.str (PyData.tuple (zs.map PyData.str)).shown) H1
theorem pe_fmtG {e : Expr} {te : TE} {pos : Pos} {g : List Code} (hgu : X.A.guards = some g) (hu : X.A.units + 64 < cLine) (he : PE X e te) : PE X (.FormattedValue e 114 none pos) (tFmtG X.K g te) := by
  constructor
  intro pins s σ H Q I h
  refine wpAny_FormattedValue_repr (thn (he.run pins s σ H _ I h) fun v s1 hv => ?_)
  obtain ⟨x, H1, I1, r1, a, zs, rfl, hT, hc, hz, q⟩ := hv
  cases r1
  obtain ⟨its, rv, ⟨o, ho, oc, n, od⟩, _⟩ := I1.tuple hT
  have hc : Clear g a := fun id v rest kw hm => by
    obtain ⟨L, us, rfl, hL⟩ := hc id v rest kw hm
    intro e
    cases e
    obtain ⟨_, _, _, _, _, eL⟩ := I1.lstM hL
    rw [ho] at eL
    cases eL
    simp at oc
  obtain ⟨done, rfl, ed⟩ := vals_strs rv
  subst ed
  have hz' : (tupleText (PyData.shownAll ((done.map (·.1)).map PyData.str))).length ≤ sizeLine := by simpa only [PyData.shown] using hz
  have hall : ∀ z ∈ done.map (·.1), (reprText z).length ≤ sizeLine := fun z m => by
    have mm := mem_shownAll m
    exact Nat.le_trans (tupleText_mem_le mm) hz'
  refine wpAny_pyReprObj_tupleK (as := []) (d := 0) ho oc od (by simp) (repr_strs done hall) hgu (fun b hb => by rw [List.mem_singleton.mp hb]; exact hc) (by omega) (fun _ _ z => z) (fun h2 u tk keep => ?_) hz'
  have I2 := I1.kept (t' := tk) keep
  exact wpAny_formatField_str ⟨.str _, H1, I2, ⟨u, rfl⟩, q⟩ ⟨.str _, H1, I2.tok _, ⟨_, rfl⟩, q⟩ hz'
end
end SE
namespace SE
open PySem PySem.Spec PyProof.Rows L2
/-! ### two dicts of stacks compared, whatever the answer -/
def sameS (a b : Sk) : Bool := a.length == b.length && a.all fun p => decide ((b.find? (hasS p.1)).map (·.2) = some p.2)
def ItS (ss : Sk) : Prop := ∀ p ∈ ss, (∀ z ∈ p.2, Item z) ∧ p.2.length ≤ 100000
theorem SkOk.its {ss : Sk} {m b : Nat} (h : SkOk ss m b) (hb : b ≤ 100000) : ItS ss := fun p mp => ⟨(h.ok p mp).2.1, by have := (h.ok p mp).2.2; omega⟩
theorem room_65 {k : Nat} {A : Around} (hr : Room k A) : A.units + 65 < cLine := by
  have := hr.un
  omega
section
variable {X : Cx} {pins : List (Addr × Obj)} {σ : L2.St} {H : Hp} {s : Shared}
theorem eqv_tupS2 (xs ys : List Str) : PyData.eqv (.tuple (xs.map .str)) (.tuple (ys.map .str)) = decide (xs = ys) := eqv_tupS xs ys
theorem hits_sk {A : Around} (hu : A.units + 65 < cLine) (I : Inv X pins σ H s) {kb : List (Key × V)} {vb : List (Key × Value)} {ss2 : Sk} (rb : KV kb vb) (hb : SkH X.K H kb ss2) (ib : ItS ss2) : ∀ {ka : List (Key × V)} {va : List (Key × Value)} {ss : Sk}, KV ka va → SkH X.K H ka ss → ItS ss →
    PySem.W.KeqHits A.in1 s vb va (ss.all fun p => decide ((ss2.find? (hasS p.1)).map (·.2) = some p.2))
  | [], [], [], .nil, .nil, _ => .nil
  | (k1, v1) :: ka, (k2, u1) :: va, p :: ss, .cons r1 r2, .cons q1 q2, ia => by
    obtain ⟨e1, t, e2, hT⟩ := q1
    obtain ⟨g1, g2⟩ := r1
    have g1 : k1 = k2 := g1
    have e1 : k1 = Sum.inr p.1 := e1
    have e2 : v1 = .ref t := e2
    subst g1 e1 e2
    obtain rfl : u1 = Value.ref t := g2
    have rec_ := hits_sk hu I rb hb ib r2 q2 (fun p m => ia p (List.mem_cons_of_mem _ m))
    rw [List.all_cons]
    have vv := rb.val (Sum.inr p.1)
    rcases skH_val (n := p.1) hb with ⟨z1, z2⟩ | ⟨p2, t2, z1, z2, z3⟩
    · rw [z1]
      rw [z2] at vv
      have e0 : decide (Option.map (fun x : Str × List Str => x.2) none = some p.2) = false := decide_eq_false (fun q => nomatch q)
      rw [e0, Bool.false_and]
      exact .miss (RelO.none_of vv)
    · rw [z1]
      rw [z2] at vv
      obtain ⟨u2, hu2, ru2⟩ := RelO.some_of (v := V.ref t2) (o := PySem.valueAt vb (Sum.inr p.1)) vv
      obtain rfl : u2 = Value.ref t2 := ru2
      have mp := findS_some z1
      obtain ⟨as, ra⟩ := Dp.reads I _ _ (.ref t) (.tup hT (dp_strs p.2)) rfl
      obtain ⟨bs, rb2⟩ := Dp.reads I _ _ (.ref t2) (.tup z3 (dp_strs p2.2)) rfl
      have at_ := PySem.W.keq_at (A := A) ra rb2 ((nice_tuple (nice_strs (ia p List.mem_cons_self).1)).shaped (by decide)) ((nice_tuple (nice_strs (ib p2 mp.1).1)).shaped (by decide)) (by show A.units + 1 + 64 < cLine; omega)
      rw [eqv_tupS2] at at_
      have e0 : decide (Option.map (fun x : Str × List Str => x.2) (some p2) = some p.2) = decide (p.2 = p2.2) := by
        by_cases c : p.2 = p2.2
        · rw [decide_eq_true c]
          exact decide_eq_true (by rw [c]; rfl)
        · rw [decide_eq_false c]
          exact decide_eq_false (fun q => c (Option.some.inj q).symm)
      rw [e0]
      exact .hit hu2 at_ rec_
def rEqSk (K : PySem.W.Frag) : R2 := fun x y H Q => ∃ a b ss ss2, x = .ref a ∧ y = .ref b ∧ SkF K H a ss ∧ SkF K H b ss2 ∧ ItS ss ∧ ItS ss2 ∧ Q (.bl (sameS ss ss2)) H
theorem op_eqSk (hu : X.A.units + 65 < cLine) : OpR X (compareOp .Eq) (rEqSk X.K) := by
  intro pins s σ H x y v u Q I rx ry h
  obtain ⟨a, b, ss, ss2, rfl, rfl, ⟨oa, ka, ea, ha⟩, ⟨ob, kb, eb, hb⟩, ia, ib, q⟩ := h
  obtain rfl : v = Value.ref a := rx
  obtain rfl : u = Value.ref b := ry
  obtain ⟨_, ya, va, ra, da⟩ := dk_rd I.hok (.inr ⟨oa, ea⟩)
  obtain ⟨_, yb, vb, rb, db⟩ := dk_rd I.hok (.inr ⟨ob, eb⟩)
  refine PySem.W.keq_eq (knd := mixKind X.prog X.w) (r := ss.all fun p => decide ((ss2.find? (hasS p.1)).map (·.2) = some p.2)) ya yb da db (by omega) (fun _ => hits_sk hu I rb hb ib ra ha ia) (fin_bl I q ?_)
  unfold sameS
  rw [← ra.length, ← rb.length, paired_len ha, paired_len hb]
end
end SE
namespace SE
open PySem PySem.Spec PyProof.Rows L2
/-! ### Session.__eq__ -/
/-- a class of sessions: CS itself or one below it -/
structure SesC (K : PySem.W.Frag) (CS C : Addr) : Prop where
  cl : SCl K C
  ha : PySem.W.findIn K (.ref C) "__class__" = some (some (.builtin "object.__class__"))
  hn : PySem.W.specialIn K (.builtin "object.__class__") "__get__" = some (some (.builtin "getset_descriptor.__get__"))
  ht : PySem.W.takesIn K (.builtin "object.__class__") = some true
  hm : PySem.W.mroIn K C (.type "object") = some true
  ki : PySem.W.kitOne K (.ref C) (.ref CS) = some true
/-- what == answers: c -/
def RSes (K : PySem.W.Frag) (CS : Addr) (a : Addr) (y : V) (c : Bool) (H : Hp) : Prop := ∃ (C : Addr) (x : Option Addr) (ct : Cn) (L : Addr) (ss : Sk) (l : Lim) (ds : List Deed), SesC K CS C ∧ SesX K C x ct H a L ss l ds ∧ ItS ss ∧
  ((∃ (q C2 : Addr) (x2 : Option Addr) (ct2 : Cn) (L2 : Addr) (ss2 : Sk) (l2 : Lim) (ds2 : List Deed), y = .ref q ∧ SesC K CS C2 ∧ SesX K C2 x2 ct2 H q L2 ss2 l2 ds2 ∧ ItS ss2 ∧ c = (sameS ss ss2 && decide (l = l2))) ∨
   (∃ t, TyX K H y t ∧ PySem.W.kitOne K t (.ref CS) = some false ∧ c = false))
theorem limV_eq (l l2 : Lim) : scal (limV l) (limV l2) = true ∧ decide (limV l = limV l2) = decide (l = l2) := by
  cases l with
  | none => cases l2 with
    | none => exact ⟨rfl, rfl⟩
    | some n => exact ⟨rfl, by rw [decide_eq_false (fun q => nomatch q), decide_eq_false (fun q => nomatch q)]⟩
  | some m => cases l2 with
    | none => exact ⟨rfl, by rw [decide_eq_false (fun q => nomatch q), decide_eq_false (fun q => nomatch q)]⟩
    | some n =>
      refine ⟨rfl, ?_⟩
      by_cases c : m = n
      · subst c
        rw [decide_eq_true rfl, decide_eq_true rfl]
      · rw [decide_eq_false (fun q => c (by cases q; rfl)), decide_eq_false (fun q => c (Option.some.inj q))]
section
variable {P : Program} {w : World} {K : PySem.W.Frag} {mg : Str → Option Value} {base : Heap} {CS : Addr}
theorem scSEq : FnScope ["self", "other"] ["self", "other"] (defScope sSEq) := ⟨rfl, rfl, rfl, by decide +kernel, rfl, by decide +kernel, by decide +kernel⟩
theorem ok_seq {f : Addr} {fd : FuncData} (F : Fun K "__eq__" "Session.__eq__" sSEq f fd) (mS : mg "Session" = some (.ref CS)) (B : Blt mg) : FnOk P w K mg base CX0 1 f fd ["self", "other"] (spEqW (RSes K CS)) := by
  refine F.ok scSEq (fun vs H Q E h => ?_) (fun cdv A outer s H vs Q E hr h => ?_)
  · obtain ⟨a, y, c, rfl, _⟩ := h
    rfl
  · obtain ⟨a, y, c, rfl, ⟨C, x, ct, L, ss, l, ds, T, h1, i1, hy⟩, k⟩ := h
    have hu := room_65 hr
    obtain ⟨dx, F1, us, a1, a2, a3, a4, a5⟩ := h1.ex
    refine ⟨_, pss_one (ps_ret (pe_and (pe_callB call_isi (by rfl) B.isi (by decide +kernel) (pa_cons (pv 1) (pa_cons (pe_glob (v := .ref CS) rfl mS rfl) pa_nil)))
      (pe_and (pe_cmpR (op_eqSk hu) (pe_fld (pv 0) rfl) (pe_fld (pv 1) rfl) (nomark _)) (pe_one (pe_cmpR op_eq (pe_fld (pv 0) rfl) (pe_fld (pv 1) rfl) (nomark _)))))), ?_⟩
    have fin := k H (Same.refl H)
    rcases hy with ⟨q, C2, x2, ct2, L2, ss2, l2, ds2, rfl, T2, h2, i2, rfl⟩ | ⟨t, ty, kt, rfl⟩
    · obtain ⟨dy, F2, us2, b1, b2, b3, b4, b5⟩ := h2.ex
      refine ⟨_, rfl, _, .ref CS, .ref C2, .ref CS, true, rfl, .own CS, .base (.ins b1 T2.cl.cl T2.ha T2.hn T2.ht T2.hm), T2.ki, true, rfl, iteT ?_⟩
      refine ⟨_, rfl, a, C, dx, _, _, rfl, a1, T.cl.cl, T.cl.nF, rfl, _, rfl, q, C2, dy, _, _, rfl, b1, T2.cl.cl, T2.cl.nF, rfl, F1, F2, ss, ss2, rfl, rfl, a3, b3, i1, i2, _, rfl, ?_⟩
      cases e1 : sameS ss ss2 with
      | false =>
        rw [e1, Bool.false_and] at fin
        exact iteF fin
      | true =>
        rw [e1, Bool.true_and] at fin
        obtain ⟨g1, g2⟩ := limV_eq l l2
        refine iteT ⟨_, rfl, a, C, dx, _, _, rfl, a1, T.cl.cl, T.cl.nH, rfl, _, rfl, q, C2, dy, _, _, rfl, b1, T2.cl.cl, T2.cl.nH, rfl, g1, ?_⟩
        rw [g2]
        exact fin
    · exact ⟨_, rfl, _, .ref CS, t, .ref CS, false, rfl, .own CS, ty, kt, false, rfl, iteF fin⟩
end
end SE
namespace SE
open PySem PySem.Spec PyProof.Rows L2
/-! ### counting failures -/
theorem cn_val (n : Str) : ∀ (ct : Cn), valV (cnK ct) (Sum.inr n) = (ct.find? fun p => decide (p.1 = n)).map fun p => V.int (p.2 : Nat)
  | [] => rfl
  | p :: r => by
    have ih := cn_val n r
    show valV ((Sum.inr p.1, V.int (p.2 : Nat)) :: cnK r) (Sum.inr n) = _
    by_cases c : p.1 = n
    · rw [valV_pos (by rw [c])]
      simp [c]
    · rw [valV_neg (fun q => c (Sum.inr.inj q)), ih]
      simp [c]
theorem cn_get (n : Str) (ct : Cn) : (valV (cnK ct) (Sum.inr n)).getD (.int 0) = .int (cntC n ct : Nat) := by
  rw [cn_val]
  unfold cntC
  cases ct.find? fun p => decide (p.1 = n) <;> rfl
theorem cn_any (n : Str) (ct : Cn) : ((cnK ct).any fun kv => decide (kv.1 = Sum.inr n)) = ct.any fun p => decide (p.1 = n) := by
  unfold cnK
  rw [List.any_map]
  congr 1
  funext p
  by_cases c : p.1 = n
  · show decide ((Sum.inr p.1 : Key) = Sum.inr n) = _
    rw [decide_eq_true c, decide_eq_true (by rw [c])]
  · show decide ((Sum.inr p.1 : Key) = Sum.inr n) = _
    rw [decide_eq_false c, decide_eq_false (fun q => c (Sum.inr.inj q))]
theorem cn_bump (n : Str) (ct : Cn) : putK (cnK ct) (Sum.inr n) (.int ((cntC n ct : Nat) + 1)) = cnK (bumpC n ct) := by
  unfold putK bumpC
  rw [cn_any]
  by_cases c : (ct.any fun p => decide (p.1 = n)) = true
  · rw [if_pos c, if_pos c]
    unfold cnK
    rw [List.map_map, List.map_map]
    congr 1
    funext p
    show (if (Sum.inr p.1 : Key) = Sum.inr n then _ else _) = _
    by_cases d : p.1 = n
    · rw [if_pos (by rw [d])]
      show _ = (Sum.inr (if p.1 = n then (p.1, cntC n ct + 1) else p).1, V.int ((if p.1 = n then (p.1, cntC n ct + 1) else p).2 : Nat))
      rw [if_pos d]
      show _ = ((Sum.inr p.1 : Key), V.int ((cntC n ct + 1 : Nat) : Int))
      rw [show ((cntC n ct + 1 : Nat) : Int) = (cntC n ct : Nat) + 1 by omega]
    · rw [if_neg (fun q => d (Sum.inr.inj q))]
      show _ = (Sum.inr (if p.1 = n then (p.1, cntC n ct + 1) else p).1, V.int ((if p.1 = n then (p.1, cntC n ct + 1) else p).2 : Nat))
      rw [if_neg d]
  · rw [if_neg c, if_neg c]
    unfold cnK
    rw [List.map_append]
    have z : cntC n ct = 0 := by
      unfold cntC
      rw [List.find?_eq_none.mpr]
      · rfl
      · intro p mp q
        exact c (List.any_eq_true.mpr ⟨p, mp, q⟩)
    rw [z]
    rfl
theorem bump_keys (n : Str) (ct : Cn) : (bumpC n ct).map (·.1) = if ct.any (fun p => decide (p.1 = n)) = true then ct.map (·.1) else ct.map (·.1) ++ [n] := by
  unfold bumpC
  split
  · rw [List.map_map]
    apply List.map_congr_left
    intro p _
    show (if p.1 = n then (p.1, cntC n ct + 1) else p).1 = p.1
    split <;> rfl
  · rw [List.map_append]
    rfl
theorem bump_nd {n : Str} {ct : Cn} (h : (ct.map (·.1)).Nodup) : ((bumpC n ct).map (·.1)).Nodup := by
  rw [bump_keys]
  split
  · exact h
  · rename_i c
    rw [List.nodup_append]
    refine ⟨h, by simp, fun a ha b hb e => c ?_⟩
    obtain ⟨p, mp, rfl⟩ := List.mem_map.mp ha
    exact List.any_eq_true.mpr ⟨p, mp, decide_eq_true (by rw [e]; exact List.mem_singleton.mp hb)⟩
theorem bump_len (n : Str) (ct : Cn) : (bumpC n ct).length ≤ ct.length + 1 := by
  unfold bumpC
  split
  · rw [List.length_map]; omega
  · rw [List.length_append]; simp
theorem find_nd {ct : Cn} (nd : (ct.map (·.1)).Nodup) {n : Str} {k : Nat} (m : (n, k) ∈ ct) : ct.find? (fun p => decide (p.1 = n)) = some (n, k) := by
  induction ct with
  | nil => cases m
  | cons x r ih =>
    rw [List.map_cons, List.nodup_cons] at nd
    rcases List.mem_cons.mp m with e | e
    · subst e
      simp
    · rw [List.find?_cons_of_neg]
      · exact ih nd.2 e
      · intro q
        exact nd.1 (by rw [of_decide_eq_true q]; exact List.mem_map.mpr ⟨(n, k), e, rfl⟩)
theorem cnt_of {ct : Cn} (nd : (ct.map (·.1)).Nodup) {n : Str} {k : Nat} (m : (n, k) ∈ ct) : cntC n ct = k := by
  unfold cntC
  rw [find_nd nd m]
  rfl
section
variable {P : Program} {w : World} {K : PySem.W.Frag} {mg : Str → Option Value} {base : Heap} {C : Addr} {D : Addr}
/-! ### Recorder.note_failure -/
theorem scRNf : FnScope ["self", "name"] ["self", "name"] (defScope sRNote) := ⟨rfl, rfl, rfl, by decide +kernel, rfl, by decide +kernel, by decide +kernel⟩
theorem xF_failed {f h d : V} : (sF f h d ++ xF (some D)).lookup ("failed" : Str) = some (V.ref D) := rfl
theorem ok_rnf {f : Addr} {fd : FuncData} (F : Fun K "note_failure" "Recorder.note_failure" sRNote f fd) (T : RCl K C) : FnOk P w K mg base CX0 1 f fd ["self", "name"] (spNf K C (some D)) := by
  refine F.ok scRNf (fun vs H Q E h => ?_) (fun cdv A outer s H vs Q E hr h => ?_)
  · obtain ⟨o, L, n, ct, ss, l, ds, rfl, _⟩ := h
    rfl
  · obtain ⟨o, L, n, ct, ss, l, ds, rfl, h, hn, hl, k⟩ := h
    have hu := room_u hr
    obtain ⟨dx, F1, us, a1, a2, a3, a4, a5⟩ := h.ex
    have a5 : H D = some (.dK (cnK ct)) := a5
    obtain ⟨d1, d2⟩ := h.neD
    refine ⟨_, pss_one (ps_dput hu (pe_fld (pv 0) rfl) (pv 1) (pe_op op_add (pe_dget2 hu (pe_fld (pv 0) rfl) (pv 1) pe_int ⟨rfl, rfl, rfl, rfl⟩) pe_int) rfl), ?_⟩
    refine ⟨_, rfl, o, C, dx, _, _, rfl, a1, T.cl, T.nX, xF_failed, D, rfl, .inl ⟨_, .inl a5⟩, _, rfl, _, DGet.k (k := Sum.inr n) a5, ?_⟩
    rw [cn_get]
    refine ⟨_, _, rfl, rfl, _, rfl, o, C, dx, _, _, rfl, a1, T.cl, T.nX, xF_failed, _, rfl, D, _, rfl, .inl ⟨_, Sum.inr n, a5, rfl, by unfold cnK; rw [List.length_map, sizeLine_eq]; omega, rfl⟩, ?_⟩
    rw [cn_bump]
    have lo := h.loose
    refine k _ ⟨lo, fun b u nb q => ?_⟩ ⟨dx, F1, us, ?_, ?_, ?_, ?_, upd_same⟩
    · rw [upd_ne (fun e => nb (by rw [e]; simp [ownS]))]
      exact q
    · rw [upd_ne (Ne.symm d1)]; exact a1
    · rw [upd_ne (Ne.symm d2)]; exact a2
    · exact SkF.upd (Loose.dK a5) a3
    · exact deeds_upd (Loose.dK a5) a4
end
end SE
/-! Plain data in which empty dicts may stand: its kinds, ==, in, and repr of every kind. -/
namespace SE
open PySem PySem.Spec PyProof.Rows L2
mutual
inductive DpX (K : PySem.W.Frag) (H : Hp) : V → PyData → Prop
  | non : DpX K H .non .none
  | bl (b : Bool) : DpX K H (.bl b) (.bool b)
  | int (i : Int) : DpX K H (.int i) (.int i)
  | str (x : Str) : DpX K H (.str x) (.str x)
  | lst {a : Addr} {xs : List V} {ds : List PyData} : SqL K H a xs → DpXs K H xs ds → DpX K H (.ref a) (.list ds)
  | tup {a : Addr} {xs : List V} {ds : List PyData} : SqT K H a xs → DpXs K H xs ds → DpX K H (.ref a) (.tuple ds)
  | emp {a : Addr} : H a = some (.dK []) → DpX K H (.ref a) (.dict [])
inductive DpXs (K : PySem.W.Frag) (H : Hp) : List V → List PyData → Prop
  | nil : DpXs K H [] []
  | cons {v : V} {vs : List V} {d : PyData} {ds : List PyData} : DpX K H v d → DpXs K H vs ds → DpXs K H (v :: vs) (d :: ds)
end
section
variable {K : PySem.W.Frag} {H H' : Hp}
mutual
theorem DpX.same (s : Same H H') : ∀ (d : PyData) (v : V), DpX K H v d → DpX K H' v d
  | .none, _, h => by cases h; exact .non
  | .bool b, _, h => by cases h; exact .bl b
  | .int i, _, h => by cases h; exact .int i
  | .str x, _, h => by cases h; exact .str x
  | .list ds, _, h => by
    cases h with
    | lst a b => exact .lst (Same.seq s a) (DpXs.same s ds _ b)
  | .tuple ds, _, h => by
    cases h with
    | tup a b => exact .tup (Same.tup s a) (DpXs.same s ds _ b)
  | .dict kvs, _, h => by
    cases h with
    | emp a => exact .emp (s _ _ a)
theorem DpXs.same (s : Same H H') : ∀ (ds : List PyData) (vs : List V), DpXs K H vs ds → DpXs K H' vs ds
  | [], _, h => by cases h; exact .nil
  | d :: ds, _, h => by
    cases h with
    | cons a b => exact .cons (DpX.same s d _ a) (DpXs.same s ds _ b)
end
theorem DpXs.at : ∀ {vs : List V} {ds : List PyData} {i : Nat} {v : V}, DpXs K H vs ds → vs[i]? = some v → ∃ d, ds[i]? = some d ∧ DpX K H v d
  | _, _, 0, v, .cons a b, h => by cases h; exact ⟨_, rfl, a⟩
  | _, _, i + 1, v, .cons a b, h => by
    obtain ⟨d, h1, h2⟩ := DpXs.at b h
    exact ⟨d, h1, h2⟩
theorem DpXs.len : ∀ {vs : List V} {ds : List PyData}, DpXs K H vs ds → vs.length = ds.length
  | _, _, .nil => rfl
  | _, _, .cons a b => by rw [List.length_cons, List.length_cons, DpXs.len b]
end
section
variable {X : Cx} {pins : List (Addr × Obj)} {σ : L2.St} {H : Hp} {s : Shared}
theorem emp_obj (I : Inv X pins σ H s) {a : Addr} (e : H a = some (.dK [])) : (a == sysModules) = false ∧ ∃ o n, s.heap.get? a = some o ∧ o.cls = .type "dict" ∧ o.data = .dict #[] n := by
  obtain ⟨_, hd, vs, rel, o, es, ep, h1, h2, h3, h4, h5, h6⟩ := dk_of I.hok e
  cases rel
  have : es = #[] := by
    have q : es.toList = [] := by
      cases hq : es.toList with
      | nil => rfl
      | cons x r => rw [hq] at h5; cases h5
    exact Array.toList_eq_nil_iff.mp q
  subst this
  exact ⟨hd, o, ep, h1, h2.1, h3⟩
mutual
theorem DpX.reads (I : Inv X pins σ H s) : ∀ (d : PyData) (v : V) (u : Value), DpX X.K H v d → RelV v u → ∃ as, Reads s.heap u d as
  | .none, _, _, h, r => by
    cases h
    cases r
    exact ⟨_, Reads.none⟩
  | .bool b, _, _, h, r => by
    cases h
    cases r
    exact ⟨_, Reads.bool b⟩
  | .int i, _, _, h, r => by
    cases h
    obtain ⟨t, rfl⟩ := r
    exact ⟨_, Reads.int i t⟩
  | .str x, _, _, h, r => by
    cases h
    obtain ⟨t, rfl⟩ := r
    exact ⟨_, Reads.str x t⟩
  | .list ds, _, _, h, r => by
    cases h with
    | lst hs ha =>
      cases r
      obtain ⟨its, rv, ⟨o, n, ho, hc, _, hd⟩, _⟩ := I.list hs
      obtain ⟨as, hr⟩ := DpXs.reads I ds _ its ha rv
      exact ⟨_, Reads.list ho hc hd hr⟩
  | .tuple ds, _, _, h, r => by
    cases h with
    | tup hs ha =>
      cases r
      obtain ⟨its, rv, ⟨o, ho, hc, n, hd⟩, _⟩ := I.tuple hs
      obtain ⟨as, hr⟩ := DpXs.reads I ds _ its ha rv
      exact ⟨_, Reads.tuple ho hc hd hr⟩
  | .dict _, _, _, h, r => by
    cases h with
    | emp e =>
      cases r
      obtain ⟨_, o, n, h1, h2, h3⟩ := emp_obj I e
      exact ⟨_, Reads.dict (kvs := []) h1 h2 h3 .nil .nil⟩
theorem DpXs.reads (I : Inv X pins σ H s) : ∀ (ds : List PyData) (vs : List V) (us : List Value), DpXs X.K H vs ds → Vals vs us → ∃ as, ReadsAll s.heap us ds as
  | [], _, _, h, r => by
    cases h
    cases r
    exact ⟨_, ReadsAll.nil⟩
  | d :: ds, _, _, h, r => by
    cases h with
    | cons h1 h2 =>
      cases r with
      | cons r1 r2 =>
        obtain ⟨as, q1⟩ := DpX.reads I d _ _ h1 r1
        obtain ⟨bs, q2⟩ := DpXs.reads I ds _ _ h2 r2
        exact ⟨_, ReadsAll.cons q1 q2⟩
end
mutual
theorem DpX.reprK (I : Inv X pins σ H s) : ∀ (d : PyData) (v : V) (u : Value), DpX X.K H v d → RelV v u → d.showable = true → d.shown.length ≤ sizeLine → ∃ bs, ReadAtMost s.heap d.depth bs ∧ ReprK X.prog X.w bs s.heap d.depth u d.shown
  | .none, _, _, h, r, _, _ => by
    cases h
    cases r
    exact ⟨[], (fun _ h => nomatch h), by simp only [PyData.shown]; exact .of_is ReprIs.none _ _ _⟩
  | .bool b, _, _, h, r, _, _ => by
    cases h
    cases r
    exact ⟨[], (fun _ h => nomatch h), by simp only [PyData.shown]; exact .of_is (ReprIs.bool b) _ _ _⟩
  | .int i, _, _, h, r, hs, _ => by
    cases h
    obtain ⟨t, rfl⟩ := r
    exact ⟨[], (fun _ h => nomatch h), by simp only [PyData.shown]; exact .of_is (ReprIs.int t (by simpa [PyData.showable] using hs)) _ _ _⟩
  | .str x, _, _, h, r, _, hz => by
    cases h
    obtain ⟨t, rfl⟩ := r
    exact ⟨[], (fun _ h => nomatch h), by simp only [PyData.shown]; exact .of_is (ReprIs.str x t (by simpa only [PyData.shown] using hz)) _ _ _⟩
  | .list ds, _, _, h, r, hs, hz => by
    cases h with
    | @lst a xs _ hs' ha =>
      cases r
      obtain ⟨its, rv, ⟨o, n, ho, hc, _, hd⟩, _⟩ := I.list hs'
      obtain ⟨as, hr⟩ := DpXs.reads I ds _ its ha rv
      have hz' : (listText (PyData.shownAll ds)).length ≤ sizeLine := by simpa only [PyData.shown] using hz
      obtain ⟨bs, hb, hk⟩ := DpXs.reprK I ds _ its ha rv (by simpa [PyData.showable] using hs) (fun t ht => Nat.le_trans (listText_mem_le ht) hz')
      have rr : Reads s.heap (.ref a) (.list ds) _ := .list ho hc hd hr
      have hna : a ∉ bs := not_mem_of_deeper rr (by simp only [PyData.depth]; omega) hb
      refine ⟨a :: bs, ReadAtMost.cons rr (by simp only [PyData.depth]; omega) hb, ?_⟩
      simp only [PyData.depth, PyData.shown]
      cases its with
      | nil =>
        cases hr
        simp only [PyData.shownAll, listText_nil]
        exact ReprK.listEmpty ho hc hd
      | cons x l => exact ReprK.list ho hc hd hna (by simpa using hk.length_eq) (fun i y e => hk.item i y (by simpa using e))
  | .tuple ds, _, _, h, r, hs, hz => by
    cases h with
    | @tup a xs _ hs' ha =>
      cases r
      obtain ⟨its, rv, ⟨o, ho, hc, n, hd⟩, _⟩ := I.tuple hs'
      obtain ⟨as, hr⟩ := DpXs.reads I ds _ its ha rv
      have hz' : (tupleText (PyData.shownAll ds)).length ≤ sizeLine := by simpa only [PyData.shown] using hz
      obtain ⟨bs, hb, hk⟩ := DpXs.reprK I ds _ its ha rv (by simpa [PyData.showable] using hs) (fun t ht => Nat.le_trans (tupleText_mem_le ht) hz')
      have rr : Reads s.heap (.ref a) (.tuple ds) _ := .tuple ho hc hd hr
      have hna : a ∉ bs := not_mem_of_deeper rr (by simp only [PyData.depth]; omega) hb
      refine ⟨a :: bs, ReadAtMost.cons rr (by simp only [PyData.depth]; omega) hb, ?_⟩
      simp only [PyData.depth, PyData.shown]
      exact ReprK.tuple ho hc hd hna hk
  | .dict _, _, _, h, r, _, hz => by
    cases h with
    | @emp a e =>
      cases r
      obtain ⟨hsys, o, n, h1, h2, h3⟩ := emp_obj I e
      have rr : Reads s.heap (.ref a) (.dict []) _ := .dict (kvs := []) h1 h2 h3 .nil .nil
      have h0 : ReadAtMost s.heap 0 [] := fun _ h => nomatch h
      refine ⟨[a], ReadAtMost.cons rr (by simp only [PyData.depth]; omega) h0, ?_⟩
      simp only [PyData.depth, PyData.shown, PyData.depthKv, PyData.shownKv]
      exact ReprK.dict h1 h2 h3 hsys (by simp) .nil
theorem DpXs.reprK (I : Inv X pins σ H s) : ∀ (ds : List PyData) (vs : List V) (us : List Value), DpXs X.K H vs ds → Vals vs us → PyData.showableAll ds = true → (∀ t ∈ PyData.shownAll ds, t.length ≤ sizeLine) →
    ∃ bs, ReadAtMost s.heap (PyData.depthAll ds) bs ∧ ReprAllK X.prog X.w bs s.heap (PyData.depthAll ds) us (PyData.shownAll ds)
  | [], _, _, h, r, _, _ => by
    cases h
    cases r
    exact ⟨[], (fun _ h => nomatch h), by simp only [PyData.shownAll]; exact .nil⟩
  | d :: ds, _, _, h, r, hs, hz => by
    cases h with
    | cons h1 h2 =>
      cases r with
      | cons r1 r2 =>
        have hs' : d.showable = true ∧ PyData.showableAll ds = true := by simpa [PyData.showableAll] using hs
        obtain ⟨b1, hb1, k1⟩ := DpX.reprK I d _ _ h1 r1 hs'.1 (hz _ (by simp only [PyData.shownAll]; exact List.mem_cons_self ..))
        obtain ⟨b2, hb2, k2⟩ := DpXs.reprK I ds _ _ h2 r2 hs'.2 (fun t ht => hz t (by simp only [PyData.shownAll]; exact List.mem_cons_of_mem _ ht))
        refine ⟨b1 ++ b2, ?_, ?_⟩
        · intro b hm
          simp only [PyData.depthAll]
          rcases List.mem_append.mp hm with hm | hm
          · obtain ⟨d', as', r', hd'⟩ := hb1 b hm
            exact ⟨d', as', r', Nat.le_trans hd' (Nat.le_max_left _ _)⟩
          · obtain ⟨d', as', r', hd'⟩ := hb2 b hm
            exact ⟨d', as', r', Nat.le_trans hd' (Nat.le_max_right _ _)⟩
        · simp only [PyData.depthAll, PyData.shownAll]
          exact .cons ((k1.more fun b hb => List.mem_append_left _ hb).level_le (Nat.le_max_left _ _)) (k2.more_le (fun b hb => List.mem_append_right _ hb) (Nat.le_max_right _ _))
end
end
section
variable {X : Cx}
def rEqX (K : PySem.W.Frag) : R2 := fun x y H Q => ∃ d e, DpX K H x d ∧ DpX K H y e ∧ SeqAt.shaped d = true ∧ SeqAt.shaped e = true ∧ Q (.bl (PyData.eqv d e)) H
def rNeX (K : PySem.W.Frag) : R2 := fun x y H Q => ∃ d e, DpX K H x d ∧ DpX K H y e ∧ SeqAt.shaped d = true ∧ SeqAt.shaped e = true ∧ Q (.bl (!PyData.eqv d e)) H
def rInX (K : PySem.W.Frag) : R2 := fun x y H Q => ∃ d ds, DpX K H x d ∧ DpX K H y (.list ds) ∧ SeqAt.shaped d = true ∧ SeqAt.shaped (.list ds) = true ∧ Q (.bl (ds.any fun z => PyData.eqv z d)) H
theorem op_eqX (hu : X.A.units + 64 < cLine) : OpR X (compareOp .Eq) (rEqX X.K) := by
  intro pins s σ H x y v u Q I rx ry h
  obtain ⟨d, e, hd, he, sd, se, q⟩ := h
  obtain ⟨as, r1⟩ := DpX.reads I d x v hd rx
  obtain ⟨bs, r2⟩ := DpX.reads I e y u he ry
  exact SeqAt.compareEq_shaped r1 r2 sd se hu ⟨.bl _, H, I, rfl, q⟩
theorem op_neX (hu : X.A.units + 64 < cLine) : OpR X (compareOp .NotEq) (rNeX X.K) := by
  intro pins s σ H x y v u Q I rx ry h
  obtain ⟨d, e, hd, he, sd, se, q⟩ := h
  obtain ⟨as, r1⟩ := DpX.reads I d x v hd rx
  obtain ⟨bs, r2⟩ := DpX.reads I e y u he ry
  exact SeqAt.compareNe_shaped r1 r2 sd se hu ⟨.bl _, H, I, rfl, q⟩
theorem op_inX (hu : X.A.units + 65 < cLine) : OpR X (compareOp .In) (rInX X.K) := by
  intro pins s σ H x y v u Q I rx ry h
  obtain ⟨d, ds, hd, he, sd, se, q⟩ := h
  obtain ⟨as, r1⟩ := DpX.reads I d x v hd rx
  obtain ⟨bs, r2⟩ := DpX.reads I (.list ds) y u he ry
  exact SeqAt.in_list_reads r2 r1 (SeqAt.canLay_of_shaped se) (SeqAt.canLay_of_shaped sd) (room_in_shaped sd hu) ⟨.bl _, H, I, rfl, q⟩
/-- the kind of such data -/
def tyD : PyData → String
  | .none => "NoneType"
  | .bool _ => "bool"
  | .int _ => "int"
  | .str _ => "str"
  | .list _ => "list"
  | .tuple _ => "tuple"
  | .dict _ => "dict"
theorem DpX.ty {K : PySem.W.Frag} {H : Hp} {v : V} {d : PyData} (h : DpX K H v d) : TyX K H v (.type (tyD d)) := by
  cases h with
  | non => exact .base .non
  | bl b => exact .base (.bl b)
  | int i => exact .base (.int i)
  | str x => exact .base (.str x)
  | lst h _ =>
    rcases h with (h | ⟨o, h⟩) | ⟨o, its, n, h1, h2, _⟩
    · exact .base (.lst h)
    · exact .base (.frz h)
    · exact .kList h1 h2
  | tup h _ =>
    rcases h with (h | ⟨o, h⟩) | ⟨o, its, n, h1, h2, _⟩
    · exact .base (.tup h)
    · exact .fTuple h
    · exact .kTuple h1 h2
  | emp h => exact .base (.dK h)
def isStr : PyData → Bool
  | .str _ => true
  | _ => false
def isTup : PyData → Bool
  | .tuple _ => true
  | _ => false
def isLst : PyData → Bool
  | .list _ => true
  | _ => false
theorem kit_str {K : PySem.W.Frag} : ∀ d : PyData, PySem.W.kitOne K (.type (tyD d)) (.type "str") = some (isStr d)
  | .none => kit_ty (show kitB "NoneType" "str" = some false by decide +kernel)
  | .bool _ => kit_ty (show kitB "bool" "str" = some false by decide +kernel)
  | .int _ => kit_ty (show kitB "int" "str" = some false by decide +kernel)
  | .str _ => kit_ty (show kitB "str" "str" = some true by decide +kernel)
  | .list _ => kit_ty (show kitB "list" "str" = some false by decide +kernel)
  | .tuple _ => kit_ty (show kitB "tuple" "str" = some false by decide +kernel)
  | .dict _ => kit_ty (show kitB "dict" "str" = some false by decide +kernel)
theorem kit_tup {K : PySem.W.Frag} : ∀ d : PyData, PySem.W.kitOne K (.type (tyD d)) (.type "tuple") = some (isTup d)
  | .none => kit_ty (show kitB "NoneType" "tuple" = some false by decide +kernel)
  | .bool _ => kit_ty (show kitB "bool" "tuple" = some false by decide +kernel)
  | .int _ => kit_ty (show kitB "int" "tuple" = some false by decide +kernel)
  | .str _ => kit_ty (show kitB "str" "tuple" = some false by decide +kernel)
  | .list _ => kit_ty (show kitB "list" "tuple" = some false by decide +kernel)
  | .tuple _ => kit_ty (show kitB "tuple" "tuple" = some true by decide +kernel)
  | .dict _ => kit_ty (show kitB "dict" "tuple" = some false by decide +kernel)
theorem kit_lst {K : PySem.W.Frag} : ∀ d : PyData, PySem.W.kitOne K (.type (tyD d)) (.type "list") = some (isLst d)
  | .none => kit_ty (show kitB "NoneType" "list" = some false by decide +kernel)
  | .bool _ => kit_ty (show kitB "bool" "list" = some false by decide +kernel)
  | .int _ => kit_ty (show kitB "int" "list" = some false by decide +kernel)
  | .str _ => kit_ty (show kitB "str" "list" = some false by decide +kernel)
  | .list _ => kit_ty (show kitB "list" "list" = some true by decide +kernel)
  | .tuple _ => kit_ty (show kitB "tuple" "list" = some false by decide +kernel)
  | .dict _ => kit_ty (show kitB "dict" "list" = some false by decide +kernel)
/-- repr(x), x such data of any kind -/
def rRepX (K : PySem.W.Frag) : List V → Hp → VK → Prop := fun xs H Q => ∃ (x : V) (d : PyData), xs = [x] ∧ DpX K H x d ∧ d.showable = true ∧ d.depth ≤ 20 ∧ d.shown.length ≤ sizeLine ∧ Q (.str d.shown) H
theorem call_repX (hgu : X.A.guards = some []) (hu : X.A.units + 64 < cLine) : CallR X (.builtin "repr") (rRepX X.K) := by
  intro pins s σ H xs us Q I r h
  obtain ⟨x, d, rfl, hd, hs, hdep, hz, q⟩ := h
  cases r with
  | cons r1 r2 =>
    cases r2
    rename_i u
    cases hd with
    | non =>
      cases r1
      simp only [PyData.shown] at q
      exact PySem.P.repr_of_none ⟨.str _, H, I.tok _, ⟨_, rfl⟩, q⟩
    | bl b =>
      cases r1
      simp only [PyData.shown] at q
      exact PySem.P.repr_of_bool ⟨.str _, H, I.tok _, ⟨_, rfl⟩, q⟩
    | int i =>
      obtain ⟨t, rfl⟩ := r1
      simp only [PyData.shown] at q
      exact PySem.P.repr_of_int (by simpa [PyData.showable] using hs) ⟨.str _, H, I.tok _, ⟨_, rfl⟩, q⟩
    | str z =>
      obtain ⟨t, rfl⟩ := r1
      simp only [PyData.shown] at q hz
      exact PySem.P.repr_of_str ⟨.str _, H, I.tok _, ⟨_, rfl⟩, q⟩ hz
    | @lst a xs ds hs' ha =>
      cases r1
      obtain ⟨its, rv, ⟨o, n, ho, hc, _, hdd⟩, _⟩ := I.list hs'
      obtain ⟨as, hr⟩ := DpXs.reads I ds _ its ha rv
      have hz' : (listText (PyData.shownAll ds)).length ≤ sizeLine := by simpa only [PyData.shown] using hz
      obtain ⟨bs, hb, hk⟩ := DpXs.reprK I ds _ its ha rv (by simpa [PyData.showable] using hs) (fun t ht => Nat.le_trans (listText_mem_le ht) hz')
      have rr : Reads s.heap (.ref a) (.list ds) _ := .list ho hc hdd hr
      have hna : a ∉ bs := not_mem_of_deeper rr (by simp only [PyData.depth]; omega) hb
      simp only [PyData.depth] at hdep
      simp only [PyData.shown] at q
      refine call_repr_slot (T := "list") (by omega) ⟨o, ho, hc⟩ PySem.F.slot_list_repr.toG ?_
      cases its with
      | nil =>
        cases hr
        simp only [PyData.shownAll, listText_nil] at q
        exact call_list_repr_empty ⟨o, ho, hc⟩ ho hdd ⟨_, _, rfl, .str _, H, I.tok _, ⟨_, rfl⟩, q⟩
      | cons y l =>
        exact call_list_reprK ho hc hdd hna (by simpa using hk.length_eq) (fun i y e => hk.item i y (by simpa using e)) (A := X.A.in1) hgu (fun b _ => Clear.nil b) (by show X.A.units + 1 + _ < cLine; omega) (fun _ _ z => z) (fun h' u tk keep => ⟨_, _, rfl, .str _, H, I.kept (t' := tk) keep, ⟨_, rfl⟩, q⟩) hz'
    | @tup a xs ds hs' ha =>
      cases r1
      obtain ⟨its, rv, ⟨o, ho, hc, n, hdd⟩, _⟩ := I.tuple hs'
      obtain ⟨as, hr⟩ := DpXs.reads I ds _ its ha rv
      have hz' : (tupleText (PyData.shownAll ds)).length ≤ sizeLine := by simpa only [PyData.shown] using hz
      obtain ⟨bs, hb, hk⟩ := DpXs.reprK I ds _ its ha rv (by simpa [PyData.showable] using hs) (fun t ht => Nat.le_trans (tupleText_mem_le ht) hz')
      have rr : Reads s.heap (.ref a) (.tuple ds) _ := .tuple ho hc hdd hr
      have hna : a ∉ bs := not_mem_of_deeper rr (by simp only [PyData.depth]; omega) hb
      simp only [PyData.depth] at hdep
      simp only [PyData.shown] at q
      refine call_repr_slot (T := "tuple") (by omega) ⟨o, ho, hc⟩ PySem.F.slot_tuple_repr ?_
      exact call_tuple_reprK ho hc hdd hna hk (A := X.A.in1) hgu (fun b _ => Clear.nil b) (by show X.A.units + 1 + _ < cLine; omega) (fun _ _ z => z) (fun h' u tk keep => ⟨_, _, rfl, .str _, H, I.kept (t' := tk) keep, ⟨_, rfl⟩, q⟩) hz'
    | @emp a e =>
      cases r1
      obtain ⟨hsys, o, n, h1, h2, h3⟩ := emp_obj I e
      have hz' : (dictText []).length ≤ sizeLine := by simpa only [PyData.shown, PyData.shownKv] using hz
      simp only [PyData.shown, PyData.shownKv] at q
      refine call_repr_slot (T := "dict") (by omega) ⟨o, h1, h2⟩ PySem.F.slot_dict_repr ?_
      exact call_dict_reprK (as := []) (d := 0) h1 h2 h3 hsys (by simp) .nil (A := X.A.in1) hgu (fun b _ => Clear.nil b) (by show X.A.units + 1 + _ < cLine; omega) (fun _ _ z => z) (fun h' u tk keep => ⟨_, _, rfl, .str _, H, I.kept (t' := tk) keep, ⟨_, rfl⟩, q⟩) hz'
end
end SE
namespace SE
open PySem PySem.Spec PyProof.Rows L2
/-! ### data whose dicts are empty -/
mutual
def layE : PyData → Bool
  | .none | .bool _ | .int _ => true
  | .str x => PyData.strOk x
  | .list xs | .tuple xs => layEAll xs
  | .dict kvs => kvs.isEmpty
def layEAll : List PyData → Bool
  | [] => true
  | x :: xs => layE x && layEAll xs
end
mutual
theorem layE_of : ∀ d : PyData, d.canLay0 = true → layE d = true
  | .none, _ => by simp only [layE]
  | .bool _, _ => by simp only [layE]
  | .int _, _ => by simp only [layE]
  | .str x, h => by simpa only [layE, PyData.canLay0] using h
  | .list xs, h => by
    simp only [layE]
    exact layEAll_of xs (by simpa only [PyData.canLay0] using h)
  | .tuple xs, h => by
    simp only [layE]
    exact layEAll_of xs (by simpa only [PyData.canLay0] using h)
  | .dict _, h => by simp only [PyData.canLay0] at h; exact nomatch h
theorem layEAll_of : ∀ xs : List PyData, PyData.canLayAll0 xs = true → layEAll xs = true
  | [], _ => by simp only [layEAll]
  | x :: xs, h => by
    have h' : x.canLay0 = true ∧ PyData.canLayAll0 xs = true := by simpa only [PyData.canLayAll0, Bool.and_eq_true] using h
    simp only [layEAll, Bool.and_eq_true]
    exact ⟨layE_of x h'.1, layEAll_of xs h'.2⟩
end
mutual
theorem leavesShort_of_layE : ∀ d : PyData, layE d = true → d.intsShort 13 = true → d.leavesShort 13 = true
  | .none, _, _ => rfl
  | .bool _, _, _ => rfl
  | .int i, _, h => by simpa only [PyData.leavesShort, PyData.intsShort] using h
  | .str x, hc, _ => PyData.leavesShort_of_canLay0 13 (.str x) (by simpa only [layE, PyData.canLay0] using hc) rfl
  | .list xs, hc, h => by
    simp only [PyData.leavesShort]
    exact leavesShortAll_of_layE xs (by simpa only [layE] using hc) (by simpa only [PyData.intsShort] using h)
  | .tuple xs, hc, h => by
    simp only [PyData.leavesShort]
    exact leavesShortAll_of_layE xs (by simpa only [layE] using hc) (by simpa only [PyData.intsShort] using h)
  | .dict kvs, hc, _ => by
    simp only [layE, List.isEmpty_iff] at hc
    rw [hc]
    rfl
theorem leavesShortAll_of_layE : ∀ xs : List PyData, layEAll xs = true → PyData.intsShortAll 13 xs = true → PyData.leavesShortAll 13 xs = true
  | [], _, _ => rfl
  | x :: xs, hc, h => by
    have hc' : layE x = true ∧ layEAll xs = true := by simpa only [layEAll, Bool.and_eq_true] using hc
    have h' : x.intsShort 13 = true ∧ PyData.intsShortAll 13 xs = true := by simpa only [PyData.intsShortAll, Bool.and_eq_true] using h
    simp only [PyData.leavesShortAll, Bool.and_eq_true]
    exact ⟨leavesShort_of_layE x hc'.1 h'.1, leavesShortAll_of_layE xs hc'.2 h'.2⟩
end
/-! ### small data -/
structure NX (k B : Nat) (d : PyData) : Prop where
  lay : layE d = true
  dep : d.depth ≤ k
  sh : d.showable = true
  ish : d.intsShort 13 = true
  wt : d.weight ≤ B
theorem NX.mono {k j B C : Nat} {d : PyData} (h : NX k B d) (hk : k ≤ j) (hB : B ≤ C) : NX j C d := ⟨h.lay, Nat.le_trans h.dep hk, h.sh, h.ish, Nat.le_trans h.wt hB⟩
theorem Nice.nx {k B : Nat} {d : PyData} (h : Nice k B d) : NX k B d := ⟨layE_of _ h.lay, h.dep, h.sh, h.ish, h.wt⟩
theorem nx_all {k B : Nat} : ∀ {ds : List PyData}, (∀ d ∈ ds, NX k B d) → layEAll ds = true ∧ PyData.depthAll ds ≤ k ∧ PyData.showableAll ds = true ∧ PyData.intsShortAll 13 ds = true ∧ PyData.weightAll ds ≤ ds.length * (B + 1)
  | [], _ => by
    refine ⟨?_, ?_, ?_, ?_, ?_⟩
    · simp only [layEAll]
    · simp only [PyData.depthAll]
      exact Nat.zero_le _
    · simp only [PyData.showableAll]
    · simp only [PyData.intsShortAll]
    · simp only [PyData.weightAll]
      exact Nat.zero_le _
  | d :: ds, h => by
    obtain ⟨a1, a2, a3, a5, a6⟩ := nx_all (ds := ds) fun x hx => h x (List.mem_cons_of_mem _ hx)
    have q := h d List.mem_cons_self
    refine ⟨?_, ?_, ?_, ?_, ?_⟩
    · simp only [layEAll, q.lay, a1, Bool.and_self]
    · simp only [PyData.depthAll]
      exact Nat.max_le.mpr ⟨q.dep, a2⟩
    · simp only [PyData.showableAll, q.sh, a3, Bool.and_self]
    · simp only [PyData.intsShortAll, q.ish, a5, Bool.and_self]
    · simp only [PyData.weightAll, List.length_cons]
      have := q.wt
      rw [Nat.add_mul]
      omega
theorem nx_list {k B : Nat} {ds : List PyData} (h : ∀ d ∈ ds, NX k B d) : NX (k + 1) (ds.length * (B + 1)) (.list ds) := by
  obtain ⟨a1, a2, a3, a5, a6⟩ := nx_all h
  exact ⟨by simp only [layE]; exact a1, by simp only [PyData.depth]; omega, by simp only [PyData.showable]; exact a3, by simp only [PyData.intsShort]; exact a5, by simp only [PyData.weight]; exact a6⟩
theorem nx_tuple {k B : Nat} {ds : List PyData} (h : ∀ d ∈ ds, NX k B d) : NX (k + 1) (ds.length * (B + 1)) (.tuple ds) := by
  obtain ⟨a1, a2, a3, a5, a6⟩ := nx_all h
  exact ⟨by simp only [layE]; exact a1, by simp only [PyData.depth]; omega, by simp only [PyData.showable]; exact a3, by simp only [PyData.intsShort]; exact a5, by simp only [PyData.weight]; exact a6⟩
theorem all_elem {k B : Nat} : ∀ {ds : List PyData}, layEAll ds = true → PyData.depthAll ds ≤ k → PyData.showableAll ds = true → PyData.intsShortAll 13 ds = true → PyData.weightAll ds ≤ B → (∀ d ∈ ds, NX k B d) ∧ ds.length ≤ B
  | [], _, _, _, _, _ => ⟨fun d m => (by cases m), Nat.zero_le _⟩
  | d :: ds, h1, h2, h3, h4, h5 => by
    simp only [layEAll, Bool.and_eq_true] at h1
    simp only [PyData.depthAll] at h2
    simp only [PyData.showableAll, Bool.and_eq_true] at h3
    simp only [PyData.intsShortAll, Bool.and_eq_true] at h4
    simp only [PyData.weightAll] at h5
    have m2 := Nat.max_le.mp h2
    obtain ⟨q1, q2⟩ := all_elem (k := k) (B := B - 1) h1.2 m2.2 h3.2 h4.2 (by omega)
    refine ⟨fun x m => ?_, by rw [List.length_cons]; omega⟩
    rcases List.mem_cons.mp m with e | e
    · rw [e]
      exact ⟨h1.1, m2.1, h3.1, h4.1, by omega⟩
    · exact (q1 x e).mono (Nat.le_refl _) (by omega)
theorem NX.list {k B : Nat} {ds : List PyData} (h : NX k B (.list ds)) : (∀ d ∈ ds, NX k B d) ∧ ds.length ≤ B := by
  obtain ⟨a, b, c, d, e⟩ := h
  simp only [layE] at a
  simp only [PyData.depth] at b
  simp only [PyData.showable] at c
  simp only [PyData.intsShort] at d
  simp only [PyData.weight] at e
  exact all_elem a (by omega) c d e
theorem NX.tuple {k B : Nat} {ds : List PyData} (h : NX k B (.tuple ds)) : (∀ d ∈ ds, NX k B d) ∧ ds.length ≤ B := by
  obtain ⟨a, b, c, d, e⟩ := h
  simp only [layE] at a
  simp only [PyData.depth] at b
  simp only [PyData.showable] at c
  simp only [PyData.intsShort] at d
  simp only [PyData.weight] at e
  exact all_elem a (by omega) c d e
theorem NX.str {k B : Nat} {z : Str} (h : NX k B (.str z)) : z.length ≤ B := by
  have := h.wt
  simp only [PyData.weight] at this
  exact this
theorem NX.shown {k B : Nat} {d : PyData} (h : NX k B d) (hk : k ≤ 64) (hB : B ≤ 2 ^ 20) : d.shown.length ≤ sizeLine :=
  PyData.shown_fits (B := 13) (by decide) (by decide) (leavesShort_of_layE d h.lay h.ish) (Nat.le_trans h.wt hB)
/-- the data that the functions are asked about -/
abbrev OkD (d : PyData) : Prop := NX 20 100000 d
theorem big100 {n : Nat} (h : n ≤ 100001) : n ≤ sizeLine := by
  rw [sizeLine_eq]
  omega
/-! ### what the functions answer -/
def itemD : PyData → Bool
  | .str z => decide (1 ≤ z.length ∧ z.length ≤ 8) && (z.cps.toList.map fun c => decide (c ∈ abc.cps.toList)).all id
  | _ => false
def wordD : PyData → Bool
  | .tuple ds => (ds.map itemD).all id
  | _ => false
def actD : PyData → Bool
  | .str z => decide (z = "push" ∨ z = "pop")
  | _ => false
def stpD : PyData → Bool
  | .tuple [a, b] => actD a && itemD b
  | _ => false
def seqD : PyData → Bool
  | .list ds => decide (ds.length ≤ 1000) && (ds.map stpD).all id
  | .tuple ds => decide (ds.length ≤ 1000) && (ds.map stpD).all id
  | _ => false
end SE
namespace SE
open PySem PySem.Spec PyProof.Rows L2
theorem bl_take {α : Type} {f : α → Bool} {l : List α} {j : Nat} {x : α} (h : l[j]? = some x) : ((l.take j).map f).map V.bl ++ [V.bl (f x)] = ((l.take (j + 1)).map f).map V.bl := by
  rw [List.take_add_one, h, List.map_append, List.map_append]
  rfl
theorem itemD_str (z : Str) : itemD (.str z) = (decide (1 ≤ z.length ∧ z.length ≤ 8) && (z.cps.toList.map fun c => decide (c ∈ abc.cps.toList)).all id) := rfl
section
variable {P : Program} {w : World} {K : PySem.W.Frag} {mg : Str → Option Value} {base : Heap}
/-! ### is_item, is_word -/
def spX (K : PySem.W.Frag) (f : PyData → Bool) : Sp := fun xs H Q _ => ∃ (v : V) (d : PyData), xs = [v] ∧ DpX K H v d ∧ OkD d ∧ ∀ H', Same H H' → Q (.bl (f d)) H'
theorem has_itemX (D : Def K mg "is_item" sIsItem) (B : Blt mg) (C : Cons K w mg) : Has P w K mg base "is_item" 1 ["value"] [] (spX K itemD) := by
  obtain ⟨tl, hL⟩ := C.let_
  obtain ⟨tm, hM⟩ := C.ml
  refine has_of D scIsItem (fun _ _ _ _ _ _ us hl => match us, hl with | [_], _ => rfl) (fun xs H Q E h => ?_) (fun f cv A out s H xs Q E hr h => ?_)
  · obtain ⟨v, d, rfl, _⟩ := h
    rfl
  · obtain ⟨v, d, rfl, hd, ok, k⟩ := h
    refine ⟨_, pss_cons (ps_if (PW.pt (pw_or (pt_not (pt_val (pe_callB call_isi (by rfl) B.isi (by decide +kernel) (pa_cons (pv 0) (pa_cons (pe_bltn (v := .ty "str") (by rfl) B.str (by decide +kernel) rfl) pa_nil)))))
        (pw_or1 (pt_not (pt_chain op_le op_le pe_int (pe_callB call_len_str (by rfl) B.len PySem.boot_len (pa_cons (pv 0) pa_nil)) (pe_glob (v := .int 8) rfl hM ⟨_, rfl⟩)))))) (pss_one (ps_ret pe_bl)) pss_nil)
      (pss_one (ps_ret (pe_callB (cr_all rfl) (by rfl) B.all (by decide +kernel) (pa_cons
        (pe_lc (own := [("letter", 1)]) (g := gName 1) (tt := tYes) rfl scIsItem.nd (pi_str (pv 0)) (blkOk_by (own := [("letter", 1)]) (N := ["value", "letter"]) (sc := defScope sIsItem) (by decide +kernel))
          (fun _ _ _ _ _ => pg_name (i := 1) scIsItem.nd rfl (.inl rfl)) (fun _ _ _ _ _ => pts_nil) (fun _ _ _ _ _ => pe_cmpR op_in_sign (pv 1) (pe_glob (v := .str abc) rfl hL ⟨_, rfl⟩) (by rfl))) pa_nil)))), ?_⟩
    refine ⟨_, rfl, _, .ty "str", .type (tyD d), .type "str", isStr d, rfl, .ty _, hd.ty, kit_str d, _, rfl, ?_⟩
    cases hd with
    | non => exact iteT (iteT (k H (Same.refl H)))
    | bl b => exact iteT (iteT (k H (Same.refl H)))
    | int i => exact iteT (iteT (k H (Same.refl H)))
    | lst _ _ => exact iteT (iteT (k H (Same.refl H)))
    | tup _ _ => exact iteT (iteT (k H (Same.refl H)))
    | emp _ => exact iteT (iteT (k H (Same.refl H)))
    | str z =>
      refine iteF ?_
      have zl : z.length ≤ 100000 := ok.str
      refine ⟨_, rfl, z, rfl, big100 (by omega), 1, _, rfl, rfl, _, rfl, ?_⟩
      by_cases p1 : 1 ≤ z.length
      · have e1 : decide ((1 : Int) ≤ (z.length : Int)) = true := decide_eq_true (by omega)
        rw [e1]
        refine iteT ⟨_, 8, rfl, rfl, _, rfl, ?_⟩
        by_cases p2 : z.length ≤ 8
        · have e2 : decide ((z.length : Int) ≤ 8) = true := decide_eq_true (by omega)
          rw [e2]
          refine iteF ?_
          have e3 : itemD (.str z) = (z.cps.toList.map fun c => decide (c ∈ abc.cps.toList)).all id := by
            rw [itemD_str, decide_eq_true ⟨p1, p2⟩, Bool.true_and]
          rw [e3] at k
          refine ⟨_, rfl, z, rfl, fun D hD => lc_it walk_str (fun j H2 => H2 D = some (.lst (((z.cps.toList.take j).map fun c => decide (c ∈ abc.cps.toList)).map V.bl)) ∧ Same H H2) ⟨upd_same, Same.new hD⟩ (fun _ _ _ _ => trivial) ?_ ?_⟩
          · rintro j x H2 H3 hj ⟨h2, s2⟩ ⟨rfl, c, hc, rfl⟩
            have q : z.cps.toList[j]? = some c := by rw [Array.getElem?_toList]; exact hc
            refine ⟨rfl, yes_in ⟨_, rfl, c, abc, rfl, rfl, _, h2, ?_, ?_, Same.free2 s2 hD⟩⟩
            · rw [List.length_map, List.length_map, List.length_take]
              exact small1000 (by have : j < z.length := hj; omega)
            · rw [upd_same, bl_take (f := fun c => decide (c ∈ abc.cps.toList)) q]
          · rintro H2 ⟨h2, s2⟩
            rw [List.take_of_length_le (by rw [Array.length_toList]; exact Nat.le_refl _)] at h2
            exact ⟨D, _, rfl, .of h2, k H2 s2⟩
        · have e2 : decide ((z.length : Int) ≤ 8) = false := decide_eq_false (by omega)
          rw [e2]
          have e3 : itemD (.str z) = false := by
            rw [itemD_str, decide_eq_false (fun q => p2 q.2), Bool.false_and]
          rw [e3] at k
          exact iteT (k H (Same.refl H))
      · have e1 : decide ((1 : Int) ≤ (z.length : Int)) = false := decide_eq_false (by omega)
        rw [e1]
        have e3 : itemD (.str z) = false := by
          rw [itemD_str, decide_eq_false (fun q => p1 q.1), Bool.false_and]
        rw [e3] at k
        exact iteF ⟨false, rfl, iteT (k H (Same.refl H))⟩
theorem has_wordX (D : Def K mg "is_word" sIsWord) (G : Has P w K mg base "is_item" 1 ["value"] [] (spX K itemD)) (B : Blt mg) : Has P w K mg base "is_word" 2 ["value"] [] (spX K wordD) := by
  refine has_of D scIsWord (fun _ _ _ _ _ _ us hl => match us, hl with | [_], _ => rfl) (fun xs H Q E h => ?_) (fun f cv A out s H xs Q E hr h => ?_)
  · obtain ⟨v, d, rfl, _⟩ := h
    rfl
  · obtain ⟨v, d, rfl, hd, ok, k⟩ := h
    refine ⟨_, pss_one (ps_ret (pe_and (pe_callB call_isi (by rfl) B.isi (by decide +kernel) (pa_cons (pv 0) (pa_cons (pe_bltn (v := .ty "tuple") (by rfl) B.tup (by decide +kernel) rfl) pa_nil)))
      (pe_one (pe_callB (cr_all rfl) (by rfl) B.all (by decide +kernel) (pa_cons
        (pe_lc (own := [("item", 1)]) (g := gName 1) (tt := tYes) (te := tCall (spX K itemD) [] E0 (tCons (tVar 1) tNil)) rfl scIsWord.nd (pi_tup (pv 0)) (blkOk_by (own := [("item", 1)]) (N := ["value", "item"]) (sc := defScope sIsWord) (by decide +kernel))
          (fun _ _ _ _ _ => pg_name (i := 1) scIsWord.nd rfl (.inl rfl)) (fun _ _ _ _ _ => pts_nil) (fun _ _ _ _ _ => pe_has G hr (pa_cons (pv 1) pa_nil))) pa_nil))))), ?_⟩
    refine ⟨_, rfl, _, .ty "tuple", .type (tyD d), .type "tuple", isTup d, rfl, .ty _, hd.ty, kit_tup d, _, rfl, ?_⟩
    cases hd with
    | non => exact iteF (k H (Same.refl H))
    | bl b => exact iteF (k H (Same.refl H))
    | int i => exact iteF (k H (Same.refl H))
    | str z => exact iteF (k H (Same.refl H))
    | lst _ _ => exact iteF (k H (Same.refl H))
    | emp _ => exact iteF (k H (Same.refl H))
    | @tup a xs ds hT ha =>
      refine iteT ?_
      obtain ⟨oks, ln⟩ := ok.tuple
      have le := ha.len
      refine ⟨_, rfl, a, rfl, ⟨_, hT⟩, fun D hD => lc_tup (K := K) (a := a) (xs := xs) (fun j H2 => H2 D = some (.lst (((ds.take j).map itemD).map V.bl)) ∧ Same H H2) ⟨upd_same, Same.new hD⟩ (fun _ _ _ q => Same.tup q.2 hT) ?_ ?_⟩
      · rintro j x H2 hj ⟨h2, s2⟩
        obtain ⟨e, he, hx⟩ := ha.at hj
        refine ⟨rfl, yes_in ⟨_, rfl, x, e, rfl, DpX.same s2 e x hx, oks e (List.mem_of_getElem? he), fun H3 s3 => ⟨_, s3 _ _ h2, ?_, ?_, Same.free2 (s2.trans s3) hD⟩⟩⟩
        · rw [List.length_map, List.length_map, List.length_take, sizeLine_eq]
          omega
        · rw [upd_same, bl_take he]
      · rintro H2 ⟨h2, s2⟩
        rw [le, List.take_length] at h2
        exact ⟨D, _, rfl, .of h2, k H2 s2⟩
end
end SE
namespace SE
open PySem PySem.Spec PyProof.Rows L2
def OppKeys : List DictEntry → Prop
  | [] => True
  | e :: r => (∃ x t, e.key = .str x t ∧ (x = ("push" : Str) ∨ x = ("pop" : Str))) ∧ OppKeys r
theorem opp_none {z : Str} (h1 : z ≠ "push") (h2 : z ≠ "pop") : ∀ {l : List DictEntry}, OppKeys l → l.find? (fun e => e.key.isStr z) = none ∧ l.any (fun e => e.refKey) = false
  | [], _ => ⟨rfl, rfl⟩
  | e :: r, ⟨⟨x, t, hk, hx⟩, q⟩ => by
    obtain ⟨q1, q2⟩ := opp_none h1 h2 q
    have e1 : e.key.isStr z = false := by
      rw [hk]
      have ne : x ≠ z := by
        rcases hx with hx | hx
        · rw [hx]; exact fun w => h1 w.symm
        · rw [hx]; exact fun w => h2 w.symm
      simpa [Value.isStr] using ne
    have e2 : e.refKey = false := by
      unfold DictEntry.refKey
      rw [hk]
    rw [List.find?_cons, e1, List.any_cons, e2]
    exact ⟨q1, q2⟩
/-- OPPOSITES and all its keys -/
def Opp2 (K : PySem.W.Frag) (w : World) (mg : Str → Option Value) : Prop := ∃ (d : Addr) (es : Array DictEntry) (n : Nat) (u v : Value), mg "OPPOSITES" = some (.ref d) ∧ KDict K w d es n ∧ PySem.W.nsIn K d "push" = some (some u) ∧ PySem.W.nsIn K d "pop" = some (some v) ∧ OppKeys es.toList
theorem opp_in {K : PySem.W.Frag} {w : World} {d : Addr} {es : Array DictEntry} {n : Nat} {u v : Value} (KD : KDict K w d es n) (n1 : PySem.W.nsIn K d "push" = some (some u)) (n2 : PySem.W.nsIn K d "pop" = some (some v)) (ok : OppKeys es.toList) (z : Str) :
    ∃ r, PySem.W.nsIn K d z = some r ∧ r.isSome = actD (.str z) := by
  by_cases h1 : z = "push"
  · subst h1
    exact ⟨_, n1, show true = actD (.str "push") by decide +kernel⟩
  by_cases h2 : z = "pop"
  · subst h2
    exact ⟨_, n2, show true = actD (.str "pop") by decide +kernel⟩
  obtain ⟨q1, q2⟩ := opp_none h1 h2 ok
  refine ⟨none, ?_, ?_⟩
  · unfold PySem.W.nsIn
    rw [KD.at_]
    dsimp only
    rw [q1]
    dsimp only
    rw [q2]
    rfl
  · show false = decide (z = "push" ∨ z = "pop")
    rw [decide_eq_false (fun q => q.elim h1 h2)]
section
variable {P : Program} {w : World} {K : PySem.W.Frag} {mg : Str → Option Value} {base : Heap}
/-! ### is_step -/
theorem has_stepX (D : Def K mg "is_step" sIsStep) (G : Has P w K mg base "is_item" 1 ["value"] [] (spX K itemD)) (B : Blt mg) (C : Opp2 K w mg) : Has P w K mg base "is_step" 2 ["value"] [] (spX K stpD) := by
  obtain ⟨d, es, n, u1, u2, hO, KD, n1, n2, okO⟩ := C
  refine has_of D scIsStep (fun _ _ _ _ _ _ us hl => match us, hl with | [_], _ => rfl) (fun xs H Q E h => ?_) (fun f cv A out s H xs Q E hr h => ?_)
  · obtain ⟨v, dd, rfl, _⟩ := h
    rfl
  · obtain ⟨v, dd, rfl, hd, ok, k⟩ := h
    refine ⟨_, pss_cons (ps_if (PW.pt (pw_or (pt_not (pt_val (pe_callB call_isi (by rfl) B.isi (by decide +kernel) (pa_cons (pv 0) (pa_cons (pe_bltn (v := .ty "tuple") (by rfl) B.tup (by decide +kernel) rfl) pa_nil)))))
        (pw_or1 (pt_cmpR op_ne (pe_callB call_len_seq (by rfl) B.len PySem.boot_len (pa_cons (pv 0) pa_nil)) pe_int (nomark _))))) (pss_one (ps_ret pe_bl)) pss_nil)
      (pss_cons (ps_asg (pv 0) (pg_tup (by rfl) (pgs_cons (pg_name (i := 1) scIsStep.nd rfl (.inl rfl)) (pgs_cons (pg_name (i := 2) scIsStep.nd rfl (.inl rfl)) pgs_nil))))
      (pss_one (ps_ret (pe_and (pe_callB call_isi (by rfl) B.isi (by decide +kernel) (pa_cons (pv 1) (pa_cons (pe_bltn (v := .ty "str") (by rfl) B.str (by decide +kernel) rfl) pa_nil)))
        (pe_and (pe_cmpR (op_in_kd KD) (pv 1) (pe_glob (v := .ref d) rfl hO rfl) (by rfl)) (pe_one (pe_has G hr (pa_cons (pv 2) pa_nil)))))))), ?_⟩
    refine ⟨_, rfl, _, .ty "tuple", .type (tyD dd), .type "tuple", isTup dd, rfl, .ty _, hd.ty, kit_tup dd, _, rfl, ?_⟩
    cases hd with
    | non => exact iteT (iteT (k H (Same.refl H)))
    | bl b => exact iteT (iteT (k H (Same.refl H)))
    | int i => exact iteT (iteT (k H (Same.refl H)))
    | str z => exact iteT (iteT (k H (Same.refl H)))
    | lst _ _ => exact iteT (iteT (k H (Same.refl H)))
    | emp _ => exact iteT (iteT (k H (Same.refl H)))
    | @tup t xs ds hT ha =>
      refine iteF ?_
      obtain ⟨oks, ln⟩ := ok.tuple
      have le := ha.len
      refine ⟨_, rfl, t, _, rfl, .inr hT, rfl, _, rfl, ?_⟩
      match ds, xs, ha, le, oks, k, hT with
      | [], _, .nil, _, _, k, _ => exact iteT (k H (Same.refl H))
      | [_], _, .cons _ .nil, _, _, k, _ => exact iteT (k H (Same.refl H))
      | [e1, e2], [x1, x2], .cons h1 (.cons h2 .nil), _, oks, k, hT =>
        refine iteF ?_
        refine ⟨_, rfl, t, _, rfl, hT, rfl, _, _, rfl, _, _, rfl, rfl, ?_⟩
        refine ⟨_, rfl, _, .ty "str", .type (tyD e1), .type "str", isStr e1, rfl, .ty _, h1.ty, kit_str e1, _, rfl, ?_⟩
        have k' : ∀ H', Same H H' → Q (.bl (actD e1 && itemD e2)) H' := k
        cases h1 with
        | non => exact iteF (k' H (Same.refl H))
        | bl b => exact iteF (k' H (Same.refl H))
        | int i => exact iteF (k' H (Same.refl H))
        | lst _ _ => exact iteF (k' H (Same.refl H))
        | tup _ _ => exact iteF (k' H (Same.refl H))
        | emp _ => exact iteF (k' H (Same.refl H))
        | str z =>
          refine iteT ?_
          obtain ⟨r, hr1, hr2⟩ := opp_in KD n1 n2 okO z
          refine ⟨_, rfl, z, r, rfl, rfl, hr1, r.isSome, rfl, ?_⟩
          rw [hr2]
          cases hz : actD (.str z) with
          | false =>
            rw [hz] at k'
            exact iteF (k' H (Same.refl H))
          | true =>
            rw [hz] at k'
            exact iteT ⟨_, rfl, x2, e2, rfl, h2, oks e2 (by simp), fun H' s' => k' H' s'⟩
      | _ :: _ :: _ :: ds, x1 :: x2 :: x3 :: xs, .cons _ (.cons _ (.cons _ _)), _, _, k, _ =>
        have hne : decide (V.int (((x1 :: x2 :: x3 :: xs).length : Nat) : Int) = V.int 2) = false := decide_eq_false (by
          intro q
          have q2 := V.int.inj q
          simp only [List.length_cons] at q2
          omega)
        rw [hne]
        exact iteT (k H (Same.refl H))
/-! ### may_hold_steps, is_sequence -/
def mayD : PyData → Bool
  | .list ds => decide (ds.length ≤ 1000)
  | .tuple ds => decide (ds.length ≤ 1000)
  | _ => false
theorem kit_lt {K : PySem.W.Frag} (d : PyData) : PySem.W.kitAny K (.type (tyD d)) [.type "list", .type "tuple"] = some (isLst d || isTup d) := by
  have a := kit_lst (K := K) d
  have b := kit_tup (K := K) d
  cases d with
  | list ds => exact kitAny_cons (b := true) a (fun z => (by cases z)) (fun _ => rfl)
  | tuple ds => exact kitAny_cons (b := false) a (fun _ => kitAny_cons (b := true) b (fun z => (by cases z)) (fun _ => rfl)) (fun z => (by cases z))
  | _ => exact kitAny_cons (b := false) a (fun _ => kitAny_cons (b := false) b (fun _ => rfl) (fun z => (by cases z))) (fun z => (by cases z))
theorem has_mayX (D : Def K mg "may_hold_steps" sMayHold) (B : Blt mg) (C : Cons K w mg) : Has P w K mg base "may_hold_steps" 1 ["value"] [] (spX K mayD) := by
  obtain ⟨tm, hM⟩ := C.ms
  refine has_of D scMay (fun _ _ _ _ _ _ us hl => match us, hl with | [_], _ => rfl) (fun xs H Q E h => ?_) (fun f cv A out s H xs Q E hr h => ?_)
  · obtain ⟨v, d, rfl, _⟩ := h
    rfl
  · obtain ⟨v, d, rfl, hd, ok, k⟩ := h
    refine ⟨_, pss_one (ps_ret (pe_and (pe_callB call_isiT (by rfl) B.isi (by decide +kernel) (pa_cons (pv 0) (pa_cons (pe_tup (pa_cons (pe_bltn (v := .ty "list") (by rfl) B.lst (by decide +kernel) rfl) (pa_cons (pe_bltn (v := .ty "tuple") (by rfl) B.tup (by decide +kernel) rfl) pa_nil))) pa_nil)))
      (pe_one (pe_cmpR op_le (pe_callB call_len_seq (by rfl) B.len PySem.boot_len (pa_cons (pv 0) pa_nil)) (pe_glob (v := .int 1000) rfl hM ⟨_, rfl⟩) (nomark _))))), ?_⟩
    refine ⟨_, rfl, (by show 2 ≤ sizeLine; decide), fun t ht => ?_⟩
    have s1 : Same H (upd H t (.tup [.ty "list", .ty "tuple"])) := Same.new ht
    have hd1 := DpX.same s1 d v hd
    refine ⟨_, t, _, .type (tyD d), _, isLst d || isTup d, rfl, upd_same, .cons (.ty _) (.cons (.ty _) .nil), hd1.ty, kit_lt d, _, rfl, ?_⟩
    have fin : ∀ (n : Nat), (V.bl (decide ((n : Int) ≤ 1000)) : V) = V.bl (decide (n ≤ 1000)) := fun n => by
      by_cases q : n ≤ 1000
      · rw [decide_eq_true q, decide_eq_true (by omega)]
      · rw [decide_eq_false q, decide_eq_false (by omega)]
    cases hd with
    | non => exact iteF (k _ s1)
    | bl b => exact iteF (k _ s1)
    | int i => exact iteF (k _ s1)
    | str z => exact iteF (k _ s1)
    | emp _ => exact iteF (k _ s1)
    | @tup a xs ds hT ha =>
      refine iteT ⟨_, rfl, a, xs, rfl, .inr (Same.tup s1 hT), _, 1000, rfl, rfl, ?_⟩
      show Q (V.bl (decide ((xs.length : Int) ≤ 1000))) _
      rw [fin, ha.len]
      exact k _ s1
    | @lst a xs ds hT ha =>
      refine iteT ⟨_, rfl, a, xs, rfl, .inl (Same.seq s1 hT), _, 1000, rfl, rfl, ?_⟩
      show Q (V.bl (decide ((xs.length : Int) ≤ 1000))) _
      rw [fin, ha.len]
      exact k _ s1
end
end SE
namespace SE
open PySem PySem.Spec PyProof.Rows L2
def nstB : PyData → Bool
  | .tuple [a, n, i] => itemD n && (actD a && itemD i)
  | _ => false
/-- steps that are refused, and what the refusal names -/
def BadN (d : PyData) (r : V) : Prop := (mayD d = false ∧ r = .non) ∨
  ∃ ds j x, (d = .list ds ∨ d = .tuple ds) ∧ ds.length ≤ 1000 ∧ ds[j]? = some x ∧ nstB x = false ∧ (∀ i y, i < j → ds[i]? = some y → nstB y = true) ∧ (∀ i y, i ≤ j → ds[i]? = some y → NX 10 1000 y) ∧ r = .int (j : Nat)
def badI (C : Addr) (H : Hp) (v : V) (E : XK) : Prop := ∀ (dd : Addr) (H' : Hp), Same H H' → H dd = none → H' dd = some (.xd [("index", v)]) → E (.ref C) (some dd) H'
theorem badI.go {C : Addr} {H H1 : Hp} {v : V} {E : XK} (h : badI C H v E) (s : Same H H1) : badI C H1 v E := fun dd H' s' n e => h dd H' (s.trans s') (s.free n) e
section
variable {P : Program} {w : World} {K : PySem.W.Frag} {mg : Str → Option Value} {base : Heap}
def spNX (K : PySem.W.Frag) : Sp := fun xs H Q _ => ∃ (v : V) (d : PyData), xs = [v] ∧ DpX K H v d ∧ NX 10 1000 d ∧ ∀ H', Same H H' → Q (.bl (nstB d)) H'
theorem has_isNX (D : Def K mg "is_named_step" sIsNamedStep) (GI : Has P w K mg base "is_item" 1 ["value"] [] (spX K itemD)) (GS : Has P w K mg base "is_step" 2 ["value"] [] (spX K stpD)) (B : Blt mg) : Has P w K mg base "is_named_step" 3 ["value"] [] (spNX K) := by
  refine has_of D scIn' (fun _ _ _ _ _ _ us hl => match us, hl with | [_], _ => rfl) (fun xs H Q E h => ?_) (fun f cv A out s H xs Q E hr h => ?_)
  · obtain ⟨v, d, rfl, _⟩ := h
    rfl
  · obtain ⟨v, d, rfl, hd, ok, k⟩ := h
    have hr1 : Room 1 _ := hr.mono (by decide)
    refine ⟨_, pss_cons (ps_if (PW.pt (pw_or (pt_not (pt_val (pe_callB call_isi (by rfl) B.isi (by decide +kernel) (pa_cons (pv 0) (pa_cons (pe_bltn (v := .ty "tuple") (by rfl) B.tup (by decide +kernel) rfl) pa_nil)))))
        (pw_or1 (pt_cmpR op_ne (pe_callB call_len_seq (by rfl) B.len PySem.boot_len (pa_cons (pv 0) pa_nil)) pe_int (nomark _))))) (pss_one (ps_ret pe_bl)) pss_nil)
      (pss_cons (ps_asg (pv 0) (pg_tup (by rfl) (pgs_cons (pg_name (i := 1) scIn'.nd rfl (.inl rfl)) (pgs_cons (pg_name (i := 2) scIn'.nd rfl (.inl rfl)) (pgs_cons (pg_name (i := 3) scIn'.nd rfl (.inl rfl)) pgs_nil)))))
      (pss_one (ps_ret (pe_and (pe_has GI hr1 (pa_cons (pv 2) pa_nil)) (pe_one (pe_has GS hr (pa_cons (pe_tup (pa_cons (pv 1) (pa_cons (pv 3) pa_nil))) pa_nil))))))), ?_⟩
    refine ⟨_, rfl, _, .ty "tuple", .type (tyD d), .type "tuple", isTup d, rfl, .ty _, hd.ty, kit_tup d, _, rfl, ?_⟩
    cases hd with
    | non => exact iteT (iteT (k H (Same.refl H)))
    | bl b => exact iteT (iteT (k H (Same.refl H)))
    | int i => exact iteT (iteT (k H (Same.refl H)))
    | str z => exact iteT (iteT (k H (Same.refl H)))
    | lst _ _ => exact iteT (iteT (k H (Same.refl H)))
    | emp _ => exact iteT (iteT (k H (Same.refl H)))
    | @tup t xs ds hT ha =>
      refine iteF ?_
      obtain ⟨oks, ln⟩ := ok.tuple
      have le := ha.len
      refine ⟨_, rfl, t, _, rfl, .inr hT, rfl, _, rfl, ?_⟩
      match ds, xs, ha, le, oks, k, hT with
      | [], _, .nil, _, _, k, _ => exact iteT (k H (Same.refl H))
      | [_], _, .cons _ .nil, _, _, k, _ => exact iteT (k H (Same.refl H))
      | [_, _], _, .cons _ (.cons _ .nil), _, _, k, _ => exact iteT (k H (Same.refl H))
      | [e1, e2, e3], [x1, x2, x3], .cons h1 (.cons h2 (.cons h3 .nil)), _, oks, k, hT =>
        refine iteF ?_
        refine ⟨_, rfl, t, _, rfl, hT, rfl, _, _, rfl, _, _, rfl, _, _, rfl, rfl, ?_⟩
        have k' : ∀ H', Same H H' → Q (.bl (itemD e2 && (actD e1 && itemD e3))) H' := k
        refine ⟨_, rfl, x2, e2, rfl, h2, (oks e2 (by simp)).mono (by decide) (by decide), fun H1 s1 => ⟨itemD e2, rfl, ?_⟩⟩
        cases hz : itemD e2 with
        | false =>
          rw [hz] at k'
          exact iteF (k' H1 s1)
        | true =>
          rw [hz] at k'
          refine iteT ⟨_, rfl, _, rfl, (by show 2 ≤ sizeLine; decide), fun u hu => ?_⟩
          have su := s1.trans (Same.new (o := .tup [x1, x3]) hu)
          have nx : NX 11 2002 (.tuple [e1, e3]) := nx_tuple (k := 10) (B := 1000) (ds := [e1, e3]) fun z m => by
            rcases List.mem_cons.mp m with q | q
            · rw [q]; exact oks e1 (by simp)
            · rw [List.mem_singleton.mp q]; exact oks e3 (by simp)
          exact ⟨.ref u, .tuple [e1, e3], rfl, .tup (.of upd_same) (.cons (DpX.same su _ _ h1) (.cons (DpX.same su _ _ h3) .nil)), nx.mono (by decide) (by decide), fun H2 s2 => k' H2 (su.trans s2)⟩
      | _ :: _ :: _ :: _ :: ds, x1 :: x2 :: x3 :: x4 :: xs, .cons _ (.cons _ (.cons _ (.cons _ _))), _, _, k, _ =>
        have hne : decide (V.int (((x1 :: x2 :: x3 :: x4 :: xs).length : Nat) : Int) = V.int 3) = false := decide_eq_false (by
          intro q
          have q2 := V.int.inj q
          simp only [List.length_cons] at q2
          omega)
        rw [hne]
        exact iteT (k H (Same.refl H))
/-! ### check_named_steps, of what is refused -/
def spBadS (K : PySem.W.Frag) (C : Addr) : Sp := fun xs H Q E => ∃ (v : V) (d : PyData) (r : V), xs = [v] ∧ DpX K H v d ∧ OkD d ∧ BadN d r ∧ badI C H r E
theorem hasX_chkN {C : Addr} (D : Def K mg "check_named_steps" sCheckNamedSteps) (GM : Has P w K mg base "may_hold_steps" 1 ["value"] [] (spX K mayD)) (GS : Has P w K mg base "is_named_step" 3 ["value"] [] (spNX K)) (T : XcC P w K mg base "InvalidSteps" "index" C) (B : Blt mg) : HasX P w K mg base "check_named_steps" 4 ["steps"] [] (spBadS K C) := by
  refine hasX_of D scCn (fun _ _ _ _ _ _ us hl => match us, hl with | [_], _ => rfl) (fun xs H Q E h => ?_) (fun f cv A out s H xs Q E hr h => ?_)
  · obtain ⟨v, d, r, rfl, _⟩ := h
    rfl
  · obtain ⟨v, d, r, rfl, hd, ok, hb, k⟩ := h
    have hr1 : Room 1 _ := hr.mono (by decide)
    have hr2 : Room 2 _ := hr.mono (by decide)
    have tail : ∀ {ds : List PyData} {ys : List V} {j : Nat} {x : PyData}, DpXs K H ys ds → ds[j]? = some x → nstB x = false → (∀ i y, i < j → ds[i]? = some y → nstB y = true) → (∀ i y, i ≤ j → ds[i]? = some y → NX 10 1000 y) → ∀ {i : Nat} {y : V} {H2 : Hp}, ys[i]? = some y → i ≤ j → Same H H2 → ∃ e, DpX K H2 y e ∧ NX 10 1000 e ∧ (i < j → nstB e = true) ∧ (i = j → nstB e = false) := by
      intro ds ys j x hV hj hx hg hn i y H2 hy hi s2
      obtain ⟨e, he, hD⟩ := hV.at hy
      refine ⟨e, DpX.same s2 _ _ hD, hn i e hi he, fun q => hg i e q he, fun q => ?_⟩
      rw [q, hj] at he
      cases he
      exact hx
    rcases hb with ⟨hm, rfl⟩ | ⟨ds, j, x, hds, hl, hj, hx, hg, hn, rfl⟩
    · refine ⟨_, pss_cons (ps_if (pt_not (pt_val (pe_has GM hr1 (pa_cons (pv 0) pa_nil)))) (pss_one (ps_raiseX rfl T hr2 tkX (pa_cons pe_non pa_nil))) pss_nil) pss_never, ?_⟩
      refine ⟨_, rfl, v, d, rfl, hd, ok, fun H1 s1 => ⟨mayD d, rfl, ?_⟩⟩
      rw [hm]
      exact iteT (mk_red fun dd hdd => k dd _ (s1.trans (Same.new hdd)) (s1.free hdd) upd_same)
    · have hm : mayD d = true := by
        rcases hds with q | q
        · rw [q]; exact decide_eq_true hl
        · rw [q]; exact decide_eq_true hl
      have jl := (List.getElem?_eq_some_iff.mp hj).1
      rcases hds with rfl | rfl
      · refine ⟨_, pss_cons (ps_if (pt_not (pt_val (pe_has GM hr1 (pa_cons (pv 0) pa_nil)))) (pss_one (ps_raiseX rfl T hr2 tkX (pa_cons pe_non pa_nil))) pss_nil)
          (pss_one (ps_for (passes_of rfl) rfl (pi_enum (by rfl) B.enu (pa_cons (pv 0) pa_nil)) (pg_tup (by rfl) (pgs_cons (pg_name (i := 1) scCn.nd rfl (.inl rfl)) (pgs_cons (pg_name (i := 2) scCn.nd rfl (.inl rfl)) pgs_nil)))
            (pss_one (ps_if (pt_not (pt_val (pe_has GS hr (pa_cons (pv 2) pa_nil)))) (pss_one (ps_raiseX rfl T hr2 tkX (pa_cons (pv 1) pa_nil))) pss_nil)))), ?_⟩
        refine ⟨_, rfl, v, _, rfl, hd, ok, fun H1 s1 => ⟨mayD (.list ds), rfl, ?_⟩⟩
        rw [hm]
        cases hd with
        | @lst a ys _ hS hV =>
        have ly := hV.len
        refine iteF ⟨_, rfl, a, ys, rfl, Same.seq s1 hS, for_it (walk_enum (K := K) (a := a) (xs := ys)) (fun i σ H2 => ∃ y1 y2, σ = [some (.ref a), y1, y2] ∧ Same H H2 ∧ i ≤ j) ⟨none, none, rfl, s1, Nat.zero_le _⟩ (fun i σ H2 _ q => ?_) ?_ ?_⟩
        · obtain ⟨_, _, _, s2, _⟩ := q
          exact Same.seq s2 hS
        · rintro i x σ H2 H3 hi ⟨y1, y2, rfl, s2, ij⟩ ⟨T', p, y, rfl, nT, rfl, hp, hy⟩
          cases Option.some.inj hp
          refine ⟨T', _, rfl, .of upd_same, rfl, _, _, rfl, _, _, rfl, rfl, ?_⟩
          have s3 : Same H (upd H2 T' (.tup [.int (i : Nat), y])) := Same.free2 s2 (s2.free nT)
          obtain ⟨e, h1, h2, h3, h4⟩ := tail hV hj hx hg hn hy ij s3
          refine ⟨_, rfl, y, e, rfl, h1, h2, fun H4 s4 => ⟨nstB e, rfl, ?_⟩⟩
          have s5 := s3.trans s4
          by_cases c : i = j
          · rw [h4 c]
            refine iteT ⟨_, rfl, mk_red fun dd hdd => ?_⟩
            rw [c] at *
            exact k dd _ (s5.trans (Same.new hdd)) (s5.free hdd) upd_same
          · rw [h3 (by omega)]
            exact iteF ⟨_, _, rfl, s5, by omega⟩
        · rintro σ H2 ⟨y1, y2, rfl, s2, ij⟩
          omega
      · refine ⟨_, pss_cons (ps_if (pt_not (pt_val (pe_has GM hr1 (pa_cons (pv 0) pa_nil)))) (pss_one (ps_raiseX rfl T hr2 tkX (pa_cons pe_non pa_nil))) pss_nil)
          (pss_one (ps_for (passes_of rfl) rfl (pi_enumT (by rfl) B.enu (pa_cons (pv 0) pa_nil)) (pg_tup (by rfl) (pgs_cons (pg_name (i := 1) scCn.nd rfl (.inl rfl)) (pgs_cons (pg_name (i := 2) scCn.nd rfl (.inl rfl)) pgs_nil)))
            (pss_one (ps_if (pt_not (pt_val (pe_has GS hr (pa_cons (pv 2) pa_nil)))) (pss_one (ps_raiseX rfl T hr2 tkX (pa_cons (pv 1) pa_nil))) pss_nil)))), ?_⟩
        refine ⟨_, rfl, v, _, rfl, hd, ok, fun H1 s1 => ⟨mayD (.tuple ds), rfl, ?_⟩⟩
        rw [hm]
        cases hd with
        | @tup a ys _ hS hV =>
        have ly := hV.len
        refine iteF ⟨_, rfl, a, ys, rfl, Same.tup s1 hS, for_it (walk_enumT (K := K) (a := a) (xs := ys)) (fun i σ H2 => ∃ y1 y2, σ = [some (.ref a), y1, y2] ∧ Same H H2 ∧ i ≤ j) ⟨none, none, rfl, s1, Nat.zero_le _⟩ (fun i σ H2 _ q => ?_) ?_ ?_⟩
        · obtain ⟨_, _, _, s2, _⟩ := q
          exact Same.tup s2 hS
        · rintro i x σ H2 H3 hi ⟨y1, y2, rfl, s2, ij⟩ ⟨T', p, y, rfl, nT, rfl, hp, hy⟩
          cases Option.some.inj hp
          refine ⟨T', _, rfl, .of upd_same, rfl, _, _, rfl, _, _, rfl, rfl, ?_⟩
          have s3 : Same H (upd H2 T' (.tup [.int (i : Nat), y])) := Same.free2 s2 (s2.free nT)
          obtain ⟨e, h1, h2, h3, h4⟩ := tail hV hj hx hg hn hy ij s3
          refine ⟨_, rfl, y, e, rfl, h1, h2, fun H4 s4 => ⟨nstB e, rfl, ?_⟩⟩
          have s5 := s3.trans s4
          by_cases c : i = j
          · rw [h4 c]
            refine iteT ⟨_, rfl, mk_red fun dd hdd => ?_⟩
            rw [c] at *
            exact k dd _ (s5.trans (Same.new hdd)) (s5.free hdd) upd_same
          · rw [h3 (by omega)]
            exact iteF ⟨_, _, rfl, s5, by omega⟩
        · rintro σ H2 ⟨y1, y2, rfl, s2, ij⟩
          omega

end
end SE
/-! Small data with great ints; its kinds; len(set(ints)) with duplicates. -/
namespace SE
open PySem PySem.Spec PyProof.Rows L2
/-- a text of signs -/
def okA (x : Str) : Bool := x.cps.toList.all fun c => decide (c < 0x110000)
theorem okA_app {a b : Str} (ha : okA a = true) (hb : okA b = true) : okA (a ++ b) = true := by
  show ((a.cps ++ b.cps).toList.all fun c => decide (c < 0x110000)) = true
  rw [Array.toList_append, List.all_append, Bool.and_eq_true]
  exact ⟨ha, hb⟩
theorem okA_from : ∀ (ts : List Str) (k : Nat) (acc : Str), okA acc = true → (∀ t ∈ ts, okA t = true) → okA (textFrom k acc ts) = true
  | [], k, acc, h, _ => h
  | t :: r, k, acc, h, hs => by
    refine okA_from r (k + 1) _ (okA_app (okA_app h ?_) (hs t List.mem_cons_self)) fun x m => hs x (List.mem_cons_of_mem _ m)
    split <;> decide +kernel
theorem okA_list {ts : List Str} (h : ∀ t ∈ ts, okA t = true) : okA (listText ts) = true := okA_app (okA_from ts 0 "[" (by decide +kernel) h) (by decide +kernel)
theorem okA_join : ∀ (ts : List Str), (∀ t ∈ ts, okA t = true) → okA (Str.join ", " ts) = true
  | [], _ => by decide +kernel
  | [x], h => h x List.mem_cons_self
  | x :: y :: r, h => okA_app (okA_app (h x List.mem_cons_self) (by decide +kernel)) (okA_join (y :: r) fun t m => h t (List.mem_cons_of_mem _ m))
theorem okA_tuple {ts : List Str} (h : ∀ t ∈ ts, okA t = true) : okA (tupleText ts) = true := by
  refine okA_app (okA_app (by decide +kernel) (okA_join ts h)) ?_
  split <;> decide +kernel
structure SD (k B : Nat) (d : PyData) : Prop where
  dep : d.depth ≤ k
  sh : d.showable = true
  lf : d.leavesShort 45 = true
  wt : d.weight ≤ B
  so : okA d.shown = true
theorem SD.mono {k j B C : Nat} {d : PyData} (h : SD k B d) (hk : k ≤ j) (hB : B ≤ C) : SD j C d := ⟨Nat.le_trans h.dep hk, h.sh, h.lf, Nat.le_trans h.wt hB, h.so⟩
theorem sd_all {k B : Nat} : ∀ {ds : List PyData}, (∀ d ∈ ds, SD k B d) → PyData.depthAll ds ≤ k ∧ PyData.showableAll ds = true ∧ PyData.leavesShortAll 45 ds = true ∧ PyData.weightAll ds ≤ ds.length * (B + 1) ∧ ∀ t ∈ PyData.shownAll ds, okA t = true
  | [], _ => by
    refine ⟨?_, ?_, ?_, ?_, fun t m => by cases m⟩
    · simp only [PyData.depthAll]
      exact Nat.zero_le _
    · simp only [PyData.showableAll]
    · simp only [PyData.leavesShortAll]
    · simp only [PyData.weightAll]
      exact Nat.zero_le _
  | d :: ds, h => by
    obtain ⟨a2, a3, a5, a6, a7⟩ := sd_all (ds := ds) fun x hx => h x (List.mem_cons_of_mem _ hx)
    have q := h d List.mem_cons_self
    refine ⟨?_, ?_, ?_, ?_, fun t m => ?_⟩
    · simp only [PyData.depthAll]
      exact Nat.max_le.mpr ⟨q.dep, a2⟩
    · simp only [PyData.showableAll, q.sh, a3, Bool.and_self]
    · simp only [PyData.leavesShortAll, q.lf, a5, Bool.and_self]
    · simp only [PyData.weightAll, List.length_cons]
      have := q.wt
      rw [Nat.add_mul]
      omega
    · rcases List.mem_cons.mp (show t ∈ d.shown :: PyData.shownAll ds from m) with e | e
      · rw [e]; exact q.so
      · exact a7 t e
theorem sd_list {k B : Nat} {ds : List PyData} (h : ∀ d ∈ ds, SD k B d) : SD (k + 1) (ds.length * (B + 1)) (.list ds) := by
  obtain ⟨a2, a3, a5, a6, a7⟩ := sd_all h
  exact ⟨by simp only [PyData.depth]; omega, by simp only [PyData.showable]; exact a3, by simp only [PyData.leavesShort]; exact a5, by simp only [PyData.weight]; exact a6, by simp only [PyData.shown]; exact okA_list a7⟩
theorem sd_tuple {k B : Nat} {ds : List PyData} (h : ∀ d ∈ ds, SD k B d) : SD (k + 1) (ds.length * (B + 1)) (.tuple ds) := by
  obtain ⟨a2, a3, a5, a6, a7⟩ := sd_all h
  exact ⟨by simp only [PyData.depth]; omega, by simp only [PyData.showable]; exact a3, by simp only [PyData.leavesShort]; exact a5, by simp only [PyData.weight]; exact a6, by simp only [PyData.shown]; exact okA_tuple a7⟩
theorem SD.shown {k B : Nat} {d : PyData} (h : SD k B d) (hB : B ≤ 300000) : d.shown.length ≤ sizeLine := by
  have q := PyData.shown_le 45 (by decide) d h.lf
  have := h.wt
  have m : (45 + 2) * d.weight ≤ 47 * 300000 := Nat.mul_le_mul (by decide) (by omega)
  rw [sizeLine_eq]
  omega
/-! ### kinds -/
def isInt : PyData → Bool
  | .int _ | .bool _ => true
  | _ => false
def isBoo : PyData → Bool
  | .bool _ => true
  | _ => false
theorem kit_int {K : PySem.W.Frag} : ∀ d : PyData, PySem.W.kitOne K (.type (tyD d)) (.type "int") = some (isInt d)
  | .none => kit_ty (show kitB "NoneType" "int" = some false by decide +kernel)
  | .bool _ => kit_ty (show kitB "bool" "int" = some true by decide +kernel)
  | .int _ => kit_ty (show kitB "int" "int" = some true by decide +kernel)
  | .str _ => kit_ty (show kitB "str" "int" = some false by decide +kernel)
  | .list _ => kit_ty (show kitB "list" "int" = some false by decide +kernel)
  | .tuple _ => kit_ty (show kitB "tuple" "int" = some false by decide +kernel)
  | .dict _ => kit_ty (show kitB "dict" "int" = some false by decide +kernel)
theorem kit_boo {K : PySem.W.Frag} : ∀ d : PyData, PySem.W.kitOne K (.type (tyD d)) (.type "bool") = some (isBoo d)
  | .none => kit_ty (show kitB "NoneType" "bool" = some false by decide +kernel)
  | .bool _ => kit_ty (show kitB "bool" "bool" = some true by decide +kernel)
  | .int _ => kit_ty (show kitB "int" "bool" = some false by decide +kernel)
  | .str _ => kit_ty (show kitB "str" "bool" = some false by decide +kernel)
  | .list _ => kit_ty (show kitB "list" "bool" = some false by decide +kernel)
  | .tuple _ => kit_ty (show kitB "tuple" "bool" = some false by decide +kernel)
  | .dict _ => kit_ty (show kitB "dict" "bool" = some false by decide +kernel)
/-! ### len(set(xs)) of ints -/
theorem firstMet_len (f : Nat → Int) : ∀ i, (PyProof.Rows.firstMet f i).length ≤ i
  | 0 => Nat.le_refl _
  | i + 1 => by
    have ih := firstMet_len f i
    rw [PyProof.Rows.firstMet_succ]
    unfold PyProof.Rows.step_dedup
    split
    · omega
    · rw [List.length_append, List.length_singleton]
      omega
theorem firstMet_mem (f : Nat → Int) : ∀ i j, j < i → f j ∈ PyProof.Rows.firstMet f i
  | 0, j, h => absurd h (Nat.not_lt_zero _)
  | i + 1, j, h => by
    rw [PyProof.Rows.firstMet_succ]
    unfold PyProof.Rows.step_dedup
    by_cases e : j = i
    · subst e
      split
      · rename_i q
        obtain ⟨x, mx, ex⟩ := List.any_eq_true.mp q
        rw [← beq_iff_eq.mp ex]
        exact mx
      · exact List.mem_append.mpr (.inr (List.mem_singleton.mpr rfl))
    · have ih := firstMet_mem f i j (by omega)
      split
      · exact ih
      · exact List.mem_append.mpr (.inl ih)
theorem firstMet_full (f : Nat → Int) : ∀ i, (PyProof.Rows.firstMet f i).length = i → ∀ a b, a < b → b < i → f a ≠ f b
  | 0, _, _, _, _, h => absurd h (Nat.not_lt_zero _)
  | i + 1, hl, a, b, hab, hb => by
    have l1 := firstMet_len f i
    rw [PyProof.Rows.firstMet_succ] at hl
    unfold PyProof.Rows.step_dedup at hl
    by_cases q : (PyProof.Rows.firstMet f i).any (· == f i) = true
    · rw [if_pos q] at hl
      omega
    · rw [if_neg q, List.length_append, List.length_singleton] at hl
      have ih := firstMet_full f i (by omega)
      by_cases e : b = i
      · subst e
        intro z
        exact q (List.any_eq_true.mpr ⟨f a, firstMet_mem f b a hab, by rw [z]; exact beq_self_eq_true _⟩)
      · exact ih a b hab (by omega)
theorem firstMet_iff (ns : List Int) : (PyProof.Rows.firstMet (fun i => ns.getD i 0) ns.length).length = ns.length ↔ ns.Nodup := by
  constructor
  · intro h
    rw [List.nodup_iff_pairwise_ne, List.pairwise_iff_getElem]
    intro i j hi hj hij
    have q := firstMet_full _ _ h i j hij hj
    rw [List.getD_eq_getElem?_getD, List.getD_eq_getElem?_getD, List.getElem?_eq_getElem hi, List.getElem?_eq_getElem hj] at q
    exact q
  · intro h
    rw [RZ.firstMet_nodup h ns.length (Nat.le_refl _), List.take_length]
def tLenSetJ (K : PySem.W.Frag) (ta : TE) : TE := fun σ H Q => ta σ H fun x H1 => ∃ (l : Addr) (ns : List Int), x = .ref l ∧ SqL K H1 l (ns.map V.int) ∧ ns.length ≤ 4000 ∧ ∀ m : Nat, (m = ns.length ↔ ns.Nodup) → Q (.int (m : Nat)) H1
theorem pe_lenSetJ {X : Cx} {a : Expr} {ta : TE} {p p2 q pos : Pos} (hg : Gl X "len") (hm : X.mg "len" = none) (hg2 : Gl X "set") (hm2 : X.mg "set" = none) (ha : PE X a ta) (hc : X.calm = true := by rfl)
    (na : starEach [a] X.env = (false, eval a X.env) :: starEach [] X.env := by rfl) : PE X (.Call (.Name "len" p) [.Call (.Name "set" p2) [a] [] q] [] pos) (tLenSetJ X.K ta) := by
  constructor
  intro pins s σ H Q I h
  refine Call_ (ld_blt I hg hm boot_len (PyProof.Rows.callWith_builtin1 (PyProof.Rows.args_cons (Call_ (ld_blt I hg2 hm2 boot_set ?_)) rfl) rfl rfl))
  refine PyProof.Rows.callWith_type1 (PyProof.Rows.args_cons (thn (ha.run pins s σ H _ I h) fun v s1 hh => PyProof.Rows.args_nil ?_) na) na rfl
  obtain ⟨x, H1, I1, r1, l, ns, rfl, hq, hl, q1⟩ := hh
  cases r1
  obtain ⟨its, r, pl, hz⟩ := I1.list hq
  have sz : its.toArray.size = ns.length := by rw [List.size_toArray, ← r.length, List.length_map]
  refine call_set_list (I1.ok.hd hc) pl.isList (by simpa using RZ.intsAre_vals r) (by rw [sz]; unfold scanBound; omega) fun h2 tk hS keep => PyProof.Rows.args_nil ?_
  rw [sz] at hS
  have l2 := firstMet_len (fun i => ns.getD i 0) ns.length
  obtain ⟨o, es, ep, tb, ho, hx, dd, _, _, _, hf, hn⟩ := hS
  have J : Inv X pins σ H1 { s1 with heap := h2, toks := tk } := I1.kept fun b u e => keep b u (Heap.lt_size e) e
  exact call_len_set ho hx dd hf (by rw [hn]; omega) ⟨.int ((PyProof.Rows.firstMet (fun i => ns.getD i 0) ns.length).length : Nat), H1, J.tok _, ⟨_, by rw [hn]⟩, q1 _ (firstMet_iff ns)⟩
end SE
namespace SE
open PySem PySem.Spec PyProof.Rows L2
theorem iteB {c : Bool} {A B : Prop} (ht : c = true → A) (hf : c = false → B) : if c = true then A else B := by
  cases c with
  | true => exact iteT (ht rfl)
  | false => exact iteF (hf rfl)
/-! ### what the checks of arrange answer, for any data -/
def whD : PyData → Bool
  | .int _ => true
  | _ => false
def betD (lo hi : Int) : PyData → Bool
  | .int i => decide (lo ≤ i) && decide (i ≤ hi)
  | _ => false
section
variable {P : Program} {w : World} {K : PySem.W.Frag} {mg : Str → Option Value} {base : Heap}
def spWh2 (K : PySem.W.Frag) : Sp := fun xs H Q _ => ∃ (v : V) (d : PyData), xs = [v] ∧ DpX K H v d ∧ Q (.bl (whD d)) H
theorem scWh2 : FnScope ["value"] ["value"] (defScope sIsWhole) := ⟨rfl, rfl, rfl, by decide +kernel, rfl, by decide +kernel, by decide +kernel⟩
theorem has_whole2 (D : Def K mg "is_whole" sIsWhole) (mis : mg "isinstance" = none) (mi : mg "int" = none) (mb : mg "bool" = none) : Has P w K mg base "is_whole" 1 ["value"] [] (spWh2 K) := by
  refine has_of D scWh2 (fun _ _ _ _ _ _ us hl => match us, hl with | [_], _ => rfl) (fun xs H Q E h => ?_) (fun f cv A out s H xs Q E hr h => ?_)
  · obtain ⟨v, d, rfl, _⟩ := h
    rfl
  · obtain ⟨v, d, rfl, hd, k⟩ := h
    refine ⟨_, pss_one (ps_ret (pe_and (pe_callB call_isi (by rfl) mis (by decide +kernel) (pa_cons (pv 0) (pa_cons (pe_bltn (v := .ty "int") (by rfl) mi (by decide +kernel) rfl) pa_nil)))
      (pe_one (pe_not (pe_callB call_isi (by rfl) mis (by decide +kernel) (pa_cons (pv 0) (pa_cons (pe_bltn (v := .ty "bool") (by rfl) mb (by decide +kernel) rfl) pa_nil))))))), ?_⟩
    refine ⟨_, rfl, _, .ty "int", .type (tyD d), .type "int", isInt d, rfl, .ty _, hd.ty, kit_int d, isInt d, rfl, ?_⟩
    refine iteB (fun e => ?_) (fun e => ?_)
    · refine ⟨_, rfl, _, .ty "bool", .type (tyD d), .type "bool", isBoo d, rfl, .ty _, hd.ty, kit_boo d, isBoo d, rfl, ?_⟩
      cases d with
      | int i => exact k
      | bool b => exact k
      | none => cases e
      | str _ => cases e
      | list _ => cases e
      | tuple _ => cases e
      | dict _ => cases e
    · cases d with
      | int i => cases e
      | bool b => cases e
      | none => exact k
      | str _ => exact k
      | list _ => exact k
      | tuple _ => exact k
      | dict _ => exact k
def spBe2 (K : PySem.W.Frag) : Sp := fun xs H Q _ => ∃ (v : V) (d : PyData) (lo hi : Int), xs = [v, .int lo, .int hi] ∧ DpX K H v d ∧ Q (.bl (betD lo hi d)) H
theorem scBet : FnScope ["value", "least", "most"] ["value", "least", "most"] (defScope sIsBetween) := ⟨rfl, rfl, rfl, by decide +kernel, rfl, by decide +kernel, by decide +kernel⟩
theorem has_bet2 (D : Def K mg "is_between" sIsBetween) (G : Has P w K mg base "is_whole" 1 ["value"] [] (spWh2 K)) : Has P w K mg base "is_between" 2 ["value", "least", "most"] [] (spBe2 K) := by
  refine has_of D scBet (fun _ _ _ _ _ _ us hl => match us, hl with | [_, _, _], _ => rfl) (fun xs H Q E h => ?_) (fun f cv A out s H xs Q E hr h => ?_)
  · obtain ⟨v, d, lo, hi, rfl, _⟩ := h
    rfl
  · obtain ⟨v, d, lo, hi, rfl, hd, k⟩ := h
    refine ⟨_, pss_one (ps_ret (pe_and (pe_has G hr (pa_cons (pv 0) pa_nil)) (pe_one (pe_chain op_le op_le (pv 1) (pv 0) (pv 2))))), ?_⟩
    refine ⟨_, rfl, v, d, rfl, hd, whD d, rfl, ?_⟩
    cases hd with
    | int i =>
      refine iteT ⟨_, rfl, _, rfl, lo, i, rfl, rfl, decide (lo ≤ i), rfl, ?_⟩
      have k : Q (.bl (decide (lo ≤ i) && decide (i ≤ hi))) H := k
      refine iteB (fun e => ?_) (fun e => ?_)
      · rw [e, Bool.true_and] at k
        exact ⟨_, rfl, i, hi, rfl, rfl, k⟩
      · rw [e, Bool.false_and] at k
        exact k
    | non => exact iteF k
    | bl b => exact iteF k
    | str z => exact iteF k
    | lst _ _ => exact iteF k
    | tup _ _ => exact iteF k
    | emp _ => exact iteF k
end
end SE
/-! Several clauses 'except C as e', all with the same name e. -/
namespace SE
open PySem PySem.Spec PyProof.Rows L2
abbrev Clause := Value × (Addr → Value → Option Addr → TS)
/-- the clauses' wishes: each passes on to the next what is not its own -/
def wAsL (K : PySem.W.Frag) (i : Nat) (out : WX) (D : Ends) : List Clause → WX
  | [] => out
  | (c, ts) :: more => wAs K c i ts (wAsL K i out D more) D
/-- each clause names its class and has its suite -/
inductive AsOk (X : Cx) (n : Str) : List ExceptHandler → List Clause → Prop
  | nil : AsOk X n [] []
  | cons {y : Str} {c : Value} {ts : Addr → Value → Option Addr → TS} {first : Stmt} {rest : List Stmt} {p1 p2 : Pos} {more : List ExceptHandler} {cl : List Clause} (name : Names X y c)
      (suite : ∀ (b : Addr) (ob : Obj) (cv : Value) (fld : Option Addr) (kept : List (Addr × Obj)),
        Zc cv fld ob → (∃ fs, ob.data = .fields fs) → PSs (X.suite b ((b, ob) :: kept)) (first :: rest) (ts b cv fld))
      (tail : AsOk X n more cl) :
      AsOk X n (.ExceptHandler (some (.Name y p1)) (some n) (first :: rest) p2 :: more) ((c, ts) :: cl)
section
variable {X : Cx} {n : Str} {i : Nat} {main : List Stmt} {top : ExceptHandler} {more : List ExceptHandler} {cl : List Clause} {at_ : Pos} {tm : WX → TS} {out : WX}
theorem ps_try_asL (e1 : X.stack = X.env :: X.outer) (e2 : X.env.frame = some X.env.locals) (nod : X.N.Nodup) (slot : X.N[i]? = some n) (lo : X.env.kindOf n = some .local) (up : Takes X out)
    (hm : ∀ (W : WX) (kept : List (Addr × Obj)) (x2 : Value → Shared → Prop),
      Takes (X.tr kept x2) W → PassesOwn (model X.prog X.w) X.A X.env x2 → PSs (X.tr kept x2) main (tm W))
    (ok : AsOk X n (top :: more) cl) : PS X (.Try main (top :: more) [] [] at_) (fun D σ H => tm (wAsL X.K i out D cl) D σ H) := by
  constructor
  intro pins s0 σ0 H0 D I0 w0
  have inv := I0.ok
  have frames : X.A.frames = some (X.env :: X.outer) := inv.frames.trans (by rw [e1])
  apply wpAny_Try_except
  have big := (hm (wAsL X.K i out D cl) (X.pn ++ pins)
    (fun ev t1 => wpAny (model X.prog X.w) X.A (noteFrame ev X.env)
      (fun _ t2 => wpAny (model X.prog X.w) X.A (setFlight ev none)
        (fun _ t3 => wpAny (model X.prog X.w) X.A
          (handleBy ev X.env (top :: more)) (SP X pins D) X.xe t3) X.xe t2) X.xe t1) ?takes PassesOwn.looking).run [] s0 σ0 H0 D (I0.toTry _) w0
  case takes =>
    rintro u t ⟨b, B, sB, pb, σ, H, cv, fld, rfl, Jt, nb, grow, sky, free, os, ag, wish⟩
    have J : Inv X pins σ H sB := Jt.ofTry inv
    rw [e1] at sky
    show wpAny (model X.prog X.w) X.A (noteFrame (.ref b) X.env) _ _ _
    refine Sky.land Zc.steady frames e2 sky (fun h5 land grow5 => ?_)
    have J5 : Inv X pins σ H { t with heap := h5 } := J.landed nb land.1 (grow.trans grow5) os ag
    obtain ⟨ob5, fs5, there5, zc5, data5⟩ := land.there
    have apart : b ∉ frs (X.env :: X.outer) := fun hin => by
      obtain ⟨_, o2, at2, no⟩ := land.2.2.1.mem hin
      rw [there5] at at2
      cases at2
      exact no _ data5
    have ne1 : b ≠ X.env.locals := fun e => apart (List.mem_filterMap.mpr ⟨X.env, List.mem_cons_self, by rw [e2, e]⟩)
    have ne2 : b ∉ X.fs := fun hin => by
      obtain ⟨v, hv, hq⟩ := List.mem_filterMap.mp hin
      exact apart (List.mem_filterMap.mpr ⟨v, List.mem_cons_of_mem _ hv, hq⟩)
    have S5 := J5.suite there5 data5 free ne1 ne2
    -- clause by clause
    suffices walk : ∀ {hs : List ExceptHandler} {cs : List Clause}, AsOk X n hs cs → wAsL X.K i out D cs cv fld σ H →
        wpAny (model X.prog X.w) X.A (handleBy (.ref b) X.env hs) (SP X pins D) X.xe { t with heap := h5 } from walk ok wish
    intro hs cs good
    induction good with
    | nil =>
      intro wish
      refine wpAny_handleBy_nil ?_
      obtain ⟨k1, k2, k3, o6, f6, T6, oT6, ts6, at6, z6, d6, first6, rest6⟩ := id land
      unfold PySem.passOn
      refine wpAny_bind (wpAny_field at6 d6 first6 ?_)
      rw [if_neg (show ¬ ((Value.ref T6 == Value.none) = true) from by simp)]
      have leave : wpAny (model X.prog X.w) X.A (setFlight (.ref b) X.env.frame)
          (fun _ t7 => wpAny (model X.prog X.w) X.A (throw (.ref b) : Sem Flow) (SP X pins D) X.xe t7) X.xe { t with heap := h5 } := by
        rw [e2]
        refine HandSPX.setFlight_upZ land fun h7 land7 grow7 => wpAny_throw (up _ _ ?_)
        refine ⟨b, B, sB, pins, σ, H, cv, fld, rfl, J, nb, (grow.trans grow5).trans grow7, .inr (.inr ?_), free, os, ag, wish⟩
        rw [e1]
        exact land7
      first
        | exact wpAny_bind (wpAny_pure (wpAny_bind leave))
        | exact wpAny_bind leave
    | @cons y c ts first rest p1 p2 more2 cl2 name suite tail ih =>
      intro wish
      obtain ⟨hit, match1, yes, no⟩ := wish
      refine wpAny_handleBy_cons (codeAny_handlers_test ?_) (fun q => by cases q)
      have kind : PySem.W.Looks (model X.prog X.w) h5 (typeOf (.ref b)) cv := fun A Q E s k q => by
        refine wpAny_typeOf_ref (k _ _ there5) ?_
        rw [zc5.1]
        exact q
      have found := PySem.W.exm_one (M := model X.prog X.w) J5.kIn kind match1
      have look : ∀ {Q E : Value → Shared → Prop}, Q c { t with heap := h5 } →
          wpAny (model X.prog X.w) (X.A.mark (some (.ref b))) (eval (.Name y p1) X.env) Q E { t with heap := h5 } := fun q => by
        obtain ⟨g1, g2, own | ⟨g3, g4, g5⟩⟩ := name
        · exact ld_glob (X := X.suite b ((b, ob5) :: (X.pn ++ pins))) S5 g1 own q g2
        · exact ld_blt (X := X.suite b ((b, ob5) :: (X.pn ++ pins))) S5 g1 g3 g4 q g5 g2
      refine look (found.here ?_)
      cases hit with
      | false => exact ih (no rfl)
      | true =>
        refine codeAny_handlers_suite_as (HandSPX.lands_againZ land fun h8 land8 grow8 => ?_)
        have J8 : Inv X pins σ H { t with heap := h8 } := J.landed nb land8.1 ((grow.trans grow5).trans grow8) os ag
        obtain ⟨ob8, fs8, there8, zc8, data8⟩ := land8.there
        have S8 := J8.suite there8 data8 free ne1 ne2
        refine store_ok (X := X.suite b ((b, ob8) :: (X.pn ++ pins))) (v := .ref b) S8 nod slot (.inl lo) rfl (fun t9 S9 => ?_) (.inr lo)
        have run := (suite b ob8 cv fld (X.pn ++ pins) zc8 ⟨_, data8⟩).run [] t9 _ H _ S9 (yes rfl b free)
        refine wpAny_mono run (fun fl tA done => ?_) (fun _ _ z => z.elim)
        have clear : ∀ {σA : L2.St} {HA : Hp} {Q : Shared → Prop}, Inv (X.suite b ((b, ob8) :: (X.pn ++ pins))) [] σA HA tA →
            (∀ tB, Inv X pins (σA.set i none) HA tB → Q tB) →
            wpAny (model X.prog X.w) X.A (do bindName X.env n .none; unbindBehindTheSuite X.env n p2) (fun _ tB => Q tB) X.xe tA :=
          fun SA goal => gone_ok (SA.unsuite inv) nod slot lo goal
        match fl, done with
        | .next, ⟨_, _, SA, q⟩ => exact clear SA fun tB JB => ⟨_, _, JB, q⟩
        | .brk, ⟨_, _, SA, q⟩ => exact clear SA fun tB JB => ⟨_, _, JB, q⟩
        | .cont, ⟨_, _, SA, q⟩ => exact clear SA fun tB JB => ⟨_, _, JB, q⟩
        | .ret u, ⟨_, _, _, SA, rel, q⟩ => exact clear SA fun tB JB => ⟨_, _, _, JB, rel, q⟩
  refine wpAny_mono big (fun fl t done => ?_) (fun _ _ z => z)
  match fl, done with
  | .next, ⟨_, _, J, q⟩ => exact wpAny_execs_nil ⟨_, _, J.ofTry inv, q⟩
  | .brk, ⟨_, _, J, q⟩ => exact ⟨_, _, J.ofTry inv, q⟩
  | .cont, ⟨_, _, J, q⟩ => exact ⟨_, _, J.ofTry inv, q⟩
  | .ret u, ⟨_, _, _, J, rel, q⟩ => exact ⟨_, _, _, J.ofTry inv, rel, q⟩
end
end SE
namespace SE
open PySem PySem.Spec PyProof.Rows L2
def bad (C : Addr) (H : Hp) (v : V) (E : XK) : Prop := ∀ (dd : Addr) (H' : Hp), Same H H' → H dd = none → H' dd = some (.xd [("value", v)]) → E (.ref C) (some dd) H'
theorem bad.go {C : Addr} {H H1 : Hp} {v : V} {E : XK} (h : bad C H v E) (s : Same H H1) : bad C H1 v E := fun dd H' s' n e => h dd H' (s.trans s') (s.free n) e
/-- a promise for whichever counts are meant -/
def anyX (O : Option Addr → Prop) (sp : Option Addr → Sp) : Sp := fun vs H Q E => ∃ x : {x : Option Addr // O x}, sp x.1 vs H Q E
section
variable {P : Program} {w : World} {K : PySem.W.Frag} {mg : Str → Option Value} {base : Heap} {C CE CI CN CL : Addr} {bE bN bL : List Value} {O : Option Addr → Prop}
/-! ### steps that are refused -/
def spPfB (K : PySem.W.Frag) (CI : Addr) : Sp := fun vs H Q E => ∃ (o : Addr) (v : V) (d : PyData) (r : V), vs = [.ref o, v] ∧ DpX K H v d ∧ OkD d ∧ BadN d r ∧ badI CI H r E
theorem ok_pfB {f : Addr} {fd : FuncData} (F : Fun K "perform" "Session.perform" sSPerform f fd) (GC : HasX P w K mg base "check_named_steps" 4 ["steps"] [] (spBadS K CI)) : FnOk P w K mg base (L2.CX P w) 5 f fd ["self", "steps"] (spPfB K CI) := by
  refine F.okX scPf (fun vs H Q E h => ?_) (fun cdv A outer s H vs Q E hr h => ?_)
  · obtain ⟨o, v, d, r, rfl, _⟩ := h
    rfl
  · obtain ⟨o, v, d, r, rfl, hd, ok, bad, k⟩ := h
    exact ⟨_, pss_cons (ps_expr (pe_hasX GC hr tkX (pa_cons (pv 1) pa_nil))) pss_never, _, rfl, v, d, r, rfl, hd, ok, bad, k⟩
def spPpB (K : PySem.W.Frag) (C CI : Addr) (x : Option Addr) : Sp := fun vs H Q E => ∃ (o L : Addr) (n z : Str) (ct : Cn) (ss : Sk) (l : Lim) (ds : List Deed), vs = [.ref o, .str n, .str z] ∧ SesX K C x ct H o L ss l ds ∧ OkD (.list [.tuple [.str "pop", .str n, .str z]]) ∧ BadN (.list [.tuple [.str "pop", .str n, .str z]]) (.int 0) ∧ badI CI H (.int 0) E
theorem ok_spopB {x : Option Addr} {f : Addr} {fd : FuncData} (F : Fun K "pop" "Session.pop" sSPop f fd) (T : SCl K C) (PF : MethHasX P w K mg base C "perform" 5 ["self", "steps"] (spPfB K CI)) : FnOk P w K mg base (L2.CX P w) 6 f fd ["self", "name", "item"] (spPpB K C CI x) := by
  refine F.okX scPo' (fun vs H Q E h => ?_) (fun cdv A outer s H vs Q E hr h => ?_)
  · obtain ⟨o, L, n, z, ct, ss, l, ds, rfl, _⟩ := h
    rfl
  · obtain ⟨o, L, n, z, ct, ss, l, ds, rfl, hses, ok, bad, k⟩ := h
    obtain ⟨dx, F, ws, h1, _⟩ := hses.ex
    refine ⟨_, pss_one (ps_expr (pe_mX PF (fun σ => passAt tkX σ) (pv 0) T.cl hr (pa_cons (pe_lst (pa_cons (pe_tup (pa_cons pe_str (pa_cons (pv 1) (pa_cons (pv 2) pa_nil)))) pa_nil)) pa_nil))), ?_⟩
    refine ⟨_, rfl, o, dx, _, rfl, h1, sX_none (by decide) (by decide) (by decide) (by decide), _, rfl, _, rfl, by show 3 ≤ sizeLine; decide, fun t ht => ⟨by show 1 ≤ sizeLine; decide, fun a ha => ?_⟩⟩
    have s1 : Same H (upd H t (.tup [.str "pop", .str n, .str z])) := Same.new ht
    have s2 := s1.trans (Same.new (o := .lst [.ref t]) ha)
    refine ⟨o, .ref a, _, .int 0, rfl, .lst (.of upd_same) (.cons (.tup (.of ((Same.new ha) _ _ upd_same)) (.cons (.str _) (.cons (.str _) (.cons (.str _) .nil)))) .nil), ok, bad, k.go s2⟩
end
def PropHas (P : Program) (w : World) (K : PySem.W.Frag) (mg : Str → Option Value) (base : Heap) (C : Addr) (f : Str) (k : Nat) (sp : Sp) : Prop := ∃ p g fd, PropOf K C f p g ∧ FnOk P w K mg base CX0 k g fd ["self"] sp ∧ Binds K fd ["self"] []
theorem pe_propH {X : Cx} {C : Addr} {f : Str} {k : Nat} {sp : Sp} {e : Expr} {ta : TE} {pos : Pos} (h : PropHas X.prog X.w X.K X.mg X.base C f k sp) (he : PE X e ta) (c : Cls X.K C) (hr : Room (k + 1) X.A)
    (hab : attributeBase e f X.env (eval e X.env) = eval e X.env := by rfl) : PE X (.Attribute e f pos) (tProp C sp [] E0 ta) := by
  obtain ⟨p, g, fd, hp, F, hb⟩ := h
  exact pe_prop he c hp F hr hb .nil pass0 hab
def LenHas (P : Program) (w : World) (K : PySem.W.Frag) (mg : Str → Option Value) (base : Heap) (C : Addr) (sp : Sp) : Prop := ∃ g, PySem.W.findIn K (.ref C) "__len__" = some (some (.ref g)) ∧ PySem.W.isFn K (.ref g) = true ∧ FnR P w K mg base CX0 1 g (fun vs H Q E => sp vs H Q E)
def OS : Option Addr → Prop := fun x => x = none
def OR : Option Addr → Prop := fun x => ∃ D, x = some D
section
variable {P : Program} {w : World} {K : PySem.W.Frag} {mg : Str → Option Value} {base : Heap}
def limB (d : PyData) : Bool := match d with
  | .none => true
  | d => betD 0 1000 d
def spLmX (K : PySem.W.Frag) : Sp := fun xs H Q _ => ∃ (v : V) (d : PyData), xs = [v] ∧ DpX K H v d ∧ Q (.bl (limB d)) H
theorem scLm : FnScope ["value"] ["value"] (defScope sIsLimit) := ⟨rfl, rfl, rfl, by decide +kernel, rfl, by decide +kernel, by decide +kernel⟩
theorem scCl : FnScope ["limit"] ["limit"] (defScope sChkLimit) := ⟨rfl, rfl, rfl, by decide +kernel, rfl, by decide +kernel, by decide +kernel⟩
theorem has_limX (D : Def K mg "is_limit" sIsLimit) (G : Has P w K mg base "is_between" 2 ["value", "least", "most"] [] (spBe2 K)) (hM : ∃ t, mg "MOST_LIMIT" = some (.int 1000 t)) : Has P w K mg base "is_limit" 3 ["value"] [] (spLmX K) := by
  obtain ⟨t, hM⟩ := hM
  refine has_of D scLm (fun _ _ _ _ _ _ us hl => match us, hl with | [_], _ => rfl) (fun xs H Q E h => ?_) (fun f cv A out s H xs Q E hr h => ?_)
  · obtain ⟨v, d, rfl, _⟩ := h
    rfl
  · obtain ⟨v, d, rfl, hd, k⟩ := h
    refine ⟨_, pss_one (ps_ret (L2.pe_or (pe_cmpR op_isN (pv 0) pe_non (nomark _)) (pe_one (pe_has G hr (pa_cons (pv 0) (pa_cons pe_int (pa_cons (pe_glob (v := .int 1000) rfl hM ⟨_, rfl⟩) pa_nil))))))), ?_⟩
    cases hd with
    | non => exact ⟨_, rfl, rfl, true, rfl, iteT k⟩
    | int i => exact ⟨_, rfl, rfl, false, rfl, iteF ⟨_, rfl, _, _, _, _, rfl, .int i, k⟩⟩
    | bl b => exact ⟨_, rfl, rfl, false, rfl, iteF ⟨_, rfl, _, _, _, _, rfl, .bl b, k⟩⟩
    | str z => exact ⟨_, rfl, rfl, false, rfl, iteF ⟨_, rfl, _, _, _, _, rfl, .str z, k⟩⟩
    | lst h1 h2 => exact ⟨_, rfl, rfl, false, rfl, iteF ⟨_, rfl, _, _, _, _, rfl, .lst h1 h2, k⟩⟩
    | tup h1 h2 => exact ⟨_, rfl, rfl, false, rfl, iteF ⟨_, rfl, _, _, _, _, rfl, .tup h1 h2, k⟩⟩
    | emp h1 => exact ⟨_, rfl, rfl, false, rfl, iteF ⟨_, rfl, _, _, _, _, rfl, .emp h1, k⟩⟩
def spClX (K : PySem.W.Frag) (C : Addr) : Sp := fun xs H Q E => ∃ (v : V) (d : PyData), xs = [v] ∧ DpX K H v d ∧ (limB d = true → Q .non H) ∧ (limB d = false → bad C H v E)
theorem hasX_cl {C : Addr} (D : Def K mg "check_limit" sChkLimit) (G : Has P w K mg base "is_limit" 3 ["value"] [] (spLmX K)) (T : XcC P w K mg base "InvalidNumber" "value" C) : HasX P w K mg base "check_limit" 4 ["limit"] [] (spClX K C) := by
  refine hasX_of D scCl (fun _ _ _ _ _ _ us hl => match us, hl with | [_], _ => rfl) (fun xs H Q E h => ?_) (fun f cv A out s H xs Q E hr h => ?_)
  · obtain ⟨v, d, rfl, _⟩ := h
    rfl
  · obtain ⟨v, d, rfl, hd, kY, kN⟩ := h
    have hr2 : Room 2 _ := hr.mono (by decide)
    refine ⟨_, pss_one (ps_if (pt_not (pt_val (pe_has G hr (pa_cons (pv 0) pa_nil)))) (pss_one (ps_raiseX rfl T hr2 tkX (pa_cons (pv 0) pa_nil))) pss_nil), ?_⟩
    refine ⟨_, rfl, v, d, rfl, hd, limB d, rfl, ?_⟩
    cases hw : limB d with
    | true => exact iteF (kY hw)
    | false => exact iteT ⟨_, rfl, mk_red fun dd hdd => kN hw dd _ (Same.new hdd) hdd upd_same⟩
end
end SE
namespace SE
open PySem PySem.Spec PyProof.Rows L2
section
variable {P : Program} {w : World} {K : PySem.W.Frag} {mg : Str → Option Value} {base : Heap}
/-! ### names that are refused -/
def spCnX (K : PySem.W.Frag) (C : Addr) : Sp := fun xs H Q E => ∃ (v : V) (d : PyData), xs = [v] ∧ DpX K H v d ∧ OkD d ∧ itemD d = false ∧ bad C H v E
theorem hasX_cn {C : Addr} (D : Def K mg "check_name" sCheckName) (G : Has P w K mg base "is_item" 1 ["value"] [] (spX K itemD)) (T : XcC P w K mg base "InvalidWord" "value" C) : HasX P w K mg base "check_name" 3 ["name"] [] (spCnX K C) := by
  refine hasX_of D scCkn (fun _ _ _ _ _ _ us hl => match us, hl with | [_], _ => rfl) (fun xs H Q E h => ?_) (fun f cv A out s H xs Q E hr h => ?_)
  · obtain ⟨v, d, rfl, _⟩ := h
    rfl
  · obtain ⟨v, d, rfl, hd, ok, e, kN⟩ := h
    refine ⟨_, pss_one (ps_if (pt_not (pt_val (pe_has G (hr.mono (by decide)) (pa_cons (pv 0) pa_nil)))) (pss_one (ps_raiseX rfl T hr tkX (pa_cons (pv 0) pa_nil))) pss_nil), ?_⟩
    refine ⟨_, rfl, v, d, rfl, hd, ok, fun H1 s1 => ⟨itemD d, rfl, ?_⟩⟩
    rw [e]
    exact iteT ⟨_, rfl, mk_red fun dd hdd => kN dd _ (s1.trans (Same.new hdd)) (s1.free hdd) upd_same⟩
/-! ### are_stacks, check_stacks: a dict with one name and any value -/
def lowK (v : V) : List (Key × V) := [(Sum.inr "low", v)]
theorem seqL_upd {K : PySem.W.Frag} {H : Hp} {d a : Addr} {kvs : List (Key × V)} {o : HO} {xs : List V} (hd : H d = some (.dK kvs)) (h : SqL K H a xs) : SqL K (upd H d o) a xs := by
  rcases h with (q | ⟨p, q⟩) | q
  · exact .inl (.inl (by rw [upd_ne (fun z => by rw [z, hd] at q; cases q)]; exact q))
  · exact .inl (.inr ⟨p, by rw [upd_ne (fun z => by rw [z, hd] at q; cases q)]; exact q⟩)
  · exact .inr q
section
variable {K : PySem.W.Frag} {H : Hp} {d : Addr} {kvs : List (Key × V)} {o : HO}
mutual
theorem dpx_upd (hd : H d = some (.dK kvs)) (ne : kvs ≠ []) : ∀ (y : PyData) (v : V), DpX K H v y → DpX K (upd H d o) v y
  | .none, _, h => by cases h; exact .non
  | .bool b, _, h => by cases h; exact .bl b
  | .int i, _, h => by cases h; exact .int i
  | .str x, _, h => by cases h; exact .str x
  | .list ds, _, h => by
    cases h with
    | lst a b => exact .lst (seqL_upd hd a) (dpxs_upd hd ne ds _ b)
  | .tuple ds, _, h => by
    cases h with
    | tup a b => exact .tup (sqT_upd (NoTup.dK hd) a) (dpxs_upd hd ne ds _ b)
  | .dict kvs2, _, h => by
    cases h with
    | @emp a e => exact .emp (by rw [upd_ne (fun z => by rw [z, hd] at e; injection e with e; injection e with e; exact ne e)]; exact e)
theorem dpxs_upd (hd : H d = some (.dK kvs)) (ne : kvs ≠ []) : ∀ (ds : List PyData) (vs : List V), DpXs K H vs ds → DpXs K (upd H d o) vs ds
  | [], _, h => by cases h; exact .nil
  | y :: ds, _, h => by
    cases h with
    | cons a b => exact .cons (dpx_upd hd ne y _ a) (dpxs_upd hd ne ds _ b)
end
end
def spAreX (K : PySem.W.Frag) : Sp := fun xs H Q _ => ∃ (d : Addr) (v : V) (y : PyData), xs = [.ref d] ∧ H d = some (.dK (lowK v)) ∧ DpX K H v y ∧ OkD y ∧ ∀ H', Same H H' → Q (.bl (wordD y)) H'
theorem has_areX (D : Def K mg "are_stacks" sAreStacks) (GI : Has P w K mg base "is_item" 1 ["value"] [] (spX K itemD)) (GW : Has P w K mg base "is_word" 2 ["value"] [] (spX K wordD)) (B : Blt mg) (md : mg "dict" = none) : Has P w K mg base "are_stacks" 3 ["value"] [] (spAreX K) := by
  refine has_of D scAr (fun _ _ _ _ _ _ us hl => match us, hl with | [_], _ => rfl) (fun xs H Q E h => ?_) (fun f cv A out s H xs Q E hr h => ?_)
  · obtain ⟨d, v, y, rfl, _⟩ := h
    rfl
  · obtain ⟨d, v, y, rfl, hd, hv, ok, k⟩ := h
    have hr1 : Room 1 _ := hr.mono (by decide)
    refine ⟨_, pss_cons (ps_if (pt_not (pt_val (pe_callB call_isi (by rfl) B.isi (by decide +kernel) (pa_cons (pv 0) (pa_cons (pe_bltn (v := .ty "dict") (by rfl) md (by decide +kernel) rfl) pa_nil))))) (pss_one (ps_ret pe_bl)) pss_nil)
      (pss_one (ps_ret (pe_callB (cr_all rfl) (by rfl) B.all (by decide +kernel) (pa_cons
        (pe_lock (pe_lc (own := [("name", 1), ("stack", 2)]) (g := gTup K 2 (gCons (gName 1) (gCons (gName 2) gNil))) (tt := tYes) (te := tAndV (tCall (spX K itemD) [] E0 (tCons (tVar 1) tNil)) (tCall (spX K wordD) [] E0 (tCons (tVar 2) tNil))) rfl scAr.nd (pi_items (pv 0)) (blkOk_by (own := [("name", 1), ("stack", 2)]) (N := nAr) (sc := defScope sAreStacks) (by decide +kernel))
          (fun _ _ _ _ _ => pg_tup (by rfl) (pgs_cons (pg_name (i := 1) scAr.nd rfl (.inl rfl)) (pgs_cons (pg_name (i := 2) scAr.nd rfl (.inl rfl)) pgs_nil))) (fun _ _ _ _ _ => pts_nil) (fun _ _ _ _ _ => pe_and (pe_has GI hr1 (pa_cons (pv 1) pa_nil)) (pe_one (pe_has GW hr (pa_cons (pv 2) pa_nil)))))) pa_nil)))), ?_⟩
    have ne : lowK v ≠ [] := by unfold lowK; exact List.cons_ne_nil _ _
    refine ⟨_, rfl, _, .ty "dict", .type "dict", .type "dict", true, rfl, .ty _, .base (.dK hd), kit_ty (by decide +kernel), true, rfl, iteF ?_⟩
    refine ⟨d, .dK (lowK v), hd, mutK, fun od => ?_⟩
    have hF : upd H d (.frz od (.dK (lowK v))) d = some (.frz od (.dK (lowK v))) := upd_same
    have sF := dpx_upd (o := .frz od (.dK (lowK v))) hd ne y v hv
    generalize eF : upd H d (.frz od (.dK (lowK v))) = HF at hF sF
    refine ⟨_, rfl, d, od, lowK v, rfl, hF, fun DD hDD => lc_it walk_items (fun j H2 => H2 DD = some (.lst ((List.replicate j (wordD y)).map V.bl)) ∧ Same HF H2) ⟨upd_same, Same.new hDD⟩ (fun j H2 _ q => q.2 _ _ hF) ?_ ?_⟩
    · rintro j x H2 H3 hj ⟨h2, s2⟩ ⟨T, pk, pv', rfl, nT, rfl, hk, hv2⟩
      have j0 : j = 0 := by
        have : (lowK v).length = 1 := rfl
        omega
      subst j0
      cases hk
      cases hv2
      have sT : Same H2 (upd H2 T (.tup [.str "low", v])) := Same.new nT
      have lowI : itemD (.str "low") = true := by decide +kernel
      have lowO : OkD (.str "low") := ⟨by decide +kernel, by decide +kernel, by decide +kernel, by decide +kernel, by decide +kernel⟩
      refine ⟨T, _, rfl, .of upd_same, rfl, _, _, rfl, _, _, rfl, rfl, rfl, yes_in ⟨_, rfl, .str "low", .str "low", rfl, .str _, lowO, fun H4 s4 => ⟨true, by rw [lowI], iteT ?_⟩⟩⟩
      refine ⟨_, rfl, v, y, rfl, DpX.same (s2.trans (sT.trans s4)) y v sF, ok, fun H5 s5 => ?_⟩
      have s25 := (sT.trans s4).trans s5
      refine ⟨_, s25 _ _ h2, by rw [sizeLine_eq]; show 0 < 16777216; decide, by rw [upd_same]; rfl, Same.free2 (s2.trans s25) hDD⟩
    · rintro H2 ⟨h2, s2⟩
      have hF2 := s2 _ _ hF
      have dD : DD ≠ d := fun q => by rw [q, hF2] at h2; cases h2
      refine ⟨hF2, DD, _, rfl, .of (by rw [upd_ne dD]; exact h2), ?_⟩
      have e : (List.replicate (lowK v).length (wordD y)).all id = wordD y := by
        show (wordD y && true) = wordD y
        rw [Bool.and_true]
      rw [e]
      exact k _ (Same.back hd eF.symm s2)
def spCkX (K : PySem.W.Frag) (C : Addr) : Sp := fun xs H Q E => ∃ (d : Addr) (v : V) (y : PyData), xs = [.ref d] ∧ H d = some (.dK (lowK v)) ∧ DpX K H v y ∧ OkD y ∧ (wordD y = true → ∀ H', Same H H' → Q .non H') ∧ (wordD y = false → bad C H (.ref d) E)
theorem hasX_cks {C : Addr} (D : Def K mg "check_stacks" sCheckStacks) (G : Has P w K mg base "are_stacks" 3 ["value"] [] (spAreX K)) (T : XcC P w K mg base "InvalidStacks" "value" C) : HasX P w K mg base "check_stacks" 4 ["stacks"] [] (spCkX K C) := by
  refine hasX_of D scCkS (fun _ _ _ _ _ _ us hl => match us, hl with | [_], _ => rfl) (fun xs H Q E h => ?_) (fun f cv A out s H xs Q E hr h => ?_)
  · obtain ⟨d, v, y, rfl, _⟩ := h
    rfl
  · obtain ⟨d, v, y, rfl, hd, hv, ok, kY, kN⟩ := h
    have hr2 : Room 2 _ := hr.mono (by decide)
    refine ⟨_, pss_one (ps_if (pt_not (pt_val (pe_has G hr (pa_cons (pv 0) pa_nil)))) (pss_one (ps_raiseX rfl T hr2 tkX (pa_cons (pv 0) pa_nil))) pss_nil), ?_⟩
    refine ⟨_, rfl, d, v, y, rfl, hd, hv, ok, fun H1 s1 => ⟨wordD y, rfl, ?_⟩⟩
    cases hw : wordD y with
    | true => exact iteF (kY hw H1 s1)
    | false => exact iteT ⟨_, rfl, mk_red fun dd hdd => kN hw dd _ (s1.trans (Same.new hdd)) (s1.free hdd) upd_same⟩
/-! ### methods that refuse -/
variable {C CI CW CM : Addr} {x : Option Addr}
def spStB (K : PySem.W.Frag) (C CW : Addr) (x : Option Addr) : Sp := fun vs H Q E => ∃ (o L : Addr) (v : V) (d : PyData) (ct : Cn) (ss : Sk) (l : Lim) (ds : List Deed), vs = [.ref o, v] ∧ SesX K C x ct H o L ss l ds ∧ DpX K H v d ∧ OkD d ∧ itemD d = false ∧ bad CW H v E
theorem ok_stB {f : Addr} {fd : FuncData} (F : Fun K "stack" "Session.stack" sSStack f fd) (G : HasX P w K mg base "check_name" 3 ["name"] [] (spCnX K CW)) : FnOk P w K mg base (L2.CX P w) 4 f fd ["self", "name"] (spStB K C CW x) := by
  refine F.okX scStk (fun vs H Q E h => ?_) (fun cdv A outer s H vs Q E hr h => ?_)
  · obtain ⟨o, L, v, d, ct, ss, l, ds, rfl, _⟩ := h
    rfl
  · obtain ⟨o, L, v, d, ct, ss, l, ds, rfl, hs, hd, ok, e, k⟩ := h
    exact ⟨_, pss_cons (ps_expr (pe_hasX G hr tkX (pa_cons (pv 1) pa_nil))) pss_never, _, rfl, v, d, rfl, hd, ok, e, k⟩
abbrev sSEffect64 : Stmt := inClass sSession 12
theorem scEf64 : FnScope ["self", "name", "steps", "stacks", "limit", "action", "other", "item"] ["self", "name"] (defScope sSEffect64) := ⟨rfl, rfl, rfl, by decide +kernel, rfl, by decide +kernel, by decide +kernel⟩
theorem ok_efB {f : Addr} {fd : FuncData} (F : Fun K "effect" "Session.effect" sSEffect64 f fd) (G : HasX P w K mg base "check_name" 3 ["name"] [] (spCnX K CW)) : FnOk P w K mg base (L2.CX P w) 4 f fd ["self", "name"] (spStB K C CW x) := by
  refine F.okX scEf64 (fun vs H Q E h => ?_) (fun cdv A outer s H vs Q E hr h => ?_)
  · obtain ⟨o, L, v, d, ct, ss, l, ds, rfl, _⟩ := h
    rfl
  · obtain ⟨o, L, v, d, ct, ss, l, ds, rfl, hs, hd, ok, e, k⟩ := h
    exact ⟨_, pss_cons (ps_expr (pe_hasX G hr tkX (pa_cons (pv 1) pa_nil))) pss_never, _, rfl, v, d, rfl, hd, ok, e, k⟩
def spSlB (K : PySem.W.Frag) (C CM : Addr) (x : Option Addr) : Sp := fun vs H Q E => ∃ (o L : Addr) (v : V) (d : PyData) (ct : Cn) (ss : Sk) (l : Lim) (ds : List Deed), vs = [.ref o, v] ∧ SesX K C x ct H o L ss l ds ∧ DpX K H v d ∧ limB d = false ∧ bad CM H v E
theorem ok_slB {f : Addr} {fd : FuncData} (F : Fun K "set_limit" "Session.set_limit" sSSetLimit f fd) (G : HasX P w K mg base "check_limit" 4 ["limit"] [] (spClX K CM)) : FnOk P w K mg base (L2.CX P w) 5 f fd ["self", "value"] (spSlB K C CM x) := by
  refine F.okX scSl (fun vs H Q E h => ?_) (fun cdv A outer s H vs Q E hr h => ?_)
  · obtain ⟨o, L, v, d, ct, ss, l, ds, rfl, _⟩ := h
    rfl
  · obtain ⟨o, L, v, d, ct, ss, l, ds, rfl, hs, hd, e, k⟩ := h
    exact ⟨_, pss_cons (ps_expr (pe_hasX G hr tkX (pa_cons (pv 1) pa_nil))) pss_never, _, rfl, v, d, rfl, hd, (fun z => by rw [e] at z; cases z), fun _ => k⟩
/-- push and pop of values that are refused -/
def stD (c : Bool) (d1 d2 : PyData) : PyData := .list [.tuple [.str (act c), d1, d2]]
def spPpX (K : PySem.W.Frag) (C CI : Addr) (x : Option Addr) (c : Bool) : Sp := fun vs H Q E => ∃ (o L : Addr) (v1 v2 : V) (d1 d2 : PyData) (ct : Cn) (ss : Sk) (l : Lim) (ds : List Deed), vs = [.ref o, v1, v2] ∧ SesX K C x ct H o L ss l ds ∧ DpX K H v1 d1 ∧ DpX K H v2 d2 ∧ OkD (stD c d1 d2) ∧ BadN (stD c d1 d2) (.int 0) ∧ badI CI H (.int 0) E
theorem ppX_fin {H : Hp} {E : XK} {o : Addr} {c : Bool} {v1 v2 : V} {d1 d2 : PyData} (h1 : DpX K H v1 d1) (h2 : DpX K H v2 d2) (ok : OkD (stD c d1 d2)) (b : BadN (stD c d1 d2) (.int 0)) (k : badI CI H (.int 0) E) {t a : Addr} (ht : H t = none) (ha : upd H t (.tup [.str (act c), v1, v2]) a = none) :
    ∃ (o' : Addr) (v : V) (d : PyData) (r : V), [V.ref o, V.ref a] = [.ref o', v] ∧ DpX K (upd (upd H t (.tup [.str (act c), v1, v2])) a (.lst [.ref t])) v d ∧ OkD d ∧ BadN d r ∧ badI CI (upd (upd H t (.tup [.str (act c), v1, v2])) a (.lst [.ref t])) r E := by
  have s1 : Same H (upd H t (.tup [.str (act c), v1, v2])) := Same.new ht
  have s2 := s1.trans (Same.new (o := .lst [.ref t]) ha)
  exact ⟨o, .ref a, _, .int 0, rfl, .lst (.of upd_same) (.cons (.tup (.of ((Same.new ha) _ _ upd_same)) (.cons (.str _) (.cons (DpX.same s2 _ _ h1) (.cons (DpX.same s2 _ _ h2) .nil)))) .nil), ok, b, k.go s2⟩
theorem ok_spuX {f : Addr} {fd : FuncData} (F : Fun K "push" "Session.push" sSPush f fd) (T : SCl K C) (PF : MethHasX P w K mg base C "perform" 5 ["self", "steps"] (spPfB K CI)) : FnOk P w K mg base (L2.CX P w) 6 f fd ["self", "name", "item"] (spPpX K C CI x true) := by
  refine F.okX scPu' (fun vs H Q E h => ?_) (fun cdv A outer s H vs Q E hr h => ?_)
  · obtain ⟨o, L, v1, v2, d1, d2, ct, ss, l, ds, rfl, _⟩ := h
    rfl
  · obtain ⟨o, L, v1, v2, d1, d2, ct, ss, l, ds, rfl, hses, h1, h2, ok, b, k⟩ := h
    obtain ⟨dx, F, ws, i1, _⟩ := hses.ex
    refine ⟨_, pss_one (ps_expr (pe_mX PF (fun σ => passAt tkX σ) (pv 0) T.cl hr (pa_cons (pe_lst (pa_cons (pe_tup (pa_cons pe_str (pa_cons (pv 1) (pa_cons (pv 2) pa_nil)))) pa_nil)) pa_nil))), ?_⟩
    exact ⟨_, rfl, o, dx, _, rfl, i1, sX_none (by decide) (by decide) (by decide) (by decide), _, rfl, _, rfl, by show 3 ≤ sizeLine; decide, fun t ht => ⟨by show 1 ≤ sizeLine; decide, fun a ha => ppX_fin (c := true) h1 h2 ok b k ht ha⟩⟩
theorem ok_spoX {f : Addr} {fd : FuncData} (F : Fun K "pop" "Session.pop" sSPop f fd) (T : SCl K C) (PF : MethHasX P w K mg base C "perform" 5 ["self", "steps"] (spPfB K CI)) : FnOk P w K mg base (L2.CX P w) 6 f fd ["self", "name", "item"] (spPpX K C CI x false) := by
  refine F.okX scPo' (fun vs H Q E h => ?_) (fun cdv A outer s H vs Q E hr h => ?_)
  · obtain ⟨o, L, v1, v2, d1, d2, ct, ss, l, ds, rfl, _⟩ := h
    rfl
  · obtain ⟨o, L, v1, v2, d1, d2, ct, ss, l, ds, rfl, hses, h1, h2, ok, b, k⟩ := h
    obtain ⟨dx, F, ws, i1, _⟩ := hses.ex
    refine ⟨_, pss_one (ps_expr (pe_mX PF (fun σ => passAt tkX σ) (pv 0) T.cl hr (pa_cons (pe_lst (pa_cons (pe_tup (pa_cons pe_str (pa_cons (pv 1) (pa_cons (pv 2) pa_nil)))) pa_nil)) pa_nil))), ?_⟩
    exact ⟨_, rfl, o, dx, _, rfl, i1, sX_none (by decide) (by decide) (by decide) (by decide), _, rfl, _, rfl, by show 3 ≤ sizeLine; decide, fun t ht => ⟨by show 1 ≤ sizeLine; decide, fun a ha => ppX_fin (c := false) h1 h2 ok b k ht ha⟩⟩
end
end SE
namespace SE
open PySem PySem.Spec PyProof.Rows L2
theorem it_low : Item ("low" : Str) := ⟨by decide +kernel, by decide +kernel, by decide +kernel⟩
section
variable {P : Program} {w : World} {K : PySem.W.Frag} {mg : Str → Option Value} {base : Heap} {C CM CK CL : Addr}
/-! ### Session.__init__ with a limit and one stack named low, of any values -/
def okSI (K : PySem.W.Frag) (C CL : Addr) (x d : Addr) (v w : V) (H : Hp) (Q : VK) (E : XK) : Prop := ∃ (zs : List Str) (l : Lim), v = limV l ∧ LimOk l ∧ (∃ t, w = .ref t ∧ SqT K H t (zs.map V.str)) ∧ (∀ z ∈ zs, Item z) ∧ zs.length ≤ 5000 ∧
  (high l zs.length = true → ∀ e H', Same H H' → H e = none → H' e = some (.xd [("limit", limV l)]) → E (.ref CL) (some e) H') ∧
  (high l zs.length = false → ∀ L H', (∀ b o, H b = some o → b ≠ x → H' b = some o) → H L = none → SesX K C none [] H' x L (cleanS [("low", zs)]) l [] → Q .non H')
def spSIX (K : PySem.W.Frag) (C CM CK CL : Addr) : Sp := fun vs H Q E => ∃ (x dx d : Addr) (v w : V) (yl yw : PyData), vs = [.ref x, v, .ref d] ∧ H x = some (.ins C dx []) ∧ H d = some (.dK (lowK w)) ∧ DpX K H v yl ∧ DpX K H w yw ∧ OkD yw ∧
  (limB yl = false → bad CM H v E) ∧ (limB yl = true → wordD yw = false → bad CK H (.ref d) E) ∧ (limB yl = true → wordD yw = true → okSI K C CL x d v w H Q E)
theorem body_sinitX {g : Addr} {cdv : Value} (T : SCl K C) (GL : HasX P w K mg base "check_limit" 4 ["limit"] [] (spClX K CM)) (GS : HasX P w K mg base "check_stacks" 4 ["stacks"] [] (spCkX K CK)) (GH : HasX P w K mg base "check_heights" 3 ["stacks", "limit"] [] (spChX K CL)) (GW : Has P w K mg base "without_empty" 1 ["stacks"] [] (spWe K))
    (A : Around) (outer : List Env) (s : Shared) (H : Hp) (vs : List V) (Q : VK) (E : XK) (hr : Room 4 (A.deeper (envOfC "Session.__init__" (defScope sSInit) s.heap.objs.size g cdv))) (h : spSIX K C CM CK CL vs H Q E) :
    ∃ t, PSs (cxOf (L2.CX P w) P w K mg base ["self", "limit", "stacks"] "Session.__init__" (defScope sSInit) g cdv A outer s H E) (defBody sSInit) t ∧ t { nx := fun _ H' => Q .non H', rt := Q } (L2.start ["self", "limit", "stacks"] vs) H := by
  obtain ⟨x, dx, d, v, w, yl, yw, rfl, hx, hd, hv, hw, okw, kM, kK, kO⟩ := h
  have hr1 : Room 1 _ := hr.mono (by decide)
  have hr3 : Room 3 _ := hr.mono (by decide)
  refine ⟨_, pss_cons (ps_expr (pe_hasX GL hr tkX (pa_cons (pv 1) pa_nil))) (pss_cons (ps_expr (pe_hasX GS hr tkX (pa_cons (pv 2) pa_nil))) (pss_cons (ps_expr (pe_hasX GH hr3 tkX (pa_cons (pv 2) (pa_cons (pv 1) pa_nil))))
    (pss_cons (ps_fld (pv 0) (pe_frz (pe_has GW hr1 (pa_cons (pv 2) pa_nil))) rfl) (pss_cons (ps_fld (pv 0) (pv 1) rfl) (pss_one (ps_fld (pv 0) (pe_lst pa_nil) rfl)))))), ?_⟩
  refine ⟨_, rfl, v, yl, rfl, hv, fun el => ?_, kM⟩
  refine ⟨_, rfl, d, w, yw, rfl, hd, hw, okw, fun ew H1 s1 => ?_, kK el⟩
  obtain ⟨zs, l, rfl, lok, ⟨t, rfl, hT⟩, zI, zl, kH, k⟩ := kO el ew
  have hS : SkH K H (lowK (.ref t)) [("low", zs)] := .cons ⟨rfl, t, rfl, hT⟩ .nil
  have ok : SkOk [("low", zs)] 10 5000 := ⟨by show [("low" : Str)].Nodup; exact List.nodup_cons.mpr ⟨fun m => (by cases m), .nil⟩, fun q mq => by rw [List.mem_singleton.mp mq]; exact ⟨it_low, zI, zl⟩, by show 1 ≤ 10; decide⟩
  have sd0 : SkD K H d [("low", zs)] := ⟨_, hd, hS⟩
  refine ⟨_, rfl, _, rfl, d, _, 10, 5000, l, rfl, .inl (sd0.same s1), ok, by decide, fun hh H2 s2 => ?_, fun hh e H2 s2 he hx2 => ?_⟩
  rotate_left
  · obtain ⟨p, mp, hp⟩ := hh
    rw [List.mem_singleton.mp mp] at hp
    exact kH hp e H2 (s1.trans s2) (s1.free he) hx2
  have k := k (hh _ (List.mem_singleton.mpr rfl))
  have s12 := s1.trans s2
  have hm : (10 : Nat) ≤ 100000 := by decide
  refine ⟨_, rfl, d, lowK (.ref t), [("low", zs)], 10, 5000, rfl, s12 _ _ hd, skH_same hS s12, ok, hm, fun e kvs2 H3 s3 ne he hk3 => ?_⟩
  refine ⟨e, .dK kvs2, rfl, he, trivial, fun oe => ?_⟩
  have s4 : Same H2 (upd H3 e (.frz oe (.dK kvs2))) := Same.free2 s3 ne
  have hk4 : SkH K (upd H3 e (.frz oe (.dK kvs2))) kvs2 (cleanS [("low", zs)]) := skH_upd (.dK he) hk3
  have he : upd H3 e (.frz oe (.dK kvs2)) e = some (.frz oe (.dK kvs2)) := upd_same
  generalize upd H3 e (.frz oe (.dK kvs2)) = H4 at s4 he hk4 ⊢
  have s13 := s12.trans s4
  have hx3 := s13 _ _ hx
  have ex : e ≠ x := fun q => by rw [q, hx3] at he; cases he
  refine ⟨_, rfl, x, C, dx, [], rfl, hx3, T.cl, T.nF, by show 0 < 1000; decide, _, rfl, _, rfl, x, C, dx, _, rfl, upd_same, T.cl, T.nH, by show 1 < 1000; decide, ?_⟩
  refine ⟨by show 0 ≤ sizeLine; decide, fun L hL => ?_⟩
  have Lx : L ≠ x := fun q => by rw [q, upd_same] at hL; cases hL
  have Le : L ≠ e := fun q => by rw [q, upd_ne ex, upd_ne ex] at hL; rw [he] at hL; cases hL
  refine ⟨_, rfl, x, C, dx, _, rfl, by rw [upd_ne (Ne.symm Lx)]; exact upd_same, T.cl, T.nD, sF_two _ _, ?_⟩
  have hL0 : H L = none := by
    rw [upd_ne Lx, upd_ne Lx] at hL
    exact s13.free hL
  have hk5 : ∀ {fs fs2 fs3 : List (Str × V)}, SkH K (upd (upd (upd (upd H4 x (.ins C dx fs)) x (.ins C dx fs2)) L (.lst [])) x (.ins C dx fs3)) kvs2 (cleanS [("low", zs)]) := fun {fs fs2 fs3} => by
    have n1 : NoTup H4 x := .ins hx3
    have n2 : NoTup (upd H4 x (.ins C dx fs)) x := .ins upd_same
    have h4 := skH_upd (o := .ins C dx fs2) n2 (skH_upd (o := .ins C dx fs) n1 hk4)
    have h5 : SkH K (upd (upd (upd H4 x (.ins C dx fs)) x (.ins C dx fs2)) L (.lst [])) kvs2 (cleanS [("low", zs)]) := skH_same h4 (Same.new (by rw [upd_ne Lx, upd_ne Lx]; rw [upd_ne Lx, upd_ne Lx] at hL; exact hL))
    exact skH_upd (.ins (C := C) (dx := dx) (fs := fs2) (by rw [upd_ne (Ne.symm Lx)]; exact upd_same)) h5
  refine k L _ (fun b o hb bx => ?_) hL0 ⟨dx, e, [], upd_same, by rw [upd_ne Lx]; exact upd_same, ⟨oe, kvs2, ?_, hk5⟩, .nil, trivial⟩
  · rw [upd_ne bx, upd_ne (fun q => by rw [q, hL0] at hb; cases hb), upd_ne bx, upd_ne bx]
    exact s13 _ _ hb
  · rw [upd_ne ex, upd_ne (Ne.symm Le), upd_ne ex, upd_ne ex]
    exact he
/-- called with limit and low -/
def limA {α : Type} (z : α) : List α → α
  | [l, _] => l
  | _ => z
def exA {α : Type} : List α → List (Str × α)
  | [_, u] => [("low", u)]
  | _ => []
theorem exA_ok (ws : List Value) : ((exA ws).map (·.1)).Nodup ∧ (exA ws).length ≤ sizeLine := by
  unfold exA
  split
  · exact ⟨List.nodup_cons.mpr ⟨fun m => (by cases m), .nil⟩, by show 1 ≤ sizeLine; decide⟩
  · exact ⟨.nil, by show 0 ≤ sizeLine; decide⟩
theorem relA (zs : List V) (ws : List Value) (r : Vals zs ws) (hl : zs.length = 2) : RelV (limA .non zs) (limA .none ws) ∧ KV (exK (exA zs)) (exK (exA ws)) := by
  match zs, ws, r, hl with
  | [_, _], [_, _], .cons r1 (.cons r2 .nil), _ => exact ⟨r1, .cons ⟨rfl, r2⟩ .nil⟩
theorem fk_sinitX {g : Addr} {kV doc pm cdv ct oc : Value} {an od : Option Addr} {osl : Array (Option Value)} (lk : K.lookup g = some ⟨oc, od, .func (PySem.W.fnOf "__init__" "Session.__init__" (defArgs sSInit) (defBody sSInit) (defScope sSInit) .none kV doc pm an cdv ct), osl⟩) (hcd : PySem.W.codeIn K cdv "Session.__init__" = true)
    (T : SCl K C) (GL : HasX P w K mg base "check_limit" 4 ["limit"] [] (spClX K CM)) (GS : HasX P w K mg base "check_stacks" 4 ["stacks"] [] (spCkX K CK)) (GH : HasX P w K mg base "check_heights" 3 ["stacks", "limit"] [] (spChX K CL)) (GW : Has P w K mg base "without_empty" 1 ["stacks"] [] (spWe K)) :
    FnKw P w K mg base (L2.CX P w) 5 g ["limit", "low"] (fun x zs H Q E => ∀ d, H d = none → spSIX K C CM CK CL [x, limA .non zs, .ref d] (upd H d (.dK (exK (exA zs)))) Q E) := by
  refine fn_kw (limA .none) (limA .non) exA exA lk hcd scSI StX.cxUp (fun u ws hl A' Ex Q' s _ h => ?_) (fun ws _ => exA_ok ws) relA (body_sinitX T GL GS GH GW)
  match ws, hl with
  | [wa, wb], _ => exact h
end
end SE
namespace SE
open PySem PySem.Spec PyProof.Rows L2
/-- the limit named last -/
def limZ {α : Type} (z : α) : List α → α
  | [_, l] => l
  | _ => z
def exZ {α : Type} : List α → List (Str × α)
  | [u, _] => [("low", u)]
  | _ => []
theorem exZ_ok (ws : List Value) : ((exZ ws).map (·.1)).Nodup ∧ (exZ ws).length ≤ sizeLine := by
  unfold exZ
  split
  · exact ⟨List.nodup_cons.mpr ⟨fun m => (by cases m), .nil⟩, by show 1 ≤ sizeLine; decide⟩
  · exact ⟨.nil, by show 0 ≤ sizeLine; decide⟩
theorem relZ (zs : List V) (ws : List Value) (r : Vals zs ws) (hl : zs.length = 2) : RelV (limZ .non zs) (limZ .none ws) ∧ KV (exK (exZ zs)) (exK (exZ ws)) := by
  match zs, ws, r, hl with
  | [_, _], [_, _], .cons r1 (.cons r2 .nil), _ => exact ⟨r2, .cons ⟨rfl, r1⟩ .nil⟩
section
variable {P : Program} {w : World} {K : PySem.W.Frag} {mg : Str → Option Value} {base : Heap} {C CM CK CL : Addr}
/-- Session.__init__, as super() calls it -/
def spSupX (K : PySem.W.Frag) (C CM CK CL : Addr) : V → List V → Hp → VK → XK → Prop := fun x zs H Q E => ∀ d, H d = none → spSIX K C CM CK CL [x, limZ .non zs, .ref d] (upd H d (.dK (exK (exZ zs)))) Q E
theorem fk_sinitZ {g : Addr} {kV doc pm cdv ct oc : Value} {an od : Option Addr} {osl : Array (Option Value)} (lk : K.lookup g = some ⟨oc, od, .func (PySem.W.fnOf "__init__" "Session.__init__" (defArgs sSInit) (defBody sSInit) (defScope sSInit) .none kV doc pm an cdv ct), osl⟩) (hcd : PySem.W.codeIn K cdv "Session.__init__" = true)
    (T : SCl K C) (GL : HasX P w K mg base "check_limit" 4 ["limit"] [] (spClX K CM)) (GS : HasX P w K mg base "check_stacks" 4 ["stacks"] [] (spCkX K CK)) (GH : HasX P w K mg base "check_heights" 3 ["stacks", "limit"] [] (spChX K CL)) (GW : Has P w K mg base "without_empty" 1 ["stacks"] [] (spWe K)) :
    FnKw P w K mg base (L2.CX P w) 5 g ["low", "limit"] (spSupX K C CM CK CL) := by
  have hb : BndKw P w K (PySem.W.fnOf "__init__" "Session.__init__" (defArgs sSInit) (defBody sSInit) (defScope sSInit) .none kV doc pm an cdv ct) "self" "limit" "stacks" ["low", "limit"] (limZ .none) exZ := by
    intro u ws hl A' Ex Q' s _ h
    match ws, hl with
    | [wa, wb], _ => exact h
  exact fn_kw2 (limZ .none) (limZ .non) exZ exZ lk hcd scSI StX.cxUp hb (fun ws _ => exZ_ok ws) relZ (body_sinitX T GL GS GH GW)
theorem tkS {N : List Str} {q : Str} {sc : Scope} {f : Addr} {cd : Value} {cc : Addr} {A : Around} {out : List Env} {s : Shared} {H : Hp} {E : XK} : Takes (cxSup (L2.CX P w) P w K mg base N q sc f cd cc A out s H E) (fun cls d _ H => E cls d H) := takes_of rfl rfl rfl rfl
/-! ### Recorder(limit = .., low = ..), which refuses -/
def spRIX (K : PySem.W.Frag) (C CK CL : Addr) : Sp := fun vs H Q E => ∃ (x dx d : Addr) (w : V) (yw : PyData) (l : Lim), vs = [.ref x, limV l, .ref d] ∧ H x = some (.ins C dx []) ∧ H d = some (.dK (lowK w)) ∧ LimOk l ∧ DpX K H w yw ∧ OkD yw ∧
  (wordD yw = false → ∀ (d' : Addr) (H' : Hp), Same H H' → H' d' = some (.dK (lowK w)) → bad CK H' (.ref d') E) ∧
  (wordD yw = true → ∃ (zs : List Str) (t : Addr), w = .ref t ∧ SqT K H t (zs.map V.str) ∧ (∀ z ∈ zs, Item z) ∧ zs.length ≤ 5000 ∧ high l zs.length = true ∧ ∀ e H', Same H H' → H e = none → H' e = some (.xd [("limit", limV l)]) → E (.ref CL) (some e) H')
theorem limB_lim {l : Lim} (h : LimOk l) : ∃ y, limB y = true ∧ ∀ {K : PySem.W.Frag} {H : Hp}, DpX K H (limV l) y := by
  cases l with
  | none => exact ⟨.none, rfl, .non⟩
  | some n =>
    have := h n rfl
    refine ⟨.int (n : Nat), ?_, .int _⟩
    show (decide ((0 : Int) ≤ (n : Nat)) && decide (((n : Nat) : Int) ≤ 1000)) = true
    rw [decide_eq_true (by omega), decide_eq_true (by omega)]
    rfl
theorem body_rinitX {g gs cda cc : Addr} (S : SupOk P K "__init__" g cda cc C gs) (hms : mg "super" = none) (FS : FnKw P w K mg base (L2.CX P w) 5 gs ["low", "limit"] (spSupX K C CM CK CL))
    (A : Around) (outer : List Env) (s : Shared) (H : Hp) (vs : List V) (Q : VK) (E : XK) (hr : Room 5 (A.deeper (PySem.W.ksEnv "Recorder.__init__" (defScope sRInit) s.heap.objs.size g (.ref cda) cc))) (h : spRIX K C CK CL vs H Q E) :
    ∃ t, PAt (cxSup (L2.CX P w) P w K mg base nRI "Recorder.__init__" (defScope sRInit) g (.ref cda) cc A outer s H E) (defBody sRInit) (defBody sRInit) t ∧ t { nx := fun _ H' => Q .non H', rt := Q } (L2.start nRI vs) H := by
  obtain ⟨x, dx, d, w, yw, l, rfl, hx, hd, lok, hw, okw, kK, kL⟩ := h
  refine ⟨_, pat_cons (pa1_of (ps_set (i := 3) (show nRI.Nodup by decide) rfl (.inl rfl) (pe_dmrg (pv 2) pe_str (pv 1)))) (pat_cons (pa_super (i := 0) (E := E) (ok := fun ks => ks = ([("low" : Str), "limit"] : List Str)) (sp := fun _ => spSupX K C CM CK CL) S rfl rfl rfl rfl rfl rfl (by decide) (fun ks e => by rw [e]; exact FS) hr (fun pins σ H s e s' I c => passAt tkS σ pins H s e s' I c) (pv 3) hms) (pat_of (pss_one (ps_fld (pv 0) pe_dnewK rfl)))), ?_⟩
  intro D hD
  have dD : d ≠ D := fun q => by rw [q, hD] at hd; cases hd
  have xD : x ≠ D := fun q => by rw [q, hD] at hx; cases hx
  have nk : ((lowK w).map (·.1)).Nodup := List.nodup_cons.mpr ⟨fun m => (by cases m), .nil⟩
  refine ⟨_, rfl, d, lowK w, rfl, by rw [upd_ne dD]; exact hd, upd_same, Ne.symm dD, nk, fun D2 hD2 => ?_⟩
  have D2D : D2 ≠ D := fun q => by rw [q, upd_same] at hD2; cases hD2
  have hD20 : H D2 = none := by
    rw [upd_ne D2D, upd_ne D2D] at hD2
    exact hD2
  refine ⟨_, rfl, Sum.inr "limit", rfl, by rw [upd_ne (Ne.symm D2D)]; exact upd_same, upd_same, Ne.symm D2D, ?_, ?_, ?_⟩
  · intro z
    rw [show (lowK w).map (·.1) = [(Sum.inr ("low" : Str) : Key)] from rfl] at z
    exact absurd (Sum.inr.inj (List.mem_singleton.mp z)) (by decide)
  · show 1 < sizeLine
    decide
  have ek : lowK w ++ [((Sum.inr "limit" : Key), limV l)] = exK [(("low" : Str), w), ("limit", limV l)] := rfl
  rw [ek]
  -- the heap of given
  have s0 : Same H (upd (upd (upd (upd (upd H D (.dK [])) D (.dK (lowK w))) D2 (.dK [])) D2 (.dK [((Sum.inr "limit" : Key), limV l)])) D (.dK (exK [(("low" : Str), w), ("limit", limV l)]))) := fun c u hc => by
    have c1 : c ≠ D := fun q => by rw [q, hD] at hc; cases hc
    have c2 : c ≠ D2 := fun q => by rw [q, hD20] at hc; cases hc
    rw [upd_ne c1, upd_ne c2, upd_ne c2, upd_ne c1, upd_ne c1]
    exact hc
  have hDg : upd (upd (upd (upd (upd H D (.dK [])) D (.dK (lowK w))) D2 (.dK [])) D2 (.dK [((Sum.inr "limit" : Key), limV l)])) D (.dK (exK [(("low" : Str), w), ("limit", limV l)])) D = some (.dK (exK [(("low" : Str), w), ("limit", limV l)])) := upd_same
  generalize upd (upd (upd (upd (upd H D (.dK [])) D (.dK (lowK w))) D2 (.dK [])) D2 (.dK [((Sum.inr "limit" : Key), limV l)])) D (.dK (exK [(("low" : Str), w), ("limit", limV l)])) = H1 at s0 hDg ⊢
  refine ⟨x, dx, [], rfl, s0 _ _ hx, fun D3 hD3 => ?_⟩
  have DD3 : D ≠ D3 := fun q => by rw [← q, hDg] at hD3; cases hD3
  refine ⟨_, rfl, D, [(("low" : Str), w), ("limit", limV l)], rfl, by rw [upd_ne DD3]; exact hDg, upd_same, Ne.symm DD3, by show [("low" : Str), "limit"].Nodup; decide +kernel, rfl, fun d5 hd5 => ?_⟩
  have s1 : Same H (upd (upd H1 D3 (.dK [])) D3 (.dK (exK [(("low" : Str), w), ("limit", limV l)]))) := fun c u hc => by
    have hc1 := s0 _ _ hc
    have c3 : c ≠ D3 := fun q => by rw [q, hD3] at hc1; cases hc1
    rw [upd_ne c3, upd_ne c3]
    exact hc1
  generalize upd (upd H1 D3 (.dK [])) D3 (.dK (exK [(("low" : Str), w), ("limit", limV l)])) = H2 at s1 hd5 ⊢
  have s2 : Same H (upd H2 d5 (.dK (lowK w))) := s1.trans (Same.new hd5)
  obtain ⟨y, ey, hy⟩ := limB_lim lok
  refine ⟨x, dx, d5, limV l, w, y, yw, rfl, s2 _ _ hx, upd_same, hy, DpX.same s2 _ _ hw, okw, fun e => (by rw [ey] at e; cases e), fun _ e => kK e d5 _ s2 upd_same, fun _ e => ?_⟩
  obtain ⟨zs, t, rfl, hT, zI, zl, hh, kE⟩ := kL e
  exact ⟨zs, l, rfl, lok, ⟨t, rfl, Same.tup s2 hT⟩, zI, zl, fun _ e H' s' he hx' => kE e H' (s2.trans s') (s2.free he) hx', fun z => by rw [hh] at z; cases z⟩
theorem fk_rinitX {g gd gs cda cc : Addr} (R : RFun K g gd cda cc C) (S : SupOk P K "__init__" g cda cc C gs) (hms : mg "super" = none) (FS : FnKw P w K mg base (L2.CX P w) 5 gs ["low", "limit"] (spSupX K C CM CK CL)) :
    FnKw P w K mg base (L2.CX P w) 6 g ["limit", "low"] (fun x zs H Q E => ∀ d, H d = none → spRIX K C CK CL [x, limA .non zs, .ref d] (upd H d (.dK (exK (exA zs)))) Q E) := by
  obtain ⟨oc, od, doc, pm, an, ct, osl, cl, cld, csl, lk, hcd, hcc, hy⟩ := R
  have hb : BndKw P w K (PySem.W.ksFn "__init__" "Recorder.__init__" (defArgs sRInit) (defBody sRInit) (defScope sRInit) .none (.ref gd) doc pm an (.ref cda) ct cc) "self" "limit" "stacks" ["limit", "low"] (limA .none) exA := by
    intro u ws hl A' Ex Q' s _ h
    match ws, hl with
    | [wa, wb], _ => exact h
  exact fn_kwS (limA .none) (limA .non) exA exA lk hcd hcc scRI StX.cxUp hb (fun ws _ => exA_ok ws) relA (body_rinitX S hms FS)
end
end SE
namespace SE
open PySem PySem.Spec PyProof.Rows L2
/-- the classes and their exceptions -/
structure Cs64 where
  S : Addr
  R : Addr
  I : Addr
  W : Addr
  M : Addr
  K : Addr
  L : Addr
  E : Addr
section
variable {P : Program} {w : World} {K : PySem.W.Frag} {mg : Str → Option Value} {base : Heap} {C : Addr} {c : Cs64} {O : Option Addr → Prop}
def badL (CL : Addr) (H : Hp) (v : V) (E : XK) : Prop := ∀ (e : Addr) (H' : Hp), Same H H' → H e = none → H' e = some (.xd [("limit", v)]) → E (.ref CL) (some e) H'
theorem badL.go {CL : Addr} {H H1 : Hp} {v : V} {E : XK} (h : badL CL H v E) (s : Same H H1) : badL CL H1 v E := fun e H' s' n z => h e H' (s.trans s') (s.free n) z
def badK (CK : Addr) (H : Hp) (v : V) (E : XK) : Prop := ∀ (d : Addr) (H' : Hp), Same H H' → H' d = some (.dK (lowK v)) → bad CK H' (.ref d) E
theorem badK.go {CK : Addr} {H H1 : Hp} {v : V} {E : XK} (h : badK CK H v E) (s : Same H H1) : badK CK H1 v E := fun d H' s' z => h d H' (s.trans s') z
/-! ### _law_called, door by door -/
def A01 (K : PySem.W.Frag) (c : Cs64) (dr : Int) (v : V) (H : Hp) (E : XK) : Prop := ∃ (b : Bool) (t : Addr) (v1 v2 : V) (d1 d2 : PyData), dr = (if b = true then 0 else 1) ∧ v = .ref t ∧ SqT K H t [v1, v2] ∧ DpX K H v1 d1 ∧ DpX K H v2 d2 ∧ OkD (stD b d1 d2) ∧ BadN (stD b d1 d2) (.int 0) ∧ badI c.I H (.int 0) E
def A2 (K : PySem.W.Frag) (c : Cs64) (dr : Int) (v : V) (H : Hp) (E : XK) : Prop := dr = 2 ∧ ∃ (y : PyData) (r : V), DpX K H v y ∧ OkD y ∧ BadN y r ∧ badI c.I H r E
def A34 (K : PySem.W.Frag) (c : Cs64) (dr : Int) (v : V) (H : Hp) (E : XK) : Prop := (dr = 3 ∨ dr = 4) ∧ ∃ y : PyData, DpX K H v y ∧ OkD y ∧ itemD y = false ∧ bad c.W H v E
def A5 (K : PySem.W.Frag) (c : Cs64) (dr : Int) (v : V) (H : Hp) (E : XK) : Prop := dr = 5 ∧ ∃ y : PyData, DpX K H v y ∧ limB y = false ∧ bad c.M H v E
def A6 (K : PySem.W.Frag) (c : Cs64) (dr : Int) (v : V) (H : Hp) (E : XK) : Prop := dr = 6 ∧ ∃ y : PyData, DpX K H v y ∧ (limB y = false → bad c.M H v E) ∧ (limB y = true → badK c.K H .non E)
def A7 (K : PySem.W.Frag) (c : Cs64) (dr : Int) (v : V) (H : Hp) (E : XK) : Prop := dr = 7 ∧ ∃ y : PyData, DpX K H v y ∧ OkD y ∧ (wordD y = false → badK c.K H v E) ∧ (wordD y = true → ∃ (zs : List Str) (t : Addr), v = .ref t ∧ SqT K H t (zs.map V.str) ∧ (∀ z ∈ zs, Item z) ∧ zs.length ≤ 5000 ∧ zs ≠ [] ∧ badL c.L H (.int 0) E)
def A8 (K : PySem.W.Frag) (c : Cs64) (dr : Int) (v : V) (H : Hp) (Q : VK) (E : XK) : Prop := dr = 8 ∧ ∃ y : PyData, DpX K H v y ∧ (limB y = false → bad c.M H v E) ∧ (limB y = true → ∃ l : Lim, v = limV l ∧ LimOk l ∧ (high l 3 = true → badL c.L H v E) ∧ (high l 3 = false → ∀ H', Same H H' → Q .non H'))
/-- valid, but refused by the state: perform, set_limit -/
def V2 (K : PySem.W.Frag) (c : Cs64) (C : Addr) (dr : Int) (v : V) (x : Option Addr) (o L : Addr) (ct : Cn) (ss : Sk) (l : Lim) (ds : List Deed) (H : Hp) (E : XK) : Prop := dr = 2 ∧ ∃ (a : Addr) (us : List V) (ns : List NSt) (m b : Nat), v = .ref a ∧ SqL K H a us ∧ us.length ≤ 1000 ∧ NSV K H us ns ∧ (∀ s ∈ ns, NOk s) ∧ SkOk ss m b ∧ m ≤ 90000 ∧ b ≤ 4000 ∧ ds.length ≤ 100000 ∧ ct.length ≤ 100000 ∧ perfS l ns ss = none ∧
  ∀ (j : Nat) (s : NSt) (sj : Sk), ns[j]? = some s → perfS l (ns.take j) ss = some sj → perfS l (ns.take (j + 1)) ss = none → ∀ (d : Addr) (ct' : Cn) (H' : Hp), Keep (ownS o L x) H H' → SesX K C x ct' H' o L ss l ds → H d = none → H' d = some (.xd [("index", .int (j : Int))]) → E (.ref c.E) (some d) H'
def V5 (c : Cs64) (dr : Int) (v : V) (ss : Sk) (ds : List Deed) (H : Hp) (E : XK) : Prop := dr = 5 ∧ ∃ (l2 : Lim) (m b : Nat), v = limV l2 ∧ LimOk l2 ∧ SkOk ss m b ∧ m ≤ 100000 ∧ ds.length ≤ 100000 ∧ (∃ p ∈ ss, high l2 p.2.length = true) ∧ badL c.L H v E
def spCa (K : PySem.W.Frag) (c : Cs64) (C : Addr) (O : Option Addr → Prop) : Sp := fun vs H Q E => ∃ (dr : Int) (x : Option Addr) (o L : Addr) (v : V) (ct : Cn) (ss : Sk) (l : Lim) (ds : List Deed), O x ∧ vs = [.int dr, .ref o, v] ∧ SesX K C x ct H o L ss l ds ∧
  (A01 K c dr v H E ∨ A2 K c dr v H E ∨ A34 K c dr v H E ∨ A5 K c dr v H E ∨ A6 K c dr v H E ∨ A7 K c dr v H E ∨ A8 K c dr v H Q E ∨ V2 K c C dr v x o L ct ss l ds H E ∨ V5 c dr v ss ds H E)
abbrev nCa : List Str := ["_law_door", "_law_session", "_law_what"]
theorem scCa : FnScope nCa nCa (defScope sLawCalled) := ⟨rfl, rfl, rfl, by decide +kernel, rfl, by decide +kernel, by decide +kernel⟩
/-- what the two classes promise when they are called with limit and low -/
structure Mk64 (P : Program) (w : World) (K : PySem.W.Frag) (mg : Str → Option Value) (base : Heap) (c : Cs64) : Prop where
  S : ∃ f, Mk K c.S f ∧ FnKw P w K mg base (L2.CX P w) 5 f ["limit", "low"] (fun x zs H Q E => ∀ d, H d = none → spSIX K c.S c.M c.K c.L [x, limA .non zs, .ref d] (upd H d (.dK (exK (exA zs)))) Q E)
  R : ∃ f, Mk K c.R f ∧ FnKw P w K mg base (L2.CX P w) 6 f ["limit", "low"] (fun x zs H Q E => ∀ d, H d = none → spRIX K c.R c.K c.L [x, limA .non zs, .ref d] (upd H d (.dK (exK (exA zs)))) Q E)
theorem made_same {H : Hp} {b db d C : Addr} {u : HO} (hb : H b = none) (hdb : H db = none) (ne : db ≠ b) (hd : upd (upd H db (.own b)) b (.ins C db []) d = none) : Same H (upd (upd (upd H db (.own b)) b (.ins C db [])) d u) := by
  have s1 : Same H (upd H db (.own b)) := Same.new hdb
  have hb1 : upd H db (.own b) b = none := by rw [upd_ne (Ne.symm ne)]; exact hb
  exact (s1.trans (Same.new hb1)).trans (Same.new hd)
theorem stepF {a b : Int} {A B : Prop} (h : a ≠ b) (k : B) : if decide (V.int a = V.int b) = true then A else B := by
  rw [decide_eq_false (fun q => h (V.int.inj q))]
  exact iteF k
theorem stepT {a : Int} {A B : Prop} (k : A) : if decide (V.int a = V.int a) = true then A else B := by
  rw [decide_eq_true rfl]
  exact iteT k
theorem same_made {H H1 H2 : Hp} {o : Addr} (s : Same H H1) (ho : H o = none) (k : ∀ b u, H1 b = some u → b ≠ o → H2 b = some u) : Same H H2 := fun b u hb => k b u (s b u hb) (fun e => by rw [e, ho] at hb; cases hb)
theorem hasX_ca (D : Def K mg "_law_called" sLawCalled) (T : SCl K C) (MK : Mk64 P w K mg base c) (mS : mg "Session" = some (.ref c.S)) (mR : mg "Recorder" = some (.ref c.R))
    (PU : MethHasX P w K mg base C "push" 6 ["self", "name", "item"] (anyX O fun x => spPpX K C c.I x true)) (PO : MethHasX P w K mg base C "pop" 6 ["self", "name", "item"] (anyX O fun x => spPpX K C c.I x false))
    (PF : MethHasX P w K mg base C "perform" 5 ["self", "steps"] (fun vs H Q E => spPfB K c.I vs H Q E ∨ anyX O (spPf K C c.E) vs H Q E)) (ST : MethHasX P w K mg base C "stack" 4 ["self", "name"] (anyX O (spStB K C c.W))) (EF : MethHasX P w K mg base C "effect" 4 ["self", "name"] (anyX O (spStB K C c.W)))
    (SL : MethHasX P w K mg base C "set_limit" 5 ["self", "value"] (fun vs H Q E => anyX O (spSlB K C c.M) vs H Q E ∨ anyX O (spSl K C c.L) vs H Q E)) : HasX P w K mg base "_law_called" 8 nCa [] (spCa K c C O) := by
  obtain ⟨⟨fS, MS, FS⟩, ⟨fR, MR, FR⟩⟩ := MK
  refine hasX_of D scCa (fun _ _ _ _ _ _ us hl => match us, hl with | [_, _, _], _ => rfl) (fun xs H Q E h => ?_) (fun f cv A out s H xs Q E hr h => ?_)
  · obtain ⟨dr, x, o, L, v, ct, ss, l, ds, _, rfl, _⟩ := h
    rfl
  · obtain ⟨dr, x, o, L, v, ct, ss, l, ds, hx, rfl, hs, h⟩ := h
    have hr4 : Room 4 _ := hr.mono (by decide)
    have hr5 : Room 5 _ := hr.mono (by decide)
    have hr6 : Room 6 _ := hr.mono (by decide)
    refine ⟨_, pss_one (ps_if (pt_cmpR op_eq (pv 0) pe_int (nomark _)) (pss_one (ps_expr (pe_mX PU (fun σ => passAt tkX σ) (pv 1) T.cl hr6 (pa_cons (pe_ix ix_tup (pv 2) pe_int (fun _ _ => rfl)) (pa_cons (pe_ix ix_tup (pv 2) pe_int (fun _ _ => rfl)) pa_nil)))))
      (pss_one (ps_if (pt_cmpR op_eq (pv 0) pe_int (nomark _)) (pss_one (ps_expr (pe_mX PO (fun σ => passAt tkX σ) (pv 1) T.cl hr6 (pa_cons (pe_ix ix_tup (pv 2) pe_int (fun _ _ => rfl)) (pa_cons (pe_ix ix_tup (pv 2) pe_int (fun _ _ => rfl)) pa_nil)))))
      (pss_one (ps_if (pt_cmpR op_eq (pv 0) pe_int (nomark _)) (pss_one (ps_expr (pe_mX PF (fun σ => passAt tkX σ) (pv 1) T.cl hr5 (pa_cons (pv 2) pa_nil))))
      (pss_one (ps_if (pt_cmpR op_eq (pv 0) pe_int (nomark _)) (pss_one (ps_expr (pe_mX ST (fun σ => passAt tkX σ) (pv 1) T.cl hr4 (pa_cons (pv 2) pa_nil))))
      (pss_one (ps_if (pt_cmpR op_eq (pv 0) pe_int (nomark _)) (pss_one (ps_expr (pe_mX EF (fun σ => passAt tkX σ) (pv 1) T.cl hr4 (pa_cons (pv 2) pa_nil))))
      (pss_one (ps_if (pt_cmpR op_eq (pv 0) pe_int (nomark _)) (pss_one (ps_expr (pe_mX SL (fun σ => passAt tkX σ) (pv 1) T.cl hr5 (pa_cons (pv 2) pa_nil))))
      (pss_one (ps_if (pt_cmpR op_eq (pv 0) pe_int (nomark _)) (pss_one (ps_expr (pe_makeKw MS FS hr6 mS (fun σ => passAt tkX σ) (pk_cons (pv 2) (pk_cons pe_non pk_nil)))))
      (pss_one (ps_if (pt_cmpR op_eq (pv 0) pe_int (nomark _)) (pss_one (ps_expr (pe_makeKw MR FR hr mR (fun σ => passAt tkX σ) (pk_cons pe_int (pk_cons (pv 2) pk_nil)))))
      (pss_one (ps_expr (pe_makeKw MS FS hr6 mS (fun σ => passAt tkX σ) (pk_cons (pv 2) (pk_cons (pe_tup (pa_cons pe_str (pa_cons pe_str (pa_cons pe_str pa_nil)))) pk_nil)))))))))))))))))))), ?_⟩
    obtain ⟨dx, F1, ws1, i1, _⟩ := hs.ex
    have hb : ∀ {Hm : Hp} {b d : Addr} {u v : HO}, Hm b = some u → Hm d = none → upd Hm d v b = some u := fun {Hm b d u v} h1 h2 => by rw [upd_ne (fun e => by rw [e, h2] at h1; cases h1)]; exact h1
    rcases h with h | h | h | h | h | h | h | h | h
    · obtain ⟨b, t, v1, v2, d1, d2, rfl, rfl, hT, h1, h2, ok, bn, bi⟩ := h
      cases b with
      | true => exact ⟨_, rfl, rfl, _, rfl, stepT ⟨_, rfl, o, dx, _, rfl, i1, sX_none (by decide) (by decide) (by decide) (by decide), _, rfl, t, _, 0, _, rfl, rfl, hT, atI_nat (j := 0) rfl, _, rfl, t, _, 1, _, rfl, rfl, hT, atI_nat (j := 1) rfl, ⟨x, hx⟩, o, L, v1, v2, d1, d2, ct, ss, l, ds, rfl, hs, h1, h2, ok, bn, bi⟩⟩
      | false => exact ⟨_, rfl, rfl, _, rfl, stepF (by decide) ⟨_, rfl, rfl, _, rfl, stepT ⟨_, rfl, o, dx, _, rfl, i1, sX_none (by decide) (by decide) (by decide) (by decide), _, rfl, t, _, 0, _, rfl, rfl, hT, atI_nat (j := 0) rfl, _, rfl, t, _, 1, _, rfl, rfl, hT, atI_nat (j := 1) rfl, ⟨x, hx⟩, o, L, v1, v2, d1, d2, ct, ss, l, ds, rfl, hs, h1, h2, ok, bn, bi⟩⟩⟩
    · obtain ⟨rfl, y, r, hy, ok, bn, bi⟩ := h
      exact ⟨_, rfl, rfl, _, rfl, stepF (by decide) ⟨_, rfl, rfl, _, rfl, stepF (by decide) ⟨_, rfl, rfl, _, rfl, stepT ⟨_, rfl, o, dx, _, rfl, i1, sX_none (by decide) (by decide) (by decide) (by decide), _, rfl, .inl ⟨o, v, y, r, rfl, hy, ok, bn, bi⟩⟩⟩⟩⟩
    · obtain ⟨hd, y, hy, ok, e, kb⟩ := h
      rcases hd with rfl | rfl
      · exact ⟨_, rfl, rfl, _, rfl, stepF (by decide) ⟨_, rfl, rfl, _, rfl, stepF (by decide) ⟨_, rfl, rfl, _, rfl, stepF (by decide) ⟨_, rfl, rfl, _, rfl, stepT ⟨_, rfl, o, dx, _, rfl, i1, sX_none (by decide) (by decide) (by decide) (by decide), _, rfl, ⟨x, hx⟩, o, L, v, y, ct, ss, l, ds, rfl, hs, hy, ok, e, kb⟩⟩⟩⟩⟩
      · exact ⟨_, rfl, rfl, _, rfl, stepF (by decide) ⟨_, rfl, rfl, _, rfl, stepF (by decide) ⟨_, rfl, rfl, _, rfl, stepF (by decide) ⟨_, rfl, rfl, _, rfl, stepF (by decide) ⟨_, rfl, rfl, _, rfl, stepT ⟨_, rfl, o, dx, _, rfl, i1, sX_none (by decide) (by decide) (by decide) (by decide), _, rfl, ⟨x, hx⟩, o, L, v, y, ct, ss, l, ds, rfl, hs, hy, ok, e, kb⟩⟩⟩⟩⟩⟩
    · obtain ⟨rfl, y, hy, e, kb⟩ := h
      exact ⟨_, rfl, rfl, _, rfl, stepF (by decide) ⟨_, rfl, rfl, _, rfl, stepF (by decide) ⟨_, rfl, rfl, _, rfl, stepF (by decide) ⟨_, rfl, rfl, _, rfl, stepF (by decide) ⟨_, rfl, rfl, _, rfl, stepF (by decide) ⟨_, rfl, rfl, _, rfl, stepT ⟨_, rfl, o, dx, _, rfl, i1, sX_none (by decide) (by decide) (by decide) (by decide), _, rfl, .inl ⟨⟨x, hx⟩, o, L, v, y, ct, ss, l, ds, rfl, hs, hy, e, kb⟩⟩⟩⟩⟩⟩⟩⟩
    · obtain ⟨rfl, y, hy, kM, kK⟩ := h
      refine ⟨_, rfl, rfl, _, rfl, stepF (by decide) ⟨_, rfl, rfl, _, rfl, stepF (by decide) ⟨_, rfl, rfl, _, rfl, stepF (by decide) ⟨_, rfl, rfl, _, rfl, stepF (by decide) ⟨_, rfl, rfl, _, rfl, stepF (by decide) ⟨_, rfl, rfl, _, rfl, stepF (by decide) ⟨_, rfl, rfl, _, rfl, stepT ⟨_, rfl, rfl, fun b db hbn hdb ne d hd => ?_⟩⟩⟩⟩⟩⟩⟩⟩
      have s := made_same (C := c.S) (u := .dK (exK (exA [v, .non]))) hbn hdb ne hd
      exact ⟨b, db, d, v, .non, y, .none, rfl, hb upd_same hd, upd_same, DpX.same s y v hy, .non, ⟨by decide +kernel, by decide +kernel, by decide +kernel, by decide +kernel, by decide +kernel⟩, fun e => (kM e).go s, fun e1 e2 => kK e1 d _ s upd_same, fun _ e => (by cases e)⟩
    · obtain ⟨rfl, y, hy, ok, kK, kL⟩ := h
      refine ⟨_, rfl, rfl, _, rfl, stepF (by decide) ⟨_, rfl, rfl, _, rfl, stepF (by decide) ⟨_, rfl, rfl, _, rfl, stepF (by decide) ⟨_, rfl, rfl, _, rfl, stepF (by decide) ⟨_, rfl, rfl, _, rfl, stepF (by decide) ⟨_, rfl, rfl, _, rfl, stepF (by decide) ⟨_, rfl, rfl, _, rfl, stepF (by decide) ⟨_, rfl, rfl, _, rfl, stepT ⟨_, rfl, rfl, fun b db hbn hdb ne d hd => ?_⟩⟩⟩⟩⟩⟩⟩⟩⟩
      have s := made_same (C := c.R) (u := .dK (exK (exA [.int 0, v]))) hbn hdb ne hd
      refine ⟨b, db, d, v, y, some 0, rfl, hb upd_same hd, upd_same, fun n e => (by cases e; decide), DpX.same s y v hy, ok, fun e d' H' s' hd' => kK e d' H' (s.trans s') hd', fun e => ?_⟩
      obtain ⟨zs, t, rfl, hT, zI, zl, zne, kb⟩ := kL e
      refine ⟨zs, t, rfl, Same.tup s hT, zI, zl, ?_, kb.go s⟩
      cases zs with
      | nil => exact (zne rfl).elim
      | cons z r =>
        show decide (0 < (z :: r).length) = true
        exact decide_eq_true (by rw [List.length_cons]; exact Nat.succ_pos _)
    · obtain ⟨rfl, y, hy, kM, kO⟩ := h
      refine ⟨_, rfl, rfl, _, rfl, stepF (by decide) ⟨_, rfl, rfl, _, rfl, stepF (by decide) ⟨_, rfl, rfl, _, rfl, stepF (by decide) ⟨_, rfl, rfl, _, rfl, stepF (by decide) ⟨_, rfl, rfl, _, rfl, stepF (by decide) ⟨_, rfl, rfl, _, rfl, stepF (by decide) ⟨_, rfl, rfl, _, rfl, stepF (by decide) ⟨_, rfl, rfl, _, rfl, stepF (by decide) ⟨_, rfl, by show 3 ≤ sizeLine; decide, fun t ht => ⟨rfl, fun b db hbn hdb ne d hd => ?_⟩⟩⟩⟩⟩⟩⟩⟩⟩⟩
      have s0 : Same H (upd H t (.tup [.str "a", .str "b", .str "c"])) := Same.new ht
      have s1 := made_same (C := c.S) (u := .dK (exK (exA [v, .ref t]))) hbn hdb ne hd
      have s := s0.trans s1
      have hT : SqT K (upd (upd (upd (upd H t (.tup [.str "a", .str "b", .str "c"])) db (.own b)) b (.ins c.S db [])) d (.dK (exK (exA [v, .ref t])))) t [.str "a", .str "b", .str "c"] := .of (s1 _ _ upd_same)
      have abc : ∀ z ∈ (["a", "b", "c"] : List Str), Item z := fun z m => by
        rcases List.mem_cons.mp m with rfl | m
        · exact ⟨by decide +kernel, by decide +kernel, by decide +kernel⟩
        rcases List.mem_cons.mp m with rfl | m
        · exact ⟨by decide +kernel, by decide +kernel, by decide +kernel⟩
        · rw [List.mem_singleton.mp m]
          exact ⟨by decide +kernel, by decide +kernel, by decide +kernel⟩
      refine ⟨b, db, d, v, .ref t, y, .tuple [.str "a", .str "b", .str "c"], rfl, hb upd_same hd, upd_same, DpX.same s y v hy, .tup hT (.cons (.str _) (.cons (.str _) (.cons (.str _) .nil))), ⟨by decide +kernel, by decide +kernel, by decide +kernel, by decide +kernel, by decide +kernel⟩, fun e => (kM e).go s, fun _ e => absurd e (by decide +kernel), fun e _ => ?_⟩
      obtain ⟨l2, rfl, lk, kL, kQ⟩ := kO e
      exact ⟨["a", "b", "c"], l2, rfl, lk, ⟨t, rfl, hT⟩, abc, by decide, fun hh => (kL hh).go s, fun hh L2 H' hk hL2 hs2 => ⟨rfl, kQ hh H' (same_made s (s0.free hbn) hk)⟩⟩
    · obtain ⟨rfl, a, us, ns, m, b, rfl, hL, hl, hN, hI, ok, hm, hb2, hdl, hct, hno, k⟩ := h
      exact ⟨_, rfl, rfl, _, rfl, stepF (by decide) ⟨_, rfl, rfl, _, rfl, stepF (by decide) ⟨_, rfl, rfl, _, rfl, stepT ⟨_, rfl, o, dx, _, rfl, i1, sX_none (by decide) (by decide) (by decide) (by decide), _, rfl, .inr ⟨⟨x, hx⟩, o, L, a, ct, ss, l, ds, us, ns, m, b, rfl, hs, .inl hL, hl, hN, hI, ok, hm, hb2, hdl, hct, fun ss2 hp => (by rw [hno] at hp; cases hp), fun j s sj q1 q2 q3 d H' kk hs' hd hxd => k j s sj q1 q2 q3 d _ H' kk hs' hd hxd⟩⟩⟩⟩⟩
    · obtain ⟨rfl, l2, m, b, rfl, lk, ok, hm, hdl, hh, kb⟩ := h
      exact ⟨_, rfl, rfl, _, rfl, stepF (by decide) ⟨_, rfl, rfl, _, rfl, stepF (by decide) ⟨_, rfl, rfl, _, rfl, stepF (by decide) ⟨_, rfl, rfl, _, rfl, stepF (by decide) ⟨_, rfl, rfl, _, rfl, stepF (by decide) ⟨_, rfl, rfl, _, rfl, stepT ⟨_, rfl, o, dx, _, rfl, i1, sX_none (by decide) (by decide) (by decide) (by decide), _, rfl, .inr ⟨⟨x, hx⟩, o, L, ct, ss, l, l2, ds, m, b, rfl, hs, lk, ok, hm, hdl, fun hn => (by obtain ⟨p, mp, hp⟩ := hh; rw [hn p mp] at hp; cases hp), fun _ e H' s' he hex => kb e H' s' he hex⟩⟩⟩⟩⟩⟩⟩⟩
end
end SE
/-! repr of plain data and of the dict {"a": 1}. -/
namespace SE
open PySem PySem.Spec PyProof.Rows L2
section
variable {X : Cx} {pins : List (Addr × Obj)} {σ : L2.St} {H H' : Hp} {s : Shared} {K : PySem.W.Frag}
abbrev oneD : HO := .dK [(.inr "a", .int 1)]
def oneE : Str := reprText "a" ++ ": " ++ toString (1 : Int)
def oneT : Str := dictText [oneE]
theorem one_obj (I : Inv X pins σ H s) {a : Addr} (e : H a = some oneD) : (a == sysModules) = false ∧ ∃ o n es, s.heap.get? a = some o ∧ o.cls = .type "dict" ∧ o.data = .dict es n ∧ ∃ d t1 t2, es.toList = [d] ∧ d.key = .str "a" t1 ∧ d.val = .int 1 t2 := by
  obtain ⟨_, hd, vs, rel, o, es, ep, h1, h2, h3, h4, h5, h6⟩ := dk_of I.hok e
  cases rel with
  | @cons _ q _ _ hh ht =>
    cases ht
    obtain ⟨hk, hv⟩ := hh
    refine ⟨hd, o, ep, es, h1, h2.1, h3, ?_⟩
    obtain ⟨qk, qv⟩ := q
    dsimp only at hk hv
    subst hk
    obtain ⟨t2, rfl⟩ := hv
    generalize es.toList = l at h5
    cases h5 with
    | @cons d _ _ _ g1 g2 g3 =>
      cases g3
      rcases keyIs_shape (k := Sum.inr ("a" : Str)) (v := d.key) g1 with ⟨i, t, e1, e2⟩ | ⟨x, t, e1, e2⟩
      · cases e1
      · cases e1
        exact ⟨d, t, t2, rfl, e2, g2⟩
/-- the text of a value's repr -/
def RepT (K : PySem.W.Frag) (H : Hp) (x : V) (t : Str) : Prop :=
  (∃ d, DpX K H x d ∧ d.showable = true ∧ d.depth ≤ 20 ∧ d.shown.length ≤ sizeLine ∧ t = d.shown) ∨ (∃ a, x = .ref a ∧ H a = some oneD ∧ t = oneT) ∨ ∃ i : Int, x = .int i ∧ i.natAbs.log2 < 1920 ∧ t = toString i
theorem RepT.same {x : V} {t : Str} (s : Same H H') (h : RepT K H x t) : RepT K H' x t := by
  rcases h with ⟨d, h1, h2⟩ | ⟨a, h1, h2, h3⟩ | h
  · exact .inl ⟨d, DpX.same s d x h1, h2⟩
  · exact .inr (.inl ⟨a, h1, s _ _ h2, h3⟩)
  · exact .inr (.inr h)
def rRepO (K : PySem.W.Frag) : List V → Hp → VK → Prop := fun xs H Q => ∃ (x : V) (t : Str), xs = [x] ∧ RepT K H x t ∧ Q (.str t) H
theorem call_repO (hgu : X.A.guards = some []) (hu : X.A.units + 64 < cLine) : CallR X (.builtin "repr") (rRepO X.K) := by
  intro pins s σ H xs us Q I r h
  obtain ⟨x, t, rfl, ht, q⟩ := h
  rcases ht with ⟨d, h1, h2, h3, h4, rfl⟩ | ⟨a, rfl, e, rfl⟩ | ⟨i, rfl, hi, rfl⟩
  · exact call_repX hgu hu pins s σ H _ us Q I r ⟨x, d, rfl, h1, h2, h3, h4, q⟩
  · cases r with
    | cons r1 r2 =>
      cases r2
      cases r1
      obtain ⟨hsys, o, n, es, h1, h2, h3, d, t1, t2, hes, hk, hv⟩ := one_obj I e
      have hE : ReprEntriesK X.prog X.w [] s.heap 1 es.toList [oneE] := by
        rw [hes]
        refine .cons ?_ ?_ .nil
        · rw [hk]
          exact .of_is (ReprIs.str "a" t1 (by decide +kernel)) _ _ _
        · rw [hv]
          exact .of_is (ReprIs.int t2 (by decide +kernel)) _ _ _
      refine call_repr_slot (T := "dict") (by omega) ⟨o, h1, h2⟩ PySem.F.slot_dict_repr ?_
      exact call_dict_reprK h1 h2 h3 hsys (by simp) hE (A := X.A.in1) hgu (fun b _ => Clear.nil b) (by show X.A.units + 1 + _ < cLine; omega) (fun _ _ z => z) (fun h' u tk keep => ⟨_, _, rfl, .str _, H, I.kept (t' := tk) keep, ⟨_, rfl⟩, q⟩) (by decide +kernel)
  · cases r with
    | cons r1 r2 =>
      cases r2
      obtain ⟨t, rfl⟩ := r1
      exact PySem.P.repr_of_int hi ⟨.str _, H, I.tok _, ⟨_, rfl⟩, q⟩
end
end SE
/-! repr of plain data and of {"low": plain data}. -/
namespace SE
open PySem PySem.Spec PyProof.Rows L2
section
variable {X : Cx} {pins : List (Addr × Obj)} {σ : L2.St} {H H' : Hp} {s : Shared} {K : PySem.W.Frag}
def lowT (y : PyData) : Str := dictText [reprText "low" ++ ": " ++ y.shown]
theorem low_obj (I : Inv X pins σ H s) {a : Addr} {v : V} (e : H a = some (.dK [(.inr "low", v)])) : (a == sysModules) = false ∧ ∃ o n es, s.heap.get? a = some o ∧ o.cls = .type "dict" ∧ o.data = .dict es n ∧ ∃ d t1, es.toList = [d] ∧ d.key = .str "low" t1 ∧ RelV v d.val := by
  obtain ⟨_, hd, vs, rel, o, es, ep, h1, h2, h3, h4, h5, h6⟩ := dk_of I.hok e
  cases rel with
  | @cons _ q _ _ hh ht =>
    cases ht
    obtain ⟨hk, hv⟩ := hh
    refine ⟨hd, o, ep, es, h1, h2.1, h3, ?_⟩
    obtain ⟨qk, qv⟩ := q
    dsimp only at hk hv
    subst hk
    generalize es.toList = l at h5
    cases h5 with
    | @cons d _ _ _ g1 g2 g3 =>
      cases g3
      rcases keyIs_shape (k := Sum.inr ("low" : Str)) (v := d.key) g1 with ⟨i, t, e1, e2⟩ | ⟨x, t, e1, e2⟩
      · cases e1
      · cases e1
        exact ⟨d, t, rfl, e2, by rw [g2]; exact hv⟩
def RepL (K : PySem.W.Frag) (H : Hp) (x : V) (t : Str) : Prop :=
  (∃ d, DpX K H x d ∧ d.showable = true ∧ d.depth ≤ 20 ∧ d.shown.length ≤ sizeLine ∧ t = d.shown) ∨ ∃ (a : Addr) (v : V) (y : PyData), x = .ref a ∧ H a = some (.dK [(.inr "low", v)]) ∧ DpX K H v y ∧ y.showable = true ∧ y.depth ≤ 15 ∧ y.shown.length ≤ sizeLine ∧ (lowT y).length ≤ sizeLine ∧ t = lowT y
def rRepL (K : PySem.W.Frag) : List V → Hp → VK → Prop := fun xs H Q => ∃ (x : V) (t : Str), xs = [x] ∧ RepL K H x t ∧ Q (.str t) H
theorem call_repL (hgu : X.A.guards = some []) (hu : X.A.units + 64 < cLine) : CallR X (.builtin "repr") (rRepL X.K) := by
  intro pins s σ H xs us Q I r h
  obtain ⟨x, t, rfl, ht, q⟩ := h
  rcases ht with ⟨d, h1, h2, h3, h4, rfl⟩ | ⟨a, v, y, rfl, e, hy, h2, h3, h4, h5, rfl⟩
  · exact call_repX hgu hu pins s σ H _ us Q I r ⟨x, d, rfl, h1, h2, h3, h4, q⟩
  · cases r with
    | cons r1 r2 =>
      cases r2
      cases r1
      obtain ⟨hsys, o, n, es, g1, g2, g3, d, t1, hes, hk, hv⟩ := low_obj I e
      obtain ⟨as, hr⟩ := DpX.reads I y v d.val hy hv
      obtain ⟨bs, hb, kk⟩ := DpX.reprK I y v d.val hy hv h2 h4
      have rr : Reads s.heap (.ref a) (.dict [(.str "low", y)]) _ := .dict (kvs := [(.str "low", y)]) g1 g2 g3 (by rw [hes, List.map_cons, List.map_nil, hk]; exact .cons (.str "low" t1) .nil) (by rw [hes]; exact .cons hr .nil)
      have hna : a ∉ bs := not_mem_of_deeper rr (by simp only [PyData.depth, PyData.depthKv]; omega) hb
      have hE : ReprEntriesK X.prog X.w bs s.heap (y.depth + 1) es.toList [reprText "low" ++ ": " ++ y.shown] := by
        rw [hes]
        refine .cons ?_ (kk.level_le (Nat.le_succ _)) .nil
        rw [hk]
        exact .of_is (ReprIs.str "low" t1 (by decide +kernel)) _ _ _
      refine call_repr_slot (T := "dict") (by omega) ⟨o, g1, g2⟩ PySem.F.slot_dict_repr ?_
      exact call_dict_reprK g1 g2 g3 hsys hna hE (A := X.A.in1) hgu (fun b _ => Clear.nil b) (by show X.A.units + 1 + _ < cLine; omega) (fun _ _ z => z) (fun h' u tk keep => ⟨_, _, rfl, .str _, H, I.kept (t' := tk) keep, ⟨_, rfl⟩, q⟩) h5
end
end SE
namespace SE
open PySem PySem.Spec PyProof.Rows L2
section
variable {P : Program} {w : World} {K : PySem.W.Frag} {mg : Str → Option Value} {base : Heap} {C : Addr} {c : Cs64} {O : Option Addr → Prop} {bE bL : List Value}
theorem te64 {x q f : Str} {A : Addr} {bm : List Value} (T : XvC P w K mg base x q f A bm) : PySem.W.exmOne K (.ref A) (.ref A) = some true :=
  PySem.W.exm_ref T.xf.exC T.xf.hdC T.tC (by rw [sub_mr T.mr]; simp)
/-- a new list of these -/
def outL (Q : VK) (H : Hp) (vs : List V) : Prop := ∀ (l : Addr) (H' : Hp), Same H H' → H l = none → H' l = some (.lst vs) → Q (.ref l) H'
theorem outL.go {Q : VK} {H H' : Hp} {vs : List V} (h : outL Q H vs) (s : Same H H') : outL Q H' vs := fun l H2 s2 n e => h l H2 (s.trans s2) (s.free n) e
theorem outL.new {Q : VK} {H : Hp} {vs : List V} (h : outL Q H vs) {l : Addr} (n : H l = none) : Q (.ref l) (upd H l (.lst vs)) := h l _ (Same.new n) n upd_same
def vlE (K : PySem.W.Frag) (Q : VK) (z : Str) (H : Hp) (d : Addr) : Prop := ∃ (v : V) (t : Str), H d = some (.xd [("value", v)]) ∧ RepL K H v t ∧ outL Q H [.str z, .str t]
def flE (Q : VK) (z f : Str) (H : Hp) (d : Addr) : Prop := ∃ v : V, H d = some (.xd [(f, v)]) ∧ outL Q H [.str z, v]
/-- what is told of an exception -/
def ToE (K : PySem.W.Frag) (c : Cs64) (Q : VK) : XK := fun cv oe H => ∃ d : Addr, oe = some d ∧
  ((cv = .ref c.I ∧ flE Q "steps" "index" H d) ∨ (cv = .ref c.W ∧ vlE K Q "word" H d) ∨ (cv = .ref c.M ∧ vlE K Q "number" H d) ∨ (cv = .ref c.K ∧ vlE K Q "stacks" H d) ∨ (cv = .ref c.L ∧ flE Q "limit" "limit" H d) ∨ (cv = .ref c.E ∧ flE Q "failed" "index" H d))
theorem spCa.mono {vs : List V} {H : Hp} {Q Q' : VK} {E E' : XK} (h : spCa K c C O vs H Q E) (hQ : ∀ x H', Q x H' → Q' x H') (hE : ∀ a b H', E a b H' → E' a b H') : spCa K c C O vs H Q' E' := by
  have b1 : ∀ {A : Addr} {H : Hp} {v : V}, bad A H v E → bad A H v E' := fun k d H' s n z => hE _ _ _ (k d H' s n z)
  have b2 : ∀ {A : Addr} {H : Hp} {v : V}, badI A H v E → badI A H v E' := fun k d H' s n z => hE _ _ _ (k d H' s n z)
  have b3 : ∀ {A : Addr} {H : Hp} {v : V}, badL A H v E → badL A H v E' := fun k d H' s n z => hE _ _ _ (k d H' s n z)
  have b4 : ∀ {A : Addr} {H : Hp} {v : V}, badK A H v E → badK A H v E' := fun k d H' s n => b1 (k d H' s n)
  obtain ⟨dr, x, o, L, v, ct, ss, l, ds, hx, rfl, hs, h⟩ := h
  refine ⟨dr, x, o, L, v, ct, ss, l, ds, hx, rfl, hs, ?_⟩
  rcases h with h | h | h | h | h | h | h | h | h
  · obtain ⟨b, t, v1, v2, d1, d2, e1, e2, hT, h1, h2, ok, bn, bi⟩ := h
    exact .inl ⟨b, t, v1, v2, d1, d2, e1, e2, hT, h1, h2, ok, bn, b2 bi⟩
  · obtain ⟨e, y, r, hy, ok, bn, bi⟩ := h
    exact .inr (.inl ⟨e, y, r, hy, ok, bn, b2 bi⟩)
  · obtain ⟨e, y, hy, ok, e2, kb⟩ := h
    exact .inr (.inr (.inl ⟨e, y, hy, ok, e2, b1 kb⟩))
  · obtain ⟨e, y, hy, e2, kb⟩ := h
    exact .inr (.inr (.inr (.inl ⟨e, y, hy, e2, b1 kb⟩)))
  · obtain ⟨e, y, hy, kM, kK⟩ := h
    exact .inr (.inr (.inr (.inr (.inl ⟨e, y, hy, fun q => b1 (kM q), fun q => b4 (kK q)⟩))))
  · obtain ⟨e, y, hy, ok, kK, kL⟩ := h
    refine .inr (.inr (.inr (.inr (.inr (.inl ⟨e, y, hy, ok, fun q => b4 (kK q), fun q => ?_⟩)))))
    obtain ⟨zs, t, e1, hT, zI, zl, zne, kb⟩ := kL q
    exact ⟨zs, t, e1, hT, zI, zl, zne, b3 kb⟩
  · obtain ⟨e, y, hy, kM, kO⟩ := h
    refine .inr (.inr (.inr (.inr (.inr (.inr (.inl ⟨e, y, hy, fun q => b1 (kM q), fun q => ?_⟩))))))
    obtain ⟨l2, e1, lk, kL, kQ⟩ := kO q
    exact ⟨l2, e1, lk, fun q => b3 (kL q), fun q H' s => hQ _ _ (kQ q H' s)⟩
  · obtain ⟨e, a, us, ns, m, b, e1, hL, hl, hN, hI, ok, hm, hb2, hdl, hct, hno, k⟩ := h
    exact .inr (.inr (.inr (.inr (.inr (.inr (.inr (.inl ⟨e, a, us, ns, m, b, e1, hL, hl, hN, hI, ok, hm, hb2, hdl, hct, hno, fun j s sj q1 q2 q3 d ct' H' kk hs' hd hxd => hE _ _ _ (k j s sj q1 q2 q3 d ct' H' kk hs' hd hxd)⟩)))))))
  · obtain ⟨e, l2, m, b, e1, lk, ok, hm, hdl, hh, kb⟩ := h
    exact .inr (.inr (.inr (.inr (.inr (.inr (.inr (.inr ⟨e, l2, m, b, e1, lk, ok, hm, hdl, hh, b3 kb⟩)))))))
structure To64 (P : Program) (w : World) (K : PySem.W.Frag) (mg : Str → Option Value) (base : Heap) (c : Cs64) (bE bL : List Value) : Prop where
  xi : XcC P w K mg base "InvalidSteps" "index" c.I
  xw : XcC P w K mg base "InvalidWord" "value" c.W
  xm : XcC P w K mg base "InvalidNumber" "value" c.M
  xk : XcC P w K mg base "InvalidStacks" "value" c.K
  xl : XvC P w K mg base "LimitExceeded" "LimitExceeded.__init__" "limit" c.L bL
  xe : XvC P w K mg base "StepFailed" "StepFailed.__init__" "index" c.E bE
  wi : PySem.W.exmOne K (.ref c.W) (.ref c.I) = some false
  mi : PySem.W.exmOne K (.ref c.M) (.ref c.I) = some false
  mw : PySem.W.exmOne K (.ref c.M) (.ref c.W) = some false
  ki : PySem.W.exmOne K (.ref c.K) (.ref c.I) = some false
  kw : PySem.W.exmOne K (.ref c.K) (.ref c.W) = some false
  km : PySem.W.exmOne K (.ref c.K) (.ref c.M) = some false
  li : PySem.W.exmOne K (.ref c.L) (.ref c.I) = some false
  lw : PySem.W.exmOne K (.ref c.L) (.ref c.W) = some false
  lm : PySem.W.exmOne K (.ref c.L) (.ref c.M) = some false
  lk : PySem.W.exmOne K (.ref c.L) (.ref c.K) = some false
  ei : PySem.W.exmOne K (.ref c.E) (.ref c.I) = some false
  ew : PySem.W.exmOne K (.ref c.E) (.ref c.W) = some false
  em : PySem.W.exmOne K (.ref c.E) (.ref c.M) = some false
  ek : PySem.W.exmOne K (.ref c.E) (.ref c.K) = some false
  el : PySem.W.exmOne K (.ref c.E) (.ref c.L) = some false
/-! ### _law_told -/
abbrev nTo : List Str := ["_law_door", "_law_session", "_law_what", "e"]
abbrev pTo : List Str := ["_law_door", "_law_session", "_law_what"]
theorem scTo : FnScope nTo pTo (defScope sLawTold) := ⟨rfl, rfl, rfl, by decide +kernel, rfl, by decide +kernel, by decide +kernel⟩
def tsF (A : Addr) (z f : Str) : Addr → Value → Option Addr → TS := fun a cls d => tRet (tLst (tCons (tC (.str z)) (tCons (tXf a cls d A f (tVar 3)) tNil)))
def tsV (K : PySem.W.Frag) (A : Addr) (z : Str) : Addr → Value → Option Addr → TS := fun a cls d => tRet (tLst (tCons (tC (.str z)) (tCons (tCB (rRepL K) (tCons (tXf a cls d A "value" (tVar 3)) tNil)) tNil)))
abbrev clTo (K : PySem.W.Frag) (c : Cs64) : List (Value × (Addr → Value → Option Addr → TS)) := [(.ref c.I, tsF c.I "steps" "index"), (.ref c.W, tsV K c.W "word"), (.ref c.M, tsV K c.M "number"), (.ref c.K, tsV K c.K "stacks"), (.ref c.L, tsF c.L "limit" "limit"), (.ref c.E, tsF c.E "failed" "index")]
def tbTo (K : PySem.W.Frag) (c : Cs64) (C : Addr) (O : Option Addr → Prop) (W : WX) : TS := tDrop (tCallS (spCa K c C O) (WE W) (tCons (tVar 0) (tCons (tVar 1) (tCons (tVar 2) tNil))))
def spTo (K : PySem.W.Frag) (c : Cs64) (C : Addr) (O : Option Addr → Prop) : Sp := fun vs H Q _ => vs.length = 3 ∧ spCa K c C O vs H (fun _ H' => outL Q H' [.str "told"]) (ToE K c Q)
theorem ghas_to (D : Def K mg "_law_told" sLawTold) (RX : To64 P w K mg base c bE bL) (GC : HasX P w K mg base "_law_called" 8 nCa [] (spCa K c C O)) (mp : mg "repr" = none) : GHas P w K mg base "_law_told" 9 pTo (spTo K c C O) := by
  refine ghas_of D scTo (fun _ _ _ _ _ _ us hl => match us, hl with | [_, _, _], _ => rfl) (fun xs H Q E h => h.1) (fun f cv A out s H xs Q E hgu hr h => ?_)
  obtain ⟨hl, h⟩ := h
  obtain ⟨x0, x1, x2, rfl⟩ : ∃ x0 x1 x2, xs = [x0, x1, x2] := match xs, hl with | [x0, x1, x2], _ => ⟨x0, x1, x2, rfl⟩
  refine ⟨_, pss_cons (ps_try_asL (i := 3) (tm := tbTo K c C O) (cl := clTo K c) (out := fun _ _ _ _ => False) rfl rfl scTo.nd rfl rfl takes0
      (fun W pn xe tk _ => pss_one (ps_expr (pe_hasS GC hr tk (pa_cons (pv 0) (pa_cons (pv 1) (pa_cons (pv 2) pa_nil))))))
      (.cons ⟨rfl, by decide, .inl RX.xi.gC⟩ (fun a oe cls d pn hz hf => pss_one (ps_ret (pe_lst (pa_cons pe_str (pa_cons (pe_xf RX.xi.xf RX.xi.noF hz hf (pv 3)) pa_nil)))))
      (.cons ⟨rfl, by decide, .inl RX.xw.gC⟩ (fun a oe cls d pn hz hf => pss_one (ps_ret (pe_lst (pa_cons pe_str (pa_cons (pe_callB (call_repL hgu hr.units) (by rfl) mp (by decide +kernel) (pa_cons (pe_xf RX.xw.xf RX.xw.noF hz hf (pv 3)) pa_nil)) pa_nil)))))
      (.cons ⟨rfl, by decide, .inl RX.xm.gC⟩ (fun a oe cls d pn hz hf => pss_one (ps_ret (pe_lst (pa_cons pe_str (pa_cons (pe_callB (call_repL hgu hr.units) (by rfl) mp (by decide +kernel) (pa_cons (pe_xf RX.xm.xf RX.xm.noF hz hf (pv 3)) pa_nil)) pa_nil)))))
      (.cons ⟨rfl, by decide, .inl RX.xk.gC⟩ (fun a oe cls d pn hz hf => pss_one (ps_ret (pe_lst (pa_cons pe_str (pa_cons (pe_callB (call_repL hgu hr.units) (by rfl) mp (by decide +kernel) (pa_cons (pe_xf RX.xk.xf RX.xk.noF hz hf (pv 3)) pa_nil)) pa_nil)))))
      (.cons ⟨rfl, by decide, .inl RX.xl.gC⟩ (fun a oe cls d pn hz hf => pss_one (ps_ret (pe_lst (pa_cons pe_str (pa_cons (pe_xf RX.xl.xf RX.xl.noF hz hf (pv 3)) pa_nil)))))
      (.cons ⟨rfl, by decide, .inl RX.xe.gC⟩ (fun a oe cls d pn hz hf => pss_one (ps_ret (pe_lst (pa_cons pe_str (pa_cons (pe_xf RX.xe.xf RX.xe.noF hz hf (pv 3)) pa_nil))))) .nil)))))))
    (pss_one (ps_ret (pe_lst (pa_cons pe_str pa_nil)))), ?_⟩
  have go : ∀ (D : Ends), (∀ x H', Q x H' → D.rt x H') → (∀ σ H', outL Q H' [.str "told"] → D.nx σ H') → tbTo K c C O (wAsL K 3 (fun _ _ _ _ => False) D (clTo K c)) D [some x0, some x1, some x2, none] H := by
    intro D kk nx
    have no : ∀ {A : Prop}, (false = true → A) := fun z => Bool.noConfusion z
    refine ⟨_, rfl, _, rfl, _, rfl, h.mono (fun x H' q => nx _ _ q) fun cv oe H' he => ?_⟩
    obtain ⟨d, rfl, he⟩ := he
    have fld : ∀ {A : Addr} {z f : Str} {a : Addr} {D2 : Ends}, (∀ x H', Q x H' → D2.rt x H') → flE Q z f H' d → tsF A z f a (.ref A) (some d) D2 [some x0, some x1, some x2, some (.ref a)] H' := by
      rintro A z f a D2 kk ⟨v, hx, k⟩
      exact ⟨_, rfl, rfl, rfl, d, _, v, rfl, hx, by simp [List.lookup], (by show 2 ≤ sizeLine; decide), fun l hl => kk _ _ (k.new hl)⟩
    have val : ∀ {A : Addr} {z : Str} {a : Addr} {D2 : Ends}, (∀ x H', Q x H' → D2.rt x H') → vlE K Q z H' d → tsV K A z a (.ref A) (some d) D2 [some x0, some x1, some x2, some (.ref a)] H' := by
      rintro A z a D2 kk ⟨v, t, hx, hr, k⟩
      exact ⟨_, rfl, rfl, rfl, d, _, v, rfl, hx, by simp [List.lookup], v, t, rfl, hr, (by show 2 ≤ sizeLine; decide), fun l hl => kk _ _ (k.new hl)⟩
    rcases he with ⟨rfl, q⟩ | ⟨rfl, q⟩ | ⟨rfl, q⟩ | ⟨rfl, q⟩ | ⟨rfl, q⟩ | ⟨rfl, q⟩
    · exact ⟨true, RX.xi.te, fun _ a na => fld kk q, fun z => Bool.noConfusion z⟩
    · exact ⟨false, RX.wi, fun z => Bool.noConfusion z, fun _ => ⟨true, RX.xw.te, fun _ a na => val kk q, fun z => Bool.noConfusion z⟩⟩
    · exact ⟨false, RX.mi, fun z => Bool.noConfusion z, fun _ => ⟨false, RX.mw, fun z => Bool.noConfusion z, fun _ => ⟨true, RX.xm.te, fun _ a na => val kk q, fun z => Bool.noConfusion z⟩⟩⟩
    · exact ⟨false, RX.ki, fun z => Bool.noConfusion z, fun _ => ⟨false, RX.kw, fun z => Bool.noConfusion z, fun _ => ⟨false, RX.km, fun z => Bool.noConfusion z, fun _ => ⟨true, RX.xk.te, fun _ a na => val kk q, fun z => Bool.noConfusion z⟩⟩⟩⟩
    · exact ⟨false, RX.li, fun z => Bool.noConfusion z, fun _ => ⟨false, RX.lw, fun z => Bool.noConfusion z, fun _ => ⟨false, RX.lm, fun z => Bool.noConfusion z, fun _ => ⟨false, RX.lk, fun z => Bool.noConfusion z, fun _ => ⟨true, te64 RX.xl, fun _ a na => fld kk q, fun z => Bool.noConfusion z⟩⟩⟩⟩⟩
    · exact ⟨false, RX.ei, fun z => Bool.noConfusion z, fun _ => ⟨false, RX.ew, fun z => Bool.noConfusion z, fun _ => ⟨false, RX.em, fun z => Bool.noConfusion z, fun _ => ⟨false, RX.ek, fun z => Bool.noConfusion z, fun _ => ⟨false, RX.el, fun z => Bool.noConfusion z, fun _ => ⟨true, te64 RX.xe, fun _ a na => fld kk q, fun z => Bool.noConfusion z⟩⟩⟩⟩⟩⟩
  exact go _ (fun x H' q => q) (fun σ H' q => ⟨(by show 1 ≤ sizeLine; decide), fun l hl => q.new hl⟩)
end
end SE
/-! Displays of data: whatever a display of constants (and of values that are data already) allocates, in the end the data stand there. -/
namespace SE
open PySem PySem.Spec PyProof.Rows L2
mutual
/-- t is the reading of a display of the data d, in a heap that goes on from H0, with the slots σ -/
inductive TD (K : PySem.W.Frag) (H0 : Hp) (σ : L2.St) : TE → PyData → Prop
  | non : TD K H0 σ (tC .non) .none
  | bl (b : Bool) : TD K H0 σ (tC (.bl b)) (.bool b)
  | int (i : Int) : TD K H0 σ (tC (.int i)) (.int i)
  | neg (i : Int) : TD K H0 σ (tUn (rU fun i => .int (-i)) (tC (.int i))) (.int (-i))
  | str (z : Str) : TD K H0 σ (tC (.str z)) (.str z)
  | emp : TD K H0 σ tDNewK (.dict [])
  | lst {t : TA} {ds : List PyData} (h : TDs K H0 σ t ds) (l : ds.length ≤ 1000) : TD K H0 σ (tLst t) (.list ds)
  | tup {t : TA} {ds : List PyData} (h : TDs K H0 σ t ds) (l : ds.length ≤ 1000) : TD K H0 σ (tTup t) (.tuple ds)
  | var {i : Nat} {v : V} {d : PyData} (e : σ[i]? = some (some v)) (h : DpX K H0 v d) : TD K H0 σ (tVar i) d
  | any {t : TE} {d : PyData} (h : ∀ (H : Hp) (Q : VK), Same H0 H → (∀ v H', Same H H' → DpX K H' v d → Q v H') → t σ H Q) : TD K H0 σ t d
inductive TDs (K : PySem.W.Frag) (H0 : Hp) (σ : L2.St) : TA → List PyData → Prop
  | nil : TDs K H0 σ tNil []
  | cons {t : TE} {ts : TA} {d : PyData} {ds : List PyData} (h : TD K H0 σ t d) (r : TDs K H0 σ ts ds) : TDs K H0 σ (tCons t ts) (d :: ds)
end
mutual
theorem TD.run {K : PySem.W.Frag} {H0 : Hp} {σ : L2.St} : ∀ {t : TE} {d : PyData}, TD K H0 σ t d → ∀ {H : Hp} {Q : VK}, Same H0 H → (∀ v H', Same H H' → DpX K H' v d → Q v H') → t σ H Q
  | _, _, .non, H, Q, s, k => k _ H (Same.refl H) .non
  | _, _, .bl b, H, Q, s, k => k _ H (Same.refl H) (.bl b)
  | _, _, .int i, H, Q, s, k => k _ H (Same.refl H) (.int i)
  | _, _, .neg i, H, Q, s, k => ⟨i, rfl, k _ H (Same.refl H) (.int (-i))⟩
  | _, _, .str z, H, Q, s, k => k _ H (Same.refl H) (.str z)
  | _, _, .emp, H, Q, s, k => fun p hp => k _ _ (Same.new hp) (.emp upd_same)
  | _, _, .lst h l, H, Q, s, k => TDs.run h s fun vs H1 s1 hv => ⟨by rw [hv.len, sizeLine_eq]; omega, fun p hp => k _ _ (s1.trans (Same.new hp)) (.lst (.of upd_same) (DpXs.same (Same.new hp) _ _ hv))⟩
  | _, _, .tup h l, H, Q, s, k => TDs.run h s fun vs H1 s1 hv => ⟨by rw [hv.len, sizeLine_eq]; omega, fun p hp => k _ _ (s1.trans (Same.new hp)) (.tup (.of upd_same) (DpXs.same (Same.new hp) _ _ hv))⟩
  | _, _, .var e h, H, Q, s, k => ⟨_, e, k _ H (Same.refl H) (DpX.same s _ _ h)⟩
  | _, _, .any h, H, Q, s, k => h H Q s k
theorem TDs.run {K : PySem.W.Frag} {H0 : Hp} {σ : L2.St} : ∀ {t : TA} {ds : List PyData}, TDs K H0 σ t ds → ∀ {H : Hp} {Q : List V → Hp → Prop}, Same H0 H → (∀ vs H', Same H H' → DpXs K H' vs ds → Q vs H') → t σ H Q
  | _, _, .nil, H, Q, s, k => k _ H (Same.refl H) .nil
  | _, _, .cons h r, H, Q, s, k => TD.run h s fun v H1 s1 hv => TDs.run r (s.trans s1) fun vs H2 s2 hvs => k _ H2 (s1.trans s2) (.cons (DpX.same s2 _ _ hv) hvs)
end
/-- the display's own list -/
theorem TDs.list {K : PySem.W.Frag} {H0 : Hp} {σ : L2.St} {t : TA} {ds : List PyData} (h : TDs K H0 σ t ds) (l : ds.length ≤ 1000) {H : Hp} {Q : VK} (s : Same H0 H) (k : ∀ (p : Addr) (vs : List V) (H' : Hp), Same H H' → H' p = some (.lst vs) → DpXs K H' vs ds → Q (.ref p) H') : tLst t σ H Q :=
  h.run s fun vs H1 s1 hv => ⟨by rw [hv.len, sizeLine_eq]; omega, fun p hp => k p vs _ (s1.trans (Same.new hp)) upd_same (DpXs.same (Same.new hp) _ _ hv)⟩
/-- for x in a display -/
theorem TDs.forL {K : PySem.W.Frag} {H0 : Hp} {σ : L2.St} {t : TA} {ds : List PyData} {g : TG} {tb : TS} {D : Ends} {H : Hp} (h : TDs K H0 σ t ds) (l : ds.length ≤ 1000) (s : Same H0 H)
    (k : ∀ (p : Addr) (vs : List V) (H' : Hp), Same H H' → H' p = some (.lst vs) → DpXs K H' vs ds → tFor (fun _ H2 R => R (Itl K p) H2) g tb D σ H') : tFor (iList K (tLst t)) g tb D σ H := by
  unfold tFor iList
  exact h.list l s fun p vs H' s' hp hv => ⟨p, rfl, ⟨_, .of hp⟩, k p vs H' s' hp hv⟩
/-! ### data without dicts, for == -/
mutual
theorem dp_of {K : PySem.W.Frag} {H : Hp} : ∀ (d : PyData) {v : V}, PyData.canLay0 d = true → DpX K H v d → Dp K H v d
  | .none, _, _, h => by cases h; exact .non
  | .bool b, _, _, h => by cases h; exact .bl b
  | .int i, _, _, h => by cases h; exact .int i
  | .str z, _, _, h => by cases h; exact .str z
  | .list ds, _, c, h => by
    cases h with
    | lst h1 h2 => exact .lst h1 (dps_of ds (by simpa [PyData.canLay0] using c) h2)
  | .tuple ds, _, c, h => by
    cases h with
    | tup h1 h2 => exact .tup h1 (dps_of ds (by simpa [PyData.canLay0] using c) h2)
  | .dict kvs, _, c, h => by simp [PyData.canLay0] at c
theorem dps_of {K : PySem.W.Frag} {H : Hp} : ∀ (ds : List PyData) {vs : List V}, PyData.canLayAll0 ds = true → DpXs K H vs ds → DpAll K H vs ds
  | [], _, _, h => by cases h; exact .nil
  | d :: ds, _, c, h => by
    cases h with
    | cons h1 h2 =>
      have c : PyData.canLay0 d = true ∧ PyData.canLayAll0 ds = true := by simpa [PyData.canLayAll0] using c
      exact .cons (dp_of d c.1 h1) (dps_of ds c.2 h2)
end
/-- the same data on both sides of != -/
theorem ne_data {K : PySem.W.Frag} {H : Hp} {x y : V} {d : PyData} {Q : VK} (lay : PyData.canLay0 d = true) (sh : SeqAt.shaped d = true) (hx : DpX K H x d) (hy : DpX K H y d) (q : Q (.bl false) H) : rNeD K x y H Q := by
  refine ⟨d, d, dp_of d lay hx, dp_of d lay hy, sh, sh, ?_⟩
  rw [SeqAt.eqv_refl d lay]
  exact q
end SE
namespace SE
open PySem PySem.Spec PyProof.Rows L2
def ShD (d : PyData) : Prop := d.showable = true ∧ d.depth ≤ 20 ∧ d.shown.length ≤ sizeLine
def LwD (d : PyData) : Prop := d.showable = true ∧ d.depth ≤ 15 ∧ d.shown.length ≤ sizeLine ∧ (lowT d).length ≤ sizeLine
def smB (d : PyData) : Bool := layE d && (decide (d.depth ≤ 10) && (d.showable && (d.intsShort 13 && decide (d.weight ≤ 1000))))
theorem sm_of {d : PyData} (h : smB d = true) : NX 10 1000 d := by
  unfold smB at h
  simp only [Bool.and_eq_true, decide_eq_true_eq] at h
  exact ⟨h.1, h.2.1, h.2.2.1, h.2.2.2.1, h.2.2.2.2⟩
def shB (d : PyData) : Bool := d.showable && (decide (d.depth ≤ 15) && (decide (d.shown.length ≤ 100) && decide ((lowT d).length ≤ 100)))
theorem sh_of {d : PyData} (h : shB d = true) : ShD d ∧ LwD d := by
  unfold shB at h
  simp only [Bool.and_eq_true, decide_eq_true_eq] at h
  obtain ⟨h1, h2, h3, h4⟩ := h
  exact ⟨⟨h1, by omega, by rw [sizeLine_eq]; omega⟩, h1, h2, by rw [sizeLine_eq]; omega, by rw [sizeLine_eq]; omega⟩
theorem sm_ok {d : PyData} (h : smB d = true) : OkD d := (sm_of h).mono (by decide) (by decide)
section
variable {K : PySem.W.Frag} {C : Addr} {c : Cs64} {O : Option Addr → Prop} {x : Option Addr} {o L : Addr} {ct : Cn} {ss : Sk} {l : Lim} {ds : List Deed} {H : Hp} {Q : VK} {E : XK} {v : V} {y : PyData} {dr : Int}
theorem val_of {z : Str} {H' : Hp} {d : Addr} (hy : DpX K H v y) (sk : ShD y) (q : outL Q H [.str z, .str y.shown]) (s : Same H H') (hx : H' d = some (.xd [("value", v)])) : vlE K Q z H' d :=
  ⟨v, _, hx, .inl ⟨y, DpX.same s y v hy, sk.1, sk.2.1, sk.2.2, rfl⟩, q.go s⟩
theorem bad_num (hy : DpX K H v y) (sk : ShD y) (q : outL Q H [.str "number", .str y.shown]) : bad c.M H v (ToE K c Q) := fun d H' s n hx => ⟨d, rfl, .inr (.inr (.inl ⟨rfl, val_of hy sk q s hx⟩))⟩
theorem bad_low (hy : DpX K H v y) (sk : LwD y) (q : outL Q H [.str "stacks", .str (lowT y)]) : badK c.K H v (ToE K c Q) := fun e H1 s1 he d H' s n hx =>
  ⟨d, rfl, .inr (.inr (.inr (.inl ⟨rfl, .ref e, _, hx, .inr ⟨e, v, y, rfl, s _ _ he, DpX.same (s1.trans s) y v hy, sk.1, sk.2.1, sk.2.2.1, sk.2.2.2, rfl⟩, q.go (s1.trans s)⟩)))⟩
theorem bad_lim (q : outL Q H [.str "limit", v]) : badL c.L H v (ToE K c Q) := fun d H' s n hx => ⟨d, rfl, .inr (.inr (.inr (.inr (.inl ⟨rfl, v, hx, q.go s⟩))))⟩
theorem bad_stp {r : V} (q : outL Q H [.str "steps", r]) : badI c.I H r (ToE K c Q) := fun d H' s n hx => ⟨d, rfl, .inl ⟨rfl, r, hx, q.go s⟩⟩
variable (ho : O x) (hs : SesX K C x ct H o L ss l ds)
include ho hs
theorem to_num (hd : dr = 5 ∨ dr = 6 ∨ dr = 8) (hy : DpX K H v y) (hl : limB y = false) (sk : ShD y) (q : outL Q H [.str "number", .str y.shown]) : spTo K c C O [.int dr, .ref o, v] H Q E := by
  refine ⟨rfl, dr, x, o, L, v, ct, ss, l, ds, ho, rfl, hs, ?_⟩
  have no : ∀ {A : Prop}, limB y = true → A := fun e => by rw [hl] at e; cases e
  rcases hd with rfl | rfl | rfl
  · exact .inr (.inr (.inr (.inl ⟨rfl, y, hy, hl, bad_num hy sk q⟩)))
  · exact .inr (.inr (.inr (.inr (.inl ⟨rfl, y, hy, fun _ => bad_num hy sk q, fun e => no e⟩))))
  · exact .inr (.inr (.inr (.inr (.inr (.inr (.inl ⟨rfl, y, hy, fun _ => bad_num hy sk q, fun e => no e⟩))))))
theorem to_low7 (hy : DpX K H v y) (ok : OkD y) (hw : wordD y = false) (sk : LwD y) (q : outL Q H [.str "stacks", .str (lowT y)]) : spTo K c C O [.int 7, .ref o, v] H Q E :=
  ⟨rfl, 7, x, o, L, v, ct, ss, l, ds, ho, rfl, hs, .inr (.inr (.inr (.inr (.inr (.inl ⟨rfl, y, hy, ok, fun _ => bad_low hy sk q, fun e => (by rw [hw] at e; cases e)⟩)))))⟩
theorem to_lim7 {t : Addr} (hT : SqT K H t [.str "a"]) (q : outL Q H [.str "limit", .int 0]) : spTo K c C O [.int 7, .ref o, .ref t] H Q E :=
  ⟨rfl, 7, x, o, L, .ref t, ct, ss, l, ds, ho, rfl, hs, .inr (.inr (.inr (.inr (.inr (.inl ⟨rfl, .tuple [.str "a"], .tup hT (.cons (.str _) .nil), sm_ok (by decide +kernel), fun e => absurd e (by decide +kernel), fun _ => ⟨["a"], t, rfl, hT, fun z m => (by rw [List.mem_singleton.mp m]; exact ⟨by decide +kernel, by decide +kernel, by decide +kernel⟩), by decide, by decide, bad_lim q⟩⟩)))))⟩
theorem to_low6 (q : outL Q H [.str "stacks", .str (lowT .none)]) : spTo K c C O [.int 6, .ref o, .non] H Q E :=
  ⟨rfl, 6, x, o, L, .non, ct, ss, l, ds, ho, rfl, hs, .inr (.inr (.inr (.inr (.inl ⟨rfl, .none, .non, fun e => absurd e (by decide), fun _ => bad_low .non (sh_of (by decide +kernel)).2 q⟩))))⟩
theorem to_8 {l2 : Lim} (lk : LimOk l2) (q1 : high l2 3 = true → outL Q H [.str "limit", limV l2]) (q2 : high l2 3 = false → outL Q H [.str "told"]) : spTo K c C O [.int 8, .ref o, limV l2] H Q E := by
  obtain ⟨y, hy, hd⟩ := limB_lim lk
  exact ⟨rfl, 8, x, o, L, limV l2, ct, ss, l, ds, ho, rfl, hs, .inr (.inr (.inr (.inr (.inr (.inr (.inl ⟨rfl, y, hd, fun e => (by rw [hy] at e; cases e), fun _ => ⟨l2, rfl, lk, fun h => bad_lim (q1 h), fun h H' s => (q2 h).go s⟩⟩))))))⟩
theorem to_01 {b : Bool} {t : Addr} {v1 v2 : V} {d1 d2 : PyData} (e : dr = if b = true then 0 else 1) (hT : SqT K H t [v1, v2]) (h1 : DpX K H v1 d1) (h2 : DpX K H v2 d2) (s1 : smB (stD b d1 d2) = true) (n1 : nstB (.tuple [.str (act b), d1, d2]) = false) (s2 : smB (.tuple [.str (act b), d1, d2]) = true) (q : outL Q H [.str "steps", .int 0]) : spTo K c C O [.int dr, .ref o, .ref t] H Q E :=
  ⟨rfl, dr, x, o, L, .ref t, ct, ss, l, ds, ho, rfl, hs, .inl ⟨b, t, v1, v2, d1, d2, e, rfl, hT, h1, h2, sm_ok s1, .inr ⟨_, 0, _, .inl rfl, (by show 1 ≤ 1000; decide), rfl, n1, fun i y h => absurd h (Nat.not_lt_zero _), fun i y hi hy => by
    obtain rfl : i = 0 := by omega
    cases hy
    exact sm_of s2, rfl⟩, bad_stp q⟩⟩
theorem to_34 (hd : dr = 3 ∨ dr = 4) (hy : DpX K H v y) (ok : OkD y) (hi : itemD y = false) (sk : ShD y) (q : outL Q H [.str "word", .str y.shown]) : spTo K c C O [.int dr, .ref o, v] H Q E :=
  ⟨rfl, dr, x, o, L, v, ct, ss, l, ds, ho, rfl, hs, .inr (.inr (.inl ⟨hd, y, hy, ok, hi, fun d H' s n hx => ⟨d, rfl, .inr (.inl ⟨rfl, val_of hy sk q s hx⟩)⟩⟩))⟩
theorem to_2 {r : V} (hy : DpX K H v y) (ok : OkD y) (b : BadN y r) (q : outL Q H [.str "steps", r]) : spTo K c C O [.int 2, .ref o, v] H Q E :=
  ⟨rfl, 2, x, o, L, v, ct, ss, l, ds, ho, rfl, hs, .inr (.inl ⟨rfl, y, r, hy, ok, b, bad_stp q⟩)⟩
theorem to_5 {l2 : Lim} {m b : Nat} (lk : LimOk l2) (ok : SkOk ss m b) (hm : m ≤ 100000) (hdl : ds.length ≤ 100000) (hh : ∃ p ∈ ss, high l2 p.2.length = true) (q : outL Q H [.str "limit", limV l2]) : spTo K c C O [.int 5, .ref o, limV l2] H Q E :=
  ⟨rfl, 5, x, o, L, limV l2, ct, ss, l, ds, ho, rfl, hs, .inr (.inr (.inr (.inr (.inr (.inr (.inr (.inr ⟨rfl, l2, m, b, rfl, lk, ok, hm, hdl, hh, bad_lim q⟩)))))))⟩
theorem to_fail {a : Addr} {us : List V} {s1 : Sk} {m b : Nat} {p1 p2 : NSt} (hL : SqL K H a us) (hN : NSV K H us [p1, p2]) (hI : ∀ s ∈ [p1, p2], NOk s) (ok : SkOk ss m b) (hm : m ≤ 90000) (hb : b ≤ 4000) (hdl : ds.length ≤ 100000) (hct : ct.length ≤ 100000) (h1 : perfS l [p1] ss = some s1) (h2 : perfS l [p1, p2] ss = none)
    (q : ∀ (ct' : Cn) (H' : Hp), Keep (ownS o L x) H H' → SesX K C x ct' H' o L ss l ds → outL Q H' [.str "failed", .int 1]) : spTo K c C O [.int 2, .ref o, .ref a] H Q E := by
  refine ⟨rfl, 2, x, o, L, .ref a, ct, ss, l, ds, ho, rfl, hs, .inr (.inr (.inr (.inr (.inr (.inr (.inr (.inl ⟨rfl, a, us, [p1, p2], m, b, rfl, hL, ?_, hN, hI, ok, hm, hb, hdl, hct, h2, fun j s sj g1 g2 g3 d ct' H' kk hs' hd hxd => ?_⟩)))))))⟩
  · rw [paired_len hN]
    show 2 ≤ 1000
    decide
  · match j, g1, g3 with
    | 0, _, g3 =>
      have g3 : perfS l [p1] ss = none := g3
      rw [h1] at g3
      cases g3
    | 1, _, _ => exact ⟨d, rfl, .inr (.inr (.inr (.inr (.inr ⟨rfl, .int 1, hxd, q ct' H' kk hs'⟩))))⟩
    | j + 2, g1, _ => cases g1
end
end SE
namespace SE
open PySem PySem.Spec PyProof.Rows L2
theorem dpx_strs {K : PySem.W.Frag} {H : Hp} : ∀ zs : List Str, DpXs K H (zs.map V.str) (zs.map PyData.str)
  | [] => .nil
  | z :: zs => .cons (.str z) (dpx_strs zs)
/-- two stacks after the deeds -/
structure St64 (xs ys : List Str) (n : Nat) : Prop where
  ix : ∀ z ∈ xs, Item z
  iy : ∀ z ∈ ys, Item z
  lx : xs.length ≤ 10
  ly : ys.length ≤ 10
  ln : n = 9 ∨ n = 10 ∨ n = 11
abbrev skT (xs ys : List Str) : Sk := [("one", xs), ("two", ys)]
def seenD (xs ys : List Str) (n : Nat) : PyData := .list [.list [.str "one", .str "two"], .tuple (xs.map .str), .tuple (ys.map .str), .int (n : Nat), .int 3]
theorem St64.ok {xs ys : List Str} {n : Nat} (h : St64 xs ys n) : ShD (seenD xs ys n) := by
  have tp : ∀ {zs : List Str}, (∀ z ∈ zs, Item z) → zs.length ≤ 10 → NX 2 100 (.tuple (zs.map .str)) := fun {zs} iz lz => (nx_tuple (k := 0) (B := 8) (ds := zs.map .str) fun e me => by
      obtain ⟨z, mz, rfl⟩ := List.mem_map.mp me
      exact (iz z mz).nice.nx).mono (by decide) (by rw [List.length_map]; omega)
  have i : ∀ m : Nat, (m = 9 ∨ m = 10 ∨ m = 11) → NX 2 100 (.int (m : Nat)) := fun m hm => by
    rcases hm with rfl | rfl | rfl <;> exact ⟨by decide +kernel, by decide +kernel, by decide +kernel, by decide +kernel, by decide +kernel⟩
  have q := nx_list (k := 2) (B := 100) (ds := [.list [.str "one", .str "two"], .tuple (xs.map .str), .tuple (ys.map .str), .int (n : Nat), .int 3]) fun d m => by
    simp only [List.mem_cons, List.not_mem_nil, or_false] at m
    rcases m with rfl | rfl | rfl | rfl | rfl
    · exact ⟨by decide +kernel, by decide +kernel, by decide +kernel, by decide +kernel, by decide +kernel⟩
    · exact tp h.ix h.lx
    · exact tp h.iy h.ly
    · exact i n h.ln
    · exact ⟨by decide +kernel, by decide +kernel, by decide +kernel, by decide +kernel, by decide +kernel⟩
  exact ⟨q.sh, Nat.le_trans q.dep (by decide), q.shown (by decide) (by show 5 * (100 + 1) ≤ 2 ^ 20; decide)⟩
theorem names_12 {ys : List Str} (p : ys.Perm [("one" : Str), "two"]) (s : sortedS ys = true) : ys = [("one" : Str), "two"] := by
  have l := p.length_eq
  match ys, l with
  | [a, b], _ =>
    have ma := p.mem_iff.mp (List.mem_cons_self (a := a))
    have mb := p.mem_iff.mp (show b ∈ [a, b] by simp)
    have nd : [a, b].Nodup := p.nodup_iff.mpr (by decide)
    have ne : a ≠ b := by simpa using nd
    simp only [List.mem_cons, List.not_mem_nil, or_false] at ma mb
    rcases ma with rfl | rfl <;> rcases mb with rfl | rfl
    · exact absurd rfl ne
    · rfl
    · exact absurd s (by decide)
    · exact absurd rfl ne
section
variable {P : Program} {w : World} {K : PySem.W.Frag} {mg : Str → Option Value} {base : Heap} {C : Addr} {O : Option Addr → Prop}
/-! ### _law_seen -/
def spSee (K : PySem.W.Frag) (C : Addr) (O : Option Addr → Prop) : Sp := fun vs H Q _ => ∃ (x : Option Addr) (o L : Addr) (ct : Cn) (xs ys : List Str) (n : Nat) (ds : List Deed), O x ∧ vs = [.ref o] ∧ SesX K C x ct H o L (skT xs ys) (some n) ds ∧ St64 xs ys n ∧ ds.length = 3 ∧ ∀ H', Same H H' → Q (.str (seenD xs ys n).shown) H'
abbrev nSee : List Str := ["_law_session"]
theorem scSee : FnScope nSee nSee (defScope sLawSeen) := ⟨rfl, rfl, rfl, by decide +kernel, rfl, by decide +kernel, by decide +kernel⟩
theorem i_one : Item "one" := ⟨by decide +kernel, by decide +kernel, by decide +kernel⟩
theorem i_two : Item "two" := ⟨by decide +kernel, by decide +kernel, by decide +kernel⟩
theorem ghas_see (D : Def K mg "_law_seen" sLawSeen) (T : SCl K C) (NM : MethHas P w K mg base C "names" 1 ["self"] (anyX O (spNm K C))) (LI : PropHas P w K mg base C "limit" 1 (anyX O (spLi K C))) (ST : MethHas P w K mg base C "stack" 3 ["self", "name"] (anyX O (spStk K C))) (LN : LenHas P w K mg base C (anyX O (spLn K C))) (B : Blt mg) (mp : mg "repr" = none) :
    GHas P w K mg base "_law_seen" 4 nSee (spSee K C O) := by
  obtain ⟨g, ln1, ln2, FL⟩ := LN
  refine ghas_of D scSee (fun _ _ _ _ _ _ us hl => match us, hl with | [_], _ => rfl) (fun xs H Q E h => ?_) (fun f cv A' out s H xs Q E hgu hr h => ?_)
  · obtain ⟨x, o, L, ct, xs, ys, n, ds, _, rfl, _⟩ := h
    rfl
  · obtain ⟨x, o, L, ct, xs, ys, n, ds, hx, rfl, h1, st, dl, kQ⟩ := h
    have hr1 : Room 1 _ := hr.mono (by decide)
    have hr2 : Room 2 _ := hr.mono (by decide)
    have hr3 : Room 3 _ := hr.mono (by decide)
    refine ⟨_, pss_one (ps_ret (pe_callB (call_repX hgu hr.units) (by rfl) mp (by decide +kernel) (pa_cons (pe_lst (pa_cons (pe_mH0 NM (pv 0) T.cl hr1) (pa_cons (pe_mH1 ST (pv 0) T.cl hr3 (pa_cons pe_str pa_nil)) (pa_cons (pe_mH1 ST (pv 0) T.cl hr3 (pa_cons pe_str pa_nil)) (pa_cons (pe_propH LI (pv 0) T.cl hr2) (pa_cons (pe_callB (call_lenO ln1 ln2 FL hr2) (by rfl) B.len PySem.boot_len (pa_cons (pv 0) pa_nil)) pa_nil)))))) pa_nil))), ?_⟩
    obtain ⟨dx, F1, ws1, a1, _⟩ := h1.ex
    refine ⟨_, rfl, o, dx, _, rfl, a1, sX_none (by decide) (by decide) (by decide) (by decide), ⟨x, hx⟩, o, L, ct, _, _, ds, rfl, h1, (by show 2 < 64; decide), fun nl ys2 H2 s2 hnl0 hnl pm sr => ?_⟩
    have e1 := names_12 pm sr
    subst e1
    refine ⟨_, rfl, o, dx, _, rfl, s2 _ _ a1, sX_none (by decide) (by decide) (by decide) (by decide), ⟨x, hx⟩, o, L, "one", ct, _, _, ds, rfl, h1.same s2, i_one, fun tl H3 s3 htl => ?_⟩
    have s03 := s2.trans s3
    refine ⟨_, rfl, o, dx, _, rfl, s03 _ _ a1, sX_none (by decide) (by decide) (by decide) (by decide), ⟨x, hx⟩, o, L, "two", ct, _, _, ds, rfl, h1.same s03, i_two, fun tr H4 s4 htr => ?_⟩
    have s04 := s03.trans s4
    refine ⟨_, rfl, o, dx, _, rfl, s04 _ _ a1, ⟨x, hx⟩, o, L, ct, _, _, ds, rfl, h1.same s04, ?_⟩
    refine ⟨_, rfl, o, dx, _, rfl, s04 _ _ a1, ⟨x, hx⟩, o, L, ct, _, _, ds, rfl, h1.same s04, ds.length, rfl, by omega, by show 5 ≤ sizeLine; decide, fun a0 ha0 => ?_⟩
    have s5 : Same H4 (upd H4 a0 (.lst [.ref nl, .ref tl, .ref tr, limV (some n), .int (ds.length : Nat)])) := Same.new ha0
    have sk := st.ok
    refine ⟨_, seenD xs ys n, rfl, ?_, sk.1, sk.2.1, sk.2.2, kQ _ (s04.trans s5)⟩
    have e1 : getS (skT xs ys) "one" = xs := rfl
    have e2 : getS (skT xs ys) "two" = ys := rfl
    rw [e1] at htl
    rw [e2] at htr
    refine .lst (.of upd_same) (.cons (.lst (.of ((s3.trans (s4.trans s5)) _ _ hnl)) (dpx_strs ["one", "two"])) (.cons (.tup (Same.tup (s4.trans s5) htl) (dpx_strs xs)) (.cons (.tup (Same.tup s5 htr) (dpx_strs ys)) (.cons (.int _) (.cons ?_ .nil)))))
    rw [dl]
    exact .int 3
end
end SE
namespace SE
open PySem PySem.Spec PyProof.Rows L2
/-- a comprehension whose elements are new lists -/
theorem lc_rows {J : It} {n : Nat} {G : Hp → Prop} {Y : Nat → Hp → V → Hp → Prop} (w : Walk J n G Y) {g : TG} {te : TE} {vs : List Nat} {σ : L2.St} {H1 : Hp} {D : Addr} {Qd : Hp → Prop} (rows : List (List V)) (hn : rows.length = n) (h60 : n ≤ 1000) (hD : H1 D = none) (hG : ∀ H, Same H1 H → G H) (hY : ∀ i H x H', Y i H x H' → H' = H)
    (hs : ∀ i x H r, rows[i]? = some r → Same H1 H → Y i H x H → ∀ (Q2 : VK) (Z : Hp → Prop), outL Q2 H r → g x (wipe σ vs) H fun σ2 H2 => wipe σ2 vs = wipe σ vs ∧ tYes σ2 H2 fun b H3 => if b = true then te σ2 H3 Q2 else Z H3)
    (hd : ∀ (as : List Addr) (H : Hp), Same H1 H → H D = some (.lst (as.map V.ref)) → Paired (fun (a : Addr) (r : List V) => H a = some (.lst r)) as rows → Qd H) :
    ∃ W : Nat → Nat → Hp → Prop, (∃ m, W 0 m (upd H1 D (.lst []))) ∧ ∀ i m H, W i m H →
      (J.stop i H ∧ Qd H) ∨ (J.go i H ∧ ∃ Nx : Hp → Prop, (∀ H', Nx H' → ∃ m', m' < m ∧ W (i + 1) m' H') ∧ ∀ x H', J.yld i H x H' → g x (wipe σ vs) H' fun σ2 H2 => wipe σ2 vs = wipe σ vs ∧ tYes σ2 H2 fun b H3 =>
        if b = true then te σ2 H3 fun y H4 => ∃ acc, H4 D = some (.lst acc) ∧ acc.length < sizeLine ∧ Nx (upd H4 D (.lst (acc ++ [y]))) else Nx H3) := by
  refine lc_it w (fun j HX => ∃ as : List Addr, HX D = some (.lst (as.map V.ref)) ∧ Paired (fun (a : Addr) (r : List V) => a ≠ D ∧ HX a = some (.lst r)) as (rows.take j) ∧ Same H1 HX) ⟨[], upd_same, by rw [List.take_zero]; exact .nil, Same.new hD⟩ (fun j H _ q => ?_) ?_ ?_
  · obtain ⟨as, _, _, s⟩ := q
    exact hG H s
  · rintro i x H H' hi ⟨as, hX, pr, sX⟩ y
    obtain rfl := hY _ _ _ _ y
    have hr : rows[i]? = some (rows[i]'(by omega)) := List.getElem?_eq_getElem (by omega)
    refine hs i x H' _ hr sX y _ _ fun l H7 s7 hl e7 => ?_
    have la : as.length = i := by rw [paired_len pr, List.length_take]; omega
    have h7 := s7 _ _ hX
    have nD : l ≠ D := fun e => by rw [e, hX] at hl; cases hl
    refine ⟨_, h7, by rw [List.length_map, sizeLine_eq]; omega, as ++ [l], by rw [upd_same, List.map_append]; rfl, ?_, Same.free2 (sX.trans s7) hD⟩
    rw [List.take_add_one, hr]
    have ap : ∀ {a : List Addr} {b : List (List V)}, Paired (fun (a : Addr) (r : List V) => a ≠ D ∧ H' a = some (.lst r)) a b → Paired (fun (a : Addr) (r : List V) => a ≠ D ∧ upd H7 D (.lst (as.map V.ref ++ [.ref l])) a = some (.lst r)) (a ++ [l]) (b ++ [rows[i]'(by omega)]) := fun {a b} h => by
      induction h with
      | nil => exact .cons ⟨nD, by rw [upd_ne nD]; exact e7⟩ .nil
      | cons q _ ih => exact .cons ⟨q.1, by rw [upd_ne q.1]; exact s7 _ _ q.2⟩ ih
    exact ap pr
  · rintro H ⟨as, hX, pr, sX⟩
    rw [← hn, List.take_length] at pr
    exact hd as H sX hX (Paired.mapP pr fun _ _ q => q.2)
/-! ### plain items -/
def flB : PyData → Bool
  | .none => true
  | .int _ => true
  | .str _ => true
  | _ => false
def fV : PyData → V
  | .int i => .int i
  | .str z => .str z
  | _ => .non
theorem dpx_fl {K : PySem.W.Frag} {H : Hp} : ∀ {d : PyData}, flB d = true → DpX K H (fV d) d
  | .none, _ => .non
  | .int i, _ => .int i
  | .str z, _ => .str z
theorem dpxs_fl {K : PySem.W.Frag} {H : Hp} : ∀ {ds : List PyData}, ds.all flB = true → DpXs K H (ds.map fV) ds
  | [], _ => .nil
  | d :: ds, h => by
    rw [List.all_cons, Bool.and_eq_true] at h
    exact .cons (dpx_fl h.1) (dpxs_fl h.2)
theorem dpx_rows {K : PySem.W.Frag} {H : Hp} {D : Addr} {as : List Addr} {dss : List (List PyData)} (hD : H D = some (.lst (as.map V.ref))) (fl : ∀ ds ∈ dss, ds.all flB = true) (p : Paired (fun (a : Addr) (r : List V) => H a = some (.lst r)) as (dss.map fun ds => ds.map fV)) : DpX K H (.ref D) (.list (dss.map .list)) := by
  refine .lst (.of hD) ?_
  clear hD
  induction dss generalizing as with
  | nil => cases p; exact .nil
  | cons ds r ih =>
    cases p with
    | cons q p => exact .cons (.lst (.of q) (dpxs_fl (fl ds List.mem_cons_self))) (ih (fun e m => fl e (List.mem_cons_of_mem _ m)) p)
theorem eq_data {K : PySem.W.Frag} {H : Hp} {x y : V} {d : PyData} {Q : VK} (lay : PyData.canLay0 d = true) (sh : SeqAt.shaped d = true) (hx : DpX K H x d) (hy : DpX K H y d) (q : Q (.bl true) H) : rEqD K x y H Q := by
  refine ⟨d, d, dp_of d lay hx, dp_of d lay hy, sh, sh, ?_⟩
  rw [SeqAt.eqv_refl d lay]
  exact q
def ftB (d : PyData) : Bool := PyData.canLay0 d && SeqAt.shaped d
theorem ft_of {d : PyData} (h : ftB d = true) : PyData.canLay0 d = true ∧ SeqAt.shaped d = true := by
  unfold ftB at h
  rwa [Bool.and_eq_true] at h
def numOdds : List PyData := [.bool true, .bool false, .int (-1), .int 1001, .str "3", .tuple [], .list [.int 3]]
theorem numOdds_ok : (numOdds.all fun d => shB d && (!limB d && ftB (.list [.str "number", .str d.shown]))) = true := by decide +kernel
def stkOdds : List PyData := [.none, .list [], .str "a", .tuple [.str "A"], .list [.str "a"], .int 5, .tuple [.tuple []]]
theorem stkOdds_ok : (stkOdds.all fun d => smB d && (shB d && (!wordD d && ftB (.list [.str "stacks", .str (lowT d)])))) = true := by decide +kernel
def rows8 : List (List PyData) := [[.str "limit", .int 0], [.str "limit", .int 2], [.str "told"], [.str "told"]]
theorem rows8_ok : ftB (.list (rows8.map .list)) = true := by decide +kernel
theorem same_disp {H : Hp} {p : Addr} {a b : HO} (hp : H p = none) : Same H (upd (upd H p a) p b) := fun c u hc => by
  have n : c ≠ p := fun e => by rw [e, hp] at hc; cases hc
  rw [upd_ne n, upd_ne n]
  exact hc
section
variable {P : Program} {w : World} {K : PySem.W.Frag} {mg : Str → Option Value} {base : Heap} {C : Addr} {c : Cs64} {O : Option Addr → Prop}
/-! ### _law_bad_bounds_right -/
def spBb (K : PySem.W.Frag) (C : Addr) (O : Option Addr → Prop) : Sp := fun vs H Q _ => ∃ (x : Option Addr) (o L : Addr) (ct : Cn) (ss : Sk) (l : Lim) (ds : List Deed), O x ∧ vs = [.ref o] ∧ SesX K C x ct H o L ss l ds ∧ ∀ H', Same H H' → Q (.bl true) H'
abbrev nBb : List Str := ["_law_session", "_law_odd", "_law_door", "_law_bound"]
theorem scBb : FnScope nBb ["_law_session"] (defScope sLawBadBoundsRight) := ⟨rfl, rfl, rfl, by decide +kernel, rfl, by decide +kernel, by decide +kernel⟩
theorem ghas_bb (D : Def K mg "_law_bad_bounds_right" sLawBadBoundsRight) (GR : GHas P w K mg base "_law_told" 9 pTo (spTo K c C O)) (mp : mg "repr" = none) : GHas P w K mg base "_law_bad_bounds_right" 10 ["_law_session"] (spBb K C O) := by
  refine ghas_of D scBb (fun _ _ _ _ _ _ us hl => match us, hl with | [_], _ => rfl) (fun xs H Q E h => ?_) (fun f cv A' out s H xs Q E hgu hr h => ?_)
  · obtain ⟨x, o, L, ct, ss, l, ds, _, rfl, _⟩ := h
    rfl
  · obtain ⟨x, o, L, ct, ss, l, ds, ho, rfl, hs, k⟩ := h
    refine ⟨_, pss_cons (ps_for PassesOwn.never rfl (pi_list (pe_lst (pa_cons pe_bl (pa_cons pe_bl (pa_cons (pe_un un_neg pe_int) (pa_cons pe_int (pa_cons pe_str (pa_cons (pe_tup pa_nil) (pa_cons (pe_lst (pa_cons pe_int pa_nil)) pa_nil))))))))) (pg_name (i := 1) scBb.nd rfl (.inl rfl))
        (pss_one (ps_for PassesOwn.never rfl (pi_list (pe_lst (pa_cons pe_int (pa_cons pe_int (pa_cons pe_int pa_nil))))) (pg_name (i := 2) scBb.nd rfl (.inl rfl))
          (pss_one (ps_if (pt_cmpR (op_neD hr.units) (pe_ghas GR hgu hr (pa_cons (pv 2) (pa_cons (pv 0) (pa_cons (pv 1) pa_nil)))) (pe_lst (pa_cons pe_str (pa_cons (pe_callB (call_repX hgu hr.units) (by rfl) mp (by decide +kernel) (pa_cons (pv 1) pa_nil)) pa_nil))) (nomark _)) (pss_one (ps_ret pe_bl)) pss_nil)))))
      (pss_cons (ps_for PassesOwn.never rfl (pi_list (pe_lst (pa_cons pe_non (pa_cons (pe_lst pa_nil) (pa_cons pe_str (pa_cons (pe_tup (pa_cons pe_str pa_nil)) (pa_cons (pe_lst (pa_cons pe_str pa_nil)) (pa_cons pe_int (pa_cons (pe_tup (pa_cons (pe_tup pa_nil) pa_nil)) pa_nil))))))))) (pg_name (i := 1) scBb.nd rfl (.inl rfl))
        (pss_one (ps_if (pt_cmpR (op_neD hr.units) (pe_ghas GR hgu hr (pa_cons pe_int (pa_cons (pv 0) (pa_cons (pv 1) pa_nil)))) (pe_lst (pa_cons pe_str (pa_cons (pe_callB (call_repL hgu hr.units) (by rfl) mp (by decide +kernel) (pa_cons (pe_disp (trs := [(tC (.str "low"), tVar 1)]) (pps_cons pe_str (pv 1) pps_nil) rfl rfl (by simp) (by decide)) pa_nil)) pa_nil))) (nomark _)) (pss_one (ps_ret pe_bl)) pss_nil)))
      (pss_cons (ps_if (pt_cmpR (op_neD hr.units) (pe_lc (own := [("_law_bound", 3)]) (g := gName 3) (tt := tYes) (te := tCall (spTo K c C O) [] E0 (tCons (tC (.int 8)) (tCons (tVar 0) (tCons (tVar 3) tNil)))) rfl scBb.nd (pi_list (pe_lst (pa_cons pe_int (pa_cons pe_int (pa_cons pe_int (pa_cons pe_non pa_nil)))))) (blkOk_by (own := [("_law_bound", 3)]) (N := nBb) (sc := defScope sLawBadBoundsRight) (by decide +kernel))
          (fun _ _ _ _ _ => pg_name (i := 3) scBb.nd rfl (.inl rfl)) (fun _ _ _ _ _ => pts_nil) (fun _ _ _ _ _ => pe_ghas GR hgu hr (pa_cons pe_int (pa_cons (pv 0) (pa_cons (pv 3) pa_nil)))))
        (pe_lst (pa_cons (pe_lst (pa_cons pe_str (pa_cons pe_int pa_nil))) (pa_cons (pe_lst (pa_cons pe_str (pa_cons pe_int pa_nil))) (pa_cons (pe_lst (pa_cons pe_str pa_nil)) (pa_cons (pe_lst (pa_cons pe_str pa_nil)) pa_nil))))) (nomark _)) (pss_one (ps_ret pe_bl)) pss_nil)
      (pss_one (ps_ret (pe_and (pe_cmpR (op_eqD hr.units) (pe_ghas GR hgu hr (pa_cons pe_int (pa_cons (pv 0) (pa_cons (pe_tup (pa_cons pe_str pa_nil)) pa_nil)))) (pe_lst (pa_cons pe_str (pa_cons pe_int pa_nil))) (nomark _)) (pe_one (pe_cmpR (op_eqD hr.units) (pe_ghas GR hgu hr (pa_cons pe_int (pa_cons (pv 0) (pa_cons pe_non pa_nil)))) (pe_lst (pa_cons pe_str (pa_cons pe_str pa_nil))) (nomark _)))))))), ?_⟩
    dsimp only [gName, tSeq]
    refine TDs.forL (K := K) (H0 := H) (ds := numOdds) (.cons (.bl _) (.cons (.bl _) (.cons (.neg 1) (.cons (.int _) (.cons (.str _) (.cons (.tup .nil (by decide)) (.cons (.lst (.cons (.int _) .nil) (by decide)) .nil))))))) (by decide) (Same.refl H) (fun La vs H2 s2 hLa hV => ?_)
    refine for_list (K := K) (a := La) (xs := vs) (fun j σ Hx => ∃ (y1 y2 y3 : Option V), σ = [some (.ref o), y1, y2, y3] ∧ Same H2 Hx) ⟨_, _, _, rfl, Same.refl _⟩ (fun j σ Hx _ q => ?_) ?_ ?_
    · obtain ⟨_, _, _, _, s⟩ := q
      exact .of (s _ _ hLa)
    · rintro j x1 σ Hx hx ⟨y1, y2, y3, rfl, sx⟩
      obtain ⟨d, hd, hD⟩ := hV.at hx
      have ok := List.all_eq_true.mp numOdds_ok d (List.mem_of_getElem? hd)
      simp only [Bool.and_eq_true, Bool.not_eq_true'] at ok
      have sk := (sh_of ok.1).1
      have ft := ft_of ok.2.2
      have sHx := s2.trans sx
      have hX : ∀ {Hy : Hp}, Same Hx Hy → DpX K Hy x1 d := fun s => DpX.same (sx.trans s) _ _ hD
      refine TDs.forL (K := K) (H0 := Hx) (ds := [.int 5, .int 6, .int 8]) (.cons (.int _) (.cons (.int _) (.cons (.int _) .nil))) (by decide) (Same.refl Hx) (fun Lb ws H3 s3 hLb hW => ?_)
      refine for_list (K := K) (a := Lb) (xs := ws) (fun j σ Hy => ∃ (y2 y3 : Option V), σ = [some (.ref o), some x1, y2, y3] ∧ Same H3 Hy) ⟨_, _, rfl, Same.refl _⟩ (fun j σ Hy _ q => ?_) ?_ ?_
      · obtain ⟨_, _, _, s⟩ := q
        exact .of (s _ _ hLb)
      · rintro i x2 σ Hy hy ⟨y2, y3, rfl, sy⟩
        obtain ⟨e, he, hE⟩ := hW.at hy
        obtain ⟨dr, rfl, hdr⟩ : ∃ dr : Int, x2 = .int dr ∧ (dr = 5 ∨ dr = 6 ∨ dr = 8) := by
          have m := List.mem_of_getElem? he
          simp only [List.mem_cons, List.not_mem_nil, or_false] at m
          rcases m with rfl | rfl | rfl
          · cases hE; exact ⟨_, rfl, .inl rfl⟩
          · cases hE; exact ⟨_, rfl, .inr (.inl rfl)⟩
          · cases hE; exact ⟨_, rfl, .inr (.inr rfl)⟩
        have s0 := (sHx.trans s3).trans sy
        refine ⟨_, rfl, _, rfl, _, rfl, to_num (E := E) ho (hs.same s0) hdr (hX (s3.trans sy)) ok.2.1 sk fun l1 H5 s5 n5 h5 => ?_⟩
        refine ⟨_, rfl, x1, d, rfl, hX ((s3.trans sy).trans s5), sk.1, sk.2.1, sk.2.2, (by show 2 ≤ sizeLine; decide), fun l2 hl2 => ?_⟩
        have s6 := Same.new (o := .lst [V.str "number", .str d.shown]) hl2
        refine ne_data ft.1 ft.2 (.lst (.of (s6 _ _ h5)) (.cons (.str _) (.cons (.str _) .nil))) (.lst (.of upd_same) (.cons (.str _) (.cons (.str _) .nil))) ⟨_, rfl, iteF ?_⟩
        exact ⟨_, _, rfl, sy.trans (s5.trans s6)⟩
      · rintro σ Hy ⟨y2, y3, rfl, sy⟩
        exact ⟨_, _, _, rfl, sx.trans (s3.trans sy)⟩
    rintro σ HA ⟨y1, y2, y3, rfl, sA⟩
    have s1A := s2.trans sA
    refine TDs.forL (K := K) (H0 := HA) (ds := stkOdds) (.cons .non (.cons (.lst .nil (by decide)) (.cons (.str _) (.cons (.tup (.cons (.str _) .nil) (by decide)) (.cons (.lst (.cons (.str _) .nil) (by decide)) (.cons (.int _) (.cons (.tup (.cons (.tup .nil (by decide)) .nil) (by decide)) .nil))))))) (by decide) (Same.refl HA) (fun La vs H2 s2 hLa hV => ?_)
    refine for_list (K := K) (a := La) (xs := vs) (fun j σ Hx => ∃ (y1 y2 y3 : Option V), σ = [some (.ref o), y1, y2, y3] ∧ Same H2 Hx) ⟨_, _, _, rfl, Same.refl _⟩ (fun j σ Hx _ q => ?_) ?_ ?_
    · obtain ⟨_, _, _, _, s⟩ := q
      exact .of (s _ _ hLa)
    · rintro j x1 σ Hx hx ⟨y1, y2, y3, rfl, sx⟩
      obtain ⟨d, hd, hD⟩ := hV.at hx
      have ok := List.all_eq_true.mp stkOdds_ok d (List.mem_of_getElem? hd)
      simp only [Bool.and_eq_true, Bool.not_eq_true'] at ok
      have sk := (sh_of ok.2.1).2
      have ft := ft_of ok.2.2.2
      have s0 := (s1A.trans s2).trans sx
      have hX : ∀ {Hy : Hp}, Same Hx Hy → DpX K Hy x1 d := fun s => DpX.same (sx.trans s) _ _ hD
      refine ⟨_, rfl, _, rfl, to_low7 (E := E) ho (hs.same s0) (hX (Same.refl _)) (sm_ok ok.1) ok.2.2.1 sk fun l1 H5 s5 n5 h5 => ?_⟩
      refine fun p hp => ⟨_, rfl, upd_same, [(.inr "low", x1)], rfl, (by show 1 ≤ 15; decide), ?_⟩
      have s6 := same_disp (a := .dK []) (b := .dK (mergeK [] [(Sum.inr "low", x1)])) hp
      refine ⟨_, _, rfl, .inr ⟨p, x1, d, rfl, upd_same, hX (s5.trans s6), sk.1, sk.2.1, sk.2.2.1, sk.2.2.2, rfl⟩, (by show 2 ≤ sizeLine; decide), fun l2 hl2 => ?_⟩
      have s7 := Same.new (o := .lst [V.str "stacks", .str (lowT d)]) hl2
      refine ne_data ft.1 ft.2 (.lst (.of (s7 _ _ (s6 _ _ h5))) (.cons (.str _) (.cons (.str _) .nil))) (.lst (.of upd_same) (.cons (.str _) (.cons (.str _) .nil))) ⟨_, rfl, iteF ?_⟩
      exact ⟨_, _, _, rfl, sx.trans (s5.trans (s6.trans s7))⟩
    rintro σ HB ⟨y1, y2, y3, rfl, sB⟩
    have s1B := s1A.trans (s2.trans sB)
    clear sA sB hLa hV
    refine ⟨(by show 4 ≤ sizeLine; decide), fun Lc hLc => ⟨Lc, rfl, ⟨_, .of upd_same⟩, fun D hD => ?_⟩⟩
    have s3 := Same.new (o := .lst [V.int 0, .int 2, .int 3, .non]) hLc
    have hLc' : upd HB Lc (.lst [V.int 0, .int 2, .int 3, .non]) Lc = some (.lst [V.int 0, .int 2, .int 3, .non]) := upd_same
    generalize upd HB Lc (.lst [V.int 0, .int 2, .int 3, .non]) = HC at s3 hLc' hD ⊢
    have s1C := s1B.trans s3
    refine lc_rows (n := 4) (walk_list (K := K) (a := Lc) (xs := [V.int 0, .int 2, .int 3, .non])) (rows8.map fun ds => ds.map fV) rfl (by decide) hD (fun Hx s => .of (s _ _ hLc')) (fun i H x H' y => y.1) ?_ ?_
    · rintro i x1 Hx r hr sx y Q2 Z q
      have ho' := hs.same (s1C.trans sx)
      refine ⟨rfl, yes_in ⟨_, rfl, _, rfl, ?_⟩⟩
      match i, y.2, hr with
      | 0, y, hr =>
        cases y
        cases hr
        exact to_8 (E := E) (l2 := some 0) ho ho' (fun n e => by cases e; decide) (fun _ => q) (fun e => absurd e (by decide))
      | 1, y, hr =>
        cases y
        cases hr
        exact to_8 (E := E) (l2 := some 2) ho ho' (fun n e => by cases e; decide) (fun _ => q) (fun e => absurd e (by decide))
      | 2, y, hr =>
        cases y
        cases hr
        exact to_8 (E := E) (l2 := some 3) ho ho' (fun n e => by cases e; decide) (fun e => absurd e (by decide)) (fun _ => q)
      | 3, y, hr =>
        cases y
        cases hr
        exact to_8 (E := E) (l2 := none) ho ho' (fun n e => by cases e) (fun e => absurd e (by decide)) (fun _ => q)
    · intro as HD sD hDl pr
      have s1D := s1C.trans sD
      have hT : DpX K HD (.ref D) (.list (rows8.map .list)) := dpx_rows hDl (by decide +kernel) pr
      have ft := ft_of rows8_ok
      refine TDs.list (K := K) (H0 := HD) (ds := rows8.map .list) (.cons (.lst (.cons (.str _) (.cons (.int _) .nil)) (by decide)) (.cons (.lst (.cons (.str _) (.cons (.int _) .nil)) (by decide)) (.cons (.lst (.cons (.str _) .nil) (by decide)) (.cons (.lst (.cons (.str _) .nil) (by decide)) .nil)))) (by decide) (Same.refl _) fun q2 vs2 HE sE hq2 hv2 => ?_
      refine ne_data ft.1 ft.2 (DpX.same sE _ _ hT) (.lst (.of hq2) hv2) ⟨_, rfl, iteF ?_⟩
      have s1E := s1D.trans sE
      refine ⟨_, rfl, (by show 1 ≤ sizeLine; decide), fun t ht => ?_⟩
      have s4 := Same.new (o := .tup [V.str "a"]) ht
      refine to_lim7 (E := E) ho (hs.same (s1E.trans s4)) (.of upd_same) fun l1 H5 s5 n5 h5 => ?_
      refine ⟨(by show 2 ≤ sizeLine; decide), fun l2 hl2 => ?_⟩
      have s6 := Same.new (o := .lst [V.str "limit", .int 0]) hl2
      have f1 := ft_of (d := .list [.str "limit", .int 0]) (by decide +kernel)
      refine eq_data f1.1 f1.2 (.lst (.of (s6 _ _ h5)) (.cons (.str _) (.cons (.int _) .nil))) (.lst (.of upd_same) (.cons (.str _) (.cons (.int _) .nil))) ?_
      have s16 := (s1E.trans s4).trans (s5.trans s6)
      refine ⟨true, rfl, iteT ?_⟩
      refine ⟨_, rfl, to_low6 (E := E) ho (hs.same s16) fun l3 H7 s7 n7 h7 => ?_⟩
      refine ⟨(by show 2 ≤ sizeLine; decide), fun l4 hl4 => ?_⟩
      have s8 := Same.new (o := .lst [V.str "stacks", .str "{'low': None}"]) hl4
      have f2 := ft_of (d := .list [.str "stacks", .str "{'low': None}"]) (by decide +kernel)
      have e2 : lowT .none = "{'low': None}" := by decide +kernel
      rw [e2] at h7
      exact eq_data f2.1 f2.2 (.lst (.of (s8 _ _ h7)) (.cons (.str _) (.cons (.str _) .nil))) (.lst (.of upd_same) (.cons (.str _) (.cons (.str _) .nil))) (k _ (s16.trans (s7.trans s8)))
end
end SE
namespace SE
open PySem PySem.Spec PyProof.Rows L2
theorem item_D {z : Str} (h : Item z) : itemD (.str z) = true := by
  have l1 := h.pos
  have l2 := h.most
  show (decide (1 ≤ z.length ∧ z.length ≤ 8) && (z.cps.toList.map fun c => decide (c ∈ abc.cps.toList)).all id) = true
  rw [decide_eq_true ⟨l1, l2⟩, Bool.true_and, List.all_eq_true]
  intro b mb
  obtain ⟨c, mc, rfl⟩ := List.mem_map.mp mb
  exact decide_eq_true (abc_has (h.low c mc))
def nstD (s : NSt) : PyData := .tuple [.str (act s.1), .str s.2.1, .str s.2.2]
theorem nstD_nice {s : NSt} (h : NOk s) : NX 10 1000 (nstD s) := by
  refine ((nice_tuple (k := 0) (B := 8) (ds := [.str (act s.1), .str s.2.1, .str s.2.2]) ?_).mono (Nat.le_refl 1) (show 3 * 9 ≤ 27 by decide)).nx.mono (by decide) (by decide)
  intro d hd
  rcases List.mem_cons.mp hd with q | q
  · rw [q]
    exact act_nice _
  · rcases List.mem_cons.mp q with q | q
    · rw [q]
      exact h.n.nice
    · rw [List.mem_singleton.mp q]
      exact h.i.nice
theorem nstB_ok {s : NSt} (h : NOk s) : nstB (nstD s) = true := by
  show (itemD (.str s.2.1) && (actD (.str (act s.1)) && itemD (.str s.2.2))) = true
  rw [item_D h.n, item_D h.i]
  have e : actD (.str (act s.1)) = true := by cases s.1 <;> decide +kernel
  rw [e]
  rfl
/-- one odd value behind steps -/
theorem bad_last {ss : List NSt} (hI : ∀ s ∈ ss, NOk s) (hl : ss.length ≤ 20) {d : PyData} (h1 : nstB d = false) (h2 : NX 10 1000 d) : OkD (.list (ss.map nstD ++ [d])) ∧ BadN (.list (ss.map nstD ++ [d])) (.int (ss.length : Nat)) := by
  have lt : (ss.map nstD).length = ss.length := List.length_map _
  have el : ∀ y ∈ ss.map nstD ++ [d], NX 10 1000 y := fun y m => by
    rcases List.mem_append.mp m with m | m
    · obtain ⟨s, ms, rfl⟩ := List.mem_map.mp m
      exact nstD_nice (hI s ms)
    · rw [List.mem_singleton.mp m]
      exact h2
  have hj2 : (ss.map nstD ++ [d])[ss.length]? = some d := by
    rw [List.getElem?_append_right (by omega), lt, Nat.sub_self]
    rfl
  refine ⟨(nx_list el).mono (by decide) (by rw [List.length_append, lt, List.length_singleton]; omega), .inr ⟨_, ss.length, d, .inl rfl, by rw [List.length_append, lt, List.length_singleton]; omega, hj2, h1, fun i y hi hy => ?_, fun i y hi hy => el y (List.mem_of_getElem? hy), rfl⟩⟩
  rw [List.getElem?_append_left (by omega)] at hy
  obtain ⟨s, ms, rfl⟩ := List.mem_map.mp (List.mem_of_getElem? hy)
  exact nstB_ok (hI s ms)
theorem cutV_to (us : List V) (j : Nat) : cutV us none (some (j : Int)) = us.take j := by
  have q := cutF_to (id : V → V) us j
  rwa [List.map_id, List.map_id] at q
theorem NStH.but {H H' : Hp} {p : Addr} {xs : List V} {ss : List NSt} (h : NStH H xs ss) (hp : Pool H p) (b : But p H H') : NStH H' xs ss := Paired.mapP h fun _ _ q => by
  obtain ⟨t, e, z⟩ := q
  exact ⟨t, e, b t _ (hp.ne z) z⟩
theorem dpx_nsts {K : PySem.W.Frag} {H : Hp} : ∀ {xs : List V} {ss : List NSt}, NStH H xs ss → DpXs K H xs (ss.map nstD)
  | _, _, .nil => .nil
  | _, _, .cons a r => by
    obtain ⟨t, rfl, q⟩ := a
    exact .cons (.tup (.of q) (.cons (.str _) (.cons (.str _) (.cons (.str _) .nil)))) (dpx_nsts r)
theorem DpXs.app {K : PySem.W.Frag} {H : Hp} : ∀ {xs ys : List V} {ds es : List PyData}, DpXs K H xs ds → DpXs K H ys es → DpXs K H (xs ++ ys) (ds ++ es)
  | _, _, _, _, .nil, h => h
  | _, _, _, _, .cons a r, h => .cons a (r.app h)
theorem DpXs.rep {K : PySem.W.Frag} {H : Hp} {v : V} {d : PyData} (h : DpX K H v d) : ∀ n, DpXs K H (List.replicate n v) (List.replicate n d)
  | 0 => .nil
  | n + 1 => .cons h (DpXs.rep h n)
theorem rep_flat {α : Type} (x : α) (n : Nat) : (List.replicate n [x]).flatten = List.replicate n x := by
  induction n with
  | zero => rfl
  | succ n ih => rw [List.replicate_succ, List.replicate_succ, List.flatten_cons, ih]; rfl
theorem paired_take {α β : Type} {F : α → β → Prop} : ∀ {a : List α} {b : List β} (j : Nat), Paired F a b → Paired F (a.take j) (b.take j)
  | _, _, 0, _ => by rw [List.take_zero, List.take_zero]; exact .nil
  | _, _, _ + 1, .nil => .nil
  | _, _, j + 1, .cons a r => .cons a (paired_take j r)
/-! ### data beside the pool -/
def isI : PyData → Bool
  | .int _ => true
  | _ => false
mutual
/-- no list in it could be a pool -/
def noP : PyData → Bool
  | .list ds => !(ds.length == 2 && ds.all isI) && noPs ds
  | .tuple ds => noPs ds
  | _ => true
def noPs : List PyData → Bool
  | [] => true
  | d :: ds => noP d && noPs ds
end
theorem pool_dp {K : PySem.W.Frag} {H : Hp} {m s : Int} {ds : List PyData} (h : DpXs K H [.int m, .int s] ds) : (ds.length == 2 && ds.all isI) = true := by
  cases h with
  | cons a r =>
    cases r with
    | cons b r =>
      cases r
      cases a
      cases b
      rfl
mutual
theorem DpX.but {K : PySem.W.Frag} {H H' : Hp} {p : Addr} (hp : Pool H p) (b : But p H H') : ∀ (d : PyData) {v : V}, noP d = true → DpX K H v d → DpX K H' v d
  | .none, _, _, h => by cases h; exact .non
  | .bool _, _, _, h => by cases h; exact .bl _
  | .int i, _, _, h => by cases h; exact .int i
  | .str z, _, _, h => by cases h; exact .str z
  | .list ds, _, n, h => by
    cases h with
    | @lst a xs _ h1 h2 =>
      simp only [noP, Bool.and_eq_true, Bool.not_eq_true'] at n
      refine .lst ?_ (DpXs.but hp b ds n.2 h2)
      obtain ⟨m, s, q, _⟩ := hp.ex
      rcases h1 with (z | ⟨o, z⟩) | z
      · refine .inl (.inl (b _ _ (fun e => ?_) z))
        rw [e, q] at z
        cases z
        rw [pool_dp h2] at n
        cases n.1
      · exact .inl (.inr ⟨o, b _ _ (fun e => (by rw [e, q] at z; cases z)) z⟩)
      · exact .inr z
  | .tuple ds, _, n, h => by
    cases h with
    | @tup a xs _ h1 h2 =>
      simp only [noP] at n
      refine .tup ?_ (DpXs.but hp b ds n h2)
      obtain ⟨m, s, q, _⟩ := hp.ex
      rcases h1 with (z | ⟨o, z⟩) | z
      · exact .inl (.inl (b _ _ (fun e => (by rw [e, q] at z; cases z)) z))
      · exact .inl (.inr ⟨o, b _ _ (fun e => (by rw [e, q] at z; cases z)) z⟩)
      · exact .inr z
  | .dict kvs, _, _, h => by
    cases h with
    | @emp a h1 =>
      refine .emp (b _ _ (fun e => ?_) h1)
      obtain ⟨m, s, q, _⟩ := hp.ex
      rw [e, q] at h1
      cases h1
theorem DpXs.but {K : PySem.W.Frag} {H H' : Hp} {p : Addr} (hp : Pool H p) (b : But p H H') : ∀ (ds : List PyData) {vs : List V}, noPs ds = true → DpXs K H vs ds → DpXs K H' vs ds
  | [], _, _, h => by cases h; exact .nil
  | d :: ds, _, n, h => by
    cases h with
    | cons h1 h2 =>
      simp only [noPs, Bool.and_eq_true] at n
      exact .cons (DpX.but hp b d n.1 h1) (DpXs.but hp b ds n.2 h2)
end
end SE
namespace SE
open PySem PySem.Spec PyProof.Rows L2
def stpOdds : List PyData := [.none, .str "A", .str "", .int 5, .tuple [.str "a"], .list [], .str "abcdefghi"]
def okPair (e1 e2 : PyData) (b : Bool) : Bool := smB (stD b e1 e2) && (!nstB (.tuple [.str (act b), e1, e2]) && smB (.tuple [.str (act b), e1, e2]))
theorem TDs.lstR {K : PySem.W.Frag} {H0 : Hp} {σ : L2.St} {t : TA} {ds : List PyData} (h : TDs K H0 σ t ds) {H : Hp} {Q : VK} (s : Same H0 H) (k : ∀ (vs : List V) (H' : Hp), Same H H' → DpXs K H' vs ds → vs.length ≤ sizeLine ∧ ∀ p, H' p = none → Q (.ref p) (upd H' p (.lst vs))) : tLst t σ H Q := h.run s k
theorem okP {e1 e2 : PyData} {b : Bool} (h : okPair e1 e2 b = true) : smB (stD b e1 e2) = true ∧ nstB (.tuple [.str (act b), e1, e2]) = false ∧ smB (.tuple [.str (act b), e1, e2]) = true := by
  unfold okPair at h
  simpa only [Bool.and_eq_true, Bool.not_eq_true'] using h
theorem stpOdds_ok : (stpOdds.all fun d => okPair d (.str "a") true && (okPair d (.str "a") false && (okPair (.str "one") d true && (okPair (.str "one") d false && (smB d && (shB d && (!itemD d && ftB (.list [.list [.str "word", .str d.shown], .list [.str "word", .str d.shown]])))))))) = true := by decide +kernel
def wrongs : List PyData := [.none, .tuple [.str "push", .str "a"], .tuple [.str "push", .str "one", .str "A"], .list [.str "pop", .str "one", .str "a"], .tuple [.str "peek", .str "one", .str "a"]]
theorem wrongs_ok : (wrongs.all fun d => smB d && (!nstB d && noP d)) = true := by decide +kernel
theorem Pool.loose {H : Hp} {p : Addr} (h : Pool H p) : Loose H p := by
  obtain ⟨m, s, e, _⟩ := h.ex
  exact .lst e
theorem Pool.but {H H' : Hp} {p : Addr} (h : Pool H p) (b : But p H H') : Keep [p] H H' := ⟨fun c m => by rw [List.mem_singleton.mp m]; exact h.loose, fun c u n q => b c u (fun e => n (by rw [e]; simp)) q⟩
theorem Keep.andS {S : List Addr} {H H' H2 : Hp} (k : Keep S H H') (s : Same H' H2) : Keep S H H2 := ⟨k.1, fun c u n q => s _ _ (k.2 c u n q)⟩
theorem NStH.same' {H H' : Hp} {xs : List V} {ss : List NSt} (h : NStH H xs ss) (s : Same H H') : NStH H' xs ss := nsth_same h s
theorem i_a : Item "a" := ⟨by decide +kernel, by decide +kernel, by decide +kernel⟩
theorem i_no : Item "nowhere" := ⟨by decide +kernel, by decide +kernel, by decide +kernel⟩
theorem ftI (i : Int) : ftB (.list [.str "steps", .int i]) = true := by
  have st : PyData.strOk "steps" = true := by decide +kernel
  have c : (PyData.list [.str "steps", .int i]).canLay0 = true := by simp only [PyData.canLay0, PyData.canLayAll0, st, Bool.and_self]
  unfold ftB
  rw [c, Bool.true_and]
  unfold SeqAt.shaped
  rw [c, Bool.true_and]
  refine decide_eq_true ?_
  simp only [PyData.depth, PyData.depthAll]
  decide
/-- a value, and what its refusal names -/
def ThD (d : PyData) : Prop := ∃ y e, d = .tuple [y, e] ∧ OkD y ∧ BadN y (fV e) ∧ flB e = true ∧ ftB (.list [.str "steps", e]) = true
theorem dpx_fv {K : PySem.W.Frag} {H : Hp} {v : V} : ∀ {e : PyData}, flB e = true → DpX K H v e → v = fV e
  | .none, _, h => by cases h; rfl
  | .int i, _, h => by cases h; rfl
  | .str z, _, h => by cases h; rfl
  | .bool _, h, _ => by cases h
  | .list _, h, _ => by cases h
  | .tuple _, h, _ => by cases h
  | .dict _, h, _ => by cases h
section
variable {P : Program} {w : World} {K : PySem.W.Frag} {mg : Str → Option Value} {base : Heap} {C : Addr} {c : Cs64} {O : Option Addr → Prop}
/-! ### _law_bad_steps_right -/
abbrev p1a : NSt := (true, "one", "a")
abbrev p2a : NSt := (false, "nowhere", "a")
def spBs (K : PySem.W.Frag) (C : Addr) (O : Option Addr → Prop) : Sp := fun vs H Q _ => ∃ (x : Option Addr) (p o L la : Addr) (ct : Cn) (ss : Sk) (l : Lim) (ds : List Deed) (us : List V) (ns : List NSt) (s1 : Sk) (m b : Nat), O x ∧ vs = [.ref p, .ref o, .ref la] ∧ Pool H p ∧ p ∉ ownS o L x ∧ SesX K C x ct H o L ss l ds ∧ la ≠ p ∧ H la = some (.lst us) ∧ NStH H us ns ∧ (∀ s ∈ ns, NOk s) ∧ ns.length ≤ 10 ∧
  SkOk ss m b ∧ m ≤ 1000 ∧ b ≤ 1000 ∧ ds.length ≤ 1000 ∧ ct.length ≤ 1000 ∧ perfS l [p1a] ss = some s1 ∧ perfS l [p1a, p2a] ss = none ∧ ∀ (ct' : Cn) (H' : Hp), Keep (p :: ownS o L x) H H' → SesX K C x ct' H' o L ss l ds → Q (.bl true) H'
abbrev nBs : List Str := ["_law_pool_here", "_law_session", "_law_steps_here", "_law_odd", "_law_pair", "_law_at", "_law_wrong", "_law_first", "_law_things", "_law_thing", "_law_due", "_law_door"]
theorem scBs : FnScope nBs ["_law_pool_here", "_law_session", "_law_steps_here"] (defScope sLawBadStepsRight) := ⟨rfl, rfl, rfl, by decide +kernel, rfl, by decide +kernel, by decide +kernel⟩
theorem ghas_bs (D : Def K mg "_law_bad_steps_right" sLawBadStepsRight) (GR : GHas P w K mg base "_law_told" 9 pTo (spTo K c C O)) (GT : Has P w K mg base "_law_take" 1 ["_law_pool_here", "_law_many"] [] spTake) (B : Blt mg) (mp : mg "repr" = none) (mr : mg "range" = none) : GHas P w K mg base "_law_bad_steps_right" 10 ["_law_pool_here", "_law_session", "_law_steps_here"] (spBs K C O) := by
  refine ghas_of D scBs (fun _ _ _ _ _ _ us hl => match us, hl with | [_, _, _], _ => rfl) (fun xs H Q E h => ?_) (fun f cv A' out s H xs Q E hgu hr h => ?_)
  · obtain ⟨x, p, o, L, la, ct, ss, l, ds, us, ns, s1, m, b, _, rfl, _⟩ := h
    rfl
  · obtain ⟨x, p, o, L, la, ct, ss, l, ds, us, ns, s1, m, b, ho, rfl, hp, hpo, hs, lap, hla, hns, hI, ln, ok, hm, hb, hdl, hct, g1, g2, k⟩ := h
    have hr1 : Room 1 _ := hr.mono (by decide)
    refine ⟨_, (pss_cons (ps_for PassesOwn.never rfl (pi_list (pe_lst (pa_cons pe_non (pa_cons pe_str (pa_cons pe_str (pa_cons pe_int (pa_cons (pe_tup (pa_cons pe_str pa_nil)) (pa_cons (pe_lst pa_nil) (pa_cons pe_str pa_nil))))))))) (pg_name (i := 3) scBs.nd rfl (.inr rfl)) (pss_cons (ps_for PassesOwn.never rfl (pi_list (pe_lst (pa_cons (pe_tup (pa_cons (pv 3) (pa_cons pe_str pa_nil))) (pa_cons (pe_tup (pa_cons pe_str (pa_cons (pv 3) pa_nil))) pa_nil)))) (pg_name (i := 4) scBs.nd rfl (.inr rfl)) (pss_one (ps_if (pt_cmpR (op_neD hr.units) (pe_lc (own := [("_law_door", 11)]) (g := gName 11) (tt := tYes) (te := tCall (spTo K c C O) [] E0 (tCons (tVar 11) (tCons (tVar 1) (tCons (tVar 4) tNil)))) rfl scBs.nd (pi_range1 (by rfl) mr (pa_cons pe_int pa_nil)) (blkOk_by (own := [("_law_door", 11)]) (N := nBs) (sc := defScope sLawBadStepsRight) (by decide +kernel))
          (fun _ _ _ _ _ => pg_name (i := 11) scBs.nd rfl (.inl rfl)) (fun _ _ _ _ _ => pts_nil) (fun _ _ _ _ _ => (pe_ghas GR hgu hr (pa_cons (pv 11) (pa_cons (pv 1) (pa_cons (pv 4) pa_nil)))))) (pe_op op_rep (pe_lst (pa_cons (pe_lst (pa_cons pe_str (pa_cons pe_int pa_nil))) pa_nil)) pe_int) (nomark _)) (pss_one (ps_ret pe_bl)) pss_nil)))
      (pss_one (ps_if (pt_cmpR (op_neD hr.units) (pe_lc (own := [("_law_door", 11)]) (g := gName 11) (tt := tYes) (te := tCall (spTo K c C O) [] E0 (tCons (tVar 11) (tCons (tVar 1) (tCons (tVar 3) tNil)))) rfl scBs.nd (pi_list (pe_lst (pa_cons pe_int (pa_cons pe_int pa_nil)))) (blkOk_by (own := [("_law_door", 11)]) (N := nBs) (sc := defScope sLawBadStepsRight) (by decide +kernel))
          (fun _ _ _ _ _ => pg_name (i := 11) scBs.nd rfl (.inl rfl)) (fun _ _ _ _ _ => pts_nil) (fun _ _ _ _ _ => (pe_ghas GR hgu hr (pa_cons (pv 11) (pa_cons (pv 1) (pa_cons (pv 3) pa_nil)))))) (pe_op op_rep (pe_lst (pa_cons (pe_lst (pa_cons pe_str (pa_cons (pe_callB (call_repX hgu hr.units) (by rfl) mp (by decide +kernel) (pa_cons (pv 3) pa_nil)) pa_nil))) pa_nil)) pe_int) (nomark _)) (pss_one (ps_ret pe_bl)) pss_nil))))
      (pss_cons (ps_set (i := 5) scBs.nd rfl (.inl rfl) (pe_has GT hr1 (pa_cons (pv 0) (pa_cons (pe_op op_add (pe_callB call_len_seq (by rfl) B.len PySem.boot_len (pa_cons (pv 2) pa_nil)) pe_int) pa_nil))))
      (pss_cons (ps_set (i := 6) scBs.nd rfl (.inl rfl) (pe_ix ix_list (pe_lst (pa_cons pe_non (pa_cons (pe_tup (pa_cons pe_str (pa_cons pe_str pa_nil))) (pa_cons (pe_tup (pa_cons pe_str (pa_cons pe_str (pa_cons pe_str pa_nil)))) (pa_cons (pe_lst (pa_cons pe_str (pa_cons pe_str (pa_cons pe_str pa_nil)))) (pa_cons (pe_tup (pa_cons pe_str (pa_cons pe_str (pa_cons pe_str pa_nil)))) pa_nil)))))) (pe_has GT hr1 (pa_cons (pv 0) (pa_cons pe_int pa_nil))) (fun _ _ => rfl)))
      (pss_cons (ps_set (i := 7) scBs.nd rfl (.inl rfl) (pe_lst (pa_cons (pe_tup (pa_cons pe_str (pa_cons pe_str (pa_cons pe_str pa_nil)))) pa_nil)))
      (pss_cons (ps_set (i := 8) scBs.nd rfl (.inl rfl) (pe_lst (pa_cons (pe_tup (pa_cons (pe_op op_cat (pe_slice sl_list (pv 2) po_none (po_some (pv 5))) (pe_lst (pa_cons (pv 6) pa_nil))) (pa_cons (pv 5) pa_nil))) (pa_cons (pe_tup (pa_cons (pe_op op_cat (pv 7) (pe_lst (pa_cons (pv 6) pa_nil))) (pa_cons pe_int pa_nil))) (pa_cons (pe_tup (pa_cons pe_non (pa_cons pe_non pa_nil))) (pa_cons (pe_tup (pa_cons pe_dnewK (pa_cons pe_non pa_nil))) (pa_cons (pe_tup (pa_cons (pe_op op_rep (pv 7) pe_int) (pa_cons pe_non pa_nil))) pa_nil)))))))
      (pss_cons (ps_for PassesOwn.never rfl (pi_list (pv 8)) (pg_tup (by rfl) (pgs_cons (pg_name (i := 9) scBs.nd rfl (.inl rfl)) (pgs_cons (pg_name (i := 10) scBs.nd rfl (.inl rfl)) pgs_nil))) (pss_one (ps_if (pt_cmpR (op_neD hr.units) (pe_ghas GR hgu hr (pa_cons pe_int (pa_cons (pv 1) (pa_cons (pv 9) pa_nil)))) (pe_lst (pa_cons pe_str (pa_cons (pv 10) pa_nil))) (nomark _)) (pss_one (ps_ret pe_bl)) pss_nil)))
      (pss_one (ps_ret (pe_cmpR (op_eqD hr.units) (pe_ghas GR hgu hr (pa_cons pe_int (pa_cons (pv 1) (pa_cons (pe_op op_cat (pe_lst (pa_cons (pe_tup (pa_cons pe_str (pa_cons pe_str (pa_cons pe_str pa_nil)))) pa_nil)) (pv 7)) pa_nil)))) (pe_lst (pa_cons pe_str (pa_cons pe_int pa_nil))) (nomark _)))))))))), ?_⟩
    dsimp only [gName, tSeq]
    have f2 := ft_of (d := .list ([[PyData.str "steps", .int 0], [.str "steps", .int 0]].map .list)) (by decide +kernel)
    refine TDs.forL (K := K) (H0 := H) (ds := stpOdds) (.cons .non (.cons (.str _) (.cons (.str _) (.cons (.int _) (.cons (.tup (.cons (.str _) .nil) (by decide)) (.cons (.lst .nil (by decide)) (.cons (.str _) .nil))))))) (by decide) (Same.refl H) (fun La vs H2 s2 hLa hV => ?_)
    refine for_list (K := K) (a := La) (xs := vs) (fun j σ Hx => ∃ (y3 y4 y5 y6 y7 y8 y9 y10 y11 : Option V), σ = [some (.ref p), some (.ref o), some (.ref la), y3, y4, y5, y6, y7, y8, y9, y10, y11] ∧ Same H2 Hx) ⟨_, _, _, _, _, _, _, _, _, rfl, Same.refl _⟩ (fun j σ Hx _ q => ?_) ?_ ?_
    · obtain ⟨_, _, _, _, _, _, _, _, _, _, s⟩ := q
      exact .of (s _ _ hLa)
    · rintro j x1 σ Hx hx ⟨y3, y4, y5, y6, y7, y8, y9, y10, y11, rfl, sx⟩
      obtain ⟨d, hd, hD⟩ := hV.at hx
      have okd := List.all_eq_true.mp stpOdds_ok d (List.mem_of_getElem? hd)
      simp only [Bool.and_eq_true, Bool.not_eq_true'] at okd
      obtain ⟨o1, o2, o3, o4, sm, sh, ni, ft⟩ := okd
      have sk := (sh_of sh).1
      have ft := ft_of ft
      have sHx := s2.trans sx
      have hX : ∀ {Hy : Hp}, Same Hx Hy → DpX K Hy x1 d := fun s => DpX.same (sx.trans s) _ _ hD
      refine TDs.forL (K := K) (H0 := Hx) (ds := [.tuple [d, .str "a"], .tuple [.str "one", d]]) (.cons (.tup (.cons (.var rfl (hX (Same.refl _))) (.cons (.str _) .nil)) (by show 2 ≤ 1000; decide)) (.cons (.tup (.cons (.str _) (.cons (.var rfl (hX (Same.refl _))) .nil)) (by show 2 ≤ 1000; decide)) .nil)) (by show 2 ≤ 1000; decide) (Same.refl Hx) (fun Lb ws H3 s3 hLb hW => ?_)
      refine for_list (K := K) (a := Lb) (xs := ws) (fun j σ Hy => ∃ (y4 y5 y6 y7 y8 y9 y10 y11 : Option V), σ = [some (.ref p), some (.ref o), some (.ref la), some x1, y4, y5, y6, y7, y8, y9, y10, y11] ∧ Same H3 Hy) ⟨_, _, _, _, _, _, _, _, rfl, Same.refl _⟩ (fun j σ Hy _ q => ?_) ?_ ?_
      · obtain ⟨_, _, _, _, _, _, _, _, _, s⟩ := q
        exact .of (s _ _ hLb)
      · rintro i x2 σ Hy hy ⟨y4, y5, y6, y7, y8, y9, y10, y11, rfl, sy⟩
        obtain ⟨e, he, hE⟩ := hW.at hy
        obtain ⟨t, v1, v2, e1, e2, rfl, hT, h1, h2, q1, q2⟩ : ∃ t v1 v2 e1 e2, x2 = .ref t ∧ SqT K H3 t [v1, v2] ∧ DpX K H3 v1 e1 ∧ DpX K H3 v2 e2 ∧ okPair e1 e2 true = true ∧ okPair e1 e2 false = true := by
          have mm := List.mem_of_getElem? he
          simp only [List.mem_cons, List.not_mem_nil, or_false] at mm
          rcases mm with rfl | rfl
          · cases hE with
            | tup a1 a2 => cases a2 with
              | cons b1 b2 => cases b2 with
                | cons b3 b4 => cases b4; exact ⟨_, _, _, _, _, rfl, a1, b1, b3, o1, o2⟩
          · cases hE with
            | tup a1 a2 => cases a2 with
              | cons b1 b2 => cases b2 with
                | cons b3 b4 => cases b4; exact ⟨_, _, _, _, _, rfl, a1, b1, b3, o3, o4⟩
        have s0 := (sHx.trans s3).trans sy
        refine ⟨2, rfl, by decide, by decide, fun D hD => lc_rows (walk_range (lo := 0) (n := 2)) [[.str "steps", .int 0], [.str "steps", .int 0]] rfl (by decide) hD (fun _ _ => trivial) (fun i H x H' y => y.1) ?_ ?_⟩
        · rintro i' x3 Hz r hr' sz y Q2 Z q
          have ey := y.2
          subst ey
          refine ⟨rfl, yes_in ⟨_, rfl, _, rfl, _, rfl, ?_⟩⟩
          have sz3 := sy.trans sz
          match i', hr' with
          | 0, hr' =>
            cases hr'
            obtain ⟨w1, w2, w3⟩ := okP q1
            exact to_01 (E := E) (b := true) ho (hs.same (s0.trans sz)) rfl (Same.tup sz3 hT) (DpX.same sz3 _ _ h1) (DpX.same sz3 _ _ h2) w1 w2 w3 q
          | 1, hr' =>
            cases hr'
            obtain ⟨w1, w2, w3⟩ := okP q2
            exact to_01 (E := E) (b := false) ho (hs.same (s0.trans sz)) rfl (Same.tup sz3 hT) (DpX.same sz3 _ _ h1) (DpX.same sz3 _ _ h2) w1 w2 w3 q
        · intro as HD sD hDl pr
          refine ⟨(by show 2 ≤ sizeLine; decide), fun r1 hq1 => ⟨(by show 1 ≤ sizeLine; decide), fun r2 hq2 => ?_⟩⟩
          have t1 := Same.new (o := .lst [V.str "steps", .int 0]) hq1
          have t2 := Same.new (o := .lst [V.ref r1]) hq2
          refine ⟨r2, 2, [.ref r1], rfl, rfl, upd_same, by decide, by decide, (by show 2 ≤ sizeLine; decide), fun r3 hq3 => ?_⟩
          have t3 := Same.new (o := .lst (List.replicate (2 : Int).toNat [V.ref r1]).flatten) hq3
          have tq := t3 _ _ (t2 _ _ (upd_same (H := HD) (a := r1) (o := .lst [V.str "steps", .int 0])))
          have tt := (t1.trans t2).trans t3
          refine ne_data f2.1 f2.2 (DpX.same tt _ _ (dpx_rows (dss := [[.str "steps", .int 0], [.str "steps", .int 0]]) hDl (by decide +kernel) pr)) (.lst (.of (show _ = some (HO.lst [V.ref r1, .ref r1]) from upd_same)) (.cons (.lst (.of tq) (.cons (.str _) (.cons (.int _) .nil))) (.cons (.lst (.of tq) (.cons (.str _) (.cons (.int _) .nil))) .nil))) ⟨_, rfl, iteF ?_⟩
          exact ⟨_, _, _, _, _, _, _, _, rfl, sy.trans (sD.trans tt)⟩
      · rintro σ Hy ⟨y4, y5, y6, y7, y8, y9, y10, y11, rfl, sy⟩
        have s0 := (sHx.trans s3).trans sy
        refine ⟨(by show 2 ≤ sizeLine; decide), fun Lc hLc => ⟨Lc, rfl, ⟨_, .of upd_same⟩, fun D hD => ?_⟩⟩
        have s5 := Same.new (o := .lst [V.int 3, .int 4]) hLc
        have hLc' : upd Hy Lc (.lst [V.int 3, .int 4]) Lc = some (.lst [V.int 3, .int 4]) := upd_same
        generalize upd Hy Lc (.lst [V.int 3, .int 4]) = HC at s5 hLc' hD ⊢
        have s3C := (s3.trans sy).trans s5
        refine lc_rows (n := 2) (walk_list (K := K) (a := Lc) (xs := [V.int 3, .int 4])) [[.str "word", .str d.shown], [.str "word", .str d.shown]] rfl (by decide) hD (fun Hx s => .of (s _ _ hLc')) (fun i H x H' y => y.1) ?_ ?_
        · rintro i x3 Hz r hr' sz y Q2 Z q
          refine ⟨rfl, yes_in ⟨_, rfl, _, rfl, _, rfl, ?_⟩⟩
          have hz := hs.same ((s0.trans s5).trans sz)
          match i, y.2, hr' with
          | 0, y, hr' =>
            cases y
            cases hr'
            exact to_34 (E := E) ho hz (.inl rfl) (hX (s3C.trans sz)) (sm_ok sm) ni sk q
          | 1, y, hr' =>
            cases y
            cases hr'
            exact to_34 (E := E) ho hz (.inr rfl) (hX (s3C.trans sz)) (sm_ok sm) ni sk q
        · intro as HD sD hDl pr
          refine ⟨_, rfl, x1, d, rfl, hX (s3C.trans sD), sk.1, sk.2.1, sk.2.2, (by show 2 ≤ sizeLine; decide), fun r1 hq1 => ⟨(by show 1 ≤ sizeLine; decide), fun r2 hq2 => ?_⟩⟩
          have t1 := Same.new (o := .lst [V.str "word", .str d.shown]) hq1
          have t2 := Same.new (o := .lst [V.ref r1]) hq2
          refine ⟨r2, 2, [.ref r1], rfl, rfl, upd_same, by decide, by decide, (by show 2 ≤ sizeLine; decide), fun r3 hq3 => ?_⟩
          have t3 := Same.new (o := .lst (List.replicate (2 : Int).toNat [V.ref r1]).flatten) hq3
          have tq := t3 _ _ (t2 _ _ (upd_same (H := HD) (a := r1) (o := .lst [V.str "word", .str d.shown])))
          have tt := (t1.trans t2).trans t3
          refine ne_data ft.1 ft.2 (DpX.same tt _ _ (dpx_rows (dss := [[.str "word", .str d.shown], [.str "word", .str d.shown]]) hDl (fun e me => ?_) pr)) (.lst (.of (show _ = some (HO.lst [V.ref r1, .ref r1]) from upd_same)) (.cons (.lst (.of tq) (.cons (.str _) (.cons (.str _) .nil))) (.cons (.lst (.of tq) (.cons (.str _) (.cons (.str _) .nil))) .nil))) ⟨_, rfl, iteF ?_⟩
          · simp only [List.mem_cons, List.not_mem_nil, or_false, or_self] at me
            rw [me]
            rfl
          exact ⟨_, _, _, _, _, _, _, _, _, rfl, sx.trans (s3C.trans (sD.trans tt))⟩
    rintro σ HA ⟨y3, y4, y5, y6, y7, y8, y9, y10, y11, rfl, sA⟩
    have s1A := s2.trans sA
    have pA := hp.same s1A
    have hlaA := s1A _ _ hla
    have hnsA := nsth_same hns s1A
    clear sA hLa hV
    refine ⟨_, rfl, _, rfl, la, us, rfl, .inl (.of hlaA), (us.length : Int), 1, rfl, rfl, p, (us.length : Int) + 1, rfl, pA, by omega, by have := Paired.length hnsA; omega, fun r5 HC bC pC v0 v1 => ?_⟩
    obtain ⟨m5, rfl⟩ : ∃ m5 : Nat, r5 = (m5 : Int) := ⟨r5.toNat, by omega⟩
    have hl5 : us.length = ns.length := Paired.length hnsA
    have m5l : m5 ≤ ns.length := by omega
    dsimp only [gName, tSeq, tAsg, tOp]
    refine TDs.lstR (K := K) (H0 := HC) (ds := wrongs) (.cons .non (.cons (.tup (.cons (.str _) (.cons (.str _) .nil)) (by decide)) (.cons (.tup (.cons (.str _) (.cons (.str _) (.cons (.str _) .nil))) (by decide)) (.cons (.lst (.cons (.str _) (.cons (.str _) (.cons (.str _) .nil))) (by decide)) (.cons (.tup (.cons (.str _) (.cons (.str _) (.cons (.str _) .nil))) (by decide)) .nil))))) (Same.refl _) fun vs3 H4 s4 hv3 => ?_
    have l3 : vs3.length = 5 := hv3.len
    refine ⟨by rw [l3]; decide, fun L3 hL3n => ?_⟩
    have s4' := s4.trans (Same.new (o := .lst vs3) hL3n)
    have hv3' := DpXs.same (Same.new (o := .lst vs3) hL3n) _ _ hv3
    have hL3 : upd H4 L3 (.lst vs3) L3 = some (.lst vs3) := upd_same
    generalize upd H4 L3 (.lst vs3) = H5 at s4' hv3' hL3 ⊢
    have p5 := pC.same s4'
    refine ⟨_, rfl, p, 5, rfl, p5, by decide, by decide, fun r6 HD bD pD w0 w1 => ?_⟩
    obtain ⟨m6, rfl⟩ : ∃ m6 : Nat, r6 = (m6 : Int) := ⟨r6.toNat, by omega⟩
    obtain ⟨v, hv⟩ : ∃ v, vs3[m6]? = some v := ⟨vs3[m6]'(by omega), List.getElem?_eq_getElem (by omega)⟩
    obtain ⟨d, hd, hD⟩ := hv3'.at hv
    have okd := List.all_eq_true.mp wrongs_ok d (List.mem_of_getElem? hd)
    simp only [Bool.and_eq_true, Bool.not_eq_true'] at okd
    obtain ⟨sm, nb, np⟩ := okd
    have hvD : DpX K HD v d := DpX.but p5 bD d np hD
    have L3p : L3 ≠ p := fun e => by
      obtain ⟨m7, s7, q, _⟩ := p5.ex
      rw [e, q] at hL3
      cases hL3
      cases l3
    refine ⟨L3, vs3, (m6 : Int), v, rfl, rfl, .of (bD _ _ L3p hL3), atI_nat (j := m6) hv, ?_⟩
    have kA : Keep [p] HA HD := pA.but ((bC.trans (But.of s4')).trans bD)
    have hsD := (hs.same s1A).keep kA (fun b m n => hpo (by rw [← List.mem_singleton.mp n]; exact m))
    have hlaD : HD la = some (.lst us) := kA.2 _ _ (fun m => lap (List.mem_singleton.mp m)) hlaA
    have hnsD : NStH HD us ns := ((hnsA.but pA bC).same' s4').but p5 bD
    have kH : Keep [p] H HD := ⟨fun b mb => by rw [List.mem_singleton.mp mb]; exact hp.loose, fun b u n q => kA.2 b u n (s1A b u q)⟩
    clear hL3 hv3 hv3' hD hlaA hnsA bC bD pC p5 kA s4 s4' hL3n
    refine ⟨(by show 3 ≤ sizeLine; decide), fun t7 ht7 => ⟨(by show 1 ≤ sizeLine; decide), fun l7 hl7 => ?_⟩⟩
    have a1 := Same.new (o := .tup [.str "pop", .str "nowhere", .str "a"]) ht7
    have a2 := Same.new (o := .lst [.ref t7]) hl7
    have hT7 := a2 _ _ (upd_same (H := HD) (a := t7) (o := .tup [.str "pop", .str "nowhere", .str "a"]))
    have hL7 : (upd (upd HD t7 (.tup [.str "pop", .str "nowhere", .str "a"])) l7 (.lst [.ref t7])) l7 = some (.lst [.ref t7]) := upd_same
    have s7 := a1.trans a2
    generalize upd (upd HD t7 (.tup [.str "pop", .str "nowhere", .str "a"])) l7 (.lst [.ref t7]) = H7 at s7 hT7 hL7 ⊢
    have hX7 : ∀ {Hy : Hp}, Same H7 Hy → DpX K Hy (.ref t7) (nstD p2a) := fun s => .tup (.of (s _ _ hT7)) (.cons (.str _) (.cons (.str _) (.cons (.str _) .nil)))
    have hv7 : ∀ {Hy : Hp}, Same H7 Hy → DpX K Hy v d := fun s => DpX.same (s7.trans s) _ _ hvD
    refine TDs.list (K := K) (H0 := H7) (ds := [.tuple [.list ((ns.take m5).map nstD ++ [d]), .int (m5 : Int)], .tuple [.list ([p2a].map nstD ++ [d]), .int 1], .tuple [.none, .none], .tuple [.dict [], .none], .tuple [.list (List.replicate 1001 (nstD p2a)), .none]])
      (.cons (.tup (.cons (.any fun Hx Qx sx q => ?d1) (.cons (.var rfl (.int _)) .nil)) (by show 2 ≤ 1000; decide)) (.cons (.tup (.cons (.any fun Hx Qx sx q => ?d2) (.cons (.int _) .nil)) (by show 2 ≤ 1000; decide)) (.cons (.tup (.cons .non (.cons .non .nil)) (by decide)) (.cons (.tup (.cons .emp (.cons .non .nil)) (by decide)) (.cons (.tup (.cons (.any fun Hx Qx sx q => ?d5) (.cons .non .nil)) (by show 2 ≤ 1000; decide)) .nil))))) (by show 5 ≤ 1000; decide) (Same.refl _) (fun L8 vs8 H8 s8 hL8 hv8 => ?k)
    case d1 =>
      refine ⟨_, rfl, _, rfl, _, rfl, la, _, rfl, .of (sx _ _ (s7 _ _ hlaD)), fun q1 hq1 => ?_⟩
      rw [cutV_to]
      have b1 := Same.new (o := .lst (us.take m5)) hq1
      refine ⟨_, rfl, (by show 1 ≤ sizeLine; decide), fun q2 hq2 => ?_⟩
      have b2 := Same.new (o := .lst [v]) hq2
      refine ⟨q1, q2, _, _, rfl, rfl, b2 _ _ upd_same, upd_same, by rw [List.length_take, List.length_singleton, sizeLine_eq]; omega, fun q3 hq3 => ?_⟩
      have b3 := Same.new (o := .lst (us.take m5 ++ [v])) hq3
      have bb := (b1.trans b2).trans b3
      exact q _ _ bb (.lst (.of upd_same) (DpXs.app (dpx_nsts (paired_take m5 (nsth_same hnsD ((s7.trans sx).trans bb)))) (.cons (hv7 (sx.trans bb)) .nil)))
    case d2 =>
      refine ⟨_, rfl, _, rfl, (by show 1 ≤ sizeLine; decide), fun q2 hq2 => ?_⟩
      have b2 := Same.new (o := .lst [v]) hq2
      refine ⟨l7, q2, _, _, rfl, rfl, b2 _ _ (sx _ _ hL7), upd_same, (by show 2 ≤ sizeLine; decide), fun q3 hq3 => ?_⟩
      have b3 := Same.new (o := .lst ([V.ref t7] ++ [v])) hq3
      have bb := b2.trans b3
      exact q _ _ bb (.lst (.of upd_same) (.cons (hX7 (sx.trans bb)) (.cons (hv7 (sx.trans bb)) .nil)))
    case d5 =>
      refine ⟨_, rfl, l7, 1001, [.ref t7], rfl, rfl, sx _ _ hL7, by decide, by decide, (by show 1 * 1001 ≤ sizeLine; decide), fun q3 hq3 => ?_⟩
      rw [show (1001 : Int).toNat = 1001 from rfl, rep_flat]
      have b3 := Same.new (o := .lst (List.replicate 1001 (V.ref t7))) hq3
      exact q _ _ b3 (.lst (.of upd_same) (DpXs.rep (hX7 (sx.trans b3)) 1001))
    case k =>
    have nI : ∀ s ∈ ([p2a] : List NSt), NOk s := fun s ms => by rw [List.mem_singleton.mp ms]; exact ⟨i_no, i_a⟩
    have thd : ∀ z ∈ ([.tuple [.list ((ns.take m5).map nstD ++ [d]), .int (m5 : Int)], .tuple [.list ([p2a].map nstD ++ [d]), .int 1], .tuple [.none, .none], .tuple [.dict [], .none], .tuple [.list (List.replicate 1001 (nstD p2a)), .none]] : List PyData), ThD z := fun z mz => by
      have ftN := ft_of (d := .list [.str "steps", .none]) (by decide +kernel)
      simp only [List.mem_cons, List.not_mem_nil, or_false] at mz
      rcases mz with rfl | rfl | rfl | rfl | rfl
      · obtain ⟨c1, c2⟩ := bad_last (ss := ns.take m5) (fun s ms => hI s (List.mem_of_mem_take ms)) (by rw [List.length_take]; omega) nb (sm_of sm)
        have e5 : (ns.take m5).length = m5 := by rw [List.length_take]; omega
        rw [e5] at c2
        exact ⟨_, _, rfl, c1, c2, rfl, ftI _⟩
      · obtain ⟨c1, c2⟩ := bad_last (ss := [p2a]) nI (by decide) nb (sm_of sm)
        exact ⟨_, _, rfl, c1, c2, rfl, ftI 1⟩
      · exact ⟨_, _, rfl, sm_ok (by decide +kernel), .inl ⟨rfl, rfl⟩, rfl, by decide +kernel⟩
      · exact ⟨_, _, rfl, sm_ok (by decide +kernel), .inl ⟨rfl, rfl⟩, rfl, by decide +kernel⟩
      · refine ⟨_, _, rfl, ?_, .inl ⟨?_, rfl⟩, rfl, by decide +kernel⟩
        · exact (nx_list (k := 10) (B := 90) (ds := List.replicate 1001 (nstD p2a)) fun e me => by
            rw [List.eq_of_mem_replicate me]
            exact ⟨by decide +kernel, by decide +kernel, by decide +kernel, by decide +kernel, by decide +kernel⟩).mono (by decide) (by rw [List.length_replicate]; decide)
        · show decide ((List.replicate 1001 (nstD p2a)).length ≤ 1000) = false
          rw [List.length_replicate]
          rfl
    have s8D := s7.trans s8
    have s0 := hsD.same s8D
    refine ⟨_, rfl, L8, rfl, ⟨_, .of hL8⟩, for_list (K := K) (a := L8) (xs := vs8) (fun jj σ Hy => ∃ (y9 y10 y11 : Option V), σ = [some (.ref p), some (.ref o), some (.ref la), y3, y4, some (.int (m5 : Int)), some v, some (.ref l7), some (.ref L8), y9, y10, y11] ∧ Same H8 Hy) ⟨_, _, _, rfl, Same.refl _⟩ (fun jj σ Hy _ q => ?_) ?_ ?_⟩
    · obtain ⟨_, _, _, _, s⟩ := q
      exact .of (s _ _ hL8)
    · rintro jj x1 σ Hy hx ⟨y9, y10, y11, rfl, sy⟩
      obtain ⟨z, hz, hZ⟩ := hv8.at hx
      obtain ⟨yd, e, rfl, ok1, bn, fl, ft⟩ := thd z (List.mem_of_getElem? hz)
      have ft := ft_of ft
      cases hZ with
      | tup a1 a2 =>
        cases a2 with
        | cons b1 b2 =>
          cases b2 with
          | cons b3 b4 =>
            cases b4
            have ee := dpx_fv fl b3
            subst ee
            refine ⟨_, _, rfl, Same.tup sy a1, rfl, _, _, rfl, _, _, rfl, rfl, ?_⟩
            refine ⟨_, rfl, _, rfl, to_2 (E := E) ho (s0.same sy) (DpX.same sy _ _ b1) ok1 bn fun l1 H9 s9 n9 h9 => ?_⟩
            refine ⟨_, rfl, (by show 2 ≤ sizeLine; decide), fun l2 hl2 => ?_⟩
            have s10 := Same.new (o := .lst [V.str "steps", fV e]) hl2
            refine ne_data ft.1 ft.2 (.lst (.of (s10 _ _ h9)) (.cons (.str _) (.cons (dpx_fl fl) .nil))) (.lst (.of upd_same) (.cons (.str _) (.cons (dpx_fl fl) .nil))) ⟨_, rfl, iteF ?_⟩
            exact ⟨_, _, _, rfl, sy.trans (s9.trans s10)⟩
    · rintro σ Hy ⟨y9, y10, y11, rfl, sy⟩
      have s8y := s8.trans sy
      have sDy := s7.trans s8y
      refine ⟨_, rfl, (by show 3 ≤ sizeLine; decide), fun t8 ht8 => ⟨(by show 1 ≤ sizeLine; decide), fun l8 hl8 => ?_⟩⟩
      have c1 := Same.new (o := .tup [.str "push", .str "one", .str "a"]) ht8
      have c2 := Same.new (o := .lst [.ref t8]) hl8
      refine ⟨_, rfl, l8, l7, _, _, rfl, rfl, upd_same, c2 _ _ (c1 _ _ (s8y _ _ hL7)), (by show 2 ≤ sizeLine; decide), fun l9 hl9 => ?_⟩
      have c3 := Same.new (o := .lst ([V.ref t8] ++ [.ref t7])) hl9
      have cc := (c1.trans c2).trans c3
      have g8 := c3 _ _ (c2 _ _ (upd_same (H := Hy) (a := t8) (o := .tup [.str "push", .str "one", .str "a"])))
      have g7 := cc _ _ (s8y _ _ hT7)
      have g9 : (upd (upd (upd Hy t8 (.tup [.str "push", .str "one", .str "a"])) l8 (.lst [.ref t8])) l9 (.lst ([V.ref t8] ++ [.ref t7]))) l9 = some (.lst [.ref t8, .ref t7]) := upd_same
      generalize upd (upd (upd Hy t8 (.tup [.str "push", .str "one", .str "a"])) l8 (.lst [.ref t8])) l9 (.lst ([V.ref t8] ++ [.ref t7])) = H9 at cc g7 g8 g9 ⊢
      have s9 := hsD.same (sDy.trans cc)
      have kF : Keep [p] H H9 := kH.andS (sDy.trans cc)
      refine to_fail (E := E) (p1 := p1a) (p2 := p2a) ho s9 (.of g9) (.cons ⟨t8, rfl, .of g8⟩ (.cons ⟨t7, rfl, .of g7⟩ .nil)) (fun s ms => ?_) ok (by omega) (by omega) (by omega) (by omega) g1 g2 fun ct' H' kk hs' l1 H10 s10 n10 h10 => ?_
      · rcases List.mem_cons.mp ms with rfl | ms
        · exact ⟨i_one, i_a⟩
        · rw [List.mem_singleton.mp ms]
          exact ⟨i_no, i_a⟩
      refine ⟨(by show 2 ≤ sizeLine; decide), fun l2 hl2 => ?_⟩
      have s11 := Same.new (o := .lst [V.str "failed", .int 1]) hl2
      have f1 := ft_of (d := .list [.str "failed", .int 1]) (by decide +kernel)
      refine eq_data f1.1 f1.2 (.lst (.of (s11 _ _ h10)) (.cons (.str _) (.cons (.int _) .nil))) (.lst (.of upd_same) (.cons (.str _) (.cons (.int _) .nil))) (k ct' _ ?_ (hs'.same (s10.trans s11)))
      have loo : ∀ b ∈ p :: ownS o L x, Loose H b := fun b mb => by
        rcases List.mem_cons.mp mb with rfl | mb
        · exact hp.loose
        · exact hs.loose b mb
      exact ⟨loo, fun b u n q => (s10.trans s11) _ _ (kk.2 b u (fun mb => n (List.mem_cons_of_mem _ mb)) (kF.2 b u (fun mb => n (by rw [List.mem_singleton.mp mb]; exact List.mem_cons_self)) q))⟩
end
end SE
namespace SE
open PySem PySem.Spec PyProof.Rows L2
theorem FnOk.some {P : Program} {w : World} {K : PySem.W.Frag} {mg : Str → Option Value} {base : Heap} {CX : CXT} {k : Nat} {f : Addr} {fd : FuncData} {ps : List Str} {ι : Type} {sp : ι → Sp} (h : ∀ i, FnOk P w K mg base CX k f fd ps (sp i)) : FnOk P w K mg base CX k f fd ps (fun vs H Q E => ∃ i, sp i vs H Q E) :=
  ⟨fun vs H Q E ⟨i, q⟩ => (h i).len vs H Q E q, fun A outer s H args us vs Q E hr e0 hb r ⟨i, q⟩ => (h i).run A outer s H args us vs Q E hr e0 hb r q⟩
theorem FnOk.two {P : Program} {w : World} {K : PySem.W.Frag} {mg : Str → Option Value} {base : Heap} {CX : CXT} {k : Nat} {f : Addr} {fd : FuncData} {ps : List Str} {sp1 sp2 : Sp} (h1 : FnOk P w K mg base CX k f fd ps sp1) (h2 : FnOk P w K mg base CX k f fd ps sp2) : FnOk P w K mg base CX k f fd ps (fun vs H Q E => sp1 vs H Q E ∨ sp2 vs H Q E) :=
  ⟨fun vs H Q E h => h.elim (h1.len vs H Q E) (h2.len vs H Q E), fun A outer s H args us vs Q E hr e0 hb r h => h.elim (h1.run A outer s H args us vs Q E hr e0 hb r) (h2.run A outer s H args us vs Q E hr e0 hb r)⟩
/-- a method of a class by its text -/
def MF (K : PySem.W.Frag) (C : Addr) (m ql : Str) (st : Stmt) (ps : List Str) : Prop := ∃ f fd, Meth K C m f ∧ Fun K m ql st f fd ∧ Binds K fd ps []
section
variable {P : Program} {w : World} {K : PySem.W.Frag} {mg : Str → Option Value} {base : Heap} {C : Addr} {m ql : Str} {st : Stmt} {ps : List Str} {k : Nat} {O : Option Addr → Prop}
theorem MF.has {sp : Sp} (h : MF K C m ql st ps) (ok : ∀ f fd, Fun K m ql st f fd → FnOk P w K mg base CX0 k f fd ps sp) : MethHas P w K mg base C m k ps sp := by
  obtain ⟨f, fd, a, F, b⟩ := h
  exact ⟨f, fd, a, ok f fd F, b⟩
theorem MF.hasX {sp : Sp} (h : MF K C m ql st ps) (ok : ∀ f fd, Fun K m ql st f fd → FnOk P w K mg base (L2.CX P w) k f fd ps sp) : MethHasX P w K mg base C m k ps sp := by
  obtain ⟨f, fd, a, F, b⟩ := h
  exact ⟨f, fd, a, ok f fd F, b⟩
theorem MF.anyX {sp : Option Addr → Sp} (h : MF K C m ql st ps) (ok : ∀ x, O x → ∀ f fd, Fun K m ql st f fd → FnOk P w K mg base (L2.CX P w) k f fd ps (sp x)) : MethHasX P w K mg base C m k ps (anyX O sp) :=
  h.hasX fun f fd F => FnOk.some (ι := {x : Option Addr // O x}) fun i => ok i.1 i.2 f fd F
theorem len_has {sp : Sp} {g : Addr} {fd : FuncData} (a : PySem.W.findIn K (.ref C) "__len__" = some (some (.ref g))) (i : PySem.W.isFn K (.ref g) = true) (F : FnOk P w K mg base CX0 1 g fd ["self"] sp) (b : Binds K fd ["self"] []) : LenHas P w K mg base C sp :=
  ⟨g, a, i, (F.raw b .nil).imp fun vs H Q E h => by rw [List.append_nil]; exact h⟩
theorem ses_mkN {g : Addr} {ns : List Str} (F : FnKw P w K mg base CX0 5 g ns (fun x zs H Q E => ∀ d, H d = none → spSI K C [x, .non, .ref d] (upd H d (.dK (exK (exE ns zs)))) Q E)) : FnKw P w K mg base CX0 5 g ns (spSN K C ns) := by
  intro A outer s H u x ws zs Q E hr e0 rx rz hl hs
  refine F A outer s H u x ws zs Q E hr e0 rx rz hl ?_
  unfold spSN at hs
  rw [limE_none hl] at hs
  exact hs
theorem fsup_mk {gs : Addr} (h : ∀ ns, NsOk ns → FnKw P w K mg base CX0 5 gs (ns ++ [("limit" : Str)]) (spSN K C ns)) : ∀ ks, okSup ks → FnKw P w K mg base CX0 5 gs ks (spSup K C ks) := by
  rintro ks ⟨ns, rfl, hns⟩
  refine (h ns hns).imp fun x zs H Q E ⟨ns2, e, _, q⟩ => ?_
  obtain ⟨e1, _⟩ := List.append_inj' e rfl
  rw [e1]
  exact q
end
/-! ### the deeds of the law -/
theorem perf_one (a : Str) : ∀ (n : Nat) (xs : List Str), perfS none (List.replicate n (true, "one", a)) [("one", xs)] = some [(("one" : Str), List.replicate n a ++ xs)]
  | 0, xs => rfl
  | n + 1, xs => by
    rw [List.replicate_succ]
    have e : perfS none ((true, "one", a) :: List.replicate n (true, "one", a)) [("one", xs)] = perfS none (List.replicate n (true, "one", a)) [("one", a :: xs)] := rfl
    rw [e, perf_one a n (a :: xs), List.replicate_succ', List.append_assoc]
    rfl
theorem perf_new (a : Str) (n : Nat) : perfS none (List.replicate (n + 1) (true, "one", a)) [] = some [(("one" : Str), List.replicate (n + 1) a)] := by
  rw [List.replicate_succ]
  have e : perfS none ((true, "one", a) :: List.replicate n (true, "one", a)) [] = perfS none (List.replicate n (true, "one", a)) [("one", [a])] := rfl
  rw [e, perf_one a n [a], List.replicate_succ']
theorem perf_some (a : Str) (n : Nat) : perfS none (List.replicate n (true, "one", a)) [] ≠ none := by
  cases n with
  | zero => exact fun e => by cases e
  | succ n => rw [perf_new]; exact fun e => by cases e
theorem perf_two (xs : List Str) (b : Str) : perfS none [(true, "two", b)] [("one", xs)] = some [(("one" : Str), xs), (("two" : Str), [b])] := rfl
theorem perf_1 {xs ys : List Str} {n : Nat} (h : xs.length < n) : perfS (some n) [p1a] (skT xs ys) = some (skT (("a" : Str) :: xs) ys) := by
  have e : stepL (some n) (true, "a") xs = some (("a" : Str) :: xs) := by
    have hh : high (some n) (xs.length + 1) = false := decide_eq_false (by omega)
    unfold stepL
    rw [hh]
    rfl
  show (match stepL (some n) (true, "a") xs with
    | none => none
    | some st => perfS (some n) [] (putS (skT xs ys) "one" st)) = _
  rw [e]
  rfl
theorem perf_2 {xs ys : List Str} {n : Nat} (h : xs.length < n) : perfS (some n) [p1a, p2a] (skT xs ys) = none := by
  have e : perfS (some n) ([p1a] ++ [p2a]) (skT xs ys) = (perfS (some n) [p1a] (skT xs ys)).bind (perfS (some n) [p2a]) := perfS_app _ _ _ _
  rw [perf_1 h] at e
  exact e.trans rfl
theorem skT_ok {xs ys : List Str} {n : Nat} (h : St64 xs ys n) : SkOk (skT xs ys) 10 10 := ⟨by show [("one" : Str), "two"].Nodup; decide +kernel, fun p m => by
    rcases List.mem_cons.mp m with rfl | m
    · exact ⟨i_one, h.ix, h.lx⟩
    · rw [List.mem_singleton.mp m]
      exact ⟨i_two, h.iy, h.ly⟩, by show 2 ≤ 10; decide⟩
end SE
namespace SE
open PySem PySem.Spec PyProof.Rows L2
theorem PE.some {X : Cx} {e : Expr} {ι : Type} {t : ι → TE} (h : ∀ i, PE X e (t i)) : PE X e (fun σ H Q => ∃ i, t i σ H Q) := ⟨fun pins s σ H Q I ⟨i, q⟩ => (h i).run pins s σ H Q I q⟩
theorem Same.but3 {H H3 H4 : Hp} {p : Addr} (s : Same H H3) (hp : H p = none) (b : But p H3 H4) : Same H H4 := fun c o e => b c o (ne_of_none e hp) (s c o e)
theorem clean_id {ss : Sk} (h : ∀ p ∈ ss, p.2 ≠ []) : cleanS ss = ss := List.filter_eq_self.mpr fun p m => by simpa using h p m
theorem neSelf {v : V} : (!decide (v = v)) = false := by rw [decide_eq_true rfl]; rfl
theorem same_keep0 {H0 H H' : Hp} {S : List Addr} (s : Same H0 H) (n : ∀ b ∈ S, H0 b = none) (k : Keep S H H') : Same H0 H' := fun b u hb => k.2 b u (fun m => by rw [n b m] at hb; cases hb) (s b u hb)
theorem Pool.keep {S : List Addr} {H H' : Hp} {p : Addr} (h : Pool H p) (n : p ∉ S) (k : Keep S H H') : Pool H' p := by
  obtain ⟨m, s, e, r⟩ := h.ex
  exact ⟨m, s, k.2 _ _ n e, r⟩
/-- what stands beside the session -/
structure B64 (H2 : Hp) (p il la : Addr) (zs : List Str) (us : List V) (ns : List NSt) (H : Hp) : Prop where
  s2 : Same H2 H
  pl : Pool H p
  hi : H il = some (.lst (zs.map V.str))
  hl : H la = some (.lst us)
  hn : NStH H us ns
theorem nsth_keep {S : List Addr} {H H' : Hp} {xs : List V} {ss : List NSt} (h : NStH H xs ss) (k : Keep S H H') : NStH H' xs ss := Paired.mapP h fun _ _ q => by
  obtain ⟨t, e, z⟩ := q
  exact ⟨t, e, k.2 _ _ (fun m => (k.1 _ m).1 _ z) z⟩
section
variable {H2 H H' : Hp} {p il la : Addr} {zs : List Str} {us : List V} {ns : List NSt} {S : List Addr}
theorem B64.same (h : B64 H2 p il la zs us ns H) (s : Same H H') : B64 H2 p il la zs us ns H' := ⟨h.s2.trans s, h.pl.same s, s _ _ h.hi, s _ _ h.hl, nsth_same h.hn s⟩
theorem B64.keep (h : B64 H2 p il la zs us ns H) (k : Keep S H H') (n : ∀ c ∈ S, H2 c = none) (n1 : p ∉ S) (n2 : il ∉ S) (n3 : la ∉ S) : B64 H2 p il la zs us ns H' := ⟨same_keep0 h.s2 n k, h.pl.keep n1 k, k.2 _ _ n2 h.hi, k.2 _ _ n3 h.hl, nsth_keep h.hn k⟩
theorem B64.but (h : B64 H2 p il la zs us ns H) (b : But p H H') (pl : Pool H' p) (n : H2 p = none) (n2 : il ≠ p) (n3 : la ≠ p) : B64 H2 p il la zs us ns H' := ⟨Same.but3 h.s2 n b, pl, b _ _ n2 h.hi, b _ _ n3 h.hl, h.hn.but h.pl b⟩
end
section
variable {P : Program} {w : World} {K : PySem.W.Frag} {mg : Str → Option Value} {base : Heap} {CS CR : Addr} {c : Cs64} {cc : Bool → Addr} {oo : Bool → Option Addr → Prop}
def spLaw (K : PySem.W.Frag) : Sp := fun xs H Q _ => ∃ (a : Addr) (ns : List Int), xs = [.ref a] ∧ SqL K H a (ns.map V.int) ∧ ns.length ≤ 63 ∧ ∀ H', Q (.bl true) H'
abbrev nLaw : List Str := ["_law_script", "_law_k", "_law_pool_here", "_law_items_here", "_law_names", "_law_steps_here", "_law_session", "_law_seen_here"]
theorem scLaw : FnScope nLaw ["_law_script"] (defScope sLaw) := ⟨rfl, rfl, rfl, by decide +kernel, rfl, by decide +kernel, by decide +kernel⟩
theorem ok_law {f : Addr} {fd : FuncData} (F : Fun K "law" "law" sLaw f fd) (cS : cc false = CS) (cR : cc true = CR) (oS : oo false none) (oR : ∀ D, oo true (some D)) (T : ∀ b, SCl K (cc b)) (RM : RecMk P w K mg base CR) (SM : SesMk P w K mg base CS) (mS : mg "Session" = some (.ref CS)) (mR : mg "Recorder" = some (.ref CR))
    (GP : Has P w K mg base "_law_pool" 1 ["_law_script", "_law_k"] [] (spPool K)) (GT : Has P w K mg base "_law_take" 1 ["_law_pool_here", "_law_many"] [] spTake) (GI : Has P w K mg base "_law_items" 3 ["_law_pool_here", "_law_many"] [] spItems) (GN : Has P w K mg base "_law_named" 3 ["_law_pool_here", "_law_names", "_law_items_here", "_law_many"] [] spNamed)
    (PF : ∀ b, MethHasX P w K mg base (cc b) "perform" 5 ["self", "steps"] (anyX (oo b) (spPf K (cc b) c.E))) (PU : ∀ b, MethHasX P w K mg base (cc b) "push" 6 ["self", "name", "item"] (anyX (oo b) fun x => spPp K (cc b) c.E x true)) (SL : ∀ b, MethHasX P w K mg base (cc b) "set_limit" 5 ["self", "value"] (anyX (oo b) (spSl K (cc b) c.L)))
    (GSe : ∀ b, GHas P w K mg base "_law_seen" 4 nSee (spSee K (cc b) (oo b))) (GTo : ∀ b, GHas P w K mg base "_law_told" 9 pTo (spTo K c (cc b) (oo b))) (GBb : ∀ b, GHas P w K mg base "_law_bad_bounds_right" 10 ["_law_session"] (spBb K (cc b) (oo b))) (GBs : ∀ b, GHas P w K mg base "_law_bad_steps_right" 10 ["_law_pool_here", "_law_session", "_law_steps_here"] (spBs K (cc b) (oo b)))
    (B : Blt mg) (mr : mg "range" = none) (mx : mg "max" = none) (mn : mg "min" = none) : GOk P w K mg base 11 f fd ["_law_script"] (spLaw K) := by
  refine gok_mk F scLaw (fun xs H Q E h => ?_) (fun cv A' out s H xs Q E hgu hr h => ?_)
  · obtain ⟨a, ns, rfl, _⟩ := h
    rfl
  · obtain ⟨a, ns, rfl, hS, hlen, k⟩ := h
    have hr1 : Room 1 _ := hr.mono (by decide)
    have hr3 : Room 3 _ := hr.mono (by decide)
    have hr4 : Room 4 _ := hr.mono (by decide)
    have hr5 : Room 5 _ := hr.mono (by decide)
    have hr6 : Room 6 _ := hr.mono (by decide)
    have hr7 : Room 7 _ := hr.mono (by decide)
    have hr9 : Room 9 _ := hr.mono (by decide)
    refine ⟨_, (pss_cons (ps_for PassesOwn.never rfl (pi_range1 (by rfl) mr (pa_cons (pe_callB (call_max2 rfl) (by rfl) mx (by decide +kernel) (pa_cons pe_int (pa_cons (pe_callB (call_min2 rfl) (by rfl) mn (by decide +kernel) (pa_cons (pe_callB call_len_seq (by rfl) B.len PySem.boot_len (pa_cons (pv 0) pa_nil)) (pa_cons pe_int pa_nil))) pa_nil))) pa_nil)) (pg_name (i := 1) scLaw.nd rfl (.inl rfl)) (pss_cons (ps_set (i := 2) scLaw.nd rfl (.inl rfl) (pe_has GP hr1 (pa_cons (pv 0) (pa_cons (pv 1) pa_nil))))
      (pss_cons (ps_par (i := 3) (j := 4) (by rfl) scLaw.nd rfl rfl (by decide) rfl rfl (pa_cons (pe_has GI hr3 (pa_cons (pv 2) (pa_cons pe_int pa_nil))) (pa_cons (pe_lst (pa_cons pe_str (pa_cons pe_str pa_nil))) pa_nil)) (by rfl))
      (pss_cons (ps_set (i := 5) scLaw.nd rfl (.inl rfl) (pe_has GN hr3 (pa_cons (pv 2) (pa_cons (pv 4) (pa_cons (pe_slice sl_list (pv 3) po_none (po_some pe_int)) (pa_cons (pe_has GT hr1 (pa_cons (pv 2) (pa_cons pe_int pa_nil))) pa_nil))))))
      (pss_cons (ps_set (i := 6) scLaw.nd rfl (.inl rfl) (pe_ix ix_list (pe_lst (pa_cons (pe_new0S SM mS hr6) (pa_cons (pe_new0R RM mR hr7) pa_nil))) (pe_has GT hr1 (pa_cons (pv 2) (pa_cons pe_int pa_nil))) (fun _ _ => rfl)))
      (pss_cons (ps_expr (PE.some fun b => pe_mX (PF b) (fun σ => passAt takes0 σ) (pv 6) (T b).cl hr5 (pa_cons (pe_op op_rep (pe_lst (pa_cons (pe_tup (pa_cons pe_str (pa_cons pe_str (pa_cons (pe_ix ix_list (pv 3) pe_int (fun _ _ => rfl)) pa_nil)))) pa_nil)) (pe_op op_add pe_int (pe_has GT hr1 (pa_cons (pv 2) (pa_cons pe_int pa_nil))))) pa_nil)))
      (pss_cons (ps_expr (PE.some fun b => pe_mX (PU b) (fun σ => passAt takes0 σ) (pv 6) (T b).cl hr6 (pa_cons pe_str (pa_cons (pe_ix ix_list (pv 3) pe_int (fun _ _ => rfl)) pa_nil))))
      (pss_cons (ps_expr (PE.some fun b => pe_mX (SL b) (fun σ => passAt takes0 σ) (pv 6) (T b).cl hr5 (pa_cons (pe_op op_add pe_int (pe_has GT hr1 (pa_cons (pv 2) (pa_cons pe_int pa_nil)))) pa_nil)))
      (pss_cons (ps_set (i := 7) scLaw.nd rfl (.inl rfl) (PE.some fun b => pe_ghas (GSe b) hgu hr4 (pa_cons (pv 6) pa_nil)))
      (pss_cons (ps_if (PW.pt (pw_or (pt_not (pt_val (PE.some fun b => pe_ghas (GBb b) hgu hr (pa_cons (pv 6) pa_nil)))) (pw_or1 (pt_not (pt_val (PE.some fun b => pe_ghas (GBs b) hgu hr (pa_cons (pv 2) (pa_cons (pv 6) (pa_cons (pv 5) pa_nil))))))))) (pss_one (ps_ret pe_bl)) pss_nil)
      (pss_one (ps_if (PW.pt (pw_or (pt_cmpR (op_neD hr.units) (PE.some fun b => pe_ghas (GTo b) hgu hr9 (pa_cons pe_int (pa_cons (pv 6) (pa_cons pe_int pa_nil)))) (pe_lst (pa_cons pe_str (pa_cons pe_int pa_nil))) (nomark _)) (pw_or1 (pt_cmpR op_ne (PE.some fun b => pe_ghas (GSe b) hgu hr4 (pa_cons (pv 6) pa_nil)) (pv 7) (nomark _))))) (pss_one (ps_ret pe_bl)) pss_nil))))))))))))
      (pss_one (ps_ret pe_bl))), ?_⟩
    refine ⟨_, rfl, a, _, rfl, .inl hS, _, 6, rfl, 1, _, rfl, ?_⟩
    have hN : ∀ n : Nat, (1 : Int) ≤ (if (if (6 : Int) < (n : Int) then 6 else (n : Int)) > 1 then (if (6 : Int) < (n : Int) then 6 else (n : Int)) else 1) ∧ (if (if (6 : Int) < (n : Int) then 6 else (n : Int)) > 1 then (if (6 : Int) < (n : Int) then 6 else (n : Int)) else 1) ≤ 6 := by
      intro n
      split <;> split <;> omega
    have hN1 := hN (ns.map V.int).length
    generalize hM : (if (if (6 : Int) < ((ns.map V.int).length : Int) then 6 else ((ns.map V.int).length : Int)) > 1 then (if (6 : Int) < ((ns.map V.int).length : Int) then 6 else ((ns.map V.int).length : Int)) else 1) = N at hN1
    refine ⟨N, by rw [← hM], by omega, by omega, for_range (lo := 0) (n := N.toNat) (fun i σ H2 => ∃ (y1 y2 y3 y4 y5 y6 y7 : Option V), σ = [some (.ref a), y1, y2, y3, y4, y5, y6, y7] ∧ Same H H2) ⟨_, _, _, _, _, _, _, rfl, Same.refl H⟩ ?_ ?_⟩
    rotate_left
    · rintro σ H2 ⟨y1, y2, y3, y4, y5, y6, y7, rfl, s2⟩
      exact k _
    rintro i σ H2 hi ⟨y1, y2, y3, y4, y5, y6, y7, rfl, s2⟩
    refine ⟨_, rfl, _, rfl, a, ns, 0 + i, rfl, Same.seq s2 hS, by omega, by omega, fun p H3 s3 hp p3 => ?_⟩
    refine ⟨_, rfl, p, 2, rfl, p3, by decide, by decide, fun il zs H4 b4 p4 l0 ilp hil lz iz => ?_⟩
    have lz : zs.length = 2 := lz
    obtain ⟨z0, z1, rfl⟩ : ∃ z0 z1, zs = [z0, z1] := match zs, lz with | [z0, z1], _ => ⟨z0, z1, rfl⟩
    have iz0 : Item z0 := iz _ List.mem_cons_self
    have iz1 : Item z1 := iz z1 (by simp)
    have s24 : Same H2 H4 := Same.but3 s3 hp b4
    refine ⟨(by show 2 ≤ sizeLine; decide), fun nl hnl => ?_⟩
    have s5 := Same.new (o := .lst [.str "one", .str "two"]) hnl
    have hnl5 : upd H4 nl (.lst [.str "one", .str "two"]) nl = some (.lst ((["one", "two"] : List Str).map V.str)) := upd_same
    have p5 := p4.same s5
    have hil5 := s5 _ _ hil
    have nlp : nl ≠ p := fun e => by
      obtain ⟨_, _, q, _⟩ := p4.ex
      rw [e, q] at hnl
      cases hnl
    have nli : il ≠ nl := fun e => by rw [e, hnl] at hil; cases hil
    have s25 := s24.trans s5
    generalize upd H4 nl (.lst [.str "one", .str "two"]) = H5 at s5 hnl5 p5 hil5 s25 ⊢
    refine ⟨_, _, rfl, ?_⟩
    refine ⟨_, rfl, _, rfl, _, rfl, _, rfl, il, _, rfl, .of hil5, fun q1 hq1 => ?_⟩
    have e1 : cutV (([z0, z1] : List Str).map V.str) none (some 1) = ([z0] : List Str).map V.str := cutF_to V.str [z0, z1] 1
    rw [e1]
    have s6 := Same.new (o := .lst (([z0] : List Str).map V.str)) hq1
    have hq6 : upd H5 q1 (.lst (([z0] : List Str).map V.str)) q1 = some (.lst (([z0] : List Str).map V.str)) := upd_same
    have q1p : q1 ≠ p := fun e => by
      obtain ⟨_, _, q, _⟩ := p5.ex
      rw [e, q] at hq1
      cases hq1
    have p6 := p5.same s6
    generalize upd H5 q1 (.lst (([z0] : List Str).map V.str)) = H6 at s6 hq6 p6 ⊢
    refine ⟨_, rfl, p, 6, rfl, p6, by decide, by decide, fun r3 H7 b7 p7 u0 u1 => ?_⟩
    refine ⟨p, nl, q1, r3, ["one", "two"], [z0], rfl, p7, nlp, b7 _ _ nlp (s6 _ _ hnl5), by simp, by decide, fun z m => ?_, q1p, b7 _ _ q1p hq6, by simp, by show 1 ≤ 100; decide, fun z m => by rw [List.mem_singleton.mp m]; exact iz0, u0, by omega, fun la us nsN HA bA pA t0 lap hlaA hnA lsA okA => ?_⟩
    · rcases List.mem_cons.mp m with rfl | m
      · exact i_one
      · rw [List.mem_singleton.mp m]
        exact i_two
    have s26 := s25.trans s6
    have hpn : H2 p = none := hp
    have s2A : Same H2 HA := Same.but3 s26 hpn (b7.trans bA)
    have w0 : B64 H2 p il la [z0, z1] us nsN HA := ⟨s2A, pA, (b7.trans bA) _ _ ilp (s6 _ _ hil5), hlaA, hnA⟩
    have nI : ∀ s ∈ nsN, NOk s := fun s m => (okA s m).1
    clear b4 b7 bA s3 s5 s6 s24 s25 s26 hil hil5 hnl5 hq6 p3 p4 p5 p6 p7 hq1 hnl nlp nli q1p t0 hlaA hnA pA okA s2A iz
    -- the session
    refine fun oA LA H8 s8 hoA hLA seA => fun oB LB DB H9 s9 hoB hLB hDB seB => ?_
    refine ⟨(by show 2 ≤ sizeLine; decide), fun lb hlb => ?_⟩
    have s10 := Same.new (o := .lst [V.ref oA, .ref oB]) hlb
    have hlb10 : upd H9 lb (.lst [V.ref oA, .ref oB]) lb = some (.lst [V.ref oA, .ref oB]) := upd_same
    have w10 := ((w0.same s8).same s9).same s10
    have seA := (seA.same s9).same s10
    have seB := seB.same s10
    have lbp : lb ≠ p := fun e => by
      obtain ⟨_, _, q, _⟩ := ((w0.same s8).same s9).pl.ex
      rw [e, q] at hlb
      cases hlb
    generalize upd H9 lb (.lst [V.ref oA, .ref oB]) = H10 at s10 hlb10 w10 seA seB ⊢
    refine ⟨_, rfl, p, 2, rfl, w10.pl, by decide, by decide, fun r4 H11 b11 p11 v0 v1 => ?_⟩
    have hA : ∀ b, H2 b ≠ none → HA b ≠ none := fun b n e => n (w0.s2.free e)
    obtain ⟨b, x, o, L, hox, hix, ses, fr⟩ : ∃ (b : Bool) (x : Option Addr) (o L : Addr), oo b x ∧ atI [V.ref oA, .ref oB] r4 = some (.ref o) ∧ SesX K (cc b) x [] H10 o L [] none [] ∧ ∀ c ∈ ownS o L x, HA c = none := by
      rcases (show r4 = 0 ∨ r4 = 1 by omega) with rfl | rfl
      · refine ⟨false, none, oA, LA, oS, atI_nat (j := 0) rfl, by rw [cS]; exact seA, fun c m => ?_⟩
        rcases List.mem_cons.mp m with rfl | m
        · exact hoA
        · rw [List.mem_singleton.mp m]; exact hLA
      · refine ⟨true, some DB, oB, LB, oR DB, atI_nat (j := 1) rfl, by rw [cR]; exact seB, fun c m => ?_⟩
        rcases List.mem_cons.mp m with rfl | m
        · exact s8.free hoB
        rcases List.mem_cons.mp m with rfl | m
        · exact s8.free hLB
        · rw [List.mem_singleton.mp m]; exact s8.free hDB
    have n0 : ∀ c ∈ ownS o L x, H2 c = none := fun c m => w0.s2.free (fr c m)
    have n1 : p ∉ ownS o L x := fun m => by
      obtain ⟨_, _, q, _⟩ := w0.pl.ex
      have := fr p m
      rw [q] at this
      cases this
    have n2 : il ∉ ownS o L x := fun m => by have := fr il m; rw [w0.hi] at this; cases this
    have n3 : la ∉ ownS o L x := fun m => by have := fr la m; rw [w0.hl] at this; cases this
    have kp : ∀ {Hx Hy : Hp}, Pool Hx p → But p Hx Hy → ∀ (ct : Cn) (ss : Sk) (l : Lim) (ds : List Deed), SesX K (cc b) x ct Hx o L ss l ds → SesX K (cc b) x ct Hy o L ss l ds := fun pl bb ct ss l ds h => h.keep (pl.but bb) fun c m n => n1 (by rw [← List.mem_singleton.mp n]; exact m)
    refine ⟨lb, _, r4, _, rfl, rfl, .of (b11 _ _ lbp hlb10), hix, ?_⟩
    have w11 := w10.but b11 p11 hpn ilp lap
    have ses := kp w10.pl b11 _ _ _ _ ses
    clear seA seB hlb10 w10 w0 hoA hLA hoB hLB hDB s8 s9 s10 hlb b11 p11 hA fr
    obtain ⟨dx, F1, ws1, i1, _⟩ := ses.ex
    -- perform
    refine ⟨b, _, rfl, o, dx, _, rfl, i1, sX_none (by decide) (by decide) (by decide) (by decide), ?_⟩
    refine ⟨_, rfl, il, _, 0, _, rfl, rfl, .of w11.hi, atI_nat (j := 0) rfl, (by show 3 ≤ sizeLine; decide), fun t ht => ⟨(by show 1 ≤ sizeLine; decide), fun l hl => ?_⟩⟩
    have a1 := Same.new (o := .tup [.str "push", .str "one", .str z0]) ht
    have a2 := Same.new (o := .lst [.ref t]) hl
    have g1 := a2 _ _ (upd_same (H := H11) (a := t) (o := .tup [.str "push", .str "one", .str z0]))
    have g2 : upd (upd H11 t (.tup [.str "push", .str "one", .str z0])) l (.lst [.ref t]) l = some (.lst [.ref t]) := upd_same
    have w12 := (w11.same a1).same a2
    have ses12 := (ses.same a1).same a2
    have lp : l ≠ p := fun e => by
      obtain ⟨_, _, q, _⟩ := (w11.same a1).pl.ex
      rw [e, q] at hl
      cases hl
    generalize upd (upd H11 t (.tup [.str "push", .str "one", .str z0])) l (.lst [.ref t]) = H12 at g1 g2 w12 ses12 ⊢
    refine ⟨_, rfl, p, 3, rfl, w12.pl, by decide, by decide, fun r5 H13 b13 p13 x0 x1 => ?_⟩
    obtain ⟨m5, rfl⟩ : ∃ m5 : Nat, r5 = (m5 : Int) := ⟨r5.toNat, by omega⟩
    have w13 := w12.but b13 p13 hpn ilp lap
    have ses13 := kp w12.pl b13 _ _ _ _ ses12
    have tp : t ≠ p := w12.pl.ne g1
    refine ⟨4, (m5 : Int), rfl, rfl, l, 4 + (m5 : Int), [.ref t], rfl, rfl, b13 _ _ lp g2, by omega, by omega, by show 1 * (4 + (m5 : Int)).toNat ≤ sizeLine; rw [sizeLine_eq]; omega, fun q2 hq2 => ?_⟩
    have tn : (4 + (m5 : Int)).toNat = (3 + m5) + 1 := by omega
    rw [tn, rep_flat]
    have a3 := Same.new (o := .lst (List.replicate ((3 + m5) + 1) (V.ref t))) hq2
    have g3 := a3 _ _ (b13 _ _ tp g1)
    have g4 : upd H13 q2 (.lst (List.replicate ((3 + m5) + 1) (V.ref t))) q2 = some (.lst (List.replicate ((3 + m5) + 1) (V.ref t))) := upd_same
    have w14 := w13.same a3
    have ses14 := ses13.same a3
    generalize upd H13 q2 (.lst (List.replicate ((3 + m5) + 1) (V.ref t))) = H14 at g3 g4 w14 ses14 ⊢
    clear a1 a2 a3 g1 g2 w11 w12 w13 ses ses12 ses13 i1 b13 p13 hl ht hq2
    have hP : ∀ m, NSV K H14 (List.replicate m (V.ref t)) (List.replicate m ((true, "one", z0) : NSt)) := fun m => by
      induction m with
      | zero => exact .nil
      | succ m ih => exact .cons ⟨t, rfl, .of g3⟩ ih
    refine ⟨⟨x, hox⟩, o, L, q2, [], [], none, [], List.replicate ((3 + m5) + 1) (V.ref t), List.replicate ((3 + m5) + 1) (true, "one", z0), 10, 10, rfl, ses14, .inl (.of g4), by rw [List.length_replicate]; omega, hP _, fun s m => ?_, ⟨.nil, fun p m => (by cases m), Nat.zero_le _⟩, by decide, by decide, (by show 0 ≤ 100000; decide), (by show 0 ≤ 100000; decide), fun ss2 hp2 H15 k15 ses15 => ?_, fun j s sj y1 y2 y3 => ?_⟩
    · rw [List.eq_of_mem_replicate m]
      exact ⟨i_one, iz0⟩
    rotate_left
    · exact (perf_some z0 (min (j + 1) ((3 + m5) + 1)) (by rw [List.take_replicate] at y3; exact y3)).elim
    rw [perf_new] at hp2
    cases hp2
    have w15 := w14.keep k15 n0 n1 n2 n3
    rw [clean_id (ss := [(("one" : Str), List.replicate ((3 + m5) + 1) z0)]) (fun p m => by rw [List.mem_singleton.mp m]; exact fun e => by cases e)] at ses15
    clear hP k15 w14 ses14 g3 g4
    have xI : ∀ z ∈ List.replicate ((3 + m5) + 1) z0, Item z := fun z m => by rw [List.eq_of_mem_replicate m]; exact iz0
    have xL : (List.replicate ((3 + m5) + 1) z0).length = m5 + 4 := by rw [List.length_replicate]; omega
    generalize List.replicate ((3 + m5) + 1) z0 = xs1 at ses15 xI xL
    obtain ⟨dx2, F2, ws2, i2, _⟩ := ses15.ex
    -- push
    refine ⟨b, _, rfl, o, dx2, _, rfl, i2, sX_none (by decide) (by decide) (by decide) (by decide), _, rfl, il, _, 1, _, rfl, rfl, .of w15.hi, atI_nat (j := 1) rfl, ?_⟩
    refine ⟨⟨x, hox⟩, o, L, "two", z1, [], _, none, _, 10, 10, rfl, ses15, i_two, iz1, ⟨by show [("one" : Str)].Nodup; exact List.nodup_cons.mpr ⟨fun m => (by cases m), .nil⟩, fun q m => (by rw [List.mem_singleton.mp m]; exact ⟨i_one, xI, by show xs1.length ≤ 10; omega⟩), by show 1 ≤ 10; decide⟩, by decide, by decide, (by show 1 ≤ 100000; decide), (by show 0 ≤ 100000; decide), fun ss2 hp2 H16 k16 ses16 => ?_, fun hn => (by rw [perf_two] at hn; cases hn)⟩
    rw [perf_two] at hp2
    cases hp2
    have cl : cleanS [(("one" : Str), xs1), (("two" : Str), [z1])] = skT xs1 [z1] := clean_id fun p m => by
      rcases List.mem_cons.mp m with rfl | m
      · exact fun e => by rw [show xs1 = [] from e] at xL; cases xL
      · rw [List.mem_singleton.mp m]
        exact fun e => by cases e
    rw [cl] at ses16
    have w16 := w15.keep k16 n0 n1 n2 n3
    clear w15 ses15 i2 k16 cl
    obtain ⟨dx3, F3, ws3, i3, _⟩ := ses16.ex
    -- set_limit
    refine ⟨b, _, rfl, o, dx3, _, rfl, i3, sX_none (by decide) (by decide) (by decide) (by decide), ?_⟩
    refine ⟨_, rfl, p, 3, rfl, w16.pl, by decide, by decide, fun r6 H17 b17 p17 x2 x3 => ?_⟩
    obtain ⟨m6, rfl⟩ : ∃ m6 : Nat, r6 = (m6 : Int) := ⟨r6.toNat, by omega⟩
    have w17 := w16.but b17 p17 hpn ilp lap
    have ses17 := kp w16.pl b17 _ _ _ _ ses16
    have st : St64 xs1 [z1] (9 + m6) := ⟨xI, fun z m => by rw [List.mem_singleton.mp m]; exact iz1, by omega, by show 1 ≤ 10; decide, by omega⟩
    have ok := skT_ok st
    have e9 : V.int ((9 : Int) + (m6 : Int)) = limV (some (9 + m6)) := by
      show V.int ((9 : Int) + (m6 : Int)) = V.int ((9 + m6 : Nat) : Int)
      congr 1
    refine ⟨9, (m6 : Int), rfl, rfl, ⟨x, hox⟩, o, L, [], _, none, some (9 + m6), _, 10, 10, congrArg (fun v => [V.ref o, v]) e9, ses17, fun n e => (by cases e; omega), ok, by decide, (by show 2 ≤ 100000; decide), fun _ H18 k18 ses18 => ?_, fun hh => ?_⟩
    rotate_left
    · obtain ⟨q, mq, hq⟩ := hh
      have : q.2.length ≤ 7 := by
        rcases List.mem_cons.mp mq with rfl | mq
        · show xs1.length ≤ 7
          omega
        · rw [List.mem_singleton.mp mq]
          show 1 ≤ 7
          decide
      have hf : high (some (9 + m6)) q.2.length = false := decide_eq_false (by omega)
      rw [hf] at hq
      cases hq
    have w18 := w17.keep k18 n0 n1 n2 n3
    have xI' := st
    clear w16 w17 ses16 ses17 i3 k18 b17 p17 kp
    generalize hds : (([] : List Deed) ++ [(List.replicate ((3 + m5) + 1) ((true, "one", z0) : NSt), ([] : Sk), (none : Lim))] ++ [([((true, "two", z1) : NSt)], ([("one", xs1)] : Sk), (none : Lim))] ++ [(([] : List NSt), skT xs1 [z1], (none : Lim))]) = ds at ses18
    have dl : ds.length = 3 := by rw [← hds]; rfl
    -- seen
    refine ⟨b, _, rfl, x, o, L, [], xs1, [z1], 9 + m6, ds, hox, rfl, ses18, st, dl, fun H19 s19 => ?_⟩
    have w19 := w18.same s19
    have ses19 := ses18.same s19
    refine ⟨b, _, rfl, x, o, L, [], _, _, ds, hox, rfl, ses19, fun H20 s20 => ⟨true, rfl, iteF ?_⟩⟩
    have w20 := w19.same s20
    have ses20 := ses19.same s20
    refine ⟨b, _, rfl, _, rfl, _, rfl, x, p, o, L, la, [], _, _, ds, us, nsN, _, 10, 10, hox, rfl, w20.pl, n1, ses20, lap, w20.hl, w20.hn, nI, by omega, ok, by decide, by decide, by omega, (by show 0 ≤ 1000; decide), perf_1 (by omega), perf_2 (by omega), fun ct' H21 k21 ses21 => ⟨true, rfl, iteF ?_⟩⟩
    have s221 : Same H2 H21 := same_keep0 w20.s2 (fun c m => by
      rcases List.mem_cons.mp m with rfl | m
      · exact hpn
      · exact n0 c m) k21
    refine ⟨b, _, rfl, to_5 (E := E) (l2 := some 3) hox ses21 (fun n e => by cases e; decide) ok (by decide) (by omega) ⟨("one", xs1), List.mem_cons_self, decide_eq_true (by show 3 < xs1.length; omega)⟩ fun l1 H22 s22 n22 h22 => ?_⟩
    refine ⟨(by show 2 ≤ sizeLine; decide), fun l2 hl2 => ?_⟩
    have s23 := Same.new (o := .lst [V.str "limit", .int 3]) hl2
    have f1 := ft_of (d := .list [.str "limit", .int 3]) (by decide +kernel)
    refine ne_data f1.1 f1.2 (.lst (.of (s23 _ _ h22)) (.cons (.str _) (.cons (.int _) .nil))) (.lst (.of upd_same) (.cons (.str _) (.cons (.int _) .nil))) ⟨_, rfl, iteF ?_⟩
    have s213 := s22.trans s23
    refine ⟨b, _, rfl, x, o, L, ct', xs1, [z1], 9 + m6, ds, hox, rfl, ses21.same s213, st, dl, fun H24 s24 => ?_⟩
    refine ⟨_, rfl, rfl, _, congrArg V.bl neSelf, iteF ?_⟩
    exact ⟨_, _, _, _, _, _, _, rfl, s2.trans (s221.trans (s213.trans s24))⟩
end
end SE
namespace SE
open PySem PySem.Spec PyProof.Rows L2
section
/-! ### what the top has left -/
theorem scI_StepFailed : FnScope ["self", "index"] ["self", "index"] (defScope (inClass sStepfailed 0)) := ⟨rfl, rfl, rfl, by decide +kernel, rfl, by decide +kernel, by decide +kernel⟩
theorem scI_LimitExceeded : FnScope ["self", "limit"] ["self", "limit"] (defScope (inClass sLimitexceeded 0)) := ⟨rfl, rfl, rfl, by decide +kernel, rfl, by decide +kernel, by decide +kernel⟩
theorem scI_InvalidSteps : FnScope ["self", "index"] ["self", "index"] (defScope (inClass sInvalidsteps 0)) := ⟨rfl, rfl, rfl, by decide +kernel, rfl, by decide +kernel, by decide +kernel⟩
theorem scI_InvalidWord : FnScope ["self", "value"] ["self", "value"] (defScope (inClass sInvalidword 0)) := ⟨rfl, rfl, rfl, by decide +kernel, rfl, by decide +kernel, by decide +kernel⟩
theorem scI_InvalidNumber : FnScope ["self", "value"] ["self", "value"] (defScope (inClass sInvalidnumber 0)) := ⟨rfl, rfl, rfl, by decide +kernel, rfl, by decide +kernel, by decide +kernel⟩
theorem scI_InvalidStacks : FnScope ["self", "value"] ["self", "value"] (defScope (inClass sInvalidstacks 0)) := ⟨rfl, rfl, rfl, by decide +kernel, rfl, by decide +kernel, by decide +kernel⟩
theorem def_mk {K : PySem.W.Frag} {h : Heap} {mg : Str → Option Value} {x : Str} {st : Stmt} {f : Addr} {oc : Value} {od an : Option Addr} {osl : Array (Option Value)} {kV doc pm cdv ct : Value} (X : K.In h) (G : h.Ns mainGlobals mg)
    (a : PySem.W.nsIn K mainGlobals x = some (some (.ref f))) (l : K.lookup f = some ⟨oc, od, .func (PySem.W.fnOf x x (defArgs st) (defBody st) (defScope st) .none kV doc pm an cdv ct), osl⟩)
    (c : PySem.W.codeIn K cdv x = true) (k : PySem.W.keepIn K (.ref f) = true) : Def K mg x st := ⟨f, _, fun_mk l c k, PySem.W.mg_of X G a⟩
theorem kit_below {K : PySem.W.Frag} {C S : Addr} (h1 : PySem.W.subIn K (.ref C) (.ref S) = some true) (h2 : PySem.W.typeIn K (.ref S) = some (.type "type")) (h3 : PySem.W.hasDictIn K S = true) : PySem.W.kitOne K (.ref C) (.ref S) = some true := by
  obtain ⟨cd, hc, _⟩ := PySem.W.any_some h3
  unfold PySem.W.kitOne
  split
  · rfl
  · show (if ((PySem.W.clsIn K S).isSome && PySem.W.typeIn K (.ref S) == some (.type "type")) = true then PySem.W.subIn K (.ref C) (.ref S) else none) = some true
    rw [if_pos (by rw [hc, h2]; rfl)]
    exact h1
set_option maxHeartbeats 4000000 in
theorem all_mk {l : PySem.W.OpenLaw} {w : World} {K : PySem.W.Frag} {h : Heap} {mg : Str → Option Value} {fa fL D Z R gQI dQI gRI dRI oRI ccRI gQA gQP gQN gQH gQO gQL gQM gQS gQE gRN gZP qZP gLN CY0 gY0 NY0 CY1 gY1 NY1 S CX0 gX0 NX0 CX1 gX1 NX1 CX2 gX2 NX2 CX3 gX3 NX3 : Addr} {tk1 tk2 tk3 tk4 : Tok} (X : K.In h) (G : h.Ns mainGlobals mg) (hfa : mg "law" = some (.ref fa))
    {es : Array DictEntry} {n : Nat} {uP uQ : Value}
    {odQI anQI : Option Addr} {slQI : Array (Option Value)} {ocQI dcQI pmQI cdQI ctQI : Value}
    {odRI anRI ccdRI cddRI : Option Addr} {slRI ccsRI cosRI : Array (Option Value)} {ocRI dcRI pmRI ctRI cclRI ccoRI : Value} {vsRI : Array Value} {fileRI : Str} {tfRI : Tok}
    {odQA anQA : Option Addr} {slQA : Array (Option Value)} {ocQA kVQA dcQA pmQA cdQA ctQA : Value}
    {odQP anQP : Option Addr} {slQP : Array (Option Value)} {ocQP kVQP dcQP pmQP cdQP ctQP : Value}
    {odQN anQN : Option Addr} {slQN : Array (Option Value)} {ocQN kVQN dcQN pmQN cdQN ctQN : Value}
    {odQH anQH : Option Addr} {slQH : Array (Option Value)} {ocQH kVQH dcQH pmQH cdQH ctQH : Value}
    {odQO anQO : Option Addr} {slQO : Array (Option Value)} {ocQO kVQO dcQO pmQO cdQO ctQO : Value}
    {odQL anQL : Option Addr} {slQL : Array (Option Value)} {ocQL kVQL dcQL pmQL cdQL ctQL : Value}
    {odQM anQM : Option Addr} {slQM : Array (Option Value)} {ocQM kVQM dcQM pmQM cdQM ctQM : Value}
    {odQS anQS : Option Addr} {slQS : Array (Option Value)} {ocQS kVQS dcQS pmQS cdQS ctQS : Value}
    {odQE anQE : Option Addr} {slQE : Array (Option Value)} {ocQE kVQE dcQE pmQE cdQE ctQE : Value}
    {odRN anRN : Option Addr} {slRN : Array (Option Value)} {ocRN kVRN dcRN pmRN cdRN ctRN : Value}
    {odZP anZP : Option Addr} {slZP : Array (Option Value)} {ocZP kVZP dcZP pmZP cdZP ctZP : Value}
    {rZP : List Value}
    {odLN anLN : Option Addr} {slLN : Array (Option Value)} {ocLN kVLN dcLN pmLN cdLN ctLN : Value}
    {nmY0 qY0 : Str} {bsY0 : List Value} {snY0 : List Str} {subY0 : List Value} {abY0 : Bool} {colY0 : Option Bool} {ddY0 odY0 anY0 : Option Addr} {m0Y0 m1Y0 m2Y0 m3Y0 m5Y0 : Option Value} {slY0 : Array (Option Value)} {ocY0 kVY0 dcY0 pmY0 cdY0 ctY0 : Value}
    {nmY1 qY1 : Str} {bsY1 : List Value} {snY1 : List Str} {subY1 : List Value} {abY1 : Bool} {colY1 : Option Bool} {ddY1 odY1 anY1 : Option Addr} {m0Y1 m1Y1 m2Y1 m3Y1 m5Y1 : Option Value} {slY1 : Array (Option Value)} {ocY1 kVY1 dcY1 pmY1 cdY1 ctY1 : Value}
    {nmX0 qX0 : Str} {bsX0 : List Value} {snX0 : List Str} {subX0 : List Value} {abX0 : Bool} {colX0 : Option Bool} {ddX0 odX0 anX0 : Option Addr} {m0X0 m1X0 m2X0 m3X0 m5X0 : Option Value} {slX0 : Array (Option Value)} {ocX0 kVX0 dcX0 pmX0 cdX0 ctX0 : Value}
    {nmX1 qX1 : Str} {bsX1 : List Value} {snX1 : List Str} {subX1 : List Value} {abX1 : Bool} {colX1 : Option Bool} {ddX1 odX1 anX1 : Option Addr} {m0X1 m1X1 m2X1 m3X1 m5X1 : Option Value} {slX1 : Array (Option Value)} {ocX1 kVX1 dcX1 pmX1 cdX1 ctX1 : Value}
    {nmX2 qX2 : Str} {bsX2 : List Value} {snX2 : List Str} {subX2 : List Value} {abX2 : Bool} {colX2 : Option Bool} {ddX2 odX2 anX2 : Option Addr} {m0X2 m1X2 m2X2 m3X2 m5X2 : Option Value} {slX2 : Array (Option Value)} {ocX2 kVX2 dcX2 pmX2 cdX2 ctX2 : Value}
    {nmX3 qX3 : Str} {bsX3 : List Value} {snX3 : List Str} {subX3 : List Value} {abX3 : Bool} {colX3 : Option Bool} {ddX3 odX3 anX3 : Option Addr} {m0X3 m1X3 m2X3 m3X3 m5X3 : Option Value} {slX3 : Array (Option Value)} {ocX3 kVX3 dcX3 pmX3 cdX3 ctX3 : Value}
    {odL anL : Option Addr} {slL : Array (Option Value)} {ocL kVL dcL pmL cdL ctL : Value}
    (d_is_whole : Def K mg "is_whole" sIsWhole)
    (d_is_between : Def K mg "is_between" sIsBetween)
    (d_is_item : Def K mg "is_item" sIsItem)
    (d_is_word : Def K mg "is_word" sIsWord)
    (d_is_step : Def K mg "is_step" sIsStep)
    (d_may_hold_steps : Def K mg "may_hold_steps" sMayHold)
    (d_is_limit : Def K mg "is_limit" sIsLimit)
    (d_check_limit : Def K mg "check_limit" sChkLimit)
    (d_is_too_high : Def K mg "is_too_high" sTooHigh)
    (d_after_step : Def K mg "after_step" sAfter)
    (d_is_named_step : Def K mg "is_named_step" sIsNamedStep)
    (d_check_named_steps : Def K mg "check_named_steps" sCheckNamedSteps)
    (d_are_stacks : Def K mg "are_stacks" sAreStacks)
    (d_check_stacks : Def K mg "check_stacks" sCheckStacks)
    (d_check_name : Def K mg "check_name" sCheckName)
    (d_check_heights : Def K mg "check_heights" sCheckHeights)
    (d_without_empty : Def K mg "without_empty" sWithoutEmpty)
    (d__law_pool : Def K mg "_law_pool" sPool)
    (d__law_take : Def K mg "_law_take" sTake)
    (d__law_name : Def K mg "_law_name" sName)
    (d__law_items : Def K mg "_law_items" sItems)
    (d__law_steps : Def K mg "_law_steps" sSteps)
    (d__law_named : Def K mg "_law_named" sLawNamed)
    (d__law_called : Def K mg "_law_called" sLawCalled)
    (d__law_told : Def K mg "_law_told" sLawTold)
    (d__law_seen : Def K mg "_law_seen" sLawSeen)
    (d__law_bad_bounds_right : Def K mg "_law_bad_bounds_right" sLawBadBoundsRight)
    (d__law_bad_steps_right : Def K mg "_law_bad_steps_right" sLawBadStepsRight)
    (z_isinstance : PySem.W.nsIn K mainGlobals "isinstance" = some none)
    (z_str : PySem.W.nsIn K mainGlobals "str" = some none)
    (z_len : PySem.W.nsIn K mainGlobals "len" = some none)
    (z_all : PySem.W.nsIn K mainGlobals "all" = some none)
    (z_any : PySem.W.nsIn K mainGlobals "any" = some none)
    (z_tuple : PySem.W.nsIn K mainGlobals "tuple" = some none)
    (z_list : PySem.W.nsIn K mainGlobals "list" = some none)
    (z_enumerate : PySem.W.nsIn K mainGlobals "enumerate" = some none)
    (z_range : PySem.W.nsIn K mainGlobals "range" = some none)
    (z_abs : PySem.W.nsIn K mainGlobals "abs" = some none)
    (z_int : PySem.W.nsIn K mainGlobals "int" = some none)
    (z_bool : PySem.W.nsIn K mainGlobals "bool" = some none)
    (z_max : PySem.W.nsIn K mainGlobals "max" = some none)
    (z_min : PySem.W.nsIn K mainGlobals "min" = some none)
    (z_sorted : PySem.W.nsIn K mainGlobals "sorted" = some none)
    (z_dict : PySem.W.nsIn K mainGlobals "dict" = some none)
    (z_super : PySem.W.nsIn K mainGlobals "super" = some none)
    (z_repr : PySem.W.nsIn K mainGlobals "repr" = some none)
    (cL : PySem.W.nsIn K mainGlobals "LETTERS" = some (some (.str abc tk1)))
    (cM : PySem.W.nsIn K mainGlobals "MOST_LETTERS" = some (some (.int 8 tk2)))
    (cS : PySem.W.nsIn K mainGlobals "MOST_STEPS" = some (some (.int 1000 tk3)))
    (cLm : PySem.W.nsIn K mainGlobals "MOST_LIMIT" = some (some (.int 1000 tk4)))
    (cO : PySem.W.nsIn K mainGlobals "OPPOSITES" = some (some (.ref D)))
    (lO : K.lookup D = some ⟨.type "dict", none, .dict es n, #[]⟩)
    (kO : PySem.W.KeysLit w.params es.toList)
    (wO : (D == sysModules) = false)
    (pO : PySem.W.nsIn K D "push" = some (some uP))
    (qO : PySem.W.nsIn K D "pop" = some (some uQ))
    (rP : RelV (.str "pop") uP)
    (rQ : RelV (.str "push") uQ)
    (oK : OppKeys es.toList)
    (aZ : PySem.W.nsIn K mainGlobals "Session" = some (some (.ref Z)))
    (pgZ : PySem.W.plainGet K Z Str.empty = true)
    (hdZ : PySem.W.hasDictIn K Z = true)
    (poZ : PySem.W.plainOver K Z = true)
    (saZ : PySem.W.findIn K (.ref Z) "__setattr__" = some (some (.builtin "object.__setattr__")))
    (nFZ : PySem.W.findIn K (.ref Z) "filled" = some none)
    (nHZ : PySem.W.findIn K (.ref Z) "highest_allowed" = some none)
    (nDZ : PySem.W.findIn K (.ref Z) "deeds" = some none)
    (mkZ : PySem.W.makesIn K Z = true)
    (keZ : PySem.W.keepIn K (.ref Z) = true)
    (aR : PySem.W.nsIn K mainGlobals "Recorder" = some (some (.ref R)))
    (pgR : PySem.W.plainGet K R Str.empty = true)
    (hdR : PySem.W.hasDictIn K R = true)
    (poR : PySem.W.plainOver K R = true)
    (saR : PySem.W.findIn K (.ref R) "__setattr__" = some (some (.builtin "object.__setattr__")))
    (nFR : PySem.W.findIn K (.ref R) "filled" = some none)
    (nHR : PySem.W.findIn K (.ref R) "highest_allowed" = some none)
    (nDR : PySem.W.findIn K (.ref R) "deeds" = some none)
    (nXR : PySem.W.findIn K (.ref R) "failed" = some none)
    (mkR : PySem.W.makesIn K R = true)
    (keR : PySem.W.keepIn K (.ref R) = true)
    (mrR : PySem.W.mroIn K R (.ref R) = some true)
    (aQI : PySem.W.findIn K (.ref Z) "__init__" = some (some (.ref gQI)))
    (iQI : PySem.W.isFn K (.ref gQI) = true)
    (tQI : PySem.W.typeIn K (.ref gQI) = some (.type "function"))
    (lQI : K.lookup gQI = some ⟨ocQI, odQI, .func (PySem.W.fnOf "__init__" "Session.__init__" (defArgs sSInit) (defBody sSInit) (defScope sSInit) .none (.ref dQI) dcQI pmQI anQI cdQI ctQI), slQI⟩)
    (cQI : PySem.W.codeIn K cdQI "Session.__init__" = true)
    (kQI : PySem.W.keepIn K (.ref gQI) = true)
    (nQI : PySem.W.nsIn K dQI "limit" = some (some .none))
    (aRI : PySem.W.findIn K (.ref R) "__init__" = some (some (.ref gRI)))
    (iRI : PySem.W.isFn K (.ref gRI) = true)
    (lRI : K.lookup gRI = some ⟨ocRI, odRI, .func (PySem.W.ksFn "__init__" "Recorder.__init__" (defArgs sRInit) (defBody sRInit) (defScope sRInit) .none (.ref dRI) dcRI pmRI anRI (.ref oRI) ctRI ccRI), slRI⟩)
    (cRI : PySem.W.codeIn K (.ref oRI) "Recorder.__init__" = true)
    (nRI : PySem.W.nsIn K dRI "limit" = some (some .none))
    (wRI : K.lookup ccRI = some ⟨cclRI, ccdRI, .cell (some (.ref R)), ccsRI⟩)
    (yRI : K.lookup oRI = some ⟨ccoRI, cddRI, .fields vsRI, cosRI⟩)
    (y2RI : vsRI[2]? = some (.str fileRI tfRI))
    (y3RI : ((l.prog.main.file : Str) == fileRI) = true)
    (topR : (l.prog.main.scope.names.lookup ("super" : Str)).isSome = false)
    (opR : PySem.W.nsIn K cStatics "thirdparty.any" = some none)
    (supR : PySem.W.ks_superIn K R R "__init__" = some (some (.ref gQI)))
    (aQA : PySem.W.findIn K (.ref Z) "add_deed" = some (some (.ref gQA)))
    (bQA : PySem.W.findIn K (.ref R) "add_deed" = some (some (.ref gQA)))
    (lQA : K.lookup gQA = some ⟨ocQA, odQA, .func (PySem.W.fnOf "add_deed" "Session.add_deed" (defArgs sSAddDeed) (defBody sSAddDeed) (defScope sSAddDeed) .none kVQA dcQA pmQA anQA cdQA ctQA), slQA⟩)
    (cQA : PySem.W.codeIn K cdQA "Session.add_deed" = true)
    (kQA : PySem.W.keepIn K (.ref gQA) = true)
    (iQA : PySem.W.isFn K (.ref gQA) = true)
    (aQP : PySem.W.findIn K (.ref Z) "perform" = some (some (.ref gQP)))
    (bQP : PySem.W.findIn K (.ref R) "perform" = some (some (.ref gQP)))
    (lQP : K.lookup gQP = some ⟨ocQP, odQP, .func (PySem.W.fnOf "perform" "Session.perform" (defArgs sSPerform) (defBody sSPerform) (defScope sSPerform) .none kVQP dcQP pmQP anQP cdQP ctQP), slQP⟩)
    (cQP : PySem.W.codeIn K cdQP "Session.perform" = true)
    (kQP : PySem.W.keepIn K (.ref gQP) = true)
    (iQP : PySem.W.isFn K (.ref gQP) = true)
    (aQN : PySem.W.findIn K (.ref Z) "note_failure" = some (some (.ref gQN)))
    (lQN : K.lookup gQN = some ⟨ocQN, odQN, .func (PySem.W.fnOf "note_failure" "Session.note_failure" (defArgs sSNote) (defBody sSNote) (defScope sSNote) .none kVQN dcQN pmQN anQN cdQN ctQN), slQN⟩)
    (cQN : PySem.W.codeIn K cdQN "Session.note_failure" = true)
    (kQN : PySem.W.keepIn K (.ref gQN) = true)
    (iQN : PySem.W.isFn K (.ref gQN) = true)
    (aQH : PySem.W.findIn K (.ref Z) "push" = some (some (.ref gQH)))
    (bQH : PySem.W.findIn K (.ref R) "push" = some (some (.ref gQH)))
    (lQH : K.lookup gQH = some ⟨ocQH, odQH, .func (PySem.W.fnOf "push" "Session.push" (defArgs sSPush) (defBody sSPush) (defScope sSPush) .none kVQH dcQH pmQH anQH cdQH ctQH), slQH⟩)
    (cQH : PySem.W.codeIn K cdQH "Session.push" = true)
    (kQH : PySem.W.keepIn K (.ref gQH) = true)
    (iQH : PySem.W.isFn K (.ref gQH) = true)
    (aQO : PySem.W.findIn K (.ref Z) "pop" = some (some (.ref gQO)))
    (bQO : PySem.W.findIn K (.ref R) "pop" = some (some (.ref gQO)))
    (lQO : K.lookup gQO = some ⟨ocQO, odQO, .func (PySem.W.fnOf "pop" "Session.pop" (defArgs sSPop) (defBody sSPop) (defScope sSPop) .none kVQO dcQO pmQO anQO cdQO ctQO), slQO⟩)
    (cQO : PySem.W.codeIn K cdQO "Session.pop" = true)
    (kQO : PySem.W.keepIn K (.ref gQO) = true)
    (iQO : PySem.W.isFn K (.ref gQO) = true)
    (aQL : PySem.W.findIn K (.ref Z) "set_limit" = some (some (.ref gQL)))
    (bQL : PySem.W.findIn K (.ref R) "set_limit" = some (some (.ref gQL)))
    (lQL : K.lookup gQL = some ⟨ocQL, odQL, .func (PySem.W.fnOf "set_limit" "Session.set_limit" (defArgs sSSetLimit) (defBody sSSetLimit) (defScope sSSetLimit) .none kVQL dcQL pmQL anQL cdQL ctQL), slQL⟩)
    (cQL : PySem.W.codeIn K cdQL "Session.set_limit" = true)
    (kQL : PySem.W.keepIn K (.ref gQL) = true)
    (iQL : PySem.W.isFn K (.ref gQL) = true)
    (aQM : PySem.W.findIn K (.ref Z) "names" = some (some (.ref gQM)))
    (bQM : PySem.W.findIn K (.ref R) "names" = some (some (.ref gQM)))
    (lQM : K.lookup gQM = some ⟨ocQM, odQM, .func (PySem.W.fnOf "names" "Session.names" (defArgs sSNames) (defBody sSNames) (defScope sSNames) .none kVQM dcQM pmQM anQM cdQM ctQM), slQM⟩)
    (cQM : PySem.W.codeIn K cdQM "Session.names" = true)
    (kQM : PySem.W.keepIn K (.ref gQM) = true)
    (iQM : PySem.W.isFn K (.ref gQM) = true)
    (aQS : PySem.W.findIn K (.ref Z) "stack" = some (some (.ref gQS)))
    (bQS : PySem.W.findIn K (.ref R) "stack" = some (some (.ref gQS)))
    (lQS : K.lookup gQS = some ⟨ocQS, odQS, .func (PySem.W.fnOf "stack" "Session.stack" (defArgs sSStack) (defBody sSStack) (defScope sSStack) .none kVQS dcQS pmQS anQS cdQS ctQS), slQS⟩)
    (cQS : PySem.W.codeIn K cdQS "Session.stack" = true)
    (kQS : PySem.W.keepIn K (.ref gQS) = true)
    (iQS : PySem.W.isFn K (.ref gQS) = true)
    (aQE : PySem.W.findIn K (.ref Z) "effect" = some (some (.ref gQE)))
    (bQE : PySem.W.findIn K (.ref R) "effect" = some (some (.ref gQE)))
    (lQE : K.lookup gQE = some ⟨ocQE, odQE, .func (PySem.W.fnOf "effect" "Session.effect" (defArgs sSEffect64) (defBody sSEffect64) (defScope sSEffect64) .none kVQE dcQE pmQE anQE cdQE ctQE), slQE⟩)
    (cQE : PySem.W.codeIn K cdQE "Session.effect" = true)
    (kQE : PySem.W.keepIn K (.ref gQE) = true)
    (iQE : PySem.W.isFn K (.ref gQE) = true)
    (bRN : PySem.W.findIn K (.ref R) "note_failure" = some (some (.ref gRN)))
    (lRN : K.lookup gRN = some ⟨ocRN, odRN, .func (PySem.W.fnOf "note_failure" "Recorder.note_failure" (defArgs sRNote) (defBody sRNote) (defScope sRNote) .none kVRN dcRN pmRN anRN cdRN ctRN), slRN⟩)
    (cRN : PySem.W.codeIn K cdRN "Recorder.note_failure" = true)
    (kRN : PySem.W.keepIn K (.ref gRN) = true)
    (iRN : PySem.W.isFn K (.ref gRN) = true)
    (aZP : PySem.W.findIn K (.ref Z) "limit" = some (some (.ref qZP)))
    (dZP : PySem.W.findIn K (.ref R) "limit" = some (some (.ref qZP)))
    (bZP : PySem.W.specialIn K (.ref qZP) "__get__" = some (some (.builtin "property.__get__")))
    (tZP : PySem.W.takesIn K (.ref qZP) = some true)
    (uZP : PySem.W.recIn K qZP "property" = some (.ref gZP :: rZP))
    (lZP : K.lookup gZP = some ⟨ocZP, odZP, .func (PySem.W.fnOf "limit" "Session.limit" (defArgs sSLimit) (defBody sSLimit) (defScope sSLimit) .none kVZP dcZP pmZP anZP cdZP ctZP), slZP⟩)
    (cZP : PySem.W.codeIn K cdZP "Session.limit" = true)
    (kZP : PySem.W.keepIn K (.ref gZP) = true)
    (aLN : PySem.W.findIn K (.ref Z) "__len__" = some (some (.ref gLN)))
    (bLN : PySem.W.findIn K (.ref R) "__len__" = some (some (.ref gLN)))
    (iLN : PySem.W.isFn K (.ref gLN) = true)
    (lLN : K.lookup gLN = some ⟨ocLN, odLN, .func (PySem.W.fnOf "__len__" "Session.__len__" (defArgs sSLen) (defBody sSLen) (defScope sSLen) .none kVLN dcLN pmLN anLN cdLN ctLN), slLN⟩)
    (cLN : PySem.W.codeIn K cdLN "Session.__len__" = true)
    (kLN : PySem.W.keepIn K (.ref gLN) = true)
    (aY0 : PySem.W.nsIn K mainGlobals "StepFailed" = some (some (.ref CY0)))
    (xY0 : K.lookup CY0 = some (excClassObj nmY0 qY0 CY0 NY0 bsY0 [.type "RuntimeError", .type "Exception", .type "BaseException", .type "object"] true snY0 subY0 abY0 colY0 ddY0 m0Y0 m1Y0 m2Y0 m3Y0 m5Y0 "RuntimeError.__new__"))
    (saY0 : PySem.W.findIn K (.ref CY0) "__setattr__" = some (some (.builtin "object.__setattr__")))
    (gaY0 : PySem.W.findIn K (.ref CY0) "__getattribute__" = some (some (.builtin "BaseException.__getattribute__")))
    (ggY0 : PySem.W.findIn K (.ref CY0) "__getattr__" = some none)
    (nfY0 : PySem.W.findIn K (.ref CY0) "index" = some none)
    (iiY0 : PySem.W.findIn K (.ref CY0) "__init__" = some (some (.ref gY0)))
    (tiY0 : PySem.W.typeIn K (.ref gY0) = some (.type "function"))
    (lY0 : K.lookup gY0 = some ⟨ocY0, odY0, .func (PySem.W.fnOf "__init__" "StepFailed.__init__" (defArgs (inClass sStepfailed 0)) (defBody (inClass sStepfailed 0)) (defScope (inClass sStepfailed 0)) .none kVY0 dcY0 pmY0 anY0 cdY0 ctY0), slY0⟩)
    (cY0 : PySem.W.codeIn K cdY0 "StepFailed.__init__" = true)
    (kY0 : PySem.W.keepIn K (.ref gY0) = true)
    (kCY0 : PySem.W.keepIn K (.ref CY0) = true)
    (ccY0 : PySem.W.findIn K (.ref CY0) "__class__" = some (some (.builtin "object.__class__")))
    (aY1 : PySem.W.nsIn K mainGlobals "LimitExceeded" = some (some (.ref CY1)))
    (xY1 : K.lookup CY1 = some (excClassObj nmY1 qY1 CY1 NY1 bsY1 [.type "OverflowError", .type "ArithmeticError", .type "Exception", .type "BaseException", .type "object"] true snY1 subY1 abY1 colY1 ddY1 m0Y1 m1Y1 m2Y1 m3Y1 m5Y1 "OverflowError.__new__"))
    (saY1 : PySem.W.findIn K (.ref CY1) "__setattr__" = some (some (.builtin "object.__setattr__")))
    (gaY1 : PySem.W.findIn K (.ref CY1) "__getattribute__" = some (some (.builtin "BaseException.__getattribute__")))
    (ggY1 : PySem.W.findIn K (.ref CY1) "__getattr__" = some none)
    (nfY1 : PySem.W.findIn K (.ref CY1) "limit" = some none)
    (iiY1 : PySem.W.findIn K (.ref CY1) "__init__" = some (some (.ref gY1)))
    (tiY1 : PySem.W.typeIn K (.ref gY1) = some (.type "function"))
    (lY1 : K.lookup gY1 = some ⟨ocY1, odY1, .func (PySem.W.fnOf "__init__" "LimitExceeded.__init__" (defArgs (inClass sLimitexceeded 0)) (defBody (inClass sLimitexceeded 0)) (defScope (inClass sLimitexceeded 0)) .none kVY1 dcY1 pmY1 anY1 cdY1 ctY1), slY1⟩)
    (cY1 : PySem.W.codeIn K cdY1 "LimitExceeded.__init__" = true)
    (kY1 : PySem.W.keepIn K (.ref gY1) = true)
    (kCY1 : PySem.W.keepIn K (.ref CY1) = true)
    (ccY1 : PySem.W.findIn K (.ref CY1) "__class__" = some (some (.builtin "object.__class__")))
    (hCY0 : PySem.W.hasDictIn K CY0 = true)
    (hCY1 : PySem.W.hasDictIn K CY1 = true)
    (aI0 : PySem.W.nsIn K mainGlobals "InvalidSteps" = some (some (.ref CX0)))
    (aI1 : PySem.W.nsIn K mainGlobals "InvalidWord" = some (some (.ref CX1)))
    (aI2 : PySem.W.nsIn K mainGlobals "InvalidNumber" = some (some (.ref CX2)))
    (aI3 : PySem.W.nsIn K mainGlobals "InvalidStacks" = some (some (.ref CX3)))
    (nX1X0 : PySem.W.subIn K (.ref CX1) (.ref CX0) = some false)
    (nX2X0 : PySem.W.subIn K (.ref CX2) (.ref CX0) = some false)
    (nX2X1 : PySem.W.subIn K (.ref CX2) (.ref CX1) = some false)
    (nX3X0 : PySem.W.subIn K (.ref CX3) (.ref CX0) = some false)
    (nX3X1 : PySem.W.subIn K (.ref CX3) (.ref CX1) = some false)
    (nX3X2 : PySem.W.subIn K (.ref CX3) (.ref CX2) = some false)
    (nY1X0 : PySem.W.subIn K (.ref CY1) (.ref CX0) = some false)
    (nY1X1 : PySem.W.subIn K (.ref CY1) (.ref CX1) = some false)
    (nY1X2 : PySem.W.subIn K (.ref CY1) (.ref CX2) = some false)
    (nY1X3 : PySem.W.subIn K (.ref CY1) (.ref CX3) = some false)
    (nY0X0 : PySem.W.subIn K (.ref CY0) (.ref CX0) = some false)
    (nY0X1 : PySem.W.subIn K (.ref CY0) (.ref CX1) = some false)
    (nY0X2 : PySem.W.subIn K (.ref CY0) (.ref CX2) = some false)
    (nY0X3 : PySem.W.subIn K (.ref CY0) (.ref CX3) = some false)
    (nY0Y1 : PySem.W.subIn K (.ref CY0) (.ref CY1) = some false)
    (aS : PySem.W.nsIn K mainGlobals "StackError" = some (some (.ref S)))
    (tS : PySem.W.typeIn K (.ref S) = some (.type "type"))
    (hS : PySem.W.hasDictIn K S = true)
    (cg : PySem.W.specialIn K (.builtin "object.__class__") "__get__" = some (some (.builtin "getset_descriptor.__get__")))
    (ct : PySem.W.takesIn K (.builtin "object.__class__") = some true)
    (aX0 : PySem.W.nsIn K mainGlobals "InvalidSteps" = some (some (.ref CX0)))
    (xX0 : K.lookup CX0 = some (excClassObj nmX0 qX0 CX0 NX0 bsX0 [.ref S, .type "ValueError", .type "Exception", .type "BaseException", .type "object"] true snX0 subX0 abX0 colX0 ddX0 m0X0 m1X0 m2X0 m3X0 m5X0 "ValueError.__new__"))
    (saX0 : PySem.W.findIn K (.ref CX0) "__setattr__" = some (some (.builtin "object.__setattr__")))
    (gaX0 : PySem.W.findIn K (.ref CX0) "__getattribute__" = some (some (.builtin "BaseException.__getattribute__")))
    (ggX0 : PySem.W.findIn K (.ref CX0) "__getattr__" = some none)
    (nfX0 : PySem.W.findIn K (.ref CX0) "index" = some none)
    (iiX0 : PySem.W.findIn K (.ref CX0) "__init__" = some (some (.ref gX0)))
    (tiX0 : PySem.W.typeIn K (.ref gX0) = some (.type "function"))
    (lX0 : K.lookup gX0 = some ⟨ocX0, odX0, .func (PySem.W.fnOf "__init__" "InvalidSteps.__init__" (defArgs (inClass sInvalidsteps 0)) (defBody (inClass sInvalidsteps 0)) (defScope (inClass sInvalidsteps 0)) .none kVX0 dcX0 pmX0 anX0 cdX0 ctX0), slX0⟩)
    (cX0 : PySem.W.codeIn K cdX0 "InvalidSteps.__init__" = true)
    (kX0 : PySem.W.keepIn K (.ref gX0) = true)
    (kCX0 : PySem.W.keepIn K (.ref CX0) = true)
    (eCX0 : PySem.W.subIn K (.ref CX0) (.type "BaseException") = some true)
    (tCX0 : PySem.W.typeIn K (.ref CX0) = some (.type "type"))
    (hCX0 : PySem.W.hasDictIn K CX0 = true)
    (sCX0 : PySem.W.subIn K (.ref CX0) (.ref CX0) = some true)
    (sSX0 : PySem.W.subIn K (.ref CX0) (.ref S) = some true)
    (ccX0 : PySem.W.findIn K (.ref CX0) "__class__" = some (some (.builtin "object.__class__")))
    (moX0 : PySem.W.mroIn K CX0 (.type "object") = some true)
    (aX1 : PySem.W.nsIn K mainGlobals "InvalidWord" = some (some (.ref CX1)))
    (xX1 : K.lookup CX1 = some (excClassObj nmX1 qX1 CX1 NX1 bsX1 [.ref S, .type "ValueError", .type "Exception", .type "BaseException", .type "object"] true snX1 subX1 abX1 colX1 ddX1 m0X1 m1X1 m2X1 m3X1 m5X1 "ValueError.__new__"))
    (saX1 : PySem.W.findIn K (.ref CX1) "__setattr__" = some (some (.builtin "object.__setattr__")))
    (gaX1 : PySem.W.findIn K (.ref CX1) "__getattribute__" = some (some (.builtin "BaseException.__getattribute__")))
    (ggX1 : PySem.W.findIn K (.ref CX1) "__getattr__" = some none)
    (nfX1 : PySem.W.findIn K (.ref CX1) "value" = some none)
    (iiX1 : PySem.W.findIn K (.ref CX1) "__init__" = some (some (.ref gX1)))
    (tiX1 : PySem.W.typeIn K (.ref gX1) = some (.type "function"))
    (lX1 : K.lookup gX1 = some ⟨ocX1, odX1, .func (PySem.W.fnOf "__init__" "InvalidWord.__init__" (defArgs (inClass sInvalidword 0)) (defBody (inClass sInvalidword 0)) (defScope (inClass sInvalidword 0)) .none kVX1 dcX1 pmX1 anX1 cdX1 ctX1), slX1⟩)
    (cX1 : PySem.W.codeIn K cdX1 "InvalidWord.__init__" = true)
    (kX1 : PySem.W.keepIn K (.ref gX1) = true)
    (kCX1 : PySem.W.keepIn K (.ref CX1) = true)
    (eCX1 : PySem.W.subIn K (.ref CX1) (.type "BaseException") = some true)
    (tCX1 : PySem.W.typeIn K (.ref CX1) = some (.type "type"))
    (hCX1 : PySem.W.hasDictIn K CX1 = true)
    (sCX1 : PySem.W.subIn K (.ref CX1) (.ref CX1) = some true)
    (sSX1 : PySem.W.subIn K (.ref CX1) (.ref S) = some true)
    (ccX1 : PySem.W.findIn K (.ref CX1) "__class__" = some (some (.builtin "object.__class__")))
    (moX1 : PySem.W.mroIn K CX1 (.type "object") = some true)
    (aX2 : PySem.W.nsIn K mainGlobals "InvalidNumber" = some (some (.ref CX2)))
    (xX2 : K.lookup CX2 = some (excClassObj nmX2 qX2 CX2 NX2 bsX2 [.ref S, .type "ValueError", .type "Exception", .type "BaseException", .type "object"] true snX2 subX2 abX2 colX2 ddX2 m0X2 m1X2 m2X2 m3X2 m5X2 "ValueError.__new__"))
    (saX2 : PySem.W.findIn K (.ref CX2) "__setattr__" = some (some (.builtin "object.__setattr__")))
    (gaX2 : PySem.W.findIn K (.ref CX2) "__getattribute__" = some (some (.builtin "BaseException.__getattribute__")))
    (ggX2 : PySem.W.findIn K (.ref CX2) "__getattr__" = some none)
    (nfX2 : PySem.W.findIn K (.ref CX2) "value" = some none)
    (iiX2 : PySem.W.findIn K (.ref CX2) "__init__" = some (some (.ref gX2)))
    (tiX2 : PySem.W.typeIn K (.ref gX2) = some (.type "function"))
    (lX2 : K.lookup gX2 = some ⟨ocX2, odX2, .func (PySem.W.fnOf "__init__" "InvalidNumber.__init__" (defArgs (inClass sInvalidnumber 0)) (defBody (inClass sInvalidnumber 0)) (defScope (inClass sInvalidnumber 0)) .none kVX2 dcX2 pmX2 anX2 cdX2 ctX2), slX2⟩)
    (cX2 : PySem.W.codeIn K cdX2 "InvalidNumber.__init__" = true)
    (kX2 : PySem.W.keepIn K (.ref gX2) = true)
    (kCX2 : PySem.W.keepIn K (.ref CX2) = true)
    (eCX2 : PySem.W.subIn K (.ref CX2) (.type "BaseException") = some true)
    (tCX2 : PySem.W.typeIn K (.ref CX2) = some (.type "type"))
    (hCX2 : PySem.W.hasDictIn K CX2 = true)
    (sCX2 : PySem.W.subIn K (.ref CX2) (.ref CX2) = some true)
    (sSX2 : PySem.W.subIn K (.ref CX2) (.ref S) = some true)
    (ccX2 : PySem.W.findIn K (.ref CX2) "__class__" = some (some (.builtin "object.__class__")))
    (moX2 : PySem.W.mroIn K CX2 (.type "object") = some true)
    (aX3 : PySem.W.nsIn K mainGlobals "InvalidStacks" = some (some (.ref CX3)))
    (xX3 : K.lookup CX3 = some (excClassObj nmX3 qX3 CX3 NX3 bsX3 [.ref S, .type "ValueError", .type "Exception", .type "BaseException", .type "object"] true snX3 subX3 abX3 colX3 ddX3 m0X3 m1X3 m2X3 m3X3 m5X3 "ValueError.__new__"))
    (saX3 : PySem.W.findIn K (.ref CX3) "__setattr__" = some (some (.builtin "object.__setattr__")))
    (gaX3 : PySem.W.findIn K (.ref CX3) "__getattribute__" = some (some (.builtin "BaseException.__getattribute__")))
    (ggX3 : PySem.W.findIn K (.ref CX3) "__getattr__" = some none)
    (nfX3 : PySem.W.findIn K (.ref CX3) "value" = some none)
    (iiX3 : PySem.W.findIn K (.ref CX3) "__init__" = some (some (.ref gX3)))
    (tiX3 : PySem.W.typeIn K (.ref gX3) = some (.type "function"))
    (lX3 : K.lookup gX3 = some ⟨ocX3, odX3, .func (PySem.W.fnOf "__init__" "InvalidStacks.__init__" (defArgs (inClass sInvalidstacks 0)) (defBody (inClass sInvalidstacks 0)) (defScope (inClass sInvalidstacks 0)) .none kVX3 dcX3 pmX3 anX3 cdX3 ctX3), slX3⟩)
    (cX3 : PySem.W.codeIn K cdX3 "InvalidStacks.__init__" = true)
    (kX3 : PySem.W.keepIn K (.ref gX3) = true)
    (kCX3 : PySem.W.keepIn K (.ref CX3) = true)
    (eCX3 : PySem.W.subIn K (.ref CX3) (.type "BaseException") = some true)
    (tCX3 : PySem.W.typeIn K (.ref CX3) = some (.type "type"))
    (hCX3 : PySem.W.hasDictIn K CX3 = true)
    (sCX3 : PySem.W.subIn K (.ref CX3) (.ref CX3) = some true)
    (sSX3 : PySem.W.subIn K (.ref CX3) (.ref S) = some true)
    (ccX3 : PySem.W.findIn K (.ref CX3) "__class__" = some (some (.builtin "object.__class__")))
    (moX3 : PySem.W.mroIn K CX3 (.type "object") = some true)
    (aL : PySem.W.nsIn K mainGlobals "law" = some (some (.ref fL)))
    (lL : K.lookup fL = some ⟨ocL, odL, .func (PySem.W.fnOf "law" "law" (defArgs sLaw) (defBody sLaw) (defScope sLaw) .none kVL dcL pmL anL cdL ctL), slL⟩)
    (ckL : PySem.W.codeIn K cdL "law" = true)
    (kL : PySem.W.keepIn K (.ref fL) = true) :
    ∃ fd : FuncData, (∀ (s : Shared) (v : Value), BindsTo s fd ⟨[v], []⟩ [("_law_script", v)]) ∧ ∀ base : Heap, K.In base → base.Ns mainGlobals mg → GOk l.prog w K mg base 11 fa fd ["_law_script"] (spLaw K) := by
  have e := hfa.symm.trans (PySem.W.mg_of X G aL)
  cases e
  have F := fun_mk (st := sLaw) lL ckL kL
  have m_isinstance : mg "isinstance" = none := PySem.W.mg_none_of X G z_isinstance
  have m_str : mg "str" = none := PySem.W.mg_none_of X G z_str
  have m_len : mg "len" = none := PySem.W.mg_none_of X G z_len
  have m_all : mg "all" = none := PySem.W.mg_none_of X G z_all
  have m_any : mg "any" = none := PySem.W.mg_none_of X G z_any
  have m_tuple : mg "tuple" = none := PySem.W.mg_none_of X G z_tuple
  have m_list : mg "list" = none := PySem.W.mg_none_of X G z_list
  have m_enumerate : mg "enumerate" = none := PySem.W.mg_none_of X G z_enumerate
  have m_range : mg "range" = none := PySem.W.mg_none_of X G z_range
  have m_abs : mg "abs" = none := PySem.W.mg_none_of X G z_abs
  have m_int : mg "int" = none := PySem.W.mg_none_of X G z_int
  have m_bool : mg "bool" = none := PySem.W.mg_none_of X G z_bool
  have m_max : mg "max" = none := PySem.W.mg_none_of X G z_max
  have m_min : mg "min" = none := PySem.W.mg_none_of X G z_min
  have m_sorted : mg "sorted" = none := PySem.W.mg_none_of X G z_sorted
  have m_dict : mg "dict" = none := PySem.W.mg_none_of X G z_dict
  have m_super : mg "super" = none := PySem.W.mg_none_of X G z_super
  have m_repr : mg "repr" = none := PySem.W.mg_none_of X G z_repr
  have B : Blt mg := ⟨m_isinstance, m_str, m_len, m_all, m_tuple, m_list, m_enumerate⟩
  refine ⟨PySem.W.fnOf "law" "law" (defArgs sLaw) (defBody sLaw) (defScope sLaw) .none kVL dcL pmL anL cdL ctL, fun s v => .of_eq rfl, fun base _ _ => ?_⟩
  have gS := PySem.W.mg_of X G aS
  have oeX0 : OexC K CX0 := ⟨⟨_, _, _, _, _, _, _, _, _, _, _, _, _, _, _, xX0, rfl⟩, saX0, eCX0, tCX0, kCX0⟩
  have FX0 := fun_mk (st := inClass sInvalidsteps 0) lX0 cX0 kX0
  have TX0 : XcC l.prog w K mg base "InvalidSteps" "index" CX0 := ⟨oeX0, PySem.W.mg_of X G aX0, ⟨gX0, _, iiX0, tiX0, init_ok FX0 scI_InvalidSteps oeX0 nfX0 rfl (.inl rfl) (.inl rfl) (by decide) (by decide), FX0.binds (ps := ["self", "index"]) fun _ _ _ _ _ _ us hl => match us, hl with | [_, _], _ => rfl⟩, ⟨gaX0, ggX0, eCX0, hCX0⟩, nfX0, ccX0, cg, ct, moX0, PySem.W.exm_ref eCX0 hCX0 tCX0 sCX0⟩
  have kiX0 := kit_below sSX0 tS hS
  have oeX1 : OexC K CX1 := ⟨⟨_, _, _, _, _, _, _, _, _, _, _, _, _, _, _, xX1, rfl⟩, saX1, eCX1, tCX1, kCX1⟩
  have FX1 := fun_mk (st := inClass sInvalidword 0) lX1 cX1 kX1
  have TX1 : XcC l.prog w K mg base "InvalidWord" "value" CX1 := ⟨oeX1, PySem.W.mg_of X G aX1, ⟨gX1, _, iiX1, tiX1, init_ok FX1 scI_InvalidWord oeX1 nfX1 rfl (.inl rfl) (.inl rfl) (by decide) (by decide), FX1.binds (ps := ["self", "value"]) fun _ _ _ _ _ _ us hl => match us, hl with | [_, _], _ => rfl⟩, ⟨gaX1, ggX1, eCX1, hCX1⟩, nfX1, ccX1, cg, ct, moX1, PySem.W.exm_ref eCX1 hCX1 tCX1 sCX1⟩
  have kiX1 := kit_below sSX1 tS hS
  have oeX2 : OexC K CX2 := ⟨⟨_, _, _, _, _, _, _, _, _, _, _, _, _, _, _, xX2, rfl⟩, saX2, eCX2, tCX2, kCX2⟩
  have FX2 := fun_mk (st := inClass sInvalidnumber 0) lX2 cX2 kX2
  have TX2 : XcC l.prog w K mg base "InvalidNumber" "value" CX2 := ⟨oeX2, PySem.W.mg_of X G aX2, ⟨gX2, _, iiX2, tiX2, init_ok FX2 scI_InvalidNumber oeX2 nfX2 rfl (.inl rfl) (.inl rfl) (by decide) (by decide), FX2.binds (ps := ["self", "value"]) fun _ _ _ _ _ _ us hl => match us, hl with | [_, _], _ => rfl⟩, ⟨gaX2, ggX2, eCX2, hCX2⟩, nfX2, ccX2, cg, ct, moX2, PySem.W.exm_ref eCX2 hCX2 tCX2 sCX2⟩
  have kiX2 := kit_below sSX2 tS hS
  have oeX3 : OexC K CX3 := ⟨⟨_, _, _, _, _, _, _, _, _, _, _, _, _, _, _, xX3, rfl⟩, saX3, eCX3, tCX3, kCX3⟩
  have FX3 := fun_mk (st := inClass sInvalidstacks 0) lX3 cX3 kX3
  have TX3 : XcC l.prog w K mg base "InvalidStacks" "value" CX3 := ⟨oeX3, PySem.W.mg_of X G aX3, ⟨gX3, _, iiX3, tiX3, init_ok FX3 scI_InvalidStacks oeX3 nfX3 rfl (.inl rfl) (.inl rfl) (by decide) (by decide), FX3.binds (ps := ["self", "value"]) fun _ _ _ _ _ _ us hl => match us, hl with | [_, _], _ => rfl⟩, ⟨gaX3, ggX3, eCX3, hCX3⟩, nfX3, ccX3, cg, ct, moX3, PySem.W.exm_ref eCX3 hCX3 tCX3 sCX3⟩
  have kiX3 := kit_below sSX3 tS hS
  have Co := (⟨⟨_, PySem.W.mg_of X G cL⟩, ⟨_, PySem.W.mg_of X G cM⟩, ⟨_, PySem.W.mg_of X G cS⟩, ⟨D, es, n, uP, uQ, PySem.W.mg_of X G cO, ⟨lO, kO, wO⟩, pO, rP, qO, rQ⟩⟩ : Cons K w mg)
  have O2 := (⟨D, es, n, uP, uQ, PySem.W.mg_of X G cO, ⟨lO, kO, wO⟩, pO, qO, oK⟩ : Opp2 K w mg)
  have gTake := has_take (P := l.prog) (w := w) (base := base) d__law_take
  have gPool := has_pool (P := l.prog) (w := w) (base := base) d__law_pool m_len m_abs m_int
  have gName := has_name d__law_name gTake m_range
  have gItems := has_items d__law_items gName m_range
  have gSt := has_steps d__law_steps gTake m_range m_len
  have gItem := has_isItem (P := l.prog) (w := w) (base := base) d_is_item B Co
  have gIsWord := has_isWord d_is_word gItem B
  have gIsStep := has_isStep d_is_step gItem B Co
  have gMay := has_may (P := l.prog) (w := w) (base := base) d_may_hold_steps B Co
  have gWh := has_whole (P := l.prog) (w := w) (base := base) d_is_whole B m_int m_bool
  have gBe := has_bet d_is_between gWh
  have gIl := has_lim d_is_limit gBe ⟨_, PySem.W.mg_of X G cLm⟩
  have gCl := has_chkLim d_check_limit gIl
  have gHi := has_highL (P := l.prog) (w := w) (base := base) d_is_too_high
  have gIn := has_isN d_is_named_step gItem gIsStep B
  have gCn := has_chkN d_check_named_steps gMay gIn B
  have gNm := has_named d__law_named gTake gSt m_len
  have gItX := has_itemX (P := l.prog) (w := w) (base := base) d_is_item B Co
  have gWdX := has_wordX d_is_word gItX B
  have gStX := has_stepX d_is_step gItX B O2
  have gMyX := has_mayX (P := l.prog) (w := w) (base := base) d_may_hold_steps B Co
  have gInX := has_isNX d_is_named_step gItX gStX B
  have gCX := hasX_chkN d_check_named_steps gMyX gInX TX0 B
  have gWh2 := has_whole2 (P := l.prog) (w := w) (base := base) d_is_whole m_isinstance m_int m_bool
  have gBe2 := has_bet2 d_is_between gWh2
  have gIlX := has_limX d_is_limit gBe2 ⟨_, PySem.W.mg_of X G cLm⟩
  have gClX := hasX_cl d_check_limit gIlX TX2
  have gArX := has_areX d_are_stacks gItX gWdX B m_dict
  have gCkX := hasX_cks d_check_stacks gArX TX3
  have gCnX := hasX_cn d_check_name gItX TX1
  have gAf := has_afterL d_after_step gHi B
  have gWe := has_we (P := l.prog) (w := w) (base := base) d_without_empty
  have gAr := has_are d_are_stacks gItem gIsWord B m_dict
  have gCk := has_cks d_check_stacks gAr
  have gCh := has_ckh d_check_heights gHi B m_any
  have gCkn := has_ckn d_check_name gItem
  have FY0 := fun_mk (st := inClass sStepfailed 0) lY0 cY0 kY0
  have vStepFailed := (xv_mk (PySem.W.mg_of X G aY0) xY0 tail_RE (by simp [List.contains_cons]) saY0 gaY0 ggY0 nfY0 iiY0 tiY0 kCY0 ccY0 FY0 scI_StepFailed rfl (.inl rfl) (.inl rfl) (by decide) (by decide) (fun _ _ _ _ _ _ us ws hl hw => match us, ws, hl, hw with | [_, _], [], _, _ => rfl) (fun _ _ _ _ _ _ us ws hl hw => match us, ws, hl, hw with | [_], [_], _, _ => rfl) : XvC l.prog w K mg base "StepFailed" "StepFailed.__init__" "index" CY0 [.type "RuntimeError", .type "Exception", .type "BaseException", .type "object"])
  have FY1 := fun_mk (st := inClass sLimitexceeded 0) lY1 cY1 kY1
  have vLimitExceeded := (xv_mk (PySem.W.mg_of X G aY1) xY1 tail_OE (by simp [List.contains_cons]) saY1 gaY1 ggY1 nfY1 iiY1 tiY1 kCY1 ccY1 FY1 scI_LimitExceeded rfl (.inl rfl) (.inl rfl) (by decide) (by decide) (fun _ _ _ _ _ _ us ws hl hw => match us, ws, hl, hw with | [_, _], [], _, _ => rfl) (fun _ _ _ _ _ _ us ws hl hw => match us, ws, hl, hw with | [_], [_], _, _ => rfl) : XvC l.prog w K mg base "LimitExceeded" "LimitExceeded.__init__" "limit" CY1 [.type "OverflowError", .type "ArithmeticError", .type "Exception", .type "BaseException", .type "object"])
  have gChX := hasX_ch d_check_heights gHi vLimitExceeded B m_any
  have TX := (⟨TX0, TX1, TX2, TX3, vLimitExceeded, vStepFailed, PySem.W.exm_ref eCX0 hCX0 tCX0 nX1X0, PySem.W.exm_ref eCX0 hCX0 tCX0 nX2X0, PySem.W.exm_ref eCX1 hCX1 tCX1 nX2X1, PySem.W.exm_ref eCX0 hCX0 tCX0 nX3X0, PySem.W.exm_ref eCX1 hCX1 tCX1 nX3X1, PySem.W.exm_ref eCX2 hCX2 tCX2 nX3X2, PySem.W.exm_ref eCX0 hCX0 tCX0 nY1X0, PySem.W.exm_ref eCX1 hCX1 tCX1 nY1X1, PySem.W.exm_ref eCX2 hCX2 tCX2 nY1X2, PySem.W.exm_ref eCX3 hCX3 tCX3 nY1X3, PySem.W.exm_ref eCX0 hCX0 tCX0 nY0X0, PySem.W.exm_ref eCX1 hCX1 tCX1 nY0X1, PySem.W.exm_ref eCX2 hCX2 tCX2 nY0X2, PySem.W.exm_ref eCX3 hCX3 tCX3 nY0X3, PySem.W.exm_ref ((sub_mr vLimitExceeded.mr _).trans (by simp [List.contains_cons])) hCY1 vLimitExceeded.tC nY0Y1⟩ : To64 l.prog w K mg base ⟨Z, R, CX0, CX1, CX2, CX3, CY1, CY0⟩ _ _)
  have TZ := (⟨⟨pgZ, hdZ, poZ, saZ⟩, nFZ, nHZ, nDZ⟩ : SCl K Z)
  have TR := (⟨⟨pgR, hdR, poR, saR⟩, nFR, nHR, nDR⟩ : SCl K R)
  have TRx := (⟨TR, nXR⟩ : RCl K R)
  have gSM := (⟨gQI, ⟨mkZ, aQI, iQI, keZ⟩, fun ns hns => ⟨fk_sinitL lQI cQI TZ gCl gCk gCh gWe hns, ses_mkN (fk_sinitN lQI cQI nQI TZ gCl gCk gCh gWe hns)⟩⟩ : SesMk l.prog w K mg base Z)
  have FSup := fsup_mk (P := l.prog) (w := w) (mg := mg) (base := base) (C := R) fun ns hns => fk_sinitL lQI cQI TR gCl gCk gCh gWe hns
  have SUP := (⟨⟨_, _, _, _, _, lRI, rfl, rfl⟩, ⟨_, _, _, _, _, _, yRI, y2RI, y3RI⟩, ⟨_, _, _, wRI⟩, (PySem.W.any_some hdR).imp fun _ z => z.1, mrR, z_super, topR, opR, supR, tQI, ⟨_, _, _, _, lQI⟩⟩ : SupOk l.prog K "__init__" gRI oRI ccRI R gQI)
  have RFn := (⟨_, _, _, _, _, _, _, _, _, _, lRI, cRI, wRI, nRI⟩ : RFun K gRI dRI oRI ccRI R)
  have gRM := (⟨gRI, ⟨mkR, aRI, iRI, keR⟩, fun ns hns => ⟨fk_rinitL RFn SUP TRx m_super FSup hns, fk_rinitN RFn SUP TRx m_super FSup hns⟩⟩ : RecMk l.prog w K mg base R)
  have MK := (⟨⟨gQI, ⟨mkZ, aQI, iQI, keZ⟩, fk_sinitX lQI cQI TZ gClX gCkX gChX gWe⟩, ⟨gRI, ⟨mkR, aRI, iRI, keR⟩, fk_rinitX RFn SUP m_super (fk_sinitZ lQI cQI TR gClX gCkX gChX gWe)⟩⟩ : Mk64 l.prog w K mg base ⟨Z, R, CX0, CX1, CX2, CX3, CY1, CY0⟩)
  have mR := PySem.W.mg_of X G aR
  have mS := PySem.W.mg_of X G aZ
  have mQAZ : MF K Z "add_deed" "Session.add_deed" sSAddDeed ["self", "steps", "stacks", "limit"] := ⟨gQA, _, ⟨aQA, iQA, kQA⟩, fun_mk lQA cQA kQA, (fun_mk (st := sSAddDeed) lQA cQA kQA).binds (ps := ["self", "steps", "stacks", "limit"]) fun _ _ _ _ _ _ us hl => match us, hl with | [_, _, _, _], _ => rfl⟩
  have mQPZ : MF K Z "perform" "Session.perform" sSPerform ["self", "steps"] := ⟨gQP, _, ⟨aQP, iQP, kQP⟩, fun_mk lQP cQP kQP, (fun_mk (st := sSPerform) lQP cQP kQP).binds (ps := ["self", "steps"]) fun _ _ _ _ _ _ us hl => match us, hl with | [_, _], _ => rfl⟩
  have mQNZ : MF K Z "note_failure" "Session.note_failure" sSNote ["self", "name"] := ⟨gQN, _, ⟨aQN, iQN, kQN⟩, fun_mk lQN cQN kQN, (fun_mk (st := sSNote) lQN cQN kQN).binds (ps := ["self", "name"]) fun _ _ _ _ _ _ us hl => match us, hl with | [_, _], _ => rfl⟩
  have mQHZ : MF K Z "push" "Session.push" sSPush ["self", "name", "item"] := ⟨gQH, _, ⟨aQH, iQH, kQH⟩, fun_mk lQH cQH kQH, (fun_mk (st := sSPush) lQH cQH kQH).binds (ps := ["self", "name", "item"]) fun _ _ _ _ _ _ us hl => match us, hl with | [_, _, _], _ => rfl⟩
  have mQOZ : MF K Z "pop" "Session.pop" sSPop ["self", "name", "item"] := ⟨gQO, _, ⟨aQO, iQO, kQO⟩, fun_mk lQO cQO kQO, (fun_mk (st := sSPop) lQO cQO kQO).binds (ps := ["self", "name", "item"]) fun _ _ _ _ _ _ us hl => match us, hl with | [_, _, _], _ => rfl⟩
  have mQLZ : MF K Z "set_limit" "Session.set_limit" sSSetLimit ["self", "value"] := ⟨gQL, _, ⟨aQL, iQL, kQL⟩, fun_mk lQL cQL kQL, (fun_mk (st := sSSetLimit) lQL cQL kQL).binds (ps := ["self", "value"]) fun _ _ _ _ _ _ us hl => match us, hl with | [_, _], _ => rfl⟩
  have mQMZ : MF K Z "names" "Session.names" sSNames ["self"] := ⟨gQM, _, ⟨aQM, iQM, kQM⟩, fun_mk lQM cQM kQM, (fun_mk (st := sSNames) lQM cQM kQM).binds (ps := ["self"]) fun _ _ _ _ _ _ us hl => match us, hl with | [_], _ => rfl⟩
  have mQSZ : MF K Z "stack" "Session.stack" sSStack ["self", "name"] := ⟨gQS, _, ⟨aQS, iQS, kQS⟩, fun_mk lQS cQS kQS, (fun_mk (st := sSStack) lQS cQS kQS).binds (ps := ["self", "name"]) fun _ _ _ _ _ _ us hl => match us, hl with | [_, _], _ => rfl⟩
  have mQEZ : MF K Z "effect" "Session.effect" sSEffect64 ["self", "name"] := ⟨gQE, _, ⟨aQE, iQE, kQE⟩, fun_mk lQE cQE kQE, (fun_mk (st := sSEffect64) lQE cQE kQE).binds (ps := ["self", "name"]) fun _ _ _ _ _ _ us hl => match us, hl with | [_, _], _ => rfl⟩
  have mQAR : MF K R "add_deed" "Session.add_deed" sSAddDeed ["self", "steps", "stacks", "limit"] := ⟨gQA, _, ⟨bQA, iQA, kQA⟩, fun_mk lQA cQA kQA, (fun_mk (st := sSAddDeed) lQA cQA kQA).binds (ps := ["self", "steps", "stacks", "limit"]) fun _ _ _ _ _ _ us hl => match us, hl with | [_, _, _, _], _ => rfl⟩
  have mQPR : MF K R "perform" "Session.perform" sSPerform ["self", "steps"] := ⟨gQP, _, ⟨bQP, iQP, kQP⟩, fun_mk lQP cQP kQP, (fun_mk (st := sSPerform) lQP cQP kQP).binds (ps := ["self", "steps"]) fun _ _ _ _ _ _ us hl => match us, hl with | [_, _], _ => rfl⟩
  have mQHR : MF K R "push" "Session.push" sSPush ["self", "name", "item"] := ⟨gQH, _, ⟨bQH, iQH, kQH⟩, fun_mk lQH cQH kQH, (fun_mk (st := sSPush) lQH cQH kQH).binds (ps := ["self", "name", "item"]) fun _ _ _ _ _ _ us hl => match us, hl with | [_, _, _], _ => rfl⟩
  have mQOR : MF K R "pop" "Session.pop" sSPop ["self", "name", "item"] := ⟨gQO, _, ⟨bQO, iQO, kQO⟩, fun_mk lQO cQO kQO, (fun_mk (st := sSPop) lQO cQO kQO).binds (ps := ["self", "name", "item"]) fun _ _ _ _ _ _ us hl => match us, hl with | [_, _, _], _ => rfl⟩
  have mQLR : MF K R "set_limit" "Session.set_limit" sSSetLimit ["self", "value"] := ⟨gQL, _, ⟨bQL, iQL, kQL⟩, fun_mk lQL cQL kQL, (fun_mk (st := sSSetLimit) lQL cQL kQL).binds (ps := ["self", "value"]) fun _ _ _ _ _ _ us hl => match us, hl with | [_, _], _ => rfl⟩
  have mQMR : MF K R "names" "Session.names" sSNames ["self"] := ⟨gQM, _, ⟨bQM, iQM, kQM⟩, fun_mk lQM cQM kQM, (fun_mk (st := sSNames) lQM cQM kQM).binds (ps := ["self"]) fun _ _ _ _ _ _ us hl => match us, hl with | [_], _ => rfl⟩
  have mQSR : MF K R "stack" "Session.stack" sSStack ["self", "name"] := ⟨gQS, _, ⟨bQS, iQS, kQS⟩, fun_mk lQS cQS kQS, (fun_mk (st := sSStack) lQS cQS kQS).binds (ps := ["self", "name"]) fun _ _ _ _ _ _ us hl => match us, hl with | [_, _], _ => rfl⟩
  have mQER : MF K R "effect" "Session.effect" sSEffect64 ["self", "name"] := ⟨gQE, _, ⟨bQE, iQE, kQE⟩, fun_mk lQE cQE kQE, (fun_mk (st := sSEffect64) lQE cQE kQE).binds (ps := ["self", "name"]) fun _ _ _ _ _ _ us hl => match us, hl with | [_, _], _ => rfl⟩
  have mRNR : MF K R "note_failure" "Recorder.note_failure" sRNote ["self", "name"] := ⟨gRN, _, ⟨bRN, iRN, kRN⟩, fun_mk lRN cRN kRN, (fun_mk (st := sRNote) lRN cRN kRN).binds (ps := ["self", "name"]) fun _ _ _ _ _ _ us hl => match us, hl with | [_, _], _ => rfl⟩
  have nfZ := fun (x : Option Addr) (hx : OS x) => ((by cases hx; exact mQNZ.has fun f fd F => ok_nf F) : MethHas l.prog w K mg base Z "note_failure" 1 ["self", "name"] (spNf K Z x))
  have pfZ := fun (x : Option Addr) (hx : OS x) => (mQPZ.hasX fun f fd F => okX_pf F TZ vStepFailed (by cases hx; exact mQNZ.has fun f fd F => ok_nf F) gCn gAf gWe (mQAZ.has fun f fd F => ok_ad (x := x) F TZ) B m_dict : MethHasX l.prog w K mg base Z "perform" 5 ["self", "steps"] (spPf K Z CY0 x))
  have PFZ := (mQPZ.anyX fun x hx f fd F => okX_pf F TZ vStepFailed (by cases hx; exact mQNZ.has fun f fd F => ok_nf F) gCn gAf gWe (mQAZ.has fun f fd F => ok_ad (x := x) F TZ) B m_dict : MethHasX l.prog w K mg base Z "perform" 5 ["self", "steps"] (anyX OS (spPf K Z CY0)))
  have PFBZ := (mQPZ.hasX fun f fd F => ok_pfB F gCX : MethHasX l.prog w K mg base Z "perform" 5 ["self", "steps"] (spPfB K CX0))
  have PFcZ := (mQPZ.hasX fun f fd F => FnOk.two (ok_pfB F gCX) (FnOk.some (ι := {x : Option Addr // OS x}) fun i => okX_pf F TZ vStepFailed (nfZ i.1 i.2) gCn gAf gWe (mQAZ.has fun f fd F => ok_ad (x := i.1) F TZ) B m_dict) : MethHasX l.prog w K mg base Z "perform" 5 ["self", "steps"] (fun vs H Q E => spPfB K CX0 vs H Q E ∨ anyX OS (spPf K Z CY0) vs H Q E))
  have PUZ := (mQHZ.anyX fun x hx f fd F => ok_spush F TZ (pfZ x hx) : MethHasX l.prog w K mg base Z "push" 6 ["self", "name", "item"] (anyX OS fun x => spPp K Z CY0 x true))
  have SLZ := (mQLZ.anyX fun x hx f fd F => ok_setl F TZ gCl gChX (mQAZ.has fun f fd F => ok_ad (x := x) F TZ) : MethHasX l.prog w K mg base Z "set_limit" 5 ["self", "value"] (anyX OS (spSl K Z CY1)))
  have PUXZ := (mQHZ.anyX fun x hx f fd F => ok_spuX (x := x) F TZ PFBZ : MethHasX l.prog w K mg base Z "push" 6 ["self", "name", "item"] (anyX OS fun x => spPpX K Z CX0 x true))
  have POXZ := (mQOZ.anyX fun x hx f fd F => ok_spoX (x := x) F TZ PFBZ : MethHasX l.prog w K mg base Z "pop" 6 ["self", "name", "item"] (anyX OS fun x => spPpX K Z CX0 x false))
  have STXZ := (mQSZ.anyX fun x hx f fd F => ok_stB (x := x) F gCnX : MethHasX l.prog w K mg base Z "stack" 4 ["self", "name"] (anyX OS (spStB K Z CX1)))
  have EFXZ := (mQEZ.anyX fun x hx f fd F => ok_efB (x := x) F gCnX : MethHasX l.prog w K mg base Z "effect" 4 ["self", "name"] (anyX OS (spStB K Z CX1)))
  have SLcZ := (mQLZ.hasX fun f fd F => FnOk.two (FnOk.some (ι := {x : Option Addr // OS x}) fun i => ok_slB (x := i.1) F gClX) (FnOk.some (ι := {x : Option Addr // OS x}) fun i => ok_setl F TZ gCl gChX (mQAZ.has fun f fd F => ok_ad (x := i.1) F TZ)) : MethHasX l.prog w K mg base Z "set_limit" 5 ["self", "value"] (fun vs H Q E => anyX OS (spSlB K Z CX2) vs H Q E ∨ anyX OS (spSl K Z CY1) vs H Q E))
  have NMZ := (mQMZ.has fun f fd F => FnOk.some (ι := {x : Option Addr // OS x}) fun i => ok_nm (x := i.1) F TZ m_sorted : MethHas l.prog w K mg base Z "names" 1 ["self"] (anyX OS (spNm K Z)))
  have STZ := (mQSZ.has fun f fd F => FnOk.some (ι := {x : Option Addr // OS x}) fun i => ok_stk (x := i.1) F TZ gCkn : MethHas l.prog w K mg base Z "stack" 3 ["self", "name"] (anyX OS (spStk K Z)))
  have LPZ := (⟨qZP, gZP, _, ⟨aZP, bZP, tZP, rZP, uZP⟩, FnOk.some (ι := {x : Option Addr // OS x}) fun i => ok_limit (x := i.1) (fun_mk lZP cZP kZP) TZ, (fun_mk (st := sSLimit) lZP cZP kZP).binds (ps := ["self"]) fun _ _ _ _ _ _ us hl => match us, hl with | [_], _ => rfl⟩ : PropHas l.prog w K mg base Z "limit" 1 (anyX OS (spLi K Z)))
  have LNZ := (len_has aLN iLN (FnOk.some (ι := {x : Option Addr // OS x}) fun i => ok_len (x := i.1) (fun_mk lLN cLN kLN) TZ B) ((fun_mk (st := sSLen) lLN cLN kLN).binds (ps := ["self"]) fun _ _ _ _ _ _ us hl => match us, hl with | [_], _ => rfl) : LenHas l.prog w K mg base Z (anyX OS (spLn K Z)))
  have CAZ := hasX_ca (c := ⟨Z, R, CX0, CX1, CX2, CX3, CY1, CY0⟩) (O := OS) d__law_called TZ MK mS mR PUXZ POXZ PFcZ STXZ EFXZ SLcZ
  have TOZ := ghas_to d__law_told TX CAZ m_repr
  have SEZ := ghas_see (O := OS) d__law_seen TZ NMZ LPZ STZ LNZ B m_repr
  have BBZ := ghas_bb d__law_bad_bounds_right TOZ m_repr
  have BSZ := ghas_bs d__law_bad_steps_right TOZ gTake B m_repr m_range
  have nfR := fun (x : Option Addr) (hx : OR x) => ((by obtain ⟨D2, rfl⟩ := hx; exact mRNR.has fun f fd F => ok_rnf (D := D2) F TRx) : MethHas l.prog w K mg base R "note_failure" 1 ["self", "name"] (spNf K R x))
  have pfR := fun (x : Option Addr) (hx : OR x) => (mQPR.hasX fun f fd F => okX_pf F TR vStepFailed (by obtain ⟨D2, rfl⟩ := hx; exact mRNR.has fun f fd F => ok_rnf (D := D2) F TRx) gCn gAf gWe (mQAR.has fun f fd F => ok_ad (x := x) F TR) B m_dict : MethHasX l.prog w K mg base R "perform" 5 ["self", "steps"] (spPf K R CY0 x))
  have PFR := (mQPR.anyX fun x hx f fd F => okX_pf F TR vStepFailed (by obtain ⟨D2, rfl⟩ := hx; exact mRNR.has fun f fd F => ok_rnf (D := D2) F TRx) gCn gAf gWe (mQAR.has fun f fd F => ok_ad (x := x) F TR) B m_dict : MethHasX l.prog w K mg base R "perform" 5 ["self", "steps"] (anyX OR (spPf K R CY0)))
  have PFBR := (mQPR.hasX fun f fd F => ok_pfB F gCX : MethHasX l.prog w K mg base R "perform" 5 ["self", "steps"] (spPfB K CX0))
  have PFcR := (mQPR.hasX fun f fd F => FnOk.two (ok_pfB F gCX) (FnOk.some (ι := {x : Option Addr // OR x}) fun i => okX_pf F TR vStepFailed (nfR i.1 i.2) gCn gAf gWe (mQAR.has fun f fd F => ok_ad (x := i.1) F TR) B m_dict) : MethHasX l.prog w K mg base R "perform" 5 ["self", "steps"] (fun vs H Q E => spPfB K CX0 vs H Q E ∨ anyX OR (spPf K R CY0) vs H Q E))
  have PUR := (mQHR.anyX fun x hx f fd F => ok_spush F TR (pfR x hx) : MethHasX l.prog w K mg base R "push" 6 ["self", "name", "item"] (anyX OR fun x => spPp K R CY0 x true))
  have SLR := (mQLR.anyX fun x hx f fd F => ok_setl F TR gCl gChX (mQAR.has fun f fd F => ok_ad (x := x) F TR) : MethHasX l.prog w K mg base R "set_limit" 5 ["self", "value"] (anyX OR (spSl K R CY1)))
  have PUXR := (mQHR.anyX fun x hx f fd F => ok_spuX (x := x) F TR PFBR : MethHasX l.prog w K mg base R "push" 6 ["self", "name", "item"] (anyX OR fun x => spPpX K R CX0 x true))
  have POXR := (mQOR.anyX fun x hx f fd F => ok_spoX (x := x) F TR PFBR : MethHasX l.prog w K mg base R "pop" 6 ["self", "name", "item"] (anyX OR fun x => spPpX K R CX0 x false))
  have STXR := (mQSR.anyX fun x hx f fd F => ok_stB (x := x) F gCnX : MethHasX l.prog w K mg base R "stack" 4 ["self", "name"] (anyX OR (spStB K R CX1)))
  have EFXR := (mQER.anyX fun x hx f fd F => ok_efB (x := x) F gCnX : MethHasX l.prog w K mg base R "effect" 4 ["self", "name"] (anyX OR (spStB K R CX1)))
  have SLcR := (mQLR.hasX fun f fd F => FnOk.two (FnOk.some (ι := {x : Option Addr // OR x}) fun i => ok_slB (x := i.1) F gClX) (FnOk.some (ι := {x : Option Addr // OR x}) fun i => ok_setl F TR gCl gChX (mQAR.has fun f fd F => ok_ad (x := i.1) F TR)) : MethHasX l.prog w K mg base R "set_limit" 5 ["self", "value"] (fun vs H Q E => anyX OR (spSlB K R CX2) vs H Q E ∨ anyX OR (spSl K R CY1) vs H Q E))
  have NMR := (mQMR.has fun f fd F => FnOk.some (ι := {x : Option Addr // OR x}) fun i => ok_nm (x := i.1) F TR m_sorted : MethHas l.prog w K mg base R "names" 1 ["self"] (anyX OR (spNm K R)))
  have STR := (mQSR.has fun f fd F => FnOk.some (ι := {x : Option Addr // OR x}) fun i => ok_stk (x := i.1) F TR gCkn : MethHas l.prog w K mg base R "stack" 3 ["self", "name"] (anyX OR (spStk K R)))
  have LPR := (⟨qZP, gZP, _, ⟨dZP, bZP, tZP, rZP, uZP⟩, FnOk.some (ι := {x : Option Addr // OR x}) fun i => ok_limit (x := i.1) (fun_mk lZP cZP kZP) TR, (fun_mk (st := sSLimit) lZP cZP kZP).binds (ps := ["self"]) fun _ _ _ _ _ _ us hl => match us, hl with | [_], _ => rfl⟩ : PropHas l.prog w K mg base R "limit" 1 (anyX OR (spLi K R)))
  have LNR := (len_has bLN iLN (FnOk.some (ι := {x : Option Addr // OR x}) fun i => ok_len (x := i.1) (fun_mk lLN cLN kLN) TR B) ((fun_mk (st := sSLen) lLN cLN kLN).binds (ps := ["self"]) fun _ _ _ _ _ _ us hl => match us, hl with | [_], _ => rfl) : LenHas l.prog w K mg base R (anyX OR (spLn K R)))
  have CAR := hasX_ca (c := ⟨Z, R, CX0, CX1, CX2, CX3, CY1, CY0⟩) (O := OR) d__law_called TR MK mS mR PUXR POXR PFcR STXR EFXR SLcR
  have TOR := ghas_to d__law_told TX CAR m_repr
  have SER := ghas_see (O := OR) d__law_seen TR NMR LPR STR LNR B m_repr
  have BBR := ghas_bb d__law_bad_bounds_right TOR m_repr
  have BSR := ghas_bs d__law_bad_steps_right TOR gTake B m_repr m_range
  exact ok_law (c := ⟨Z, R, CX0, CX1, CX2, CX3, CY1, CY0⟩) (cc := fun b => match b with | false => Z | true => R) (oo := fun b => match b with | false => OS | true => OR) F rfl rfl rfl (fun D => ⟨D, rfl⟩) (fun b => match b with | false => TZ | true => TR) gRM gSM mS mR gPool gTake gItems gNm (fun b => match b with | false => PFZ | true => PFR) (fun b => match b with | false => PUZ | true => PUR) (fun b => match b with | false => SLZ | true => SLR) (fun b => match b with | false => SEZ | true => SER) (fun b => match b with | false => TOZ | true => TOR) (fun b => match b with | false => BBZ | true => BBR) (fun b => match b with | false => BSZ | true => BSR) B m_range m_max m_min
end
end SE
open PySem PySem.W PyProof.Rows
set_option maxHeartbeats 0 in
theorem PySem.Challenge.cw_stackeffect_k64_sessions_refuse_holds : PySem.Challenge.rw_stackeffect_k64_sessions_refuse.Holds := by
  w_on; o_law; k_head; (case hw => w_witness2)
  k_fill
  refine SE.walkG (l := PySem.Challenge.rw_stackeffect_k64_sessions_refuse) (n := 63) (k := 11) (x := "_law_script") (sp := SE.spLaw) rfl (by decide) rfl ⟨rfl, by decide, by decide⟩ (fun w h Y => PySem.W.kIn_of Y) ?F (fun _ _ a ns hl hS => ⟨a, ns, rfl, hS, hl, fun _ => rfl⟩)
  case F =>
    intro w mg fa h KX G hmg
    refine' SE.all_mk KX G hmg ?d_is_whole ?d_is_between ?d_is_item ?d_is_word ?d_is_step ?d_may_hold_steps ?d_is_limit ?d_check_limit ?d_is_too_high ?d_after_step ?d_is_named_step ?d_check_named_steps ?d_are_stacks ?d_check_stacks ?d_check_name ?d_check_heights ?d_without_empty ?d__law_pool ?d__law_take ?d__law_name ?d__law_items ?d__law_steps ?d__law_named ?d__law_called ?d__law_told ?d__law_seen ?d__law_bad_bounds_right ?d__law_bad_steps_right ?z_isinstance ?z_str ?z_len ?z_all ?z_any ?z_tuple ?z_list ?z_enumerate ?z_range ?z_abs ?z_int ?z_bool ?z_max ?z_min ?z_sorted ?z_dict ?z_super ?z_repr ?cL ?cM ?cS ?cLm ?cO ?lO ?kO ?wO ?pO ?qO ?rP ?rQ ?oK ?aZ ?pgZ ?hdZ ?poZ ?saZ ?nFZ ?nHZ ?nDZ ?mkZ ?keZ ?aR ?pgR ?hdR ?poR ?saR ?nFR ?nHR ?nDR ?nXR ?mkR ?keR ?mrR ?aQI ?iQI ?tQI ?lQI ?cQI ?kQI ?nQI ?aRI ?iRI ?lRI ?cRI ?nRI ?wRI ?yRI ?y2RI ?y3RI ?topR ?opR ?supR ?aQA ?bQA ?lQA ?cQA ?kQA ?iQA ?aQP ?bQP ?lQP ?cQP ?kQP ?iQP ?aQN ?lQN ?cQN ?kQN ?iQN ?aQH ?bQH ?lQH ?cQH ?kQH ?iQH ?aQO ?bQO ?lQO ?cQO ?kQO ?iQO ?aQL ?bQL ?lQL ?cQL ?kQL ?iQL ?aQM ?bQM ?lQM ?cQM ?kQM ?iQM ?aQS ?bQS ?lQS ?cQS ?kQS ?iQS ?aQE ?bQE ?lQE ?cQE ?kQE ?iQE ?bRN ?lRN ?cRN ?kRN ?iRN ?aZP ?dZP ?bZP ?tZP ?uZP ?lZP ?cZP ?kZP ?aLN ?bLN ?iLN ?lLN ?cLN ?kLN ?aY0 ?xY0 ?saY0 ?gaY0 ?ggY0 ?nfY0 ?iiY0 ?tiY0 ?lY0 ?cY0 ?kY0 ?kCY0 ?ccY0 ?aY1 ?xY1 ?saY1 ?gaY1 ?ggY1 ?nfY1 ?iiY1 ?tiY1 ?lY1 ?cY1 ?kY1 ?kCY1 ?ccY1 ?hCY0 ?hCY1 ?aI0 ?aI1 ?aI2 ?aI3 ?nX1X0 ?nX2X0 ?nX2X1 ?nX3X0 ?nX3X1 ?nX3X2 ?nY1X0 ?nY1X1 ?nY1X2 ?nY1X3 ?nY0X0 ?nY0X1 ?nY0X2 ?nY0X3 ?nY0Y1 ?aS ?tS ?hS ?cg ?ct ?aX0 ?xX0 ?saX0 ?gaX0 ?ggX0 ?nfX0 ?iiX0 ?tiX0 ?lX0 ?cX0 ?kX0 ?kCX0 ?eCX0 ?tCX0 ?hCX0 ?sCX0 ?sSX0 ?ccX0 ?moX0 ?aX1 ?xX1 ?saX1 ?gaX1 ?ggX1 ?nfX1 ?iiX1 ?tiX1 ?lX1 ?cX1 ?kX1 ?kCX1 ?eCX1 ?tCX1 ?hCX1 ?sCX1 ?sSX1 ?ccX1 ?moX1 ?aX2 ?xX2 ?saX2 ?gaX2 ?ggX2 ?nfX2 ?iiX2 ?tiX2 ?lX2 ?cX2 ?kX2 ?kCX2 ?eCX2 ?tCX2 ?hCX2 ?sCX2 ?sSX2 ?ccX2 ?moX2 ?aX3 ?xX3 ?saX3 ?gaX3 ?ggX3 ?nfX3 ?iiX3 ?tiX3 ?lX3 ?cX3 ?kX3 ?kCX3 ?eCX3 ?tCX3 ?hCX3 ?sCX3 ?sSX3 ?ccX3 ?moX3 ?aL ?lL ?ckL ?kL
    (case d_is_whole => refine' SE.def_mk KX G ?a ?l ?c ?k; (case a => k_is); (case l => k_is); (case c => k_is); (case k => k_is))
    (case d_is_between => refine' SE.def_mk KX G ?a ?l ?c ?k; (case a => k_is); (case l => k_is); (case c => k_is); (case k => k_is))
    (case d_is_item => refine' SE.def_mk KX G ?a ?l ?c ?k; (case a => k_is); (case l => k_is); (case c => k_is); (case k => k_is))
    (case d_is_word => refine' SE.def_mk KX G ?a ?l ?c ?k; (case a => k_is); (case l => k_is); (case c => k_is); (case k => k_is))
    (case d_is_step => refine' SE.def_mk KX G ?a ?l ?c ?k; (case a => k_is); (case l => k_is); (case c => k_is); (case k => k_is))
    (case d_may_hold_steps => refine' SE.def_mk KX G ?a ?l ?c ?k; (case a => k_is); (case l => k_is); (case c => k_is); (case k => k_is))
    (case d_is_limit => refine' SE.def_mk KX G ?a ?l ?c ?k; (case a => k_is); (case l => k_is); (case c => k_is); (case k => k_is))
    (case d_check_limit => refine' SE.def_mk KX G ?a ?l ?c ?k; (case a => k_is); (case l => k_is); (case c => k_is); (case k => k_is))
    (case d_is_too_high => refine' SE.def_mk KX G ?a ?l ?c ?k; (case a => k_is); (case l => k_is); (case c => k_is); (case k => k_is))
    (case d_after_step => refine' SE.def_mk KX G ?a ?l ?c ?k; (case a => k_is); (case l => k_is); (case c => k_is); (case k => k_is))
    (case d_is_named_step => refine' SE.def_mk KX G ?a ?l ?c ?k; (case a => k_is); (case l => k_is); (case c => k_is); (case k => k_is))
    (case d_check_named_steps => refine' SE.def_mk KX G ?a ?l ?c ?k; (case a => k_is); (case l => k_is); (case c => k_is); (case k => k_is))
    (case d_are_stacks => refine' SE.def_mk KX G ?a ?l ?c ?k; (case a => k_is); (case l => k_is); (case c => k_is); (case k => k_is))
    (case d_check_stacks => refine' SE.def_mk KX G ?a ?l ?c ?k; (case a => k_is); (case l => k_is); (case c => k_is); (case k => k_is))
    (case d_check_name => refine' SE.def_mk KX G ?a ?l ?c ?k; (case a => k_is); (case l => k_is); (case c => k_is); (case k => k_is))
    (case d_check_heights => refine' SE.def_mk KX G ?a ?l ?c ?k; (case a => k_is); (case l => k_is); (case c => k_is); (case k => k_is))
    (case d_without_empty => refine' SE.def_mk KX G ?a ?l ?c ?k; (case a => k_is); (case l => k_is); (case c => k_is); (case k => k_is))
    (case d__law_pool => refine' SE.def_mk KX G ?a ?l ?c ?k; (case a => k_is); (case l => k_is); (case c => k_is); (case k => k_is))
    (case d__law_take => refine' SE.def_mk KX G ?a ?l ?c ?k; (case a => k_is); (case l => k_is); (case c => k_is); (case k => k_is))
    (case d__law_name => refine' SE.def_mk KX G ?a ?l ?c ?k; (case a => k_is); (case l => k_is); (case c => k_is); (case k => k_is))
    (case d__law_items => refine' SE.def_mk KX G ?a ?l ?c ?k; (case a => k_is); (case l => k_is); (case c => k_is); (case k => k_is))
    (case d__law_steps => refine' SE.def_mk KX G ?a ?l ?c ?k; (case a => k_is); (case l => k_is); (case c => k_is); (case k => k_is))
    (case d__law_named => refine' SE.def_mk KX G ?a ?l ?c ?k; (case a => k_is); (case l => k_is); (case c => k_is); (case k => k_is))
    (case d__law_called => refine' SE.def_mk KX G ?a ?l ?c ?k; (case a => k_is); (case l => k_is); (case c => k_is); (case k => k_is))
    (case d__law_told => refine' SE.def_mk KX G ?a ?l ?c ?k; (case a => k_is); (case l => k_is); (case c => k_is); (case k => k_is))
    (case d__law_seen => refine' SE.def_mk KX G ?a ?l ?c ?k; (case a => k_is); (case l => k_is); (case c => k_is); (case k => k_is))
    (case d__law_bad_bounds_right => refine' SE.def_mk KX G ?a ?l ?c ?k; (case a => k_is); (case l => k_is); (case c => k_is); (case k => k_is))
    (case d__law_bad_steps_right => refine' SE.def_mk KX G ?a ?l ?c ?k; (case a => k_is); (case l => k_is); (case c => k_is); (case k => k_is))
    (case z_isinstance => k_is)
    (case z_str => k_is)
    (case z_len => k_is)
    (case z_all => k_is)
    (case z_any => k_is)
    (case z_tuple => k_is)
    (case z_list => k_is)
    (case z_enumerate => k_is)
    (case z_range => k_is)
    (case z_abs => k_is)
    (case z_int => k_is)
    (case z_bool => k_is)
    (case z_max => k_is)
    (case z_min => k_is)
    (case z_sorted => k_is)
    (case z_dict => k_is)
    (case z_super => k_is)
    (case z_repr => k_is)
    (case cL => k_is)
    (case cM => k_is)
    (case cS => k_is)
    (case cLm => k_is)
    (case cO => k_is)
    (case lO => k_is)
    (case kO => exact ⟨⟨_, _, rfl, rfl⟩, ⟨_, _, rfl, rfl⟩, trivial⟩)
    (case wO => rfl)
    (case pO => k_is)
    (case qO => k_is)
    (case rP => exact ⟨_, rfl⟩)
    (case rQ => exact ⟨_, rfl⟩)
    (case oK => exact ⟨⟨_, _, rfl, .inl rfl⟩, ⟨_, _, rfl, .inr rfl⟩, trivial⟩)
    (case aZ => k_is)
    (case pgZ => k_is)
    (case hdZ => k_is)
    (case poZ => k_is)
    (case saZ => k_is)
    (case nFZ => k_is)
    (case nHZ => k_is)
    (case nDZ => k_is)
    (case mkZ => k_is)
    (case keZ => k_is)
    (case aR => k_is)
    (case pgR => k_is)
    (case hdR => k_is)
    (case poR => k_is)
    (case saR => k_is)
    (case nFR => k_is)
    (case nHR => k_is)
    (case nDR => k_is)
    (case nXR => k_is)
    (case mkR => k_is)
    (case keR => k_is)
    (case mrR => k_is)
    (case aQI => k_is)
    (case iQI => k_is)
    (case tQI => k_is)
    (case lQI => k_is)
    (case cQI => k_is)
    (case kQI => k_is)
    (case nQI => k_is)
    (case aRI => k_is)
    (case iRI => k_is)
    (case lRI => k_is)
    (case cRI => k_is)
    (case nRI => k_is)
    (case wRI => k_is)
    (case yRI => k_is)
    (case y2RI => rfl)
    (case y3RI => first | rfl | decide +kernel | kernel_rfl)
    (case topR => first | rfl | decide +kernel | kernel_rfl)
    (case opR => k_is)
    (case supR => ks_is)
    (case aQA => k_is)
    (case bQA => k_is)
    (case lQA => k_is)
    (case cQA => k_is)
    (case kQA => k_is)
    (case iQA => k_is)
    (case aQP => k_is)
    (case bQP => k_is)
    (case lQP => k_is)
    (case cQP => k_is)
    (case kQP => k_is)
    (case iQP => k_is)
    (case aQN => k_is)
    (case lQN => k_is)
    (case cQN => k_is)
    (case kQN => k_is)
    (case iQN => k_is)
    (case aQH => k_is)
    (case bQH => k_is)
    (case lQH => k_is)
    (case cQH => k_is)
    (case kQH => k_is)
    (case iQH => k_is)
    (case aQO => k_is)
    (case bQO => k_is)
    (case lQO => k_is)
    (case cQO => k_is)
    (case kQO => k_is)
    (case iQO => k_is)
    (case aQL => k_is)
    (case bQL => k_is)
    (case lQL => k_is)
    (case cQL => k_is)
    (case kQL => k_is)
    (case iQL => k_is)
    (case aQM => k_is)
    (case bQM => k_is)
    (case lQM => k_is)
    (case cQM => k_is)
    (case kQM => k_is)
    (case iQM => k_is)
    (case aQS => k_is)
    (case bQS => k_is)
    (case lQS => k_is)
    (case cQS => k_is)
    (case kQS => k_is)
    (case iQS => k_is)
    (case aQE => k_is)
    (case bQE => k_is)
    (case lQE => k_is)
    (case cQE => k_is)
    (case kQE => k_is)
    (case iQE => k_is)
    (case bRN => k_is)
    (case lRN => k_is)
    (case cRN => k_is)
    (case kRN => k_is)
    (case iRN => k_is)
    (case aZP => k_is)
    (case dZP => k_is)
    (case bZP => k_is)
    (case tZP => k_is)
    (case uZP => k_is)
    (case lZP => k_is)
    (case cZP => k_is)
    (case kZP => k_is)
    (case aLN => k_is)
    (case bLN => k_is)
    (case iLN => k_is)
    (case lLN => k_is)
    (case cLN => k_is)
    (case kLN => k_is)
    (case aY0 => k_is)
    (case xY0 => k_is)
    (case saY0 => k_is)
    (case gaY0 => k_is)
    (case ggY0 => k_is)
    (case nfY0 => k_is)
    (case iiY0 => k_is)
    (case tiY0 => k_is)
    (case lY0 => k_is)
    (case cY0 => k_is)
    (case kY0 => k_is)
    (case kCY0 => k_is)
    (case ccY0 => k_is)
    (case aY1 => k_is)
    (case xY1 => k_is)
    (case saY1 => k_is)
    (case gaY1 => k_is)
    (case ggY1 => k_is)
    (case nfY1 => k_is)
    (case iiY1 => k_is)
    (case tiY1 => k_is)
    (case lY1 => k_is)
    (case cY1 => k_is)
    (case kY1 => k_is)
    (case kCY1 => k_is)
    (case ccY1 => k_is)
    (case hCY0 => k_is)
    (case hCY1 => k_is)
    (case aI0 => k_is)
    (case aI1 => k_is)
    (case aI2 => k_is)
    (case aI3 => k_is)
    (case nX1X0 => k_is)
    (case nX2X0 => k_is)
    (case nX2X1 => k_is)
    (case nX3X0 => k_is)
    (case nX3X1 => k_is)
    (case nX3X2 => k_is)
    (case nY1X0 => k_is)
    (case nY1X1 => k_is)
    (case nY1X2 => k_is)
    (case nY1X3 => k_is)
    (case nY0X0 => k_is)
    (case nY0X1 => k_is)
    (case nY0X2 => k_is)
    (case nY0X3 => k_is)
    (case nY0Y1 => k_is)
    (case aS => k_is)
    (case tS => k_is)
    (case hS => k_is)
    (case cg => k_is)
    (case ct => k_is)
    (case aX0 => k_is)
    (case xX0 => k_is)
    (case saX0 => k_is)
    (case gaX0 => k_is)
    (case ggX0 => k_is)
    (case nfX0 => k_is)
    (case iiX0 => k_is)
    (case tiX0 => k_is)
    (case lX0 => k_is)
    (case cX0 => k_is)
    (case kX0 => k_is)
    (case kCX0 => k_is)
    (case eCX0 => k_is)
    (case tCX0 => k_is)
    (case hCX0 => k_is)
    (case sCX0 => first | rfl | k_is)
    (case sSX0 => first | rfl | k_is)
    (case ccX0 => k_is)
    (case moX0 => k_is)
    (case aX1 => k_is)
    (case xX1 => k_is)
    (case saX1 => k_is)
    (case gaX1 => k_is)
    (case ggX1 => k_is)
    (case nfX1 => k_is)
    (case iiX1 => k_is)
    (case tiX1 => k_is)
    (case lX1 => k_is)
    (case cX1 => k_is)
    (case kX1 => k_is)
    (case kCX1 => k_is)
    (case eCX1 => k_is)
    (case tCX1 => k_is)
    (case hCX1 => k_is)
    (case sCX1 => first | rfl | k_is)
    (case sSX1 => first | rfl | k_is)
    (case ccX1 => k_is)
    (case moX1 => k_is)
    (case aX2 => k_is)
    (case xX2 => k_is)
    (case saX2 => k_is)
    (case gaX2 => k_is)
    (case ggX2 => k_is)
    (case nfX2 => k_is)
    (case iiX2 => k_is)
    (case tiX2 => k_is)
    (case lX2 => k_is)
    (case cX2 => k_is)
    (case kX2 => k_is)
    (case kCX2 => k_is)
    (case eCX2 => k_is)
    (case tCX2 => k_is)
    (case hCX2 => k_is)
    (case sCX2 => first | rfl | k_is)
    (case sSX2 => first | rfl | k_is)
    (case ccX2 => k_is)
    (case moX2 => k_is)
    (case aX3 => k_is)
    (case xX3 => k_is)
    (case saX3 => k_is)
    (case gaX3 => k_is)
    (case ggX3 => k_is)
    (case nfX3 => k_is)
    (case iiX3 => k_is)
    (case tiX3 => k_is)
    (case lX3 => k_is)
    (case cX3 => k_is)
    (case kX3 => k_is)
    (case kCX3 => k_is)
    (case eCX3 => k_is)
    (case tCX3 => k_is)
    (case hCX3 => k_is)
    (case sCX3 => first | rfl | k_is)
    (case sSX3 => first | rfl | k_is)
    (case ccX3 => k_is)
    (case moX3 => k_is)
    (case aL => k_is)
    (case lL => k_is)
    (case ckL => k_is)
    (case kL => k_is)
