import PyProof.Rows.All
import Wide.All
import OpenK.AllK
import Wide.FinOn
import PyProof.EqAt
import PyProof.EqKinds
import PyProof.TupleCall
import HandS.Base
import HandS.Call
import HandS.List
import HandS.Ends
import HandS.Words
import HandS.Comp
import HandS.Dict
import HandS.Iter
import HandS.Text
import HandS.WordsList
import HandS.Defaults
import PyProof.EnumMake
import PyProof.Draws
import KE.GoesMore
import KE.KRevSl
import PyProof.ReprLen
import PyProof.ReprText
import HandS.More
import HandS.Evl
import HandS.Exc
import HandS.ExcOwn
import HandS.ExcInit
import HandS.ExcField
import HandS.ExcIs
import HandS.WordsExc
import KE.KExcIs
import HandS.GenBody
import HandS.GenYield
import HandS.GenCall
import HandS.GenList
import PyProof.GenComp
import HandS.MakeKwOnly
import HandS.ClsMeth
import PyProof.ExcBaseAll.ValueError
import PyProof.ExcBaseAll.LookupError
import PyProof.ExcBaseAll.RuntimeError
import PyProof.ExcBaseAll.OverflowError
import HandS.IsInst
import HandS.Deep
import PyProof.ReprRoads
import PyProof.ReprDict
import PyProof.CallFns
import HandS.Walk
import PySem.Challenge.RW_stackeffect_k05_exceptions
set_option Elab.async false
set_option linter.all false
set_option maxRecDepth 100000
set_option maxHeartbeats 4000000
/-! Defs called where no repr is under way: their promise (GOk), their call, the law's head, and repr of plain data. -/
namespace SE
open PySem PySem.Spec PyProof.Rows L2

/-- the promise of a def whose caller has no repr under way -/
structure GOk (P : Program) (w : World) (K : PySem.W.Frag) (mg : Str → Option Value) (base : Heap) (k : Nat) (f : Addr) (fd : FuncData) (ps : List Str) (sp : Sp) : Prop where
  len : ∀ xs H Q E, sp xs H Q E → xs.length = ps.length
  run : ∀ (A : Around) (out : List Env) (s : Shared) (H : Hp) (args : Args) (us : List Value) (xs : List V) (Q : VK) (E : XK), A.guards = some [] → Room k A → Env0 P w K mg base A out s H →
    BindsTo s fd args (ps.zip us) → Vals xs us → sp xs H Q E → codeAny (model P w) A (.call (.ref f) args) (CR (fun _ _ _ _ _ _ => False) out P w H s Q E) s

section
variable {P : Program} {w : World} {K : PySem.W.Frag} {mg : Str → Option Value} {base : Heap}
theorem gok_of {k : Nat} {f : Addr} {nm ql : Str} {pars : Arguments} {bd : List Stmt} {sc : Scope} {dV kV doc pm cv ct oc : Value} {an od : Option Addr}
    {osl : Array (Option Value)} {N ps : List Str} {sp : Sp} (look : K.lookup f = some ⟨oc, od, .func (PySem.W.fnOf nm ql pars bd sc dV kV doc pm an cv ct), osl⟩) (hcode : PySem.W.codeIn K cv ql = true) (S : FnScope N ps sc)
    (len : ∀ xs H Q E, sp xs H Q E → xs.length = ps.length)
    (hbd : ∀ (A : Around) (out : List Env) (s : Shared) (H : Hp) (xs : List V) (Q : VK) (E : XK), A.guards = some [] → Room k (A.deeper (envOfC ql sc s.heap.objs.size f cv)) → sp xs H Q E →
      ∃ t, PSs (cxOf (fun _ _ _ _ _ _ => False) P w K mg base N ql sc f cv A out s H E) bd t ∧ t { nx := fun _ H2 => Q .non H2, rt := Q } (start N xs) H) :
    GOk P w K mg base (k + 1) f (PySem.W.fnOf nm ql pars bd sc dV kV doc pm an cv ct) ps sp := by
  constructor
  · exact len
  intro A out s H args us xs Q E hgu hroom env hbind hvals hpre
  have hlen := len _ _ _ _ hpre
  have kin : K.In s.heap := env.mod.kin.keeps fun b o z => (env.bs b o z).1
  have nolim : s.heap.NoLimit := env.mod.nolimit.keeps fun b o z => (env.bs b o z).1
  have kinds : ∀ y ∈ ps.zip us, sc.names.lookup y.1 = some .local ∨ (sc.names.lookup y.1 = some .cell ∧ ((cellsFrom (s.heap.objs.size + 1) sc.names []).lookup y.1).isSome = true) := by
    rintro ⟨n, v⟩ hy
    rcases S.par n (List.of_mem_zip hy).1 with q | q
    · exact .inl q
    · exact .inr ⟨q, PySem.W.cellsFrom_some _ _ _ (.inl q)⟩
  apply codeAny_call_function hroom.depth (kin _ _ look) rfl S.co S.gen rfl (PySem.W.codeRec_of kin hcode)
  apply hbind
  refine wpAny_newFunctionEnv_cells S.kind kinds fun ev hev s2 inc => ?_
  subst hev
  refine ⟨nolim.keeps inc.toInCall.keep, codeAny_func ?_⟩
  obtain ⟨t, der, rd⟩ := hbd A out s H xs Q E hgu (hroom.deeper _) hpre
  have J0 : Inv (cxOf (fun _ _ _ _ _ _ => False) P w K mg base N ql sc f cv A out s H E) [] (start N xs) H s2 := inv_start S hroom.hd env hlen hvals inc
  refine wpAny_mono (der.run [] s2 (start N xs) H _ J0 rd) (fun fl s3 hs => ?_) fun e s3 hs => hs
  cases fl with
  | ret u =>
    obtain ⟨v, σ3, H3, J, rv, q⟩ := hs
    exact ⟨v, H3, J.os, J.bare, J.base, J.hok, rv, q⟩
  | next =>
    obtain ⟨σ3, H3, J, q⟩ := hs
    exact ⟨V.non, H3, J.os, J.bare, J.base, J.hok, rfl, q⟩
  | brk => exact hs.elim fun _ z => z.elim fun _ z => z.2.elim
  | cont => exact hs.elim fun _ z => z.elim fun _ z => z.2.elim
theorem gok_mk {x ql : Str} {st : Stmt} {f : Addr} {fd : FuncData} {N ps : List Str} {k : Nat} {sp : Sp} (F : Fun K x ql st f fd) (S : FnScope N ps (defScope st)) (len : ∀ xs H Q E, sp xs H Q E → xs.length = ps.length)
    (hbd : ∀ (cv : Value) (A : Around) (out : List Env) (s : Shared) (H : Hp) (xs : List V) (Q : VK) (E : XK), A.guards = some [] → Room k (A.deeper (envOfC ql (defScope st) s.heap.objs.size f cv)) → sp xs H Q E →
      ∃ t, PSs (cxOf CX0 P w K mg base N ql (defScope st) f cv A out s H E).nox (defBody st) t ∧ t { nx := fun _ H2 => Q .non H2, rt := Q } (start N xs) H) : GOk P w K mg base (k + 1) f fd ps sp := by
  obtain ⟨oc, od, kV, doc, pm, an, cv, ct, osl, rfl, look, hcode⟩ := F.ex
  refine gok_of look hcode S len fun A out s H xs Q E hgu hr hpre => ?_
  obtain ⟨t, a, b⟩ := hbd cv A out s H xs Q E hgu hr hpre
  exact ⟨t, a.nox, b⟩
end

section
variable {X : Cx} {k : Nat} {f : Addr} {fd : FuncData} {ps : List Str} {sp : Sp} {x : Str} {p pos : Pos} {e : Expr} {es : List Expr} {t : TA}
theorem pe_callG (F : GOk X.prog X.w X.K X.mg X.base k f fd ps sp) (hgu : X.A.guards = some []) (hr : Room k X.A) (hg : Gl X x) (hm : X.mg x = some (.ref f)) (hk : PySem.W.keepIn X.K (.ref f) = true) (hb : Binds X.K fd ps [])
    (ha : PA X (e :: es) t) (hdb : (x == ("__debug__" : Str)) = false := by decide) (he : starEach (e :: es) X.env = (false, eval e X.env) :: starEach es X.env := by rfl) (hpl : (backTo pos (starEach es X.env)).any (·.1) = false := by rfl) :
    PE X (.Call (.Name x p) (e :: es) [] pos) (tCall sp [] (fun _ _ _ => False) t) := by
  constructor
  intro pins s σ H Q I h
  apply wpAny_Call_Name_kw
  apply ld_glob I hg hm _ hdb
  refine PySem.W.callWith_K (h₀ := X.base) I.ok.mod.kin hk (thn (ha.run pos pins s σ H _ I h) fun us s1 hh => ?_) he hpl
  obtain ⟨xs, H1, I1, r, q⟩ := hh
  refine ⟨I1.kIn, ?_⟩
  have q' : sp xs H1 Q (fun _ _ _ => False) := by rw [List.append_nil] at q; exact q
  have hl : us.length = ps.length := by rw [← r.length]; exact F.len _ _ _ _ q'
  have hb' := hb s1 us I1.kIn (by rw [List.append_nil]; exact hl)
  rw [List.append_nil] at hb'
  refine wpAny_call (codeAny_mono (F.run X.A X.stack s1 H1 ⟨us, []⟩ us xs Q _ hgu hr I1.env0 hb' r q') fun r2 s2 hq => ?_)
  cases r2 with
  | error _ => exact hq.elim
  | ok fl =>
    cases fl with
    | ret _ => exact I1.after hq
    | next => exact hq.elim
    | brk => exact hq.elim
    | cont => exact hq.elim
end

section
variable {X : Cx}
/-- repr(x), x plain data -/
def rRep (K : PySem.W.Frag) : List V → Hp → VK → Prop := fun xs H Q => ∃ (x : V) (d : PyData), xs = [x] ∧ Dp K H x d ∧ (∃ a, x = .ref a) ∧ d.showable = true ∧ d.hasDict = false ∧ d.depth ≤ 20 ∧ d.shown.length ≤ sizeLine ∧ Q (.str d.shown) H
theorem call_rep (hgu : X.A.guards = some []) (hu : X.A.units + 64 < cLine) : CallR X (.builtin "repr") (rRep X.K) := by
  intro pins s σ H xs us Q I r h
  obtain ⟨x, d, rfl, hd, ⟨a, rfl⟩, hs, hn, hdep, hz, q⟩ := h
  cases r with
  | cons r1 r2 =>
    cases r2
    cases r1
    obtain ⟨as, rd⟩ := Dp.reads I d (.ref a) (.ref a) hd rfl
    refine repr_of_reads' rd hs (PyData.noDict_hsm hn) hgu (by omega) (fun _ _ z => z) (fun h' u tk hk => ?_) hz
    exact ⟨.str d.shown, H, I.kept (t' := tk) hk, ⟨_, rfl⟩, q⟩
end
/-! ### the law's head -/
theorem lawG {P : Program} {w : World} {K : PySem.W.Frag} {mg mb : Str → Option Value} {k : Nat} {fa a : Addr} {fd : FuncData} {x : Str} {sp : Sp} {s1 : Shared} {vs : List Value} {ns : List Int}
    (kin : K.In s1.heap) (hns : s1.heap.Ns mainGlobals mg) (hbn : s1.heap.Ns builtinsNs mb) (hbb : ∀ x : Str, x ≠ "__name__" → mb x = bootBuiltins x) (nolim : s1.heap.NoLimit) (hg : s1.gens = #[])
    (hobj : s1.heap.get? a = some { cls := .type "list", data := .seq vs.toArray }) (hi : IntsAre vs ns) (hz : ns.length ≤ sizeLine) (hr : Room k callerA)
    (F : ∀ base : Heap, K.In base → base.Ns mainGlobals mg → GOk P w K mg base k fa fd [x] sp) (hbind : ∀ (s : Shared) (u : Value), BindsTo s fd ⟨[u], []⟩ [(x, u)])
    (hsp : ∀ H : Hp, SqL K H a (ns.map V.int) → sp [.ref a] H (fun v _ => v = .bl true) fun _ _ _ => False) :
    codeAny (model P w) callerA (.call (.ref fa) ⟨[.ref a], []⟩) (fun r s2 => r = .ok (.ret (.bool true)) ∧ OldK s1.heap s2.heap ∧ s2.os = s1.os ∧ AllBare s2.gens) s1 := by
  have rel := vals_ints hi
  have same := hi.length
  have go : ∀ H : Hp, (∀ b u, H b = some u → b = a ∧ K.lookup a = none ∧ ∃ o xs, u = .frz o (.lst xs)) → SqL K H a (ns.map V.int) → HOk P w H s1.heap →
      codeAny (model P w) callerA (.call (.ref fa) ⟨[.ref a], []⟩) (fun r s2 => r = .ok (.ret (.bool true)) ∧ OldK s1.heap s2.heap ∧ s2.os = s1.os ∧ AllBare s2.gens) s1 := by
    intro H only hS hok
    have free : ∀ {b : Addr}, b ≠ a → H b = none := fun {b} hb => by
      cases q : H b with
      | none => rfl
      | some u => exact absurd (only b u q).1 hb
    have freeD : ∀ {b : Addr} {o : Obj} {es : Array DictEntry} {ep : Nat}, s1.heap.get? b = some o → o.data = .dict es ep → H b = none := fun {b o es ep} e d => by
      by_cases hb : b = a
      · subst hb
        rw [hobj] at e
        cases e
        cases d
      · exact free hb
    have ns2 : ∀ {b : Addr} {m : Str → Option Value}, s1.heap.Ns b m → (hidT s1.heap H).Ns b m := by
      rintro b m ⟨o, es, ep, e, d, r⟩
      exact ⟨o, es, ep, hidT_get e (freeD e d), d, r⟩
    have kin2 : K.In (hidT s1.heap H) := by
      intro b o e
      refine hidT_get (kin b o e) ?_
      cases q : H b with
      | none => rfl
      | some u =>
        obtain ⟨eb, nk, _⟩ := only b u q
        subst eb
        rw [nk] at e
        cases e
    have mod : Mod K mg (hidT s1.heap H) := by
      refine ⟨kin2, ns2 hns, ⟨mb, ns2 hbn, hbb⟩, ?_⟩
      obtain ⟨mc, h1, h2⟩ := nolim
      exact ⟨mc, ns2 h1, h2⟩
    have env : Env0 P w K mg (hidT s1.heap H) callerA [] s1 H :=
      ⟨rfl, mod, fun b o e => of_hidT e, Nat.le_of_eq (hidT_size _ _), trivial, fun b hb => (by cases (show b ∈ ([] : List Addr) from hb)), hok, .of_eq hg⟩
    have runs := (F _ kin2 (ns2 hns)).run callerA [] s1 H ⟨[.ref a], []⟩ [.ref a] [.ref a] (fun v _ => v = .bl true) (fun _ _ _ => False) rfl hr env (hbind s1 (.ref a)) (.cons rfl .nil) (hsp H hS)
    refine codeAny_mono runs fun r s2 h => ?_
    cases r with
    | error _ => exact h.elim
    | ok fl =>
      cases fl with
      | next => exact h.elim
      | brk => exact h.elim
      | cont => exact h.elim
      | ret u =>
        obtain ⟨v, H2, os, bare, un, hok2, r2, q⟩ := h
        have q2 : v = .bl true := q
        subst q2
        obtain rfl : u = Value.bool true := r2
        refine ⟨rfl, OldK.of_keep fun b o e => ?_, os, bare⟩
        cases z : H b with
        | none => exact un.keep b o e z (fun m => by cases (show b ∈ ([] : List Addr) from m)) (fun m => by cases m)
        | some u2 =>
          obtain ⟨_, _, ob, ys, eu⟩ := only b u2 z
          subst eu
          obtain ⟨e1, _⟩ := hok b _ z
          obtain ⟨e2, _⟩ := hok2 b _ (un.frzs b ob _ z)
          rw [e] at e1
          cases e1
          exact e2
  cases hk : K.lookup a with
  | some o =>
    have e := kin a o hk
    rw [hobj] at e
    cases e
    refine go (fun _ => none) (fun b u z => nomatch z) (.inr ⟨_, vs.toArray, _, hk, rfl, rfl, rfl, by rw [List.size_toArray, same]; exact hz, by simpa using rel⟩) (fun b u z => nomatch z)
  | none =>
    have at1 : ∀ {b : Addr} {u : HO}, (if b = a then some (HO.frz { cls := .type "list", data := .seq vs.toArray } (.lst (ns.map V.int))) else none) = some u → b = a ∧ u = .frz { cls := .type "list", data := .seq vs.toArray } (.lst (ns.map V.int)) := fun {b u} z => by
      by_cases hb : b = a
      · rw [if_pos hb] at z
        cases z
        exact ⟨hb, rfl⟩
      · rw [if_neg hb] at z
        cases z
    refine go (fun b => if b = a then some (.frz { cls := .type "list", data := .seq vs.toArray } (.lst (ns.map V.int))) else none) (fun b u z => ?_) (.inl (.inr ⟨{ cls := .type "list", data := .seq vs.toArray }, if_pos rfl⟩)) (fun b u z => ?_)
    · obtain ⟨e1, e2⟩ := at1 z
      exact ⟨e1, hk, _, _, e2⟩
    · obtain ⟨e1, e2⟩ := at1 z
      subst e1
      subst e2
      exact ⟨hobj, by rw [List.length_map]; exact hz, vs, _, rel, hobj⟩
theorem walkG {l : PySem.W.OpenLaw} {n k : Nat} {q : Program} {loose : List Str} {XP : (Str → Option Value) → Heap → Prop} {YP : World → Heap → Prop} {d : DefRec} {K : Params → PySem.W.Frag} {sp : PySem.W.Frag → Sp} {x : Str}
    (hn : l.most = some n) (hn2 : n ≤ sizeLine) (hdf : d.params.defaults = []) (hr : Room k callerA) (hY : ∀ (w : World) (h : Heap), YP w h → (K w.params).In h)
    (F : ∀ (w : World) (mg : Str → Option Value) (fa : Addr) (h : Heap), (K w.params).In h → h.Ns mainGlobals mg → mg d.name = some (.ref fa) →
      ∃ fd : FuncData, (∀ (s : Shared) (u : Value), BindsTo s fd ⟨[u], []⟩ [(x, u)]) ∧ ∀ base : Heap, (K w.params).In base → base.Ns mainGlobals mg → GOk l.prog w (K w.params) mg base k fa fd [x] (sp (K w.params)))
    (hsp : ∀ (K : PySem.W.Frag) (H : Hp) (a : Addr) (ns : List Int), ns.length ≤ n → SqL K H a (ns.map V.int) → sp K [.ref a] H (fun v _ => v = .bl true) fun _ _ _ => False) :
    PySem.W.WalkO q loose XP YP l.row.toRowW d [] (fun f vs => PySem.call f vs) := by
  apply Att.attach_call hn hdf
  intro w s0 s1 mg mb fa o pm cd doc a vs ns G Y ho hd hcd hmg hobj hints hlen hg
  have kin := hY w _ Y
  obtain ⟨fd, hb, hF⟩ := F w mg fa _ kin G.T.g hmg
  exact lawG kin G.T.g G.T.b G.T.builtins G.T.nolimit hg hobj hints (Nat.le_trans hlen hn2) hr hF hb fun H hS => hsp _ H a ns hlen hS
end SE
/-! Defs by their names. -/
namespace SE
open PySem PySem.Spec PyProof.Rows L2
section
variable {P : Program} {w : World} {K : PySem.W.Frag} {mg : Str → Option Value} {base : Heap}
/-- the def st stands under its name -/
def Def (K : PySem.W.Frag) (mg : Str → Option Value) (x : Str) (st : Stmt) : Prop := ∃ f fd, Fun K x x st f fd ∧ mg x = some (.ref f)
/-- a def that keeps the promise sp stands under the name x; dvs: the values of its defaults -/
def Has (P : Program) (w : World) (K : PySem.W.Frag) (mg : Str → Option Value) (base : Heap) (x : Str) (k : Nat) (ps : List Str) (dvs : List V) (sp : Sp) : Prop :=
  ∃ f fd ds, FnOk P w K mg base CX0 k f fd ps sp ∧ mg x = some (.ref f) ∧ PySem.W.keepIn K (.ref f) = true ∧ Binds K fd ps ds ∧ Vals dvs ds ∧ ∃ st, Fun K x x st f fd
def GHas (P : Program) (w : World) (K : PySem.W.Frag) (mg : Str → Option Value) (base : Heap) (x : Str) (k : Nat) (ps : List Str) (sp : Sp) : Prop :=
  ∃ f fd, GOk P w K mg base k f fd ps sp ∧ mg x = some (.ref f) ∧ PySem.W.keepIn K (.ref f) = true ∧ Binds K fd ps []
abbrev Bx (P : Program) (w : World) (K : PySem.W.Frag) (mg : Str → Option Value) (base : Heap) (N : List Str) (x : Str) (st : Stmt) (f : Addr) (cv : Value) (A : Around) (out : List Env) (s : Shared) (H : Hp) (E : XK) : Cx :=
  (cxOf CX0 P w K mg base N x (defScope st) f cv A out s H E).nox
theorem has_of {x : Str} {st : Stmt} {N ps : List Str} {k : Nat} {sp : Sp} (D : Def K mg x st) (S : FnScope N ps (defScope st))
    (hb : ∀ (kV doc pm : Value) (an : Option Addr) (cv ct : Value) (us : List Value), us.length = ps.length → bindArgs (PySem.W.fnOf x x (defArgs st) (defBody st) (defScope st) .none kV doc pm an cv ct) ⟨us, []⟩ = pure (ps.zip us))
    (len : ∀ xs H Q E, sp xs H Q E → xs.length = ps.length)
    (hbd : ∀ (f : Addr) (cv : Value) (A : Around) (out : List Env) (s : Shared) (H : Hp) (xs : List V) (Q : VK) (E : XK), Room k (A.deeper (envOfC x (defScope st) s.heap.objs.size f cv)) → sp xs H Q E →
      ∃ t, PSs (Bx P w K mg base N x st f cv A out s H E) (defBody st) t ∧ t { nx := fun _ H2 => Q .non H2, rt := Q } (start N xs) H) : Has P w K mg base x (k + 1) ps [] sp := by
  obtain ⟨f, fd, F, hm⟩ := D
  exact ⟨f, fd, [], F.ok S len fun cv A out s H xs Q E hr h => hbd f cv A out s H xs Q E hr h, hm, F.kp, F.binds hb, .nil, st, F⟩
theorem ghas_of {x : Str} {st : Stmt} {N ps : List Str} {k : Nat} {sp : Sp} (D : Def K mg x st) (S : FnScope N ps (defScope st))
    (hb : ∀ (kV doc pm : Value) (an : Option Addr) (cv ct : Value) (us : List Value), us.length = ps.length → bindArgs (PySem.W.fnOf x x (defArgs st) (defBody st) (defScope st) .none kV doc pm an cv ct) ⟨us, []⟩ = pure (ps.zip us))
    (len : ∀ xs H Q E, sp xs H Q E → xs.length = ps.length)
    (hbd : ∀ (f : Addr) (cv : Value) (A : Around) (out : List Env) (s : Shared) (H : Hp) (xs : List V) (Q : VK) (E : XK), A.guards = some [] → Room k (A.deeper (envOfC x (defScope st) s.heap.objs.size f cv)) → sp xs H Q E →
      ∃ t, PSs (Bx P w K mg base N x st f cv A out s H E) (defBody st) t ∧ t { nx := fun _ H2 => Q .non H2, rt := Q } (start N xs) H) : GHas P w K mg base x (k + 1) ps sp := by
  obtain ⟨f, fd, F, hm⟩ := D
  exact ⟨f, fd, gok_mk F S len fun cv A out s H xs Q E hg hr h => hbd f cv A out s H xs Q E hg hr h, hm, F.kp, F.binds hb⟩
theorem Has.mono {x : Str} {j k : Nat} {ps : List Str} {dvs : List V} {sp : Sp} (h : Has P w K mg base x j ps dvs sp) (hk : j ≤ k) : Has P w K mg base x k ps dvs sp := by
  obtain ⟨f, fd, ds, F, r⟩ := h
  exact ⟨f, fd, ds, F.mono hk, r⟩
theorem Has.fun {x : Str} {k : Nat} {ps : List Str} {dvs : List V} {sp : Sp} {st : Stmt} (h : Has P w K mg base x k ps dvs sp) (D : Def K mg x st) : ∃ f fd, FnOk P w K mg base CX0 k f fd ps sp ∧ mg x = some (.ref f) ∧ PySem.W.keepIn K (.ref f) = true ∧ Fun K x x st f fd := by
  obtain ⟨f, fd, ds, G, hm, hk, hb, hd, st2, F2⟩ := h
  obtain ⟨g, fe, F, hg⟩ := D
  have e : f = g := by
    rw [hm] at hg
    cases hg
    rfl
  subst e
  have e2 : fd = fe := by
    obtain ⟨_, _, _, _, _, _, _, _, _, _, l1, _⟩ := F.ex
    obtain ⟨_, _, _, _, _, _, _, _, _, _, l2, _⟩ := F2.ex
    rw [l1] at l2
    cases l2
    rfl
  subst e2
  exact ⟨f, fd, G, hm, hk, F⟩
end
section
variable {X : Cx} {k : Nat} {ps : List Str} {sp : Sp} {x : Str} {p pos : Pos} {e : Expr} {es : List Expr} {t : TA} {dvs : List V}
theorem pe_has (h : Has X.prog X.w X.K X.mg X.base x k ps dvs sp) (hr : Room k X.A) (ha : PA X (e :: es) t) (hg : Gl X x := by rfl) (hdb : (x == ("__debug__" : Str)) = false := by decide)
    (he : starEach (e :: es) X.env = (false, eval e X.env) :: starEach es X.env := by rfl) (hpl : (backTo pos (starEach es X.env)).any (·.1) = false := by rfl) : PE X (.Call (.Name x p) (e :: es) [] pos) (tCall sp dvs E0 t) := by
  obtain ⟨f, fd, ds, F, hm, hk, hb, hd, _⟩ := h
  exact pe_call F hr hg hm hk hb hd pass0 ha hdb he hpl
theorem pe_ghas (h : GHas X.prog X.w X.K X.mg X.base x k ps sp) (hgu : X.A.guards = some []) (hr : Room k X.A) (ha : PA X (e :: es) t) (hg : Gl X x := by rfl) (hdb : (x == ("__debug__" : Str)) = false := by decide)
    (he : starEach (e :: es) X.env = (false, eval e X.env) :: starEach es X.env := by rfl) (hpl : (backTo pos (starEach es X.env)).any (·.1) = false := by rfl) : PE X (.Call (.Name x p) (e :: es) [] pos) (tCall sp [] E0 t) := by
  obtain ⟨f, fd, F, hm, hk, hb⟩ := h
  exact pe_callG F hgu hr hg hm hk hb ha hdb he hpl
end
/-! ### heaps -/
theorem Same.tup {K : PySem.W.Frag} {H H' : Hp} {a : Addr} {xs : List V} (e : Same H H') (h : SqT K H a xs) : SqT K H' a xs := by
  rcases h with (h | ⟨o, h⟩) | h
  · exact .inl (.inl (e _ _ h))
  · exact .inl (.inr ⟨o, e _ _ h⟩)
  · exact .inr h
theorem Same.new {H : Hp} {p : Addr} {o : HO} (h : H p = none) : Same H (upd H p o) := fun b u z => by
  rw [upd_ne (ne_of_none z h)]
  exact z
/-- all but what stands at p -/
def But (p : Addr) (H H' : Hp) : Prop := ∀ b o, b ≠ p → H b = some o → H' b = some o
theorem But.refl (p : Addr) (H : Hp) : But p H H := fun _ _ _ h => h
theorem But.trans {p : Addr} {H H1 H2 : Hp} (a : But p H H1) (b : But p H1 H2) : But p H H2 := fun c o n h => b c o n (a c o n h)
theorem But.of {p : Addr} {H H1 : Hp} (a : Same H H1) : But p H H1 := fun c o _ h => a c o h
theorem But.at {p : Addr} {H : Hp} {o : HO} : But p H (upd H p o) := fun c u n h => by
  rw [upd_ne n]
  exact h
/-- what H does not know may change -/
theorem But.free {p q : Addr} {H H1 : Hp} {o : HO} (a : But p H H1) (h : H q = none) : But p H (upd H1 q o) := fun c u n z => by
  rw [upd_ne (ne_of_none z h)]
  exact a c u n z
theorem Same.free2 {q : Addr} {H H1 : Hp} {o : HO} (a : Same H H1) (h : H q = none) : Same H (upd H1 q o) := fun c u z => by
  rw [upd_ne (ne_of_none z h)]
  exact a c u z
theorem But.none {p q : Addr} {H H1 : Hp} (a : But p H H1) (n : q ≠ p) (h : H1 q = Option.none) : H q = Option.none := by
  cases z : H q with
  | none => rfl
  | some o =>
    rw [a q o n z] at h
    cases h
/-! ### the drawn numbers -/
/-- a pool: two numbers -/
structure Pool (H : Hp) (p : Addr) : Prop where
  ex : ∃ m s : Int, H p = some (.lst [.int m, .int s]) ∧ 0 ≤ m ∧ 0 ≤ s ∧ s < 2147483647
theorem Pool.ne {H : Hp} {p t : Addr} {xs : List V} (h : Pool H p) (ht : H t = some (.tup xs)) : t ≠ p := by
  obtain ⟨m, s, e, _⟩ := h.ex
  intro z
  rw [z, e] at ht
  cases ht
theorem Pool.free {H : Hp} {p q : Addr} (h : Pool H p) (hq : H q = none) : q ≠ p := by
  obtain ⟨m, s, e, _⟩ := h.ex
  intro z
  rw [z, e] at hq
  cases hq
theorem Pool.same {H H' : Hp} {p : Addr} (h : Pool H p) (s : Same H H') : Pool H' p := by
  obtain ⟨m, n, e, r⟩ := h.ex
  exact ⟨m, n, s _ _ e, r⟩
theorem Pool.upd {H : Hp} {p q : Addr} {o : HO} (h : Pool H p) (n : q ≠ p) : Pool (L2.upd H q o) p := by
  obtain ⟨m, k, e, r⟩ := h.ex
  exact ⟨m, k, by rw [upd_ne (Ne.symm n)]; exact e, r⟩
end SE
/-! enumerate(t) and t[::-1] of a tuple. -/
namespace SE
open PySem PySem.Spec PyProof.Rows L2
section
open Sem (wp)
open AutoSeq1 (wpAny_loadPart')
theorem meets_enum_newT (t : Addr) (items : Array Value) (n : Nat) (dct : Option Addr) (sl : Array (Option Value)) :
    Meets (Builtin.«enumerate.__new__» ⟨[.type "enumerate", .ref t], []⟩) (fun _ R s => s.heap.get? t = some { cls := .type "tuple", dict := dct, data := .seq items n, slots := sl } ∧
      R (.ok (.ret (.ref (s.heap.push { cls := .type "tuple_iterator", data := .fields #[.ref t, .int 0 0] }).objs.size)))
        { s with heap := (s.heap.push { cls := .type "tuple_iterator", data := .fields #[.ref t, .int 0 0] }).push { cls := .type "enumerate", data := .fields #[.none, .bool false, .ref s.heap.objs.size, rawInt 0, .none, .none] } }) := by
  refine .of_wp fun prog w A R s h => ?_
  obtain ⟨hp, g, d, tk, os⟩ := s
  obtain ⟨ht, h⟩ := h
  have hsub := sub_enumerate
  have hT : Heap.IsTuple (Shared.heap ⟨hp, g, d, tk, os⟩) t items := ⟨_, ht, rfl, n, rfl⟩
  wp_walk using wpAny_loadPart' ht
  refine wpAny_stack_any fun st => wpAny_pure ?_
  split
  · rename_i c _ _ _ _ _
    cases (c == Value.type "enumerate")
    · wp_walk using wpAny_loadPart' ht, wpAny_pyIter_tuple hT
      exact ⟨_, rfl, h⟩
    · wp_walk using wpAny_loadPart' ht, wpAny_pyIter_tuple hT
      exact ⟨_, rfl, h⟩
  · wp_walk using wpAny_loadPart' ht, wpAny_pyIter_tuple hT
    exact ⟨_, rfl, h⟩
end
section
variable {prog : Program} {w : World} {A : Around} {E : Value → Shared → Prop} {s : Shared}
theorem call_enumT {t : Addr} {items : Array Value} {Q : Value → Shared → Prop} (hT : s.heap.IsTuple t items)
    (h : ∀ h', IsEnum h' (s.heap.objs.size + 1) s.heap.objs.size 0 .none → h'.IsTupleIter s.heap.objs.size t 0 → (∀ b o, s.heap.get? b = some o → h'.get? b = some o) → Q (.ref (s.heap.objs.size + 1)) { s with heap := h' }) :
    wpAny (model prog w) A (call (.type "enumerate") [.ref t]) Q E s := by
  obtain ⟨⟨c, dct, dt, sl⟩, ht, hc, n, hd⟩ := hT
  simp only at hc hd
  subst hc hd
  refine callType_new F.called_enumerate (by decide) (F.typeCall_enumerate_1 _) (F.newCall_enumerate_1 _) (fun obj => F.args_object_init_2 obj _) F.entry_enumerate_new (meets_enum_newT t items n dct sl) ⟨ht, ?_⟩
  have hz : (s.heap.push { cls := .type "tuple_iterator", data := .fields #[.ref t, .int 0 0] }).objs.size = s.heap.objs.size + 1 := Heap.size_push ..
  show _ ∧ _
  rw [hz]
  have he : IsEnum ((s.heap.push { cls := .type "tuple_iterator", data := .fields #[.ref t, .int 0 0] }).push
      { cls := .type "enumerate", data := .fields #[.none, .bool false, .ref s.heap.objs.size, rawInt 0, .none, .none] }) (s.heap.objs.size + 1) s.heap.objs.size 0 .none := by
    have z := Heap.get?_push_size (s.heap.push { cls := .type "tuple_iterator", data := .fields #[.ref t, .int 0 0] })
      (o := { cls := .type "enumerate", data := .fields #[.none, .bool false, .ref s.heap.objs.size, rawInt 0, .none, .none] }) rfl
    rw [hz] at z
    exact z
  exact ⟨⟨_, he, rfl⟩, h _ he ⟨_, Heap.get?_push_of_some _ (Heap.get?_push_size _ rfl), rfl, rfl⟩ fun b o x => Heap.get?_push_of_some _ (Heap.get?_push_of_some _ x)⟩
end
/-- the tuple at a, each item in a new pair -/
def ItE (K : PySem.W.Frag) (a : Addr) : It :=
  ⟨fun i H => ∃ (xs : List V) (x : V), SqT K H a xs ∧ xs[i]? = some x, fun i H v H' => ∃ T x, v = .ref T ∧ H T = none ∧ H' = upd H T (.tup [.int (i : Nat), x]) ∧ ∀ xs, SqT K H a xs → xs[i]? = some x, fun i H => ∃ xs : List V, SqT K H a xs ∧ xs.length ≤ i⟩
theorem turn_enumT {P : Program} {w : World} {K : PySem.W.Frag} {elts : List Expr} {kk : Nat} {tpos : Pos} (a e it : Addr) :
    Turn P w K (.Tuple elts kk tpos) (ItE K a) [e, it] e (fun i h => (∃ old, IsEnum h e it ((i : Nat) : Int) old) ∧ h.IsTupleIter it a i ∧ e ≠ it ∧ a ≠ it ∧ a ≠ e) where
  mem := by simp
  obj := fun i h st b hb => by
    obtain ⟨⟨old, he⟩, ⟨o, ho, hc, hd⟩, _⟩ := st
    have ee : b = e ∨ b = it := by simpa using hb
    rcases ee with z | z
    · rw [z]
      exact ⟨_, he, fun v q => nomatch q⟩
    · rw [z]
      exact ⟨o, ho, fun v q => by rw [hd] at q; cases q⟩
  keep := fun i h h' st k => by
    obtain ⟨⟨old, he⟩, hi, hne⟩ := st
    exact ⟨⟨old, k e (by simp) _ he⟩, (let ⟨o, ho, r⟩ := hi; ⟨o, k it (by simp) o ho, r⟩), hne⟩
  item := by
    intro X hP hw hK hc i pins s σ H E I hf st hg
    subst hP hw hK
    obtain ⟨⟨old, he⟩, hit, hne, hai, hae⟩ := st
    obtain ⟨xs, x, hq, hx⟩ := hg
    obtain ⟨its, rv, p, hz⟩ := I.tuple hq
    obtain ⟨u, hu, ru⟩ := rv.get hx
    have hel : e < s.heap.objs.size := Heap.lt_size he
    have hil : it < s.heap.objs.size := by
      obtain ⟨_, q, _⟩ := hit
      exact Heap.lt_size q
    have hlt : i < its.toArray.size := by
      rw [List.size_toArray, ← rv.length]
      exact (List.getElem?_eq_some_iff.mp hx).1
    have D : Draws X.prog X.w X.A.in1 it [it, a] its.toArray.size (fun j v => its.toArray[j]? = some v) (fun j h => h.IsTupleIter it a j ∧ h.IsTuple a its.toArray) := Draws.tuple (A := X.A.in1) (I.ok.hd hc) it a hai its.toArray
    refine wpAny_pyNext_enum_itemD D he ⟨hit, p⟩ hlt hne (by simp [Ne.symm hae, hne]) fun v h1 tk hv ho hit1 hT hsz hk => ?_
    have ev : v = u := by
      have z : some v = some u := by rw [← hv]; simpa using hu
      exact Option.some.inj z
    subst ev
    refine ⟨_, rfl, wpAny_letOwnedTupleGo_enum (s := { s with heap := h1, toks := tk + 1 }) ho fun h2 he2 sb => ?_⟩
    have hT2 : h2.get? s.heap.objs.size = some { cls := .type "tuple", data := .seq #[.int i tk, v] } := (sb.2 _ (Nat.ne_of_gt hel)).trans hT
    have new : ObjOk X.prog X.w (upd H s.heap.objs.size (.tup [.int (i : Nat), x])) h2 s.heap.objs.size (.tup [.int (i : Nat), x]) :=
      ⟨by show 2 ≤ sizeLine; decide, [.int i tk, v], .cons ⟨_, rfl⟩ (.cons ru .nil), ⟨_, hT2, rfl, _, rfl⟩⟩
    have J : Inv X pins σ (upd H s.heap.objs.size (.tup [.int (i : Nat), x])) { s with heap := h2, toks := tk + 1 } :=
      I.turnedNew (ch := [e, it]) (fun b ob hb q => (sb.2 b (fun z => hb (by simp [z]))).trans (hk b ob (fun z => hb (by simp [z])) (fun z => hb (by simp [z])) q)) hf (Nat.le_refl _) new
    refine ⟨.ref s.heap.objs.size, _, J, rfl, ⟨_, x, rfl, I.hok.fresh (Nat.le_refl _), rfl, fun ys hy => by rw [I.tuple_inj hy hq]; exact hx⟩, ⟨⟨v, ?_⟩, ?_, hne, hai, hae⟩, fun b hb => ?_⟩
    · have e1 : ((i + 1 : Nat) : Int) = (i : Int) + 1 := by omega
      rw [e1]
      exact he2
    · obtain ⟨o, ho2, r⟩ := hit1.1
      exact ⟨o, (sb.2 it (Ne.symm hne)).trans ho2, r⟩
    · have hb2 : b < s.heap.objs.size := by
        have ee : b = e ∨ b = it := by simpa using hb
        rcases ee with z | z
        · rw [z]; exact hel
        · rw [z]; exact hil
      rw [upd_ne (Nat.ne_of_lt hb2)]
      exact (hf b hb).1
  done := by
    intro X hP hw hK hc i pins s σ H E I hf st hg
    subst hP hw hK
    obtain ⟨⟨old, he⟩, hit, hne, hai, hae⟩ := st
    obtain ⟨xs, hq, hx⟩ := hg
    obtain ⟨its, rv, p, hz⟩ := I.tuple hq
    obtain ⟨f0, f1, f2, f3, f4, f5⟩ := hf it (by simp)
    have hl := rv.length
    have D : Draws X.prog X.w X.A.in1 it [it, a] i (fun j v => its.toArray[j]? = some v) (fun j h => j = i ∧ h.IsTupleIter it a i ∧ h.IsTuple a its.toArray ∧ its.toArray.size ≤ i) := by
      have D0 := Draws.tuple (prog := X.prog) (w := X.w) (A := X.A.in1) (I.ok.hd hc) it a hai its.toArray
      refine ⟨fun j h z => D0.live i h ⟨z.2.1, z.2.2.1⟩, fun j h h' z k => ⟨z.1, (D0.frame i h h' ⟨z.2.1, z.2.2.1⟩ k).1, (D0.frame i h h' ⟨z.2.1, z.2.2.1⟩ k).2, z.2.2.2⟩, fun j s Q E hj z k => ?_, fun s Q E z k => ?_⟩
      · exact absurd z.1 (Nat.ne_of_lt hj)
      · exact wpAny_nextOf_tuple_end (I.ok.hd hc) z.2.1 z.2.2.1 (Array.getElem?_eq_none z.2.2.2) k
    exact wpAny_pyNext_enum_endD D he ⟨rfl, hit, p, by rw [List.size_toArray]; omega⟩ fun h' eb => ⟨rfl, I.turned (t' := s.toks) (fun b o hb q => eb b o hb q) f0 f1 f3 f4 f5⟩
  self := fun A i s Q E st h => let ⟨⟨_, he⟩, _⟩ := st; wpAny_pyIter_enum he h
def iEnumT (K : PySem.W.Frag) (ta : TA) : TI := fun σ H R => ta σ H fun vs H1 => ∃ a xs, vs = [.ref a] ∧ SqT K H1 a xs ∧ R (ItE K a) H1
theorem pi_enumT {X : Cx} {e : Expr} {ta : TA} {p pos tpos : Pos} {elts : List Expr} {kk : Nat} (hg : Gl X "enumerate") (hm : X.mg "enumerate" = none) (ha : PA X [e] ta) (hs : starEach [e] X.env = [(false, eval e X.env)] := by rfl) :
    PI X (.Tuple elts kk tpos) (.Call (.Name "enumerate" p) [e] [] pos) (iEnumT X.K ta) := by
  constructor
  intro pins s σ H R I h
  refine Call_ (ld_blt I hg hm boot_enumerate (PyProof.Rows.callWith_type1 (thn (ha.run pos pins s σ H _ I h) fun us s1 hh => ?_) hs rfl))
  obtain ⟨vs, H1, I1, r1, a, xs, ex, hq, q⟩ := hh
  subst ex
  cases r1 with
  | cons r rr =>
    cases rr
    cases r
    obtain ⟨its, rv, p2, hz⟩ := I1.tuple hq
    refine call_enumT p2 fun h2 he hit hk => wpAny_pyIter_enum he ?_
    have I2 : Inv X pins σ H1 { s1 with heap := h2 } := I1.kept (t' := s1.toks) hk
    have hlt : a < s1.heap.objs.size := p2.lt
    refine ⟨s1.heap.objs.size + 1, [s1.heap.objs.size + 1, s1.heap.objs.size], _, _, H1, rfl, I2, turn_enumT a (s1.heap.objs.size + 1) s1.heap.objs.size, ⟨⟨.none, he⟩, hit, Nat.succ_ne_self _, Nat.ne_of_lt hlt, Nat.ne_of_lt (Nat.lt_succ_of_lt hlt)⟩, fun b hb => ?_, q⟩
    have ee : b = s1.heap.objs.size + 1 ∨ b = s1.heap.objs.size := by simpa using hb
    have hle : s1.heap.objs.size ≤ b := by
      rcases ee with z | z
      · rw [z]; exact Nat.le_add_right _ _
      · rw [z]; exact Nat.le_refl _
    exact I1.fpOk hle (I1.hok.fresh hle)
/-! ### t[::-1] -/
section
variable {prog : Program} {w : World} {A : Around} {E : Value → Shared → Prop} {s : Shared}
theorem back_pick (xs : Array Value) (n : Nat) (hn : n = xs.size) : (List.range n).filterMap (fun (m : Nat) => xs[(((n : Int) - 1) + (m : Int) * (-1)).toNat]?) = xs.toList.reverse := by
  subst hn
  have e : (fun (m : Nat) => xs[(((xs.size : Nat) : Int) - 1 + (m : Int) * (-1)).toNat]?) = fun m => xs[xs.size - 1 - m]? := by
    funext m
    have z : (((xs.size : Nat) : Int) - 1 + (m : Int) * (-1)).toNat = xs.size - 1 - m := by omega
    rw [z]
  rw [e]
  have a := PySem.W.krv_pick xs
  have b : PySem.slicePick xs none none (some (-1)) = ((List.range xs.size).filterMap fun m => xs[xs.size - 1 - m]?).toArray := by
    unfold PySem.slicePick
    rw [PySem.W.krv_bounds]
    show ((PySem.sliceRange ((xs.size : Int) - 1) (-1) (-1)).filterMap (xs[·]?)).toArray = _
    rw [PySem.W.krv_sliceRange, List.filterMap_map]
    rfl
  have c := a.symm.trans b
  have d := congrArg Array.toList c
  exact d.symm
theorem applied_back {sl : Addr} {vs : Value} {n : Nat} {Q : Int × Int × Nat → Shared → Prop} (hs : s.heap.IsSliceOf sl .none .none vs) (pv : IsPart vs (some (-1)))
    (h : Q ((n : Int) - 1, -1, n) s) : wpAny (model prog w) A (Builtin.Slice.sliceApplied (.ref sl) (pure (n : Int))) Q E s := by
  obtain ⟨os, hos, hcs, hds⟩ := id hs
  unfold Builtin.Slice.sliceApplied Builtin.Slice.sliceFields
  refine wpAny_bind (wpAny_bind (wpAny_field hos hds (x := .none) rfl (wpAny_bind (wpAny_field hos hds (x := .none) rfl (wpAny_bind (wpAny_field hos hds (x := vs) rfl (wpAny_pure ?_)))))))
  refine wpAny_bind (HT.slicePart_ pv ?_)
  show wpAny _ _ (if ((-1 : Int) == 0) = true then _ else _) _ _ s
  rw [if_neg (by decide)]
  refine wpAny_bind (HT.slicePart_ .none (wpAny_bind (HT.slicePart_ .none (wpAny_bind (wpAny_pure ?_)))))
  show wpAny _ _ (pure ((n : Int) - 1, (-1 : Int), Builtin.Slice.slicePlaces ((n : Int) - 1) (-1) (-1))) _ _ s
  have e : Builtin.Slice.slicePlaces ((n : Int) - 1) (-1) (-1) = n := by
    unfold Builtin.Slice.slicePlaces
    rw [if_neg (by decide)]
    by_cases hn : (n : Int) - 1 > -1
    · rw [if_pos hn, show (- -1 : Int) = 1 by decide, Int.ediv_one]
      omega
    · rw [if_neg hn]
      omega
  rw [e]
  exact wpAny_pure h
theorem item_back {t sl : Addr} {items : Array Value} {vs : Value} {Q : Value → Shared → Prop} (ht : IsTup s.heap t items) (hs : s.heap.IsSliceOf sl .none .none vs) (pv : IsPart vs (some (-1)))
    (h : Q (.ref s.heap.objs.size) { s with heap := s.heap.push { cls := .type "tuple", data := .seq items.toList.reverse.toArray } }) (hsz : items.size ≤ sizeLine) : wpAny (model prog w) A (getItem (.ref t) (.ref sl)) Q E s := by
  have hok : sizeOk (.seq items.toList.reverse.toArray) := by
    show items.toList.reverse.toArray.size ≤ sizeLine
    rw [List.size_toArray, List.length_reverse, Array.length_toList]
    exact hsz
  obtain ⟨os, hos, hcs, hds⟩ := id hs
  have hTs : s.TypeIs (.ref sl) "slice" := ⟨os, hos, hcs⟩
  unfold getItem
  try with_reducible refine wpAny_holding ?_
  first | refine wpAny_bind (wpAny_pure ?_) | skip
  refine wpAny_bind (wpAny_sequenceKey ht.typeIs (by decide) ?_)
  refine wpAny_bind (wpAny_callSpecial?_slot (name := Str.ofString "__getitem__") ht.typeIs PyProof.Rows.slot_tuple_getitem (wpAny_call_entry PyProof.Rows.slot_tuple_getitem ht.typeIs entry_tuple_getitem ?_ (args_tuple_getitem _ _)))
  show wpAny _ _ (Builtin.Tuple.tupleItemsOf (.ref t) >>= _) _ _ s
  refine wpAny_bind (tupleItemsOf_ ht ?_)
  refine wpAny_bind (wpAny_typeOf hTs ?_)
  rw [if_pos (by decide)]
  refine wpAny_bind (applied_back hs pv ?_)
  have hno : ¬ ((((items.size : Int) - 1) == 0 && (-1 : Int) == 1 && items.size == items.size) = true) := by
    intro q
    rw [Bool.and_eq_true, Bool.and_eq_true] at q
    exact absurd q.1.2 (by decide)
  show wpAny _ _ (if (((items.size : Int) - 1) == 0 && (-1 : Int) == 1 && items.size == items.size) = true then _ else _) _ _ s
  rw [if_neg hno, back_pick items items.size rfl]
  first
    | exact wpAny_bind (m := Builtin.Tuple.tupleExact _) (wpAny_newObj_type (wpAny_pure ⟨_, rfl, wpAny_pure h⟩) hok)
    | exact wpAny_bind (m := Builtin.Tuple.tupleExact _) (wpAny_newObj_type (wpAny_bind (wpAny_pure (wpAny_pure ⟨_, rfl, wpAny_pure h⟩))) hok)
    | exact wpAny_bind (wpAny_bind (m := Builtin.Tuple.tupleExact _) (wpAny_newObj_type (wpAny_pure (wpAny_pure ⟨_, rfl, wpAny_pure h⟩)) hok))
    | exact wpAny_bind (wpAny_bind (m := Builtin.Tuple.tupleExact _) (wpAny_newObj_type (wpAny_pure ⟨_, rfl, wpAny_pure h⟩) hok))
end
def tRevT (K : PySem.W.Frag) (te : TE) : TE := fun σ H Q => te σ H fun x H1 => ∃ a xs, x = .ref a ∧ SqT K H1 a xs ∧ ∀ p, H1 p = none → Q (.ref p) (upd H1 p (.tup xs.reverse))
theorem pe_revT {X : Cx} {e : Expr} {te : TE} {k : Nat} {p1 p2 p3 pos : Pos} (he : PE X e te) : PE X (.Subscript e (.Slice none none (some (.UnaryOp .USub (.Constant (.int 1) k p1) p2)) p3) pos) (tRevT X.K te) := by
  constructor
  intro pins s σ H Q I h
  refine Subscript_ (thn (he.run pins s σ H _ I h) fun v s1 hh => ?_)
  obtain ⟨x, H1, I1, r1, a, xs, ex, hx, q⟩ := hh
  subst ex
  cases r1
  have hst : PO X (some (.UnaryOp .USub (.Constant (.int 1) k p1) p2)) (tPart (tUn (rU fun i => .int (-i)) (tC (.int 1)))) := po_some (pe_un un_neg pe_int)
  refine wpAny_Slice (thn (po_none.run pins s1 σ H1 (fun o H2 => o = none ∧ H2 = H1) I1 ⟨rfl, rfl⟩) fun vl s2 hl => ?_)
  obtain ⟨l, H2, I2, pl, el, e2⟩ := hl
  subst el e2
  refine thn (po_none.run pins s2 σ H2 (fun o H3 => o = none ∧ H3 = H2) I2 ⟨rfl, rfl⟩) fun vu s3 hu => ?_
  obtain ⟨u, H3, I3, pu, eu, e3⟩ := hu
  subst eu e3
  refine thn (hst.run pins s3 σ H3 (fun o H4 => o = some (-1) ∧ H4 = H3) I3 ⟨1, rfl, -1, rfl, rfl, rfl⟩) fun vs s4 ho => ?_
  obtain ⟨o, H4, I4, ps, eo, e4⟩ := ho
  subst eo e4
  cases pl
  cases pu
  have I5 : Inv X pins σ H4 { s4 with heap := s4.heap.push { cls := .type "slice", data := .fields #[.none, .none, vs] } } := I4.kept (t' := s4.toks) fun b ob q => Heap.get?_push_of_some _ q
  obtain ⟨its, r, ht, hz⟩ := I5.tuple hx
  have hlen := r.length
  show wpAny (model X.prog X.w) X.A (subscriptTail e (.Slice none none (some (.UnaryOp .USub (.Constant (.int 1) k p1) p2)) p3) (.ref a) (.ref s4.heap.objs.size)) (EP X pins σ Q) X.xe { s4 with heap := s4.heap.push { cls := .type "slice", data := .fields #[.none, .none, vs] } }
  refine tail_any (ops := [.ref a, .ref s4.heap.objs.size]) ht.typeIs (PyProof.Rows.slot_tuple_getitem.lookup) ?_ (by with_unfolding_all rfl)
  refine item_back ht (Heap.IsSliceOf.new _ .none .none vs) ps ?_ (by rw [List.size_toArray]; omega)
  refine ⟨.ref _, _, I5.laid (t' := s4.toks) (o := .tup xs.reverse) (fun b ob q => Heap.get?_push_of_some _ q) (Nat.le_refl _) ?_, rfl, q _ (I5.hok.fresh (Nat.le_refl _))⟩
  exact ⟨by rw [List.length_reverse]; exact hz, _, r.reverse, IsTup.new _ _⟩
end SE
/-! Plain data: texts, steps; when they are equal, how they are shown. -/
namespace SE
open PySem PySem.Spec PyProof.Rows L2
/-- a text that is an item -/
structure Item (z : Str) : Prop where
  pos : 1 ≤ z.length
  most : z.length ≤ 8
  low : ∀ c ∈ z.cps.toList, 97 ≤ c ∧ c ≤ 122
/-- data that may be compared and shown: its depth, its weight -/
structure Nice (k B : Nat) (d : PyData) : Prop where
  lay : d.canLay0 = true
  dep : d.depth ≤ k
  sh : d.showable = true
  nd : d.hasDict = false
  ish : d.intsShort 13 = true
  wt : d.weight ≤ B
theorem Nice.mono {k j B C : Nat} {d : PyData} (h : Nice k B d) (hk : k ≤ j) (hB : B ≤ C) : Nice j C d := ⟨h.lay, Nat.le_trans h.dep hk, h.sh, h.nd, h.ish, Nat.le_trans h.wt hB⟩
theorem nice_str {z : Str} {B : Nat} (hc : ∀ c ∈ z.cps.toList, c < 0x110000) (hB : z.length ≤ B) : Nice 0 B (.str z) := by
  refine ⟨?_, ?_, ?_, ?_, ?_, ?_⟩
  · simp only [PyData.canLay0, PyData.strOk]
    rw [← Array.all_toList, List.all_eq_true]
    intro c h
    exact decide_eq_true (hc c h)
  · simp only [PyData.depth]
    exact Nat.le_refl _
  · simp only [PyData.showable]
  · simp only [PyData.hasDict]
  · simp only [PyData.intsShort]
  · simp only [PyData.weight]
    exact hB
theorem Item.nice {z : Str} (h : Item z) : Nice 0 8 (.str z) := nice_str (fun c hc => by have := (h.low c hc).2; omega) h.most
theorem nice_all {k B : Nat} : ∀ {ds : List PyData}, (∀ d ∈ ds, Nice k B d) → PyData.canLayAll0 ds = true ∧ PyData.depthAll ds ≤ k ∧ PyData.showableAll ds = true ∧ PyData.hasDictAll ds = false ∧ PyData.intsShortAll 13 ds = true ∧ PyData.weightAll ds ≤ ds.length * (B + 1)
  | [], _ => by
    refine ⟨?_, ?_, ?_, ?_, ?_, ?_⟩
    · simp only [PyData.canLayAll0]
    · simp only [PyData.depthAll]
      exact Nat.zero_le _
    · simp only [PyData.showableAll]
    · simp only [PyData.hasDictAll]
    · simp only [PyData.intsShortAll]
    · simp only [PyData.weightAll]
      exact Nat.zero_le _
  | d :: ds, h => by
    obtain ⟨a1, a2, a3, a4, a5, a6⟩ := nice_all (ds := ds) fun x hx => h x (List.mem_cons_of_mem _ hx)
    have q := h d List.mem_cons_self
    refine ⟨?_, ?_, ?_, ?_, ?_, ?_⟩
    · simp only [PyData.canLayAll0, q.lay, a1, Bool.and_self]
    · simp only [PyData.depthAll]
      exact Nat.max_le.mpr ⟨q.dep, a2⟩
    · simp only [PyData.showableAll, q.sh, a3, Bool.and_self]
    · simp only [PyData.hasDictAll, q.nd, a4, Bool.or_self]
    · simp only [PyData.intsShortAll, q.ish, a5, Bool.and_self]
    · simp only [PyData.weightAll, List.length_cons]
      have := q.wt
      rw [Nat.add_mul]
      omega
theorem nice_list {k B : Nat} {ds : List PyData} (h : ∀ d ∈ ds, Nice k B d) : Nice (k + 1) (ds.length * (B + 1)) (.list ds) := by
  obtain ⟨a1, a2, a3, a4, a5, a6⟩ := nice_all h
  exact ⟨by simp only [PyData.canLay0]; exact a1, by simp only [PyData.depth]; omega, by simp only [PyData.showable]; exact a3, by simp only [PyData.hasDict]; exact a4, by simp only [PyData.intsShort]; exact a5, by simp only [PyData.weight]; exact a6⟩
theorem nice_tuple {k B : Nat} {ds : List PyData} (h : ∀ d ∈ ds, Nice k B d) : Nice (k + 1) (ds.length * (B + 1)) (.tuple ds) := by
  obtain ⟨a1, a2, a3, a4, a5, a6⟩ := nice_all h
  exact ⟨by simp only [PyData.canLay0]; exact a1, by simp only [PyData.depth]; omega, by simp only [PyData.showable]; exact a3, by simp only [PyData.hasDict]; exact a4, by simp only [PyData.intsShort]; exact a5, by simp only [PyData.weight]; exact a6⟩
theorem Nice.shaped {k B : Nat} {d : PyData} (h : Nice k B d) (hk : k ≤ 64) : SeqAt.shaped d = true := by
  unfold SeqAt.shaped
  rw [h.lay, Bool.true_and]
  exact decide_eq_true (Nat.le_trans h.dep hk)
theorem Nice.shown {k B : Nat} {d : PyData} (h : Nice k B d) (hk : k ≤ 64) (hB : B ≤ 2 ^ 20) : d.shown.length ≤ sizeLine := by
  refine PyData.shown_fits_of_layable0 (B := 13) (by decide) (by decide) ?_ h.ish
  unfold PyData.layable0
  rw [h.lay, Bool.true_and, Bool.and_eq_true]
  exact ⟨decide_eq_true (Nat.le_trans h.dep hk), decide_eq_true (Nat.le_trans h.wt hB)⟩
theorem Nice.eqv {k B : Nat} {d : PyData} (h : Nice k B d) : PyData.eqv d d = true := SeqAt.eqv_refl d h.lay
/-! ### texts -/
theorem dp_strs {K : PySem.W.Frag} {H : Hp} : ∀ zs : List Str, DpAll K H (zs.map V.str) (zs.map PyData.str)
  | [] => .nil
  | z :: zs => .cons (.str z) (dp_strs zs)
theorem eqvAll_strs : ∀ a b : List Str, PyData.eqvAll (a.map .str) (b.map .str) = decide (a = b)
  | [], [] => by simp [PyData.eqvAll]
  | [], y :: b => by simp [PyData.eqvAll]
  | x :: a, [] => by simp [PyData.eqvAll]
  | x :: a, y :: b => by
    rw [List.map_cons, List.map_cons]
    unfold PyData.eqvAll
    rw [eqvAll_strs a b]
    unfold PyData.eqv
    by_cases e : x = y
    · subst e
      simp
    · simp [e]
theorem eqv_listS (a b : List Str) : PyData.eqv (.list (a.map .str)) (.list (b.map .str)) = decide (a = b) := by
  unfold PyData.eqv
  exact eqvAll_strs a b
theorem eqv_tupS (a b : List Str) : PyData.eqv (.tuple (a.map .str)) (.tuple (b.map .str)) = decide (a = b) := by
  unfold PyData.eqv
  exact eqvAll_strs a b
theorem nice_strs {zs : List Str} (h : ∀ z ∈ zs, Item z) : ∀ d ∈ zs.map PyData.str, Nice 0 8 d := by
  intro d hd
  obtain ⟨z, hz, rfl⟩ := List.mem_map.mp hd
  exact (h z hz).nice
/-! ### steps -/
abbrev Stp := Bool × Str
def act (b : Bool) : Str := if b then "push" else "pop"
theorem act_nice (b : Bool) : Nice 0 8 (.str (act b)) := by
  cases b
  · exact nice_str (by decide +kernel) (by decide +kernel)
  · exact nice_str (by decide +kernel) (by decide +kernel)
def stepD (s : Stp) : PyData := .tuple [.str (act s.1), .str s.2]
theorem stepD_nice {s : Stp} (h : Item s.2) : Nice 1 18 (stepD s) := by
  refine (nice_tuple (k := 0) (B := 8) (ds := [.str (act s.1), .str s.2]) ?_).mono (Nat.le_refl _) (by show 2 * 9 ≤ 18; decide)
  intro d hd
  rcases List.mem_cons.mp hd with q | q
  · rw [q]
    exact act_nice _
  · rw [List.mem_singleton.mp q]
    exact h.nice
/-- a step -/
def StepV (K : PySem.W.Frag) (H : Hp) (v : V) (s : Stp) : Prop := ∃ t, v = .ref t ∧ SqT K H t [.str (act s.1), .str s.2]
abbrev StepsV (K : PySem.W.Frag) (H : Hp) : List V → List Stp → Prop := Paired (StepV K H)
theorem StepV.same {K : PySem.W.Frag} {H H' : Hp} {v : V} {s : Stp} (h : StepV K H v s) (e : Same H H') : StepV K H' v s := by
  obtain ⟨t, rfl, q⟩ := h
  exact ⟨t, rfl, Same.tup e q⟩
theorem StepsV.same {K : PySem.W.Frag} {H H' : Hp} {xs : List V} {ss : List Stp} (h : StepsV K H xs ss) (e : Same H H') : StepsV K H' xs ss := Paired.mapP h fun _ _ q => q.same e
theorem StepsV.at {K : PySem.W.Frag} {H : Hp} : ∀ {xs : List V} {ss : List Stp} {i : Nat} {v : V}, StepsV K H xs ss → xs[i]? = some v → ∃ s, ss[i]? = some s ∧ StepV K H v s
  | _, _, _, _, .nil, h => by simp at h
  | _, _, 0, _, .cons a _, h => by
    have e := Option.some.inj h
    subst e
    exact ⟨_, rfl, a⟩
  | _, _, i + 1, _, .cons _ r, h => StepsV.at (i := i) r h
theorem dp_steps {K : PySem.W.Frag} {H : Hp} : ∀ {xs : List V} {ss : List Stp}, StepsV K H xs ss → DpAll K H xs (ss.map stepD)
  | _, _, .nil => .nil
  | _, _, .cons a r => by
    obtain ⟨t, rfl, q⟩ := a
    exact .cons (.tup q (.cons (.str _) (.cons (.str _) .nil))) (dp_steps r)
theorem nice_steps {ss : List Stp} (h : ∀ s ∈ ss, Item s.2) : ∀ d ∈ ss.map stepD, Nice 1 18 d := by
  intro d hd
  obtain ⟨s, hs, rfl⟩ := List.mem_map.mp hd
  exact stepD_nice (h s hs)
theorem StepsV.rev {K : PySem.W.Frag} {H : Hp} : ∀ {xs : List V} {ss : List Stp}, StepsV K H xs ss → StepsV K H xs.reverse ss.reverse
  | _, _, .nil => .nil
  | _, _, .cons a r => by
    rw [List.reverse_cons, List.reverse_cons]
    exact (StepsV.rev r).snoc a
/-- the exchange of push and pop -/
def flip1 (s : Stp) : Stp := (!s.1, s.2)
def revM (ss : List Stp) : List Stp := ss.reverse.map flip1
/-- what a step makes of a stack -/
def stepM (s : Stp) (zs : List Str) : Option (List Str) := if s.1 then some (s.2 :: zs) else match zs with
  | [] => none
  | z :: r => if z = s.2 then some r else none
def runM : List Stp → List Str → Option (List Str)
  | [], zs => some zs
  | s :: ss, zs => match stepM s zs with
    | none => none
    | some ws => runM ss ws
theorem runM_append : ∀ (a b : List Stp) (zs : List Str), runM (a ++ b) zs = (runM a zs).bind (runM b)
  | [], b, zs => rfl
  | s :: a, b, zs => by
    show (match stepM s zs with | none => none | some ws => runM (a ++ b) ws) = (match stepM s zs with | none => none | some ws => runM a ws).bind (runM b)
    cases stepM s zs with
    | none => rfl
    | some ws => exact runM_append a b ws
theorem stepM_flip {s : Stp} {zs ws : List Str} (h : stepM s zs = some ws) : stepM (flip1 s) ws = some zs := by
  obtain ⟨b, x⟩ := s
  cases b with
  | true =>
    have e : x :: zs = ws := by
      have q : some (x :: zs) = some ws := h
      exact Option.some.inj q
    subst e
    show (if x = x then some zs else none) = some zs
    rw [if_pos rfl]
  | false =>
    cases zs with
    | nil => exact absurd h (by intro q; cases q)
    | cons z r =>
      have q : (if z = x then some r else none) = some ws := h
      by_cases e : z = x
      · rw [if_pos e] at q
        have e2 := Option.some.inj q
        subst e2
        subst e
        rfl
      · rw [if_neg e] at q
        cases q
theorem runM_rev : ∀ (ss : List Stp) (zs ws : List Str), runM ss zs = some ws → runM (revM ss) ws = some zs
  | [], zs, ws, h => by
    have e : zs = ws := Option.some.inj h
    subst e
    rfl
  | s :: ss, zs, ws, h => by
    have h' : (match stepM s zs with | none => none | some ys => runM ss ys) = some ws := h
    cases e : stepM s zs with
    | none =>
      rw [e] at h'
      cases h'
    | some ys =>
      rw [e] at h'
      have ih := runM_rev ss ys ws h'
      show runM ((s :: ss).reverse.map flip1) ws = some zs
      rw [List.reverse_cons, List.map_append, runM_append]
      have ih' : runM (ss.reverse.map flip1) ws = some ys := ih
      rw [ih']
      show (match stepM (flip1 s) ys with | none => none | some ws => runM [] ws) = some zs
      rw [stepM_flip e]
      rfl
theorem revM_revM (ss : List Stp) : revM (revM ss) = ss := by
  unfold revM
  rw [← List.map_reverse, List.reverse_reverse, List.map_map]
  have e : flip1 ∘ flip1 = id := by
    funext s
    obtain ⟨b, x⟩ := s
    cases b <;> rfl
  rw [e, List.map_id]
theorem revM_items {ss : List Stp} (h : ∀ s ∈ ss, Item s.2) : ∀ s ∈ revM ss, Item s.2 := by
  intro s hs
  obtain ⟨t, ht, rfl⟩ := List.mem_map.mp hs
  exact h t (List.mem_reverse.mp ht)
theorem stepM_items {s : Stp} {zs ws : List Str} (h : stepM s zs = some ws) (hs : Item s.2) (hz : ∀ z ∈ zs, Item z) : ∀ z ∈ ws, Item z := by
  obtain ⟨b, x⟩ := s
  cases b with
  | true =>
    have e : x :: zs = ws := Option.some.inj (show some (x :: zs) = some ws from h)
    subst e
    intro z m
    rcases List.mem_cons.mp m with q | q
    · rw [q]
      exact hs
    · exact hz z q
  | false =>
    cases zs with
    | nil => exact absurd h (by intro q; cases q)
    | cons y r =>
      have q : (if y = x then some r else none) = some ws := h
      by_cases e : y = x
      · rw [if_pos e] at q
        have e2 := Option.some.inj q
        subst e2
        exact fun z m => hz z (List.mem_cons_of_mem _ m)
      · rw [if_neg e] at q
        cases q
theorem stepM_len {s : Stp} {zs ws : List Str} (h : stepM s zs = some ws) : ws.length ≤ zs.length + 1 := by
  obtain ⟨b, x⟩ := s
  cases b with
  | true =>
    have e : x :: zs = ws := Option.some.inj (show some (x :: zs) = some ws from h)
    subst e
    exact Nat.le_refl _
  | false =>
    cases zs with
    | nil => exact absurd h (by intro q; cases q)
    | cons y r =>
      have q : (if y = x then some r else none) = some ws := h
      by_cases e : y = x
      · rw [if_pos e] at q
        have e2 := Option.some.inj q
        subst e2
        rw [List.length_cons]
        omega
      · rw [if_neg e] at q
        cases q
end SE
namespace SE
open PySem PySem.Spec PyProof.Rows L2
def topS (i : Nat) : Stmt := PySem.Challenge.pw_stackeffect_k05_exceptions.main.body.getD i (.Pass ⟨0, 0, 0, 0⟩)
abbrev sStackerror : Stmt := topS 1
abbrev sInvalidword : Stmt := topS 2
abbrev sInvalidsteps : Stmt := topS 3
abbrev sInvalidnumber : Stmt := topS 4
abbrev sInvaliditems : Stmt := topS 5
abbrev sInvalidtable : Stmt := topS 6
abbrev sInvalidblocks : Stmt := topS 7
abbrev sInvalideffect : Stmt := topS 8
abbrev sInvalidstacks : Stmt := topS 9
abbrev sInvalidorder : Stmt := topS 10
abbrev sInvalidcandidates : Stmt := topS 11
abbrev sInvalidobservation : Stmt := topS 12
abbrev sInvalidtext : Stmt := topS 13
abbrev sInvalidcommand : Stmt := topS 14
abbrev sUnknownname : Stmt := topS 15
abbrev sStepfailed : Stmt := topS 16
abbrev sNothingtoundo : Stmt := topS 17
abbrev sLimitexceeded : Stmt := topS 18
abbrev sLawMade : Stmt := topS 20
abbrev sLawMadeByName : Stmt := topS 21
abbrev sLawKinds : Stmt := topS 22
abbrev sLawBases : Stmt := topS 23
abbrev sLawDue : Stmt := topS 24
abbrev sRight : Stmt := topS 25
abbrev sLaw : Stmt := topS 26
end SE
/-! Exceptions of own classes below ValueError, each with one field. -/
namespace SE
open PySem PySem.Spec PyProof.Rows L2
section
variable {P : Program} {w : World} {K : PySem.W.Frag} {mg : Str → Option Value} {base : Heap}
/-- a def that may raise keeps the promise sp -/
def HasX (P : Program) (w : World) (K : PySem.W.Frag) (mg : Str → Option Value) (base : Heap) (x : Str) (k : Nat) (ps : List Str) (dvs : List V) (sp : Sp) : Prop :=
  ∃ f fd ds, FnOk P w K mg base (L2.CX P w) k f fd ps sp ∧ mg x = some (.ref f) ∧ PySem.W.keepIn K (.ref f) = true ∧ Binds K fd ps ds ∧ Vals dvs ds ∧ ∃ st, Fun K x x st f fd
abbrev BxX (P : Program) (w : World) (K : PySem.W.Frag) (mg : Str → Option Value) (base : Heap) (N : List Str) (x : Str) (st : Stmt) (f : Addr) (cv : Value) (A : Around) (out : List Env) (s : Shared) (H : Hp) (E : XK) : Cx :=
  cxOf (L2.CX P w) P w K mg base N x (defScope st) f cv A out s H E
theorem hasX_of {x : Str} {st : Stmt} {N ps : List Str} {k : Nat} {sp : Sp} (D : Def K mg x st) (S : FnScope N ps (defScope st))
    (hb : ∀ (kV doc pm : Value) (an : Option Addr) (cv ct : Value) (us : List Value), us.length = ps.length → bindArgs (PySem.W.fnOf x x (defArgs st) (defBody st) (defScope st) .none kV doc pm an cv ct) ⟨us, []⟩ = pure (ps.zip us))
    (len : ∀ xs H Q E, sp xs H Q E → xs.length = ps.length)
    (hbd : ∀ (f : Addr) (cv : Value) (A : Around) (out : List Env) (s : Shared) (H : Hp) (xs : List V) (Q : VK) (E : XK), Room k (A.deeper (envOfC x (defScope st) s.heap.objs.size f cv)) → sp xs H Q E →
      ∃ t, PSs (BxX P w K mg base N x st f cv A out s H E) (defBody st) t ∧ t { nx := fun _ H2 => Q .non H2, rt := Q } (start N xs) H) : HasX P w K mg base x (k + 1) ps [] sp := by
  obtain ⟨f, fd, F, hm⟩ := D
  exact ⟨f, fd, [], F.okX S len fun cv A out s H xs Q E hr h => hbd f cv A out s H xs Q E hr h, hm, F.kp, F.binds hb, .nil, st, F⟩
/-- what stands in a def that may raise: its own way out -/
theorem tkX {N : List Str} {x : Str} {st : Stmt} {f : Addr} {cv : Value} {A : Around} {out : List Env} {s : Shared} {H : Hp} {E : XK} : Takes (BxX P w K mg base N x st f cv A out s H E) (fun cls d _ H => E cls d H) := takes_of rfl rfl rfl rfl
end
section
variable {X : Cx} {k : Nat} {ps : List Str} {sp : Sp} {x : Str} {p pos : Pos} {e : Expr} {es : List Expr} {t : TA} {dvs : List V} {E : XK} {W : WX}
/-- a call whose exceptions leave the def that calls -/
theorem pe_hasX (h : HasX X.prog X.w X.K X.mg X.base x k ps dvs sp) (hr : Room k X.A) (tk : Takes X (fun cls d _ H => E cls d H)) (ha : PA X (e :: es) t) (hg : Gl X x := by rfl) (hdb : (x == ("__debug__" : Str)) = false := by decide)
    (he : starEach (e :: es) X.env = (false, eval e X.env) :: starEach es X.env := by rfl) (hpl : (backTo pos (starEach es X.env)).any (·.1) = false := by rfl) : PE X (.Call (.Name x p) (e :: es) [] pos) (tCall sp dvs E t) := by
  obtain ⟨f, fd, ds, F, hm, hk, hb, hd, _⟩ := h
  exact pe_call F hr hg hm hk hb hd (passes_call tk fun _ _ _ _ z => z) ha hdb he hpl
/-- a call within a try -/
theorem pe_hasS (h : HasX X.prog X.w X.K X.mg X.base x k ps [] sp) (hr : Room k X.A) (tk : Takes X W) (ha : PA X (e :: es) t) (hg : Gl X x := by rfl) (hdb : (x == ("__debug__" : Str)) = false := by decide)
    (he : starEach (e :: es) X.env = (false, eval e X.env) :: starEach es X.env := by rfl) (hpl : (backTo pos (starEach es X.env)).any (·.1) = false := by rfl) : PE X (.Call (.Name x p) (e :: es) [] pos) (tCallS sp (WE W) t) := by
  obtain ⟨f, fd, ds, F, hm, hk, hb, hd, _⟩ := h
  cases hd
  exact pe_callS F hr hg hm hk hb (fun σ => passAt tk σ) ha hdb he hpl
end
/-! ### a class of exceptions -/
def spXI (K : PySem.W.Frag) (C : Addr) (f : Str) : Sp := fun xs H Q _ => ∃ (a : Addr) (v : V), xs = [.ref a, v] ∧ H a = some (exo a C none) ∧ ∀ dx, H dx = none → dx ≠ a → Q .non (upd (upd H dx (exd dx [(f, v)])) a (exo a C (some dx)))
/-- what the written part says of the class at C, whose __init__ sets the field f -/
structure XcC (P : Program) (w : World) (K : PySem.W.Frag) (mg : Str → Option Value) (base : Heap) (x f : Str) (C : Addr) : Prop where
  oex : OexC K C
  gC : mg x = some (.ref C)
  init : ∃ fI fd, PySem.W.findIn K (.ref C) "__init__" = some (some (.ref fI)) ∧ PySem.W.typeIn K (.ref fI) = some (.type "function") ∧ FnOk P w K mg base CX0 1 fI fd ["self", f] (spXI K C f) ∧ Binds K fd ["self", f] []
  xf : XfC K C
  noF : PySem.W.findIn K (.ref C) f = some none
  ha : PySem.W.findIn K (.ref C) "__class__" = some (some (.builtin "object.__class__"))
  hn : PySem.W.specialIn K (.builtin "object.__class__") "__get__" = some (some (.builtin "getset_descriptor.__get__"))
  ht : PySem.W.takesIn K (.builtin "object.__class__") = some true
  hm : PySem.W.mroIn K C (.type "object") = some true
  te : PySem.W.exmOne K (.ref C) (.ref C) = some true
/-- __init__ -/
theorem init_ok {P : Program} {w : World} {K : PySem.W.Frag} {mg : Str → Option Value} {base : Heap} {q f : Str} {C : Addr} {st : Stmt} {fI : Addr} {fd : FuncData} {p1 p2 p3 p4 : Pos} (F : Fun K "__init__" q st fI fd) (S : FnScope ["self", f] ["self", f] (defScope st)) (T : OexC K C) (noF : PySem.W.findIn K (.ref C) f = some none)
    (hb : defBody st = [.Assign [.Attribute (.Name "self" p1) f p2] (.Name f p3) p4])
    (v0 : Vis (defScope st) "self") (v1 : Vis (defScope st) f) (hdb : (f == ("__debug__" : Str)) = false) (hcd : (f == ("__classdict__" : Str)) = false) : FnOk P w K mg base CX0 1 fI fd ["self", f] (spXI K C f) := by
  refine F.ok S (fun xs H Q E h => ?_) (fun cv A out s H xs Q E hr h => ?_)
  · obtain ⟨a, v, rfl, _⟩ := h
    rfl
  · obtain ⟨a, v, rfl, ha, k⟩ := h
    rw [hb]
    refine ⟨_, pss_one (ps_ost (pe_var (i := 0) rfl v0) (pe_var (i := 1) rfl v1 (hd := hdb) (hcd := hcd))), ?_⟩
    exact ⟨_, rfl, _, rfl, a, C, rfl, T, noF, .inl ⟨ha, fun dx nd ne => k dx nd ne⟩⟩
section
variable {X : Cx} {C : Addr} {x f : Str}
theorem mk_heap {H1 : Hp} {a d C : Addr} {f : Str} {v : V} (na : H1 a = none) (nd : d ≠ a) : upd (del (upd (upd (upd H1 a (exo a C none)) d (exd d [(f, v)])) a (exo a C (some d))) a) d (.xd [(f, v)]) = upd H1 d (.xd [(f, v)]) := by
  funext b
  by_cases e : b = d
  · subst e
    rw [upd_same, upd_same]
  · rw [upd_ne e, upd_ne e]
    by_cases e2 : b = a
    · subst e2
      rw [del_same, na]
    · rw [del_ne e2, upd_ne e2, upd_ne e, upd_ne e2]
theorem mk_red {K : PySem.W.Frag} {H1 : Hp} {v : V} {Q : XK} (h : ∀ d, H1 d = none → Q (.ref C) (some d) (upd H1 d (.xd [(f, v)]))) :
    ([v] : List V).length ≤ 1000 ∧ ∀ a, H1 a = none → spXI K C f (.ref a :: ([v] ++ [])) (upd H1 a (exo a C none))
      (fun u H2 => u = .non ∧ ∃ (d : Addr) (fs : List (Str × V)), H2 a = some (exo a C (some d)) ∧ H2 d = some (exd d fs) ∧ H1 d = none ∧ Q (.ref C) (some d) (upd (del H2 a) d (.xd fs))) (fun _ _ _ => False) := by
  refine ⟨(by decide : 1 ≤ 1000), fun a na => ⟨a, v, rfl, upd_same, fun d nd ne => ⟨rfl, d, [(f, v)], upd_same, ?_, ?_, ?_⟩⟩⟩
  · rw [upd_ne ne]
    exact upd_same
  · rw [upd_ne ne] at nd
    exact nd
  · rw [mk_heap na ne]
    rw [upd_ne ne] at nd
    exact h d nd
/-- C(e): behind the argument mk_red -/
theorem pmk_x {e : Expr} {ta : TA} {p pos : Pos} (T : XcC X.prog X.w X.K X.mg X.base x f C) (hr : Room 2 X.A) (ha : PA X [e] ta) (hg : Gl X x := by rfl)
    (hdb : (x == ("__debug__" : Str)) = false := by decide) (he : starEach (e :: []) X.env = (false, eval e X.env) :: starEach [] X.env := by rfl) (hpl : (backTo pos (starEach [] X.env)).any (·.1) = false := by rfl) :
    PMk X (.Call (.Name x p) [e] [] pos) (tMkO C (spXI X.K C f) [] ta) := by
  obtain ⟨fI, fd, i1, i2, i3, i4⟩ := T.init
  exact pmk_oex (CX := CX0) T.oex i1 i2 i3 hr i4 .nil pass0 hg T.gC ha hdb he hpl
theorem ps_raiseX {W : WX} {e : Expr} {ta : TA} {p pos pos2 : Pos} (hc : X.calm = true) (T : XcC X.prog X.w X.K X.mg X.base x f C) (hr : Room 2 X.A) (tk : Takes X W) (ha : PA X [e] ta) (hg : Gl X x := by rfl)
    (hdb : (x == ("__debug__" : Str)) = false := by decide) (he : starEach (e :: []) X.env = (false, eval e X.env) :: starEach [] X.env := by rfl) (hpl : (backTo pos (starEach [] X.env)).any (·.1) = false := by rfl) :
    PS X (.Raise (some (.Call (.Name x p) [e] [] pos)) none pos2) (fun _ σ H => tMkO C (spXI X.K C f) [] ta σ H fun cls d H' => W cls d σ H') := ps_raise hc tk (pmk_x T hr ha hg hdb he hpl)
/-- isinstance(e, c), e the exception that the suite holds -/
def rIsX (K : PySem.W.Frag) (C a : Addr) (cls : Value) (d : Option Addr) : List V → Hp → VK → Prop := fun xs H Q => ∃ (c : V) (cv : Value) (b : Bool) (dd : Addr) (fs : List (Str × V)), xs = [.ref a, c] ∧ cls = .ref C ∧ (∀ u, RelV c u → u = cv) ∧ PySem.W.kitOne K (.ref C) cv = some b ∧ d = some dd ∧ H dd = some (.xd fs) ∧ Q (.bl b) H
theorem call_isX {a : Addr} {oe : Obj} {cls : Value} {d : Option Addr} {pn : List (Addr × Obj)} (T : XcC X.prog X.w X.K X.mg X.base x f C) (hz : Zc cls d oe) (hf : ∃ vs, oe.data = .fields vs) : CallR (X.suite a ((a, oe) :: pn)) (.builtin "isinstance") (rIsX X.K C a cls d) := by
  intro pins s σ H xs us Q I r h
  obtain ⟨c, cv, b, dd, fs, rfl, rfl, hcv, e, rfl, hH, q⟩ := h
  cases r with
  | cons rx rr =>
    cases rr with
    | cons rt rr =>
      cases rr
      cases rx
      have ec := hcv _ rt
      subst ec
      obtain ⟨hget, _⟩ := I.pin (a, oe) (List.mem_append.mpr (.inl List.mem_cons_self))
      obtain ⟨vs, hv⟩ := hf
      have hx : ObjOk X.prog X.w H s.heap dd (.xd fs) := I.hok dd _ hH
      obtain ⟨mA, hns, hr⟩ := hx
      obtain ⟨od, ho, hl⟩ := lookIn_ns hns
      have J : PySem.W.InstAt s.heap a oe C (some od) := ⟨hget, hz.1, by unfold PySem.W.notCls; rw [hv] <;> rfl, by rw [hz.2]; exact ho⟩
      have hcl : (PySem.W.clsIn X.K C).isSome = true := by
        obtain ⟨cd, hc, _⟩ := PySem.W.any_some T.xf.hdC
        rw [hc]
        rfl
      exact PySem.W.kia_one (PySem.W.kitx_exc hcl T.xf.ga T.xf.gg T.xf.exC T.ha T.hn T.ht T.hm) I.kIn J e (fun z => nomatch z) fun tk => ⟨.bl b, H, I.kept (t' := tk) fun _ _ z => z, rfl, q⟩
end
end SE
/-! A for in a generator's body; a generator def called with keywords. -/
namespace SE
open PySem PySem.Spec PyProof.Rows L2 GenW
section
variable {X : Cx}
def tGFor (wi : TI) (g : TG) (tb : TGn) : TGn := fun D ys σ H => wi σ H fun J H1 => ∃ W : Nat → Nat → List V → L2.St → Hp → Prop, (∃ m, W 0 m ys σ H1) ∧ ∀ i m ys σ H, W i m ys σ H →
  (J.stop i H ∧ D.nx ys σ H) ∨ (J.go i H ∧ ∃ N : List V → L2.St → Hp → Prop, (∀ zs σ2 H2, N zs σ2 H2 → ∃ j, j < m ∧ W (i + 1) j zs σ2 H2) ∧ ∀ x H2, J.yld i H x H2 → g x σ H2 fun σ3 H3 => tb { D with nx := N, ct := N, bk := D.nx } ys σ3 H3)
theorem gs_for {tg iter : Expr} {body : List Stmt} {pos : Pos} {wi : TI} {g : TG} {tb : TGn} (hp : PassesOwn (model X.prog X.w) X.A X.env X.xe) (hc : X.calm = true) (hi : PI X tg iter wi) (hg : PG X tg g) (hb : GSs X body tb)
    (hs : ∀ x, foldedSetIterable iter X.env x = pure x := by intro _; rfl) : GS X (.For tg iter body [] pos) (tGFor wi g tb) := by
  constructor
  intro A S ip R n ys s₀ c fs K J gd lv s σ H D gc hn k hI ht
  obtain ⟨acc, cc, r, I⟩ := hI
  rw [exec_For]
  refine seg_bind_wrap (wpAny_standAt ?_)
  refine seg_bind_wrap ?_
  rw [gc.over]
  refine wpAny_mono (hi.run _ s σ H _ I ht) (fun v s1 h1 => ?_) fun x s2 hx => k.exc n s₀ x s2 hx
  refine seg_bind_wrap (wpAny_of_eq (hs v) ?_)
  refine seg_bind_wrap (wpAny_standAt ?_)
  refine seg_bind_wrap (wpAny_holding ?_)
  rw [gc.over]
  refine wpAny_mono h1 (fun itv s2 h2 => ?_) fun x s3 hx => k.exc n s₀ x s3 hx
  obtain ⟨it, fp, tn, Jt, H2, e2, I2, T, st2, f2, W, ⟨m0, w0⟩, turn⟩ := h2
  subst e2
  refine seg_call fun p => ?_
  have gl := fun (kk : Result → Sem PySem.Fin) => gc_loop (X := X) (k := kk) (c' := .forLoop tg (.ref it) body [] X.env) (l := lv []) (kp := []) (p := p) gc rfl rfl
  have apart : ∀ b ∈ fp, b ≠ S := fun b hb z => by
    obtain ⟨_, _, _, _, _, q⟩ := f2 b hb
    exact q (S, lstObj acc cc) (List.mem_append_right _ List.mem_cons_self) z.symm
  have fpok : ∀ {acc2 : Array Value} {c2 : Nat} {H3 : Hp}, (∀ b ∈ fp, H3 b = none) → ∀ b ∈ fp, FpOk X ((S, lstObj acc2 c2) :: ip) H3 b := by
    intro acc2 c2 H3 hn3 b hb
    obtain ⟨_, a2, a3, a4, a5, a6⟩ := f2 b hb
    refine ⟨hn3 b hb, a2, a3, a4, a5, fun q hq => ?_⟩
    rcases List.mem_append.mp hq with z | z
    · exact a6 q (List.mem_append_left _ z)
    · rcases List.mem_cons.mp z with y | y
      · rw [y]
        exact Ne.symm (apart b hb)
      · exact a6 q (List.mem_append_right _ (List.mem_cons_of_mem _ y))
  have loop : ∀ (m n i : Nat) (ys : List V) (s₀ s : Shared) (σ : L2.St) (H : Hp), n + ys.length = sizeLine → W i m ys σ H → GI X S ip ys σ H s → tn i s.heap → (∀ b ∈ fp, H b = none) →
      Seg (model X.prog X.w) A R (GY X S) n s₀ (.forLoop tg (.ref it) body [] X.env) ((model X.prog X.w).den (.forLoop tg (.ref it) body [] X.env))
        (.ret (fun r => ((match r with | .ok f => (.pure f : Sem Flow) | .error e => .raise e).onRaise (cameBack X.env)).wrap K J gd lv) none (gd false) (lv []) c p [] :: fs) s := by
    intro m
    induction m using Nat.strongRecOn with
    | ind m ih =>
      intro n i ys s₀ s σ H hn w hI st fr
      have ee : ∀ (n : Nat) (s₀ : Shared) (x : Value) (s4 : Shared), X.xe x s4 → Seg (model X.prog X.w) A R (GY X S) n s₀ (.forLoop tg (.ref it) body [] X.env)
          ((do noteFrame x X.env; theTreesLotGoes x : Sem Unit).bind fun _ => .raise x)
          (.ret (fun r => ((match r with | .ok f => (.pure f : Sem Flow) | .error e => .raise e).onRaise (cameBack X.env)).wrap K J gd lv) none (gd false) (lv []) c p [] :: fs) s4 := fun n s₀ x s4 hx => by
        rw [Sem.bind_eq_wrap]
        refine seg_wrap ?_
        rw [(gl _).over]
        refine wpAny_bind (wpAny_mono (hp x s4 hx) (fun _ s5 hcb => wpAny_theTreesLotGoes ?_) fun y s5 hcb => ?_)
        · exact seg_leaf (.error x) (seg_cameBack gc k hcb)
        · exact seg_leaf (.error y) (seg_cameBack gc k hcb)
      show Seg _ A R _ n s₀ _ ((forTurn tg (.ref it) body [] X.env).onRaise (fun x => do noteFrame x X.env; theTreesLotGoes x)) _ s
      unfold forTurn
      rw [Sem.onRaise_eq_wrap]
      refine seg_bind_wrap (wpAny_standAt ?_)
      refine seg_bind_wrap ?_
      rw [(gl _).over]
      obtain ⟨acc3, c3, r3, I3⟩ := hI
      rcases turn i m ys σ H w with ⟨stop, qn⟩ | ⟨go, N, hN, step⟩
      · refine wpAny_onRaise (wpAny_mono (T.done X rfl rfl rfl hc i _ s σ H X.xe I3 (fpok fr) st stop) (fun rr s4 hh => ?_) fun x s4 hx => wpAny_standAt (ee n s₀ x s4 hx))
        obtain ⟨hr, I4⟩ := hh
        subst hr
        refine seg_again rfl ?_
        show Seg _ A R _ n s₀ _ (do return Fin.done (← (execs [] X.env).onRaise (fun x => do noteFrame x X.env; theTreesLotGoes x))) _ s4
        exact seg_leaf (.ok .next) (k.ok n ys s₀ s4 .next hn ⟨σ, H, ⟨acc3, c3, r3, I4⟩, qn⟩)
      · refine wpAny_onRaise (wpAny_mono (T.item X rfl rfl rfl hc i _ s σ H X.xe I3 (fpok fr) st go) (fun rr s4 hh => ?_) fun x s4 hx => wpAny_standAt (ee n s₀ x s4 hx))
        obtain ⟨u, hr, h4⟩ := hh
        subst hr
        refine seg_bind_wrap ?_
        rw [(gl _).over]
        refine wpAny_mono h4 (fun _ s5 hh => ?_) fun x s5 hx => ee n s₀ x s5 hx
        obtain ⟨x, H5, I5, r5, y5, st5, fr5⟩ := hh
        have I6 := I5.pinned (fpok fr5) (T.obj _ _ st5)
        refine seg_bind_wrap ?_
        rw [(gl _).over]
        refine wpAny_mono (hg.run _ s5 σ H5 x u _ I6 r5 (step x H5 y5)) (fun _ s6 hh => ?_) fun x s6 hx => ee n s₀ x s6 hx
        obtain ⟨σ6, H6, I7, q6⟩ := hh
        have gb : GC X S (ip ++ pinsAt fp s5.heap) A (.forLoop tg (.ref it) body [] X.env) (.ret (fun r => ((match r with | .ok f => (.pure f : Sem Flow) | .error e => .raise e).onRaise (cameBack X.env)).wrap K J gd lv) none (gd false) (lv []) c p [] :: fs) id := by
          have q := gl (fun r => ((match r with | .ok f => (.pure f : Sem Flow) | .error e => .raise e).onRaise (cameBack X.env)).wrap K J gd lv)
          refine ⟨q.pn, fun z hz => ?_, q.apart, q.over, q.split, q.guard, q.gd⟩
          rcases List.mem_append.mp hz with y | y
          · exact q.ip z y
          · exact apart z.1 (of_pinsAt y).1
        rw [Sem.bind_eq_wrap', Sem.wrap_wrap]
        refine hb.run A S (ip ++ pinsAt fp s5.heap) R n ys s₀ _ _ _ _ id id s6 σ6 H6 { D with nx := N, ct := N, bk := D.nx } gb hn ⟨fun n2 zs s7 s8 f hn2 hs8 => ?_, fun n2 s7 x s8 hx => ee n2 s7 x s8 hx⟩ ⟨acc3, c3, r3, I7⟩ q6
        have again : ∀ {σ8 : L2.St} {H8 : Hp}, GI X S (ip ++ pinsAt fp s5.heap) zs σ8 H8 s8 → N zs σ8 H8 → Seg (model X.prog X.w) A R (GY X S) n2 s7 (.forLoop tg (.ref it) body [] X.env) ((model X.prog X.w).den (.forLoop tg (.ref it) body [] X.env))
            (.ret (fun r => ((match r with | .ok f => (.pure f : Sem Flow) | .error e => .raise e).onRaise (cameBack X.env)).wrap K J gd lv) none (gd false) (lv []) c p [] :: fs) s8 := by
          intro σ8 H8 G8 n8
          obtain ⟨j, hj, w8⟩ := hN zs σ8 H8 n8
          obtain ⟨acc8, c8, r8, I8⟩ := G8
          have pin8 : ∀ b ∈ fp, ∀ o, s5.heap.get? b = some o → s8.heap.get? b = some o ∧ H8 b = none := fun b hb o e => by
            have q := I8.pin (b, o) (List.mem_append_right _ (List.mem_cons_of_mem _ (List.mem_append_right _ (mem_pinsAt hb e))))
            exact ⟨q.1, q.2.1⟩
          refine ih j hj n2 (i + 1) zs s7 s8 σ8 H8 hn2 w8 ⟨acc8, c8, r8, I8.pins_of fun q hq => I8.pin q (List.mem_append_right _ ?_)⟩ (T.keep _ _ _ st5 fun b hb o e => (pin8 b hb o e).1) fun b hb => ?_
          · rcases List.mem_cons.mp hq with y | y
            · rw [y]
              exact List.mem_cons_self
            · exact List.mem_cons_of_mem _ (List.mem_append_left _ y)
          · obtain ⟨o, e, _⟩ := T.obj _ _ st5 b hb
            exact (pin8 b hb o e).2
        have thin : ∀ {σ8 : L2.St} {H8 : Hp}, GI X S (ip ++ pinsAt fp s5.heap) zs σ8 H8 s8 → GI X S ip zs σ8 H8 s8 := by
          intro σ8 H8 G8
          obtain ⟨acc8, c8, r8, I8⟩ := G8
          refine ⟨acc8, c8, r8, I8.pins_of fun q hq => I8.pin q (List.mem_append_right _ ?_)⟩
          rcases List.mem_cons.mp hq with y | y
          · rw [y]
            exact List.mem_cons_self
          · exact List.mem_cons_of_mem _ (List.mem_append_left _ y)
        cases f with
        | next =>
          obtain ⟨σ8, H8, G8, n8⟩ := hs8
          exact seg_again rfl (again G8 n8)
        | cont =>
          obtain ⟨σ8, H8, G8, n8⟩ := hs8
          exact seg_again rfl (again G8 n8)
        | brk =>
          obtain ⟨σ8, H8, G8, n8⟩ := hs8
          exact seg_leaf (.ok .next) (k.ok n2 zs s7 s8 .next hn2 ⟨σ8, H8, thin G8, n8⟩)
        | ret v =>
          obtain ⟨x8, σ8, H8, G8, r8, n8⟩ := hs8
          exact seg_leaf (.ok (.ret v)) (k.ok n2 zs s7 s8 (.ret v) hn2 ⟨x8, σ8, H8, thin G8, r8, n8⟩)
  exact loop m0 n 0 ys s₀ s2 σ H2 hn w0 ⟨acc, cc, r, I2⟩ st2 fun b hb => (f2 b hb).1
end
end SE
/-! Calls by keywords. -/
namespace SE
open PySem PySem.Spec PyProof.Rows L2 GenW
section
variable {K : PySem.W.Frag} {x qual : Str} {params : Arguments} {body : List Stmt} {scope : Scope} {kws : List (Str × V)} {f : Addr} {fd : FuncData} {ps : List Str}
/-- keyword-only defaults alone; ms: those that lack -/
theorem kb_some (F : FunD K x qual params body scope [] kws f fd) (n : Nat) (ks : List Str) (ms : List (Str × V)) (g : {α : Type} → List α → List α → List α → List α) (hk : kws ≠ []) (hms : ∀ q ∈ ms, q ∈ kws)
    (hrel : ∀ {vs mz zs : List V} {us mv ws : List Value}, Vals vs us → Vals mz mv → Vals zs ws → Vals (g vs mz zs) (g us mv ws))
    (h : ∀ (D : Addr) (doc pm : Value) (an : Option Addr) (cv ct : Value) (us mv ws : List Value), us.length = n → mv.length = ms.length → ws.length = ks.length →
      KwChain D ((ms.map (·.1)).zip mv) (bindArgs (PySem.W.fnOf x qual params body scope .none (.ref D) doc pm an cv ct) ⟨us, ks.zip ws⟩) (ps.zip (g us mv ws))) :
    ∃ mv : List Value, KBn K fd ps n ks (fun us ws => g us mv ws) (fun vs zs => g vs (ms.map (·.2)) zs) := by
  obtain ⟨oc, od, dV, kV, doc, pm, an, cv, ct, osl, rfl, look, hc, hD, hK⟩ := F.ex
  rcases hD with ⟨_, rfl⟩ | ⟨e, _⟩
  · rcases hK with e | ⟨D, rfl, hq⟩
    · exact absurd e hk
    · obtain ⟨mv, hl, rk, hks⟩ := kwd_vals (ms := ms) fun q hm => hq q (hms q hm)
      exact ⟨mv, fun s us ws X l1 l2 => BindsTo.of_looks fun M => KwChain.looks X hks (h D doc pm an cv ct us mv ws l1 hl l2), fun r1 r2 => hrel r1 rk r2⟩
  · exact absurd rfl e
theorem kb_all {st : Stmt} (F : Fun K x qual st f fd) (n : Nat) (ks : List Str) (g : {α : Type} → List α → List α → List α)
    (hrel : ∀ {vs zs : List V} {us ws : List Value}, Vals vs us → Vals zs ws → Vals (g vs zs) (g us ws))
    (h : ∀ (kV doc pm : Value) (an : Option Addr) (cv ct : Value) (us ws : List Value), us.length = n → ws.length = ks.length → bindArgs (PySem.W.fnOf x qual (defArgs st) (defBody st) (defScope st) .none kV doc pm an cv ct) ⟨us, ks.zip ws⟩ = pure (ps.zip (g us ws))) :
    KBn K fd ps n ks (fun us ws => g us ws) (fun vs zs => g vs zs) := by
  obtain ⟨oc, od, kV, doc, pm, an, cv, ct, osl, rfl, look, hc⟩ := F.ex
  exact ⟨fun s us ws X l1 l2 => .of_eq (h kV doc pm an cv ct us ws l1 l2), fun r1 r2 => hrel r1 r2⟩
end
section
variable {X : Cx} {k n : Nat} {f : Addr} {fd : FuncData} {ps ks : List Str} {sp : Sp} {E : XK} {x : Str} {p pos : Pos} {e : Expr} {es : List Expr} {kws : List Keyword} {t tk : TA} {g : List Value → List Value → List Value} {gV : List V → List V → List V}
/-- f(k = v, ..) -/
theorem pe_kw0 (F : FnOk X.prog X.w X.K X.mg X.base CX0 k f fd ps sp) (hr : Room k X.A) (hg : Gl X x) (hm : X.mg x = some (.ref f)) (hk : PySem.W.keepIn X.K (.ref f) = true) (hb : KBn X.K fd ps 0 ks g gV)
    (hkw : PK X kws tk) (hall : (backToKw pos (keywordEach kws X.env)).all (·.1.isSome) = true := by rfl) (hks : (backToKw pos (keywordEach kws X.env)).filterMap (·.1) = ks := by rfl)
    (hdb : (x == ("__debug__" : Str)) = false := by decide) (hpl : ((backTo pos (starEach [] X.env)).any (·.1) || (backToKw pos (keywordEach kws X.env)).any (·.1.isNone)) = false := by rfl) :
    PE X (.Call (.Name x p) [] kws pos) (tCallN 0 ks.length sp gV E0 tNil tk) := by
  constructor
  intro pins s σ H Q I h
  apply wpAny_Call_Name_kw
  apply ld_glob I hg hm _ hdb
  refine PySem.W.callWith_KW0 (h₀ := X.base) I.ok.mod.kin hk hall (thn (hkw.run pos pins s σ H _ I h) fun ws s2 hh => ?_) hpl
  obtain ⟨zs, H2, I2, rz, l1, l2, q2⟩ := hh
  refine ⟨I2.kIn, ?_⟩
  rw [hks]
  exact run_fnN F hr hb pass0 I2 .nil rz l1 l2 q2
/-! ### generators -/
variable {sg : SpG}
theorem run_gkw {pins : List (Addr × Obj)} {σ : L2.St} {H : Hp} {s : Shared} {us ws : List Value} {vs zs : List V} {cont : List V → Hp → Prop} {E1 : Value → Shared → Prop} (F : GFn X.prog X.w X.K X.mg X.base k f fd ps sg) (hr : Room k X.A) (hb : KBn X.K fd ps n ks g gV)
    (I : Inv X pins σ H s) (r : Vals vs us) (rz : Vals zs ws) (l1 : vs.length = n) (l2 : zs.length = ks.length) (h : sg (gV vs zs) H cont E) :
    wpAny (model X.prog X.w) X.A (call (.ref f) us (ks.zip ws)) (fun u s2 => ∃ H1 sc ex, Inv X pins σ H1 sc ∧ ExOk X pins ex ∧ GMade X.prog X.w k X.stack H1 sc ex cont E u s2) E1 s := by
  have r2 := hb.rel r rz
  refine wpAny_call (codeAny_mono (F.run X.A X.stack s H ⟨us, ks.zip ws⟩ (g us ws) (gV vs zs) cont E hr I.env0 (hb.to s us ws I.kIn (r.length.symm.trans l1) (rz.length.symm.trans l2)) r2 h) fun rr s2 hq => ?_)
  cases rr with
  | error _ => exact hq.elim
  | ok fl =>
    cases fl with
    | ret u => exact ⟨H, s, [], I, .nil, hq⟩
    | next => exact hq.elim
    | brk => exact hq.elim
    | cont => exact hq.elim
def tGenN (n m : Nat) (sg : SpG) (gV : List V → List V → List V) (E : XK) (t tk : TA) : TGen := fun σ H cont => t σ H fun vs H1 => tk σ H1 fun zs H2 => vs.length = n ∧ zs.length = m ∧ sg (gV vs zs) H2 cont E
theorem pgen_kw (F : GFn X.prog X.w X.K X.mg X.base k f fd ps sg) (hr : Room k X.A) (hg : Gl X x) (hm : X.mg x = some (.ref f)) (hk : PySem.W.keepIn X.K (.ref f) = true) (hb : KBn X.K fd ps n ks g gV)
    (ha : PA X (e :: es) t) (hkw : PK X kws tk) (hall : (backToKw pos (keywordEach kws X.env)).all (·.1.isSome) = true := by rfl) (hks : (backToKw pos (keywordEach kws X.env)).filterMap (·.1) = ks := by rfl)
    (hdb : (x == ("__debug__" : Str)) = false := by decide) (he : starEach (e :: es) X.env = (false, eval e X.env) :: starEach es X.env := by rfl)
    (hpl : ((backTo pos (starEach (e :: es) X.env)).any (·.1) || (backToKw pos (keywordEach kws X.env)).any (·.1.isNone)) = false := by rfl) :
    PGen X k (.Call (.Name x p) (e :: es) kws pos) (tGenN n ks.length sg gV E t tk) E := by
  constructor
  intro pins s σ H cont I h
  apply wpAny_Call_Name_kw
  apply ld_glob I hg hm _ hdb
  refine PySem.W.callWith_KW (h₀ := X.base) I.ok.mod.kin hk hall (thn (ha.run pos pins s σ H _ I h) fun us s1 hh => ?_) hpl he
  obtain ⟨vs, H1, I1, r, q⟩ := hh
  refine thn (hkw.run pos pins s1 σ H1 _ I1 q) fun ws s2 hh => ?_
  obtain ⟨zs, H2, I2, rz, l1, l2, q2⟩ := hh
  refine ⟨I2.kIn, ?_⟩
  rw [hks]
  exact run_gkw F hr hb I2 r rz l1 l2 q2
theorem pgen_kw0 (F : GFn X.prog X.w X.K X.mg X.base k f fd ps sg) (hr : Room k X.A) (hg : Gl X x) (hm : X.mg x = some (.ref f)) (hk : PySem.W.keepIn X.K (.ref f) = true) (hb : KBn X.K fd ps 0 ks g gV)
    (hkw : PK X kws tk) (hall : (backToKw pos (keywordEach kws X.env)).all (·.1.isSome) = true := by rfl) (hks : (backToKw pos (keywordEach kws X.env)).filterMap (·.1) = ks := by rfl)
    (hdb : (x == ("__debug__" : Str)) = false := by decide) (hpl : ((backTo pos (starEach [] X.env)).any (·.1) || (backToKw pos (keywordEach kws X.env)).any (·.1.isNone)) = false := by rfl) :
    PGen X k (.Call (.Name x p) [] kws pos) (tGenN 0 ks.length sg gV E tNil tk) E := by
  constructor
  intro pins s σ H cont I h
  apply wpAny_Call_Name_kw
  apply ld_glob I hg hm _ hdb
  refine PySem.W.callWith_KW0 (h₀ := X.base) I.ok.mod.kin hk hall (thn (hkw.run pos pins s σ H _ I h) fun ws s2 hh => ?_) hpl
  obtain ⟨zs, H2, I2, rz, l1, l2, q2⟩ := hh
  refine ⟨I2.kIn, ?_⟩
  rw [hks]
  exact run_gkw F hr hb I2 .nil rz l1 l2 q2
/-- nothing is raised by a generator that raises nothing -/
theorem pass_gen : Passes (CX X.prog X.w) X E0 := by
  intro pins σ H s e s2 I h
  obtain ⟨a, B, H2, cls, d, _, _, _, _, _, _, _, q⟩ := h
  exact q.elim
theorem nostop0 {K : PySem.W.Frag} : NoStop K E0 := fun _ _ _ h => h.elim
end
end SE
/-! Classes and methods called by keyword where exceptions may come, also within a try. -/
namespace SE
open PySem PySem.Spec PyProof.Rows L2
section
variable {X : Cx} {CT : CXT} {k n : Nat} {f C : Addr} {fd : FuncData} {ps ks : List Str} {sp : Sp} {x m : Str} {p pos apos : Pos} {e o : Expr} {es : List Expr} {kws : List Keyword} {te : TE} {t tk : TA} {ex : L2.St → XK}
  {g : List Value → List Value → List Value} {gV : List V → List V → List V}
/-- a def called with some arguments by keyword; ex σ is what is wished of its exceptions -/
theorem run_kwS {pins : List (Addr × Obj)} {σ : L2.St} {H : Hp} {s : Shared} {Q : VK} {us ws : List Value} {vs zs : List V} (F : FnOk X.prog X.w X.K X.mg X.base CT k f fd ps sp) (room : Room k X.A) (bd : KBn X.K fd ps n ks g gV)
    (out : PassesAt CT X σ (ex σ)) (I : Inv X pins σ H s) (r1 : Vals vs us) (r2 : Vals zs ws) (l1 : vs.length = n) (l2 : zs.length = ks.length) (h : sp (gV vs zs) H Q (ex σ)) :
    wpAny (model X.prog X.w) X.A (call (.ref f) us (ks.zip ws)) (EP X pins σ Q) X.xe s := by
  have to := bd.to s us ws I.kIn (r1.length.symm.trans l1) (r2.length.symm.trans l2)
  have run := F.run X.A X.stack s H ⟨us, ks.zip ws⟩ (g us ws) (gV vs zs) Q (ex σ) room I.env0 to (bd.rel r1 r2) h
  refine wpAny_call (codeAny_mono run fun res s2 done => ?_)
  match res, done with
  | .error ev, done => exact out pins H s ev s2 I done
  | .ok (.ret u), done => exact I.after done
  | .ok .next, done => exact done.elim
  | .ok .brk, done => exact done.elim
  | .ok .cont, done => exact done.elim
/-- a class called with some arguments by keyword -/
theorem run_mkS {pins : List (Addr × Obj)} {σ : L2.St} {H : Hp} {s : Shared} {Q : VK} {us ws : List Value} {vs zs : List V} (M : Mk X.K C f) (F : FnOk X.prog X.w X.K X.mg X.base CT k f fd ps sp) (room : Room (k + 1) X.A) (bd : KBn X.K fd ps (n + 1) ks g gV)
    (out : PassesAt CT X σ (ex σ)) (I : Inv X pins σ H s) (r1 : Vals vs us) (r2 : Vals zs ws) (l1 : vs.length = n) (l2 : zs.length = ks.length)
    (h : ∀ b db, H b = none → H db = none → db ≠ b → sp (gV (.ref b :: vs) zs) (upd (upd H db (.own b)) b (.ins C db [])) (fun v H2 => v = .non ∧ Q (.ref b) H2) (ex σ)) :
    wpAny (model X.prog X.w) X.A (call (.ref C) us (ks.zip ws)) (EP X pins σ Q) X.xe s := by
  have new := h (s.heap.objs.size + 1) s.heap.objs.size (I.hok.fresh (Nat.le_succ _)) (I.hok.fresh (Nat.le_refl _)) (Nat.ne_of_lt (Nat.lt_succ_self _))
  have made := Inv.made (C := C) I
  have rs : Vals (V.ref (s.heap.objs.size + 1) :: vs) (Value.ref (s.heap.objs.size + 1) :: us) := .cons rfl r1
  have len : (Value.ref (s.heap.objs.size + 1) :: us).length = n + 1 := congrArg (· + 1) (r1.length.symm.trans l1)
  have to := bd.to _ (Value.ref (s.heap.objs.size + 1) :: us) ws made.kIn len (r2.length.symm.trans l2)
  have run := F.run _ X.stack _ _ ⟨Value.ref (s.heap.objs.size + 1) :: us, ks.zip ws⟩ (g (Value.ref (s.heap.objs.size + 1) :: us) ws) _ _ (ex σ) (room.make C us (ks.zip ws)) (made.env0.make C us (ks.zip ws)) to (bd.rel rs r2) new
  refine wpAny_call (make_map (f := f) I.kIn M.makes M.init (beq_iff_eq.mp M.fn) (codeAny_mono run fun res s2 done => ?_))
  match res, done with
  | .error ev, done => exact out pins _ _ ev s2 made done
  | .ok (.ret u), done =>
    obtain ⟨v, H2, I2, rel, ev, q⟩ := made.after done
    subst ev
    exact ⟨rel, V.ref (s.heap.objs.size + 1), H2, I2, rfl, q⟩
  | .ok .next, done => exact done.elim
  | .ok .brk, done => exact done.elim
  | .ok .cont, done => exact done.elim
/-- C(e, .., k = v, ..) -/
def tMkS (C : Addr) (n m : Nat) (sp : Sp) (gV : List V → List V → List V) (ex : L2.St → XK) (t tk : TA) : TE := fun σ H Q => t σ H fun vs H1 => tk σ H1 fun zs H2 => vs.length = n ∧ zs.length = m ∧
  ∀ b db, H2 b = none → H2 db = none → db ≠ b → sp (gV (.ref b :: vs) zs) (upd (upd H2 db (.own b)) b (.ins C db [])) (fun v H3 => v = .non ∧ Q (.ref b) H3) (ex σ)
theorem pe_mkS (M : Mk X.K C f) (F : FnOk X.prog X.w X.K X.mg X.base CT k f fd ps sp) (room : Room (k + 1) X.A) (hm : X.mg x = some (.ref C)) (bd : KBn X.K fd ps (n + 1) ks g gV) (out : ∀ σ, PassesAt CT X σ (ex σ)) (ha : PA X (e :: es) t) (hk : PK X kws tk)
    (hks : (backToKw pos (keywordEach kws X.env)).filterMap (·.1) = ks := by rfl) (hall : (backToKw pos (keywordEach kws X.env)).all (·.1.isSome) = true := by rfl) (hg : Gl X x := by rfl) (hd : (x == ("__debug__" : Str)) = false := by decide)
    (he : starEach (e :: es) X.env = (false, eval e X.env) :: starEach es X.env := by rfl) (hpl : ((backTo pos (starEach (e :: es) X.env)).any (·.1) || (backToKw pos (keywordEach kws X.env)).any (·.1.isNone)) = false := by rfl) :
    PE X (.Call (.Name x p) (e :: es) kws pos) (tMkS C n ks.length sp gV ex t tk) := by
  constructor
  intro pins s σ H Q I w
  refine wpAny_Call_Name_kw (ld_glob I hg hm ?_ hd)
  refine PySem.W.callWith_KW (h₀ := X.base) I.ok.mod.kin M.kp hall (thn (ha.run pos pins s σ H _ I w) fun us s1 z => ?_) hpl he
  obtain ⟨vs, H1, I1, r1, w1⟩ := z
  refine thn (hk.run pos pins s1 σ H1 _ I1 w1) fun ws s2 z => ?_
  obtain ⟨zs, H2, I2, r2, l1, l2, w2⟩ := z
  rw [hks]
  exact ⟨I2.kIn, run_mkS M F room bd (out σ) I2 r1 r2 l1 l2 w2⟩
/-- o.m(e, .., k = v, ..) -/
def tMethS (C : Addr) (m : Str) (n j : Nat) (sp : Sp) (gV : List V → List V → List V) (ex : L2.St → XK) (te : TE) (t tk : TA) : TE := fun σ H Q => te σ H fun y H1 => ∃ b db fs, y = .ref b ∧ H1 b = some (.ins C db fs) ∧ fs.lookup m = none ∧
  t σ H1 fun vs H2 => tk σ H2 fun zs H3 => vs.length = n ∧ zs.length = j ∧ sp (gV (.ref b :: vs) zs) H3 Q (ex σ)
theorem pe_methS {pl : Sem Bool} (ho : PE X o te) (c : Cls X.K C) (hm : Meth X.K C m f) (F : FnOk X.prog X.w X.K X.mg X.base CT k f fd ps sp) (room : Room k X.A) (bd : KBn X.K fd ps (n + 1) ks g gV) (out : ∀ σ, PassesAt CT X σ (ex σ)) (ha : PA X (e :: es) t) (hk : PK X kws tk)
    (hks : (backToKw pos (keywordEach kws X.env)).filterMap (·.1) = ks := by rfl) (hall : (backToKw pos (keywordEach kws X.env)).all (·.1.isSome) = true := by rfl)
    (he : starEach (e :: es) X.env = (false, eval e X.env) :: starEach es X.env := by rfl) (hpl : ((backTo pos (starEach (e :: es) X.env)).any (·.1) || (backToKw pos (keywordEach kws X.env)).any (·.1.isNone)) = false := by rfl)
    (hev : eval (.Call (.Attribute o m apos) (e :: es) kws pos) X.env = (do
      let ov ← eval o X.env
      standAt apos.atName
      let (f, first) ← holding [ov] (getMethod ov m pl)
      callWith pos f first (backTo pos (starEach (e :: es) X.env)) (backToKw pos (keywordEach kws X.env))) := by rfl) :
    PE X (.Call (.Attribute o m apos) (e :: es) kws pos) (tMethS C m n ks.length sp gV ex te t tk) := by
  constructor
  intro pins s σ H Q I w
  refine PySem.W.methodCall_KW (pl := pl) (thn (ho.run pins s σ H _ I w) fun u s1 z => ?_) hev
  obtain ⟨y, H1, I1, ry, b, db, fs, ey, hb, lk, w1⟩ := z
  subst ey
  obtain rfl : u = Value.ref b := ry
  refine getmeth_ok I1 hb c hm lk ?_
  refine PySem.W.callWith_KW (first := [.ref b]) (h₀ := X.base) I.ok.mod.kin hm.kp hall (thn (ha.run pos pins s1 σ H1 _ I1 w1) fun us s2 z => ?_) hpl he
  obtain ⟨vs, H2, I2, r1, w2⟩ := z
  refine thn (hk.run pos pins s2 σ H2 _ I2 w2) fun ws s3 z => ?_
  obtain ⟨zs, H3, I3, r2, l1, l2, w3⟩ := z
  rw [hks]
  exact ⟨I3.kIn, run_kwS (n := n + 1) (us := .ref b :: us) (vs := .ref b :: vs) F room bd (out σ) I3 (.cons rfl r1) r2 (congrArg (· + 1) l1) l2 w3⟩
/-! ### a static method of a class -/
/-- C.m is a staticmethod: its record at p, its def at f -/
structure SMet (K : PySem.W.Frag) (C : Addr) (mc : Value) (m : Str) (p f : Addr) : Prop where
  at_ : PySem.W.findCls K (.ref C) mc m = some (.get (.builtin "staticmethod.__get__") (.ref p) .none (.ref C))
  rc : ∃ rest, PySem.W.recIn K p "staticmethod" = some (.ref f :: rest)
  kp : PySem.W.keepIn K (.ref f) = true
/-- a def by its promise on positional values, exceptions as ex σ wishes -/
theorem run_rS {pins : List (Addr × Obj)} {σ : L2.St} {H : Hp} {s : Shared} {Q : VK} {us : List Value} {vs : List V} (F : FnR X.prog X.w X.K X.mg X.base CT k f sp) (room : Room k X.A) (out : PassesAt CT X σ (ex σ)) (I : Inv X pins σ H s) (r : Vals vs us) (h : sp vs H Q (ex σ)) :
    wpAny (model X.prog X.w) X.A (call (.ref f) us) (EP X pins σ Q) X.xe s := by
  refine wpAny_call (codeAny_mono (F X.A X.stack s H us vs Q (ex σ) room I.env0 r h) fun res s2 done => ?_)
  match res, done with
  | .error ev, done => exact out pins H s ev s2 I done
  | .ok (.ret u), done => exact I.after done
  | .ok .next, done => exact done.elim
  | .ok .brk, done => exact done.elim
  | .ok .cont, done => exact done.elim
/-- C.m(e, ..) of a staticmethod -/
def tSMeth (C : Addr) (sp : Sp) (ex : L2.St → XK) (te : TE) (t : TA) : TE := fun σ H Q => te σ H fun y H1 => y = .ref C ∧ t σ H1 fun vs H2 => sp vs H2 Q (ex σ)
theorem pe_smeth {pl : Sem Bool} {mc : Value} {q : Addr} (ho : PE X o te) (rd : ClX.CRead X.K C mc) (c : SMet X.K C mc m q f) (F : FnR X.prog X.w X.K X.mg X.base CT k f sp) (room : Room k X.A) (out : ∀ σ, PassesAt CT X σ (ex σ)) (ha : PA X (e :: es) t)
    (he : starEach (e :: es) X.env = (false, eval e X.env) :: starEach es X.env := by rfl) (hpl : (backTo pos (starEach es X.env)).any (·.1) = false := by rfl)
    (hev : eval (.Call (.Attribute o m apos) (e :: es) [] pos) X.env = (do
      let ov ← eval o X.env
      standAt apos.atName
      let (f, first) ← holding [ov] (getMethod ov m pl)
      callWith pos f first (backTo pos (starEach (e :: es) X.env)) (backToKw pos (keywordEach [] X.env))) := by rfl) :
    PE X (.Call (.Attribute o m apos) (e :: es) [] pos) (tSMeth C sp ex te t) := by
  constructor
  intro pins s σ H Q I w
  refine PySem.W.methodCall_KW (pl := pl) (thn (ho.run pins s σ H _ I w) fun u s1 z => ?_) hev
  obtain ⟨y, H1, I1, ry, ey, w1⟩ := z
  subst ey
  obtain rfl : u = Value.ref C := ry
  obtain ⟨rest, rec⟩ := c.rc
  refine PySem.W.method_cls I1.kIn rd.ga (PySem.W.cls_bind I1.kIn rd.rd c.at_ ?_)
  refine wpAny_call (PySem.W.sm_get (s := { s1 with toks := s1.toks + 1 }) I1.kIn rec (PySem.W.handed_on rfl ?_))
  have I2 : Inv X pins σ H1 { s1 with toks := s1.toks + 1 } := I1.tok _
  refine PySem.W.callWith_K (first := []) (h₀ := X.base) I.ok.mod.kin c.kp (thn (ha.run pos pins _ σ H1 _ I2 w1) fun us s3 z => ?_) he hpl
  obtain ⟨vs, H3, I3, r3, w3⟩ := z
  exact ⟨I3.kIn, run_rS F room (out σ) I3 r3 w3⟩
end
end SE
/-! Exceptions of own classes as values, below any built-in class, made by position or by keyword. -/
namespace PySem
namespace XV
open PySem.W PySem.Calls PyProof.Rows PySem.HandSPX
open Builtin Builtin.ObjectAttr
/-- what lies behind an own class: the maker and the built-in classes -/
structure Tail (newId : String) (bm : List Value) : Prop where
  maker : ∃ B initId bmB, ExcBaseFacts B newId initId bmB ∧ bm.contains (.type B) = true
  nA : bm.contains (.type "AttributeError") = false
  nN : bm.contains (.type "NameError") = false
  ob : bm.contains (.type "object") = true
  ps : ∀ self : Value, refuseLoop self "__setattr__" bm = pure ()
section
variable {M : Model} {A : Around} {E : Value → Shared → Prop} {h : Heap} {g : Array GenState} {d : Drawn} {t : Nat} {os : OsState}
variable {nm q : Str} {C N : Addr} {bs bm bmB : List Value} {hdct : Bool} {sn : List Str} {sub : List Value} {ab : Bool} {col : Option Bool} {dd : Option Addr} {k0 k1 k2 k3 k5 : Option Value} {B newId initId : String}
theorem chk_new (F : ExcBaseFacts B newId initId bmB) (hB : bm.contains (.type B) = true) {rest : List Value} {kw : List (Str × Value)} {Q : Unit → Shared → Prop}
    (hC : h.get? C = some (excClassObj nm q C N bs bm hdct sn sub ab col dd k0 k1 k2 k3 k5 newId)) (hq : Q () ⟨h, g, d, t, os⟩) : wpAny M A (checkBuiltinCall newId ⟨.ref C :: rest, kw⟩) Q E ⟨h, g, d, t, os⟩ := by
  have hcont : (Value.ref C :: bm).contains (.type B) = true := by rw [List.contains_cons, hB, Bool.or_true]
  have hstar := F.noStar
  simp only [checkBuiltinCall, F.newKind, F.newSplit, F.newRow]
  repeat (first | refine wpAny_loadPart_at hC ?_ | (refine wpAny_isSubtype_exc hC ?_; rw [hcont]) | refine wpAny_staticBase_exc hC ?_ | refine wpAny_madeBy_exc hC ?_ | simp only [bne_self_eq_false, Bool.false_eq_true, if_false] | wp_step)
  exact hq
theorem typ_call (hC : h.get? C = some (excClassObj nm q C N bs bm hdct sn sub ab col dd k0 k1 k2 k3 k5 newId)) : W.Looks M h (isInstance (.ref C) (.type "type")) true := by
  have L : W.Looks M h (typeOf (.ref C)) (.type "type") := (W.Looks.ld hC).andThen .now
  exact L.andThen (W.Looks.of_pure tc_sub)
theorem chk_call {rest : List Value} {kw : List (Str × Value)} {Q : Unit → Shared → Prop} (hC : h.get? C = some (excClassObj nm q C N bs bm hdct sn sub ab col dd k0 k1 k2 k3 k5 newId))
    (hq : Q () ⟨h, g, d, t, os⟩) : wpAny M A (checkBuiltinCall "type.__call__" ⟨.ref C :: rest, kw⟩) Q E ⟨h, g, d, t, os⟩ :=
  @W.check_slot M _ _ ⟨h, g, d, t, os⟩ "type.__call__" "type" "__call__" (.ref C) rest kw _ tc_kind tc_split (typ_call hC) (tc_args _ _ _) hq
end
section
variable {prog : Program} {w : World} {A : Around} {E : Value → Shared → Prop} {R : Result → Shared → Prop} {h : Heap} {g : Array GenState} {d : Drawn} {t : Nat} {os : OsState}
variable {nm q : Str} {C N : Addr} {bs bm : List Value} {hdct : Bool} {sn : List Str} {sub : List Value} {ab : Bool} {col : Option Bool} {dd : Option Addr} {k0 k1 k2 k3 k5 : Option Value} {newId : String}
theorem new_ex (T : Tail newId bm) {rest : List Value} {kw : List (Str × Value)} (hC : h.get? C = some (excClassObj nm q C N bs bm hdct sn sub ab col dd k0 k1 k2 k3 k5 newId))
    (hq : R (.ok (.ret (.ref (h.objs.size + 1)))) ⟨(h.push (W.kdv_tup rest)).push (excO C h.objs.size), g, d, t, os⟩) (hrest : rest.length ≤ sizeLine) :
    codeAny (model prog w) A (.builtin newId ⟨.ref C :: rest, kw⟩) R ⟨h, g, d, t, os⟩ := by
  obtain ⟨B, initId, bmB, F, hB⟩ := T.maker
  have hends := F.ends
  have hcB : (Value.ref C :: bm).contains (.type B) = true := by rw [List.contains_cons, hB, Bool.or_true]
  have hcA : (Value.ref C :: bm).contains (.type "AttributeError") = false := by rw [List.contains_cons, T.nA]; rfl
  have hcN : (Value.ref C :: bm).contains (.type "NameError") = false := by rw [List.contains_cons, T.nN]; rfl
  refine codeAny_builtinAt F.entry ?_
  unfold Builtin.«BaseException.__new__»
  refine wpAt_bind ?_
  show wpAt _ _ _ (stack >>= _) _ _ _
  refine wpAt_bind (wpAt_stack fun p below => wpAt_of_wpAny ?_)
  wp_walk
  refine wpAt_of_wpAny ?_
  rw [F.owner]
  repeat (first | with_reducible refine wpAny_madeHere_exc F.canon hC ?_ | with_reducible refine wpAny_loadPart_at hC ?_ | (with_reducible refine wpAny_isSubtype_exc hC ?_; first | rw [hcB] | rw [hcA] | rw [hcN]) | wp_step)
  show R _ _
  rw [Heap.size_push]
  exact hq
theorem tcall (T : Tail newId bm) {rest : List Value} {kw : List (Str × Value)} {fI : Addr} {Q : Fin → Shared → Prop} (hC : h.get? C = some (excClassObj nm q C N bs bm hdct sn sub ab col dd k0 k1 k2 k3 k5 newId))
    (hi : W.Looks (model prog w) h (typeLookup (.ref C) "__init__") (some (.ref fI))) (hb : ∀ self, W.Looks (model prog w) h (bindSpecial (.ref fI) self) (.ref fI, [self])) (hrest : rest.length ≤ sizeLine)
    (hq : codeAny (model prog w) A (.call (.ref fI) ⟨.ref (h.objs.size + 1) :: rest, kw⟩)
      (fun r s' => match r with | .ok (.ret v) => v = .none ∧ Q (.done (.ret (.ref (h.objs.size + 1)))) s' | .ok _ => False | .error e => E e s')
      ⟨(h.push (W.kdv_tup rest)).push (excO C h.objs.size), g, d, t, os⟩) :
    wpAny (model prog w) A (Builtin.«type.__call__» ⟨.ref C :: rest, kw⟩) Q E ⟨h, g, d, t, os⟩ := by
  obtain ⟨B, initId, bmB, F, hB⟩ := T.maker
  repeat (first | with_reducible refine wpAny_loadPart_at hC ?_ | with_reducible refine wpAny_madeBy_exc hC ?_ | wp_step)
  refine codeAny_call_builtin_code (Code.quiet_builtin _ F.quiet) (chk_new F hB hC ?_)
  refine new_ex T hC ?_ hrest
  show wpAny _ _ _ _ _ _
  have k : ∀ b o, h.get? b = some o → ((h.push (W.kdv_tup rest)).push (excO C h.objs.size)).get? b = some o := fun b o e => Heap.get?_push_of_some _ (Heap.get?_push_of_some _ e)
  have hC₁ := k _ _ hC
  have hget : ((h.push (W.kdv_tup rest)).push (excO C h.objs.size)).get? (h.objs.size + 1) = some (excO C h.objs.size) := by heap_get
  have hcC : (Value.ref C :: bm).contains (.ref C) = true := by simp
  have i1 := hi.keeps k
  have b1 := (hb (.ref (h.objs.size + 1))).keeps k
  unfold isInstance
  repeat (first | with_reducible refine wpAny_loadPart_at hget ?_ | (with_reducible refine wpAny_isSubtype_exc hC₁ ?_; rw [hcC]) | wp_step)
  show wpAny _ _ (typeLookup (.ref C) _) _ _ _
  refine i1.at ?_
  refine wpAny_holding (wpAny_bind (b1.at ?_))
  refine wpAny_bind (wpAny_call (codeAny_mono hq fun r s' z => ?_))
  rcases r with e | (v | _ | _ | _) <;> first | exact z | exact z.elim | skip
  obtain ⟨rfl, z⟩ := z
  first
    | exact wpAny_pure (wpAny_pure z)
    | (wp_walk; exact z)
theorem call_ex (T : Tail newId bm) {rest : List Value} {kw : List (Str × Value)} {fI : Addr} (hC : h.get? C = some (excClassObj nm q C N bs bm hdct sn sub ab col dd k0 k1 k2 k3 k5 newId))
    (hi : W.Looks (model prog w) h (typeLookup (.ref C) "__init__") (some (.ref fI))) (hb : ∀ self, W.Looks (model prog w) h (bindSpecial (.ref fI) self) (.ref fI, [self])) (hrest : rest.length ≤ sizeLine)
    (hq : codeAny (model prog w) (A.under (.builtin "type.__call__" ⟨.ref C :: rest, kw⟩)) (.call (.ref fI) ⟨.ref (h.objs.size + 1) :: rest, kw⟩) (W.InitBack (h.objs.size + 1) R)
      ⟨(h.push (W.kdv_tup rest)).push (excO C h.objs.size), g, d, t, os⟩) :
    codeAny (model prog w) A (.call (.ref C) ⟨rest, kw⟩) R ⟨h, g, d, t, os⟩ := by
  have f1 := tc_lookup
  have f2 := tc_bind (.ref C)
  have hTy : (⟨h, g, d, t, os⟩ : Shared).TypeIs (.ref C) "type" := ⟨_, hC, rfl⟩
  refine codeAny_of_tree ?_
  show wpAny _ _ (callAny (.ref C) _) _ _ _
  repeat (any_goals (first | assumption | with_reducible refine wpAny_loadPart_at hC ?_ | wp_step))
  refine ⟨rfl, ?_⟩
  refine codeAny_call_builtin_at (Code.quiet_builtin _ (by decide +kernel)) entry_typeCall (chk_call hC (tcall T hC hi hb hrest ?_))
  refine codeAny_mono hq fun r s' z => ?_
  rcases r with e | (v | _ | _ | _) <;> exact z
/-- self.name = v, the first one -/
theorem put_ex {K : W.Frag} {name : Str} {tk : Tok} {v : Value} {x C : Addr} {fv : Array Value} {cd : ClassData}
    (X : K.In h) (hx : h.get? x = some { cls := .ref C, data := .fields fv }) (hcd : W.clsIn K C = some cd) (ne : cd.mro.isEmpty = false) (hob : cd.mro.contains (.type "object") = true) (pass : ∀ self : Value, refuseLoop self "__setattr__" cd.mro = pure ()) (hh : cd.hasDict = true) (ha : W.findIn K (.ref C) name = some none)
    (hq : ∀ h' tk' dx, (∀ b o, b ≠ x → h.get? b = some o → h'.get? b = some o) → h.objs.size ≤ dx → dx ≠ x → h'.get? x = some { cls := .ref C, dict := some dx, data := .fields fv } →
      h'.Ns1 dx (fun y => if y = name then some v else none) → R (.ok (.ret .none)) ⟨h', g, d, tk', os⟩) :
    codeAny (model prog w) A (.call (.builtin "object.__setattr__") ⟨[.ref x, .str name tk, v], []⟩) R ⟨h, g, d, t, os⟩ := by
  have I : W.InstAt h x { cls := .ref C, data := .fields fv } C none := ⟨hx, rfl, rfl, trivial⟩
  have SF := F.store_object
  have hxs : x ≠ h.objs.size := Nat.ne_of_lt (Heap.lt_size hx)
  have sub : W.Looks (model prog w) h (isInstance (.ref x) (.type "object")) true := I.type.andThen (W.looks_mroIn X (by unfold W.mroIn; rw [hcd, Option.bind_some, if_neg (by rw [ne]; decide), hob]))
  refine codeAny_call_builtin SF.slot.plain SF.entry (@W.check_slot (model prog w) _ _ ⟨h, g, d, t, os⟩ "object.__setattr__" "object" "__setattr__" (.ref x) [.str name tk, v] [] _ SF.kind SF.split sub (SF.args (.ref x) (.str name tk) v) ?_)
  have hmr : W.Looks (model prog w) h (mroOf (.ref C)) cd.mro := (W.looks_clsIn X hcd).andThen .now
  have L3 : W.Looks (model prog w) h (storeTaker? none) none := .now
  have hcls : W.Looks (model prog w) h (classData C) cd := W.looks_clsIn X hcd
  rw [W.osa_eq, refuse_eq]
  refine wpAny_bind (wpAny_bind (I.type.at (wpAny_bind (hmr.at ?_))))
  rw [pass]
  refine wpAny_pure (wpAny_bind (I.type.at (wpAny_bind ((W.looks_findIn X ha).at (wpAny_bind (L3.at ?_))))))
  show wpAny _ _ (storeInOwnDict (.ref x) (.ref C) (.str name tk) name v false) _ _ _
  obtain ⟨nm, bs, mro, ns, qn, hd, sn, sb, ab, col, del⟩ := cd
  dsimp only at hh
  subst hh
  unfold storeInOwnDict ownDictForStores
  repeat (first | with_reducible refine store_in_new ?_ ?_ | with_reducible refine wpAny_loadPart_at hx ?_ | with_reducible refine hcls.at ?_ | wp_step)
  · exact ⟨_, #[], _, (Heap.get?_update_ne _ _ _ _ hxs.symm).trans (Heap.get?_push_at rfl rfl), rfl, fun e he => absurd he (by simp), fun _ => rfl⟩
  · intro h' tk' hn' hs
    have hx₁ : (h.push { cls := .type "dict", data := .dict #[] }).get? x = some { cls := .ref C, data := .fields fv } := Heap.get?_push_of_some _ hx
    refine hq h' tk' h.objs.size (fun b o hb ho => ?_) (Nat.le_refl _) hxs.symm ?_ hn'
    · exact (hs.2 b (Nat.ne_of_lt (Heap.lt_size ho))).trans ((Heap.get?_update_ne _ _ _ _ hb).trans (Heap.get?_push_of_some _ ho))
    · exact (hs.2 x hxs).trans (Heap.get?_update_self _ hx₁ rfl)
end
end XV
end PySem

namespace SE
open PySem PySem.Spec PyProof.Rows L2
/-- what the written part says of a class of exceptions -/
structure OexV (K : PySem.W.Frag) (C : Addr) : Prop where
  cls : ∃ nm q N bs bm sn sub ab col dd k0 k1 k2 k3 k5 newId, K.lookup C = some (excClassObj nm q C N bs bm true sn sub ab col dd k0 k1 k2 k3 k5 newId) ∧ XV.Tail newId bm
  sa : PySem.W.findIn K (.ref C) "__setattr__" = some (some (.builtin "object.__setattr__"))
  kC : PySem.W.keepIn K (.ref C) = true
theorem tail_VE {bm : List Value} (h : PySem.HandSPX.refsVE bm = true) : XV.Tail "ValueError.__new__" bm :=
  ⟨⟨_, _, _, F.excBase_ValueError, by rw [PySem.HandSPX.refsVE_contains _ _ h]; decide +kernel⟩, by rw [PySem.HandSPX.refsVE_contains _ _ h]; decide +kernel, by rw [PySem.HandSPX.refsVE_contains _ _ h]; decide +kernel,
    by rw [PySem.HandSPX.refsVE_contains _ _ h]; decide +kernel, fun self => PySem.HandSPX.refsVE_pass self _ h⟩
theorem tail_LE : XV.Tail "LookupError.__new__" [.type "LookupError", .type "Exception", .type "BaseException", .type "object"] := ⟨⟨_, _, _, F.excBase_LookupError, by decide +kernel⟩, by decide +kernel, by decide +kernel, by decide +kernel, fun self => F.store_LookupError.passes self⟩
theorem tail_RE : XV.Tail "RuntimeError.__new__" [.type "RuntimeError", .type "Exception", .type "BaseException", .type "object"] := ⟨⟨_, _, _, F.excBase_RuntimeError, by decide +kernel⟩, by decide +kernel, by decide +kernel, by decide +kernel, fun self => F.store_RuntimeError.passes self⟩
theorem tail_OE : XV.Tail "OverflowError.__new__" [.type "OverflowError", .type "ArithmeticError", .type "Exception", .type "BaseException", .type "object"] := ⟨⟨_, _, _, F.excBase_OverflowError, by decide +kernel⟩, by decide +kernel, by decide +kernel, by decide +kernel, fun self => F.store_OverflowError.passes self⟩
theorem tail_KE : XV.Tail "LookupError.__new__" [.type "KeyError", .type "LookupError", .type "Exception", .type "BaseException", .type "object"] := ⟨⟨_, _, _, F.excBase_LookupError, by decide +kernel⟩, by decide +kernel, by decide +kernel, by decide +kernel, fun self => by kernel_rfl⟩
section
variable {X : Cx} {pins : List (Addr × Obj)} {σ : L2.St} {H : Hp} {s : Shared} {a C dx : Addr} {f : Str} {y : V} {u : Value} {fs : List (Str × V)} {Q : Unit → Shared → Prop} {E : Value → Shared → Prop} {A : Around}
theorem ost_newV (T : OexV X.K C) (I : Inv X pins σ H s) (e : H a = some (exo a C none)) (hno : PySem.W.findIn X.K (.ref C) f = some none) (ry : RelV y u)
    (h : ∀ dx s', H dx = none → dx ≠ a → Inv X pins σ (upd (upd H dx (exd dx [(f, y)])) a (exo a C (some dx))) s' → Q () s') : wpAny (model X.prog X.w) A (setAttr (.ref a) f u) Q E s := by
  obtain ⟨nm, q, N, bs, bm, sn, sub, ab, col, dd, k0, k1, k2, k3, k5, newId, hC, hT⟩ := T.cls
  have hcl : PySem.W.clsIn X.K C = some { name := nm, bases := bs, mro := .ref C :: bm, ns := N, qualname := q, hasDict := true, slotNames := sn, subclasses := sub, abstract := ab, collection := col, hasDel := false } := by unfold PySem.W.clsIn; rw [hC] <;> rfl
  obtain ⟨t1, ho⟩ := exo_at I.hok e
  obtain ⟨hp, g, d, t, os⟩ := s
  refine PySem.W.set_plain I.kIn (ox := { cls := .ref C, dict := none, data := .fields #[.ref t1, .none, .none, .none, .bool false, .none] }) (od := none) ⟨ho, rfl, rfl, trivial⟩ T.sa ?_
  refine PySem.XV.put_ex I.kIn ho hcl rfl (by show List.contains (Value.ref C :: bm) _ = true; rw [List.contains_cons, hT.ob, Bool.or_true]) (fun self => by rw [refuseLoop_ref]; exact hT.ps self) rfl hno (fun h' tk' dx k dn dne hx hn => ?_)
  have hnd : H dx = none := I.hok.fresh dn
  have nd : ∀ {b : Addr} {o : Obj}, hp.get? b = some o → b ≠ dx := fun {b o} q => Nat.ne_of_lt (Nat.lt_of_lt_of_le (Heap.lt_size q) dn)
  have na : ∀ {b : Addr}, H b = none → b ≠ a := fun {b} n z => by
    rw [z, e] at n
    cases n
  have Un1 : Un X.fs [] H (upd (upd H dx (exd dx [(f, y)])) a (exo a C (some dx))) hp h' := {
    keep := fun b o q n _ _ => k b o (na n) q
    slot := fun b o q n _ _ => ⟨o.slots, k b o (na n) q⟩
    free := fun b o q n _ => by rw [upd_ne (na n), upd_ne (nd q)]; exact n
    there := fun b o q _ => by
      by_cases hb : b = a
      · exact ⟨_, by rw [hb]; exact hx⟩
      · exact ⟨o, k b o hb q⟩
    tups := fun b xs q => by rw [upd_ne (at_ne e q exo_tup), upd_ne (ne_of_none q hnd)]; exact q
    frzs := fun b o v q => by rw [upd_ne (at_ne e q exo_frz), upd_ne (ne_of_none q hnd)]; exact q
    tbls := fun b ps q => ⟨#[], by rw [upd_ne (at_ne e q exo_tbl), upd_ne (ne_of_none q hnd), q]; simp⟩ }
  refine h dx _ hnd dne (I.un (t' := tk') Un1 fun b o q => ?_)
  by_cases hb : b = a
  · subst hb
    rw [upd_same] at q
    cases q
    exact exo_ok hx
  · rw [upd_ne hb] at q
    by_cases hd : b = dx
    · subst hd
      rw [upd_same] at q
      cases q
      exact exd_ok hn (relO_put (fs := []) ry fun g => True.intro)
    · rw [upd_ne hd] at q
      exact (I.hok b o q).stay (fun c v hc z => k c v (by
          rcases hc with hc | hc
          · rw [hc]
            exact hb
          · exact at_ne e hc exo_own) z)
        (fun c hc => by rw [upd_ne (at_ne e hc exo_own), upd_ne (ne_of_none hc hnd)]; exact hc) (fun c xs hc => by rw [upd_ne (at_ne e hc exo_tup), upd_ne (ne_of_none hc hnd)]; exact hc)
def tOstV (K : PySem.W.Frag) (f : Str) (to te : TE) : TS := fun D σ H => te σ H fun y H1 => to σ H1 fun x H2 => ∃ a C : Addr, x = .ref a ∧ OexV K C ∧ PySem.W.findIn K (.ref C) f = some none ∧
  H2 a = some (exo a C none) ∧ ∀ dx, H2 dx = none → dx ≠ a → D.nx σ (upd (upd H2 dx (exd dx [(f, y)])) a (exo a C (some dx)))
theorem ps_ostV {o e : Expr} {to te : TE} {p' pos : Pos} (ho : PE X o to) (he : PE X e te) (hs : swapsWith e (some (.Attribute o f p')) pos.line X.env = pure false := by rfl) : PS X (.Assign [.Attribute o f p'] e pos) (tOstV X.K f to te) := by
  refine ⟨fun pins s σ H D I h => ?_⟩
  refine plainObj_wpAny_Assign_Attribute (thn (he.run pins s σ H _ I h) fun v s1 ⟨y, H1, I1, r1, q1⟩ => thn (ho.run pins s1 σ H1 _ I1 q1) fun u s2 ⟨x, H2, I2, r2, a, C, ex, T, hno, ea, q⟩ => ?_) hs
  subst ex
  obtain rfl : u = Value.ref a := r2
  exact ost_newV T I2 ea hno r1 fun dx s' n ne J => ⟨σ, _, J, q dx n ne⟩
end
theorem init_okV {P : Program} {w : World} {K : PySem.W.Frag} {mg : Str → Option Value} {base : Heap} {q f : Str} {C : Addr} {st : Stmt} {fI : Addr} {fd : FuncData} {p1 p2 p3 p4 : Pos} (F : Fun K "__init__" q st fI fd) (S : FnScope ["self", f] ["self", f] (defScope st)) (T : OexV K C) (noF : PySem.W.findIn K (.ref C) f = some none)
    (hb : defBody st = [.Assign [.Attribute (.Name "self" p1) f p2] (.Name f p3) p4])
    (v0 : Vis (defScope st) "self") (v1 : Vis (defScope st) f) (hdb : (f == ("__debug__" : Str)) = false) (hcd : (f == ("__classdict__" : Str)) = false) : FnOk P w K mg base CX0 1 fI fd ["self", f] (spXI K C f) := by
  refine F.ok S (fun xs H Q E h => ?_) (fun cv A out s H xs Q E hr h => ?_)
  · obtain ⟨a, v, rfl, _⟩ := h
    rfl
  · obtain ⟨a, v, rfl, ha, k⟩ := h
    rw [hb]
    refine ⟨_, pss_one (ps_ostV (pe_var (i := 0) rfl v0) (pe_var (i := 1) rfl v1 (hd := hdb) (hcd := hcd))), ?_⟩
    exact ⟨_, rfl, _, rfl, a, C, rfl, T, noF, ha, fun dx nd ne => k dx nd ne⟩
/-- the class x at C stands under its name; its __init__ (q) sets f; bm: what its mro holds behind it -/
structure XvC (P : Program) (w : World) (K : PySem.W.Frag) (mg : Str → Option Value) (base : Heap) (x q f : Str) (C : Addr) (bm : List Value) : Prop where
  oex : OexV K C
  gC : mg x = some (.ref C)
  init : ∃ (fI : Addr) (fd : FuncData) (st : Stmt), PySem.W.findIn K (.ref C) "__init__" = some (some (.ref fI)) ∧ PySem.W.typeIn K (.ref fI) = some (.type "function") ∧ FnOk P w K mg base CX0 1 fI fd ["self", f] (spXI K C f) ∧ (∃ g, KBn K fd ["self", f] 2 [] g (fun vs _ => vs)) ∧ (∃ g, KBn K fd ["self", f] 1 [f] g (fun vs zs => vs ++ zs)) ∧ Fun K "__init__" q st fI fd
  xf : XfC K C
  noF : PySem.W.findIn K (.ref C) f = some none
  ha : PySem.W.findIn K (.ref C) "__class__" = some (some (.builtin "object.__class__"))
  mr : ∃ cd, PySem.W.clsIn K C = some cd ∧ cd.mro = .ref C :: bm
  tC : PySem.W.typeIn K (.ref C) = some (.type "type")
theorem sub_mr {K : PySem.W.Frag} {C : Addr} {bm : List Value} (h : ∃ cd, PySem.W.clsIn K C = some cd ∧ cd.mro = .ref C :: bm) (b : Value) : PySem.W.subIn K (.ref C) b = some ((Value.ref C :: bm).contains b) := by
  obtain ⟨cd, h1, h2⟩ := h
  show PySem.W.mroIn K C b = _
  unfold PySem.W.mroIn
  rw [h1, Option.bind_some, h2]
  rfl
theorem xv_mk {P : Program} {w : World} {K : PySem.W.Frag} {mg : Str → Option Value} {base : Heap} {x q f : Str} {C : Addr} {st : Stmt} {fI : Addr} {fd : FuncData} {p1 p2 p3 p4 : Pos} {nm qn : Str} {N : Addr} {bs bm : List Value} {sn : List Str} {sub : List Value} {ab : Bool} {col : Option Bool} {dd : Option Addr} {k0 k1 k2 k3 k5 : Option Value} {newId : String}
    (gC : mg x = some (.ref C)) (xl : K.lookup C = some (excClassObj nm qn C N bs bm true sn sub ab col dd k0 k1 k2 k3 k5 newId)) (T : XV.Tail newId bm) (hB : bm.contains (.type "BaseException") = true)
    (sa : PySem.W.findIn K (.ref C) "__setattr__" = some (some (.builtin "object.__setattr__"))) (ga : PySem.W.findIn K (.ref C) "__getattribute__" = some (some (.builtin "BaseException.__getattribute__"))) (gg : PySem.W.findIn K (.ref C) "__getattr__" = some none)
    (nf : PySem.W.findIn K (.ref C) f = some none) (ii : PySem.W.findIn K (.ref C) "__init__" = some (some (.ref fI))) (ti : PySem.W.typeIn K (.ref fI) = some (.type "function")) (kC : PySem.W.keepIn K (.ref C) = true) (cc : PySem.W.findIn K (.ref C) "__class__" = some (some (.builtin "object.__class__")))
    (F : Fun K "__init__" q st fI fd) (S : FnScope ["self", f] ["self", f] (defScope st)) (hb : defBody st = [.Assign [.Attribute (.Name "self" p1) f p2] (.Name f p3) p4])
    (v0 : Vis (defScope st) "self") (v1 : Vis (defScope st) f) (hdb : (f == ("__debug__" : Str)) = false) (hcd : (f == ("__classdict__" : Str)) = false)
    (b1 : ∀ (kV doc pm : Value) (an : Option Addr) (cv ct : Value) (us ws : List Value), us.length = 2 → ws.length = ([] : List Str).length → bindArgs (PySem.W.fnOf "__init__" q (defArgs st) (defBody st) (defScope st) .none kV doc pm an cv ct) ⟨us, ([] : List Str).zip ws⟩ = pure (([("self" : Str), f] : List Str).zip us))
    (b2 : ∀ (kV doc pm : Value) (an : Option Addr) (cv ct : Value) (us ws : List Value), us.length = 1 → ws.length = [f].length → bindArgs (PySem.W.fnOf "__init__" q (defArgs st) (defBody st) (defScope st) .none kV doc pm an cv ct) ⟨us, [f].zip ws⟩ = pure (([("self" : Str), f] : List Str).zip (us ++ ws))) :
    XvC P w K mg base x q f C bm := by
  have hcl : PySem.W.clsIn K C = some { name := nm, bases := bs, mro := .ref C :: bm, ns := N, qualname := qn, hasDict := true, slotNames := sn, subclasses := sub, abstract := ab, collection := col, hasDel := false } := by unfold PySem.W.clsIn; rw [xl] <;> rfl
  have mr : ∃ cd, PySem.W.clsIn K C = some cd ∧ cd.mro = .ref C :: bm := ⟨_, hcl, rfl⟩
  have oe : OexV K C := ⟨⟨_, _, _, _, _, _, _, _, _, _, _, _, _, _, _, _, xl, T⟩, sa, kC⟩
  have hd : PySem.W.hasDictIn K C = true := by
    unfold PySem.W.hasDictIn
    rw [hcl]
    rfl
  refine ⟨oe, gC, ⟨fI, fd, st, ii, ti, init_okV F S oe nf hb v0 v1 hdb hcd, ⟨_, kb_all F 2 [] (fun us _ => us) (fun r _ => r) b1⟩, ⟨_, kb_all F 1 [f] (fun us ws => us ++ ws) (fun r z => r.append z) b2⟩, F⟩,
    ⟨ga, gg, ?_, hd⟩, nf, cc, mr, ?_⟩
  · rw [sub_mr mr, List.contains_cons, hB, Bool.or_true]
  · show (K.lookup C).map (·.cls) = _
    rw [xl]
    rfl
theorem XvC.ne {P : Program} {w : World} {K : PySem.W.Frag} {mg : Str → Option Value} {base : Heap} {x x2 q q2 f f2 : Str} {C C2 : Addr} {bm bm2 : List Value} (h : XvC P w K mg base x q f C bm) (h2 : XvC P w K mg base x2 q2 f2 C2 bm2) (hq : q ≠ q2) : C ≠ C2 := fun e => by
  subst e
  obtain ⟨fI, fd, st, i1, _, _, _, _, F⟩ := h.init
  obtain ⟨fI2, fd2, st2, i2, _, _, _, _, F2⟩ := h2.init
  rw [i1] at i2
  cases i2
  obtain ⟨_, _, _, _, _, _, _, _, _, _, l1, _⟩ := F.ex
  obtain ⟨_, _, _, _, _, _, _, _, _, _, l2, _⟩ := F2.ex
  obtain ⟨oc, od, kV, doc, pm, an, cv, ct, osl, e1, l1, _⟩ := F.ex
  obtain ⟨oc2, od2, kV2, doc2, pm2, an2, cv2, ct2, osl2, e2, l2, _⟩ := F2.ex
  rw [l1] at l2
  cases e1
  cases e2
  have := Option.some.inj l2
  injection this with _ _ z _
  injection z with z
  injection z with _ z
  exact hq z
/-- an exception of the class at C whose field f is v -/
def ExH (H : Hp) (C : Addr) (f : Str) (v : V) (a : Addr) : Prop := ∃ d, H a = some (exo a C (some d)) ∧ H d = some (exd d [(f, v)])
theorem ExH.same {H H' : Hp} {C : Addr} {f : Str} {v : V} {a : Addr} (s : Same H H') (h : ExH H C f v a) : ExH H' C f v a := by
  obtain ⟨d, h1, h2⟩ := h
  exact ⟨d, s _ _ h1, s _ _ h2⟩
section
variable {X : Cx} {pins : List (Addr × Obj)} {σ : L2.St} {H : Hp} {s : Shared} {C fI : Addr} {fd : FuncData} {f x : Str} {g : List Value → List Value → List Value} {gV : List V → List V → List V} {Q : VK} {n : Nat} {ks : List Str}
theorem run_mkV {us ws : List Value} {vs zs : List V} (T : OexV X.K C) (iC : PySem.W.findIn X.K (.ref C) "__init__" = some (some (.ref fI))) (tI : PySem.W.typeIn X.K (.ref fI) = some (.type "function"))
    (F : FnOk X.prog X.w X.K X.mg X.base CX0 1 fI fd ["self", f] (spXI X.K C f)) (room : Room 2 X.A) (bd : KBn X.K fd ["self", f] (n + 1) ks g gV) (I : Inv X pins σ H s) (r1 : Vals vs us) (r2 : Vals zs ws) (l1 : vs.length = n) (l2 : zs.length = ks.length) (hz : n ≤ 1000)
    (h : ∀ a, H a = none → spXI X.K C f (gV (.ref a :: vs) zs) (upd H a (exo a C none)) (fun v H2 => v = .non ∧ Q (.ref a) H2) E0) :
    wpAny (model X.prog X.w) X.A (call (.ref C) us (ks.zip ws)) (EP X pins σ Q) X.xe s := by
  obtain ⟨nm, q, N, bs, bm, sn, sub, ab, col, dd, k0, k1, k2, k3, k5, newId, hC, hT⟩ := T.cls
  obtain ⟨hp, gg, dr, tk, os⟩ := s
  have hsz : hp.objs.size ≤ hp.objs.size + 1 := Nat.le_succ _
  have hn : H (hp.objs.size + 1) = none := I.hok.fresh hsz
  have hq := h (hp.objs.size + 1) hn
  have kk : ∀ b o, hp.get? b = some o → ((hp.push (PySem.W.kdv_tup us)).push (PySem.HandSPX.excO C hp.objs.size)).get? b = some o := fun b o e => Heap.get?_push_of_some _ (Heap.get?_push_of_some _ e)
  have hget : ((hp.push (PySem.W.kdv_tup us)).push (PySem.HandSPX.excO C hp.objs.size)).get? (hp.objs.size + 1) = some (PySem.HandSPX.excO C hp.objs.size) := by heap_get
  have made : Inv X pins σ (upd H (hp.objs.size + 1) (exo (hp.objs.size + 1) C none)) ⟨(hp.push (PySem.W.kdv_tup us)).push (PySem.HandSPX.excO C hp.objs.size), gg, dr, tk, os⟩ :=
    I.laid (t' := tk) (a := hp.objs.size + 1) (o := exo (hp.objs.size + 1) C none) (h' := (hp.push (PySem.W.kdv_tup us)).push (PySem.HandSPX.excO C hp.objs.size)) kk hsz (exo_ok hget)
  have rs : Vals (V.ref (hp.objs.size + 1) :: vs) (Value.ref (hp.objs.size + 1) :: us) := .cons rfl r1
  have len : (Value.ref (hp.objs.size + 1) :: us).length = n + 1 := congrArg (· + 1) (r1.length.symm.trans l1)
  have to := bd.to _ (Value.ref (hp.objs.size + 1) :: us) ws made.kIn len (r2.length.symm.trans l2)
  have run := F.run _ X.stack _ _ ⟨Value.ref (hp.objs.size + 1) :: us, ks.zip ws⟩ (g (Value.ref (hp.objs.size + 1) :: us) ws) _ _ E0 (room.make C us (ks.zip ws)) (made.env0.make C us (ks.zip ws)) to (bd.rel rs r2) hq
  have hus : us.length ≤ sizeLine := by
    rw [← r1.length, l1, sizeLine_eq]
    omega
  refine wpAny_call (PySem.XV.call_ex hT (I.kIn _ _ hC) (PySem.W.looks_findIn I.kIn iC) (fun self => PySem.W.bind_fn I.kIn self tI) hus (codeAny_mono run fun res s2 done => ?_))
  match res, done with
  | .error ev, done => exact done.elim
  | .ok (.ret u), done =>
    obtain ⟨v, H2, I2, rel, ev, q⟩ := made.after done
    subst ev
    exact ⟨rel, V.ref (hp.objs.size + 1), H2, I2, rfl, q⟩
  | .ok .next, done => exact done.elim
  | .ok .brk, done => exact done.elim
  | .ok .cont, done => exact done.elim
/-- C(e), C(f = e): a new exception -/
def tMkV (C : Addr) (f : Str) (ta : TA) : TE := fun σ H Q => ta σ H fun vs H1 => ∃ v, vs = [v] ∧ ∀ a H2, H1 a = none → Same H1 H2 → ExH H2 C f v a → Q (.ref a) H2
theorem mk_sp {H1 : Hp} {a : Addr} {v : V} {Q : VK} (na : H1 a = none) (h : ∀ a H2, H1 a = none → Same H1 H2 → ExH H2 C f v a → Q (.ref a) H2) :
    spXI X.K C f [.ref a, v] (upd H1 a (exo a C none)) (fun v H2 => v = .non ∧ Q (.ref a) H2) E0 := by
  refine ⟨a, v, rfl, upd_same, fun dx nd ne => ⟨rfl, h a _ na (fun b o z => ?_) ⟨dx, upd_same, ?_⟩⟩⟩
  · rw [upd_ne ne] at nd
    have e1 : b ≠ a := fun e => by rw [e, na] at z; cases z
    have e2 : b ≠ dx := fun e => by rw [e, nd] at z; cases z
    rw [upd_ne e1, upd_ne e2, upd_ne e1]
    exact z
  · rw [upd_ne ne]
    exact upd_same
theorem pe_mkV1 {q0 : Str} {bm : List Value} {e : Expr} {ta : TA} {p pos : Pos} (T : XvC X.prog X.w X.K X.mg X.base x q0 f C bm) (room : Room 2 X.A) (ha : PA X [e] ta) (hg : Gl X x := by rfl)
    (hdb : (x == ("__debug__" : Str)) = false := by decide) (he : starEach (e :: []) X.env = (false, eval e X.env) :: starEach [] X.env := by rfl) (hpl : (backTo pos (starEach [] X.env)).any (·.1) = false := by rfl) :
    PE X (.Call (.Name x p) [e] [] pos) (tMkV C f ta) := by
  refine ⟨fun pins s σ H Q I w => ?_⟩
  obtain ⟨fI, fd, _, iC, tI, F, ⟨g, b1⟩, _⟩ := T.init
  refine wpAny_Call_Name_kw (ld_glob I hg T.gC ?_ hdb)
  refine PySem.W.callWith_K (h₀ := X.base) I.ok.mod.kin T.oex.kC (thn (ha.run pos pins s σ H _ I w) fun us s1 z => ?_) he hpl
  obtain ⟨vs, H1, I1, r1, v, ev, q⟩ := z
  subst ev
  exact ⟨I1.kIn, run_mkV (n := 1) (ks := []) (ws := []) (zs := []) T.oex iC tI F room b1 I1 r1 .nil rfl rfl (by omega) fun a na => mk_sp na q⟩
theorem pe_mkV2 {q0 : Str} {bm : List Value} {kws : List Keyword} {tk : TA} {p pos : Pos} (T : XvC X.prog X.w X.K X.mg X.base x q0 f C bm) (room : Room 2 X.A) (hkw : PK X kws tk) (hg : Gl X x := by rfl)
    (hks : (backToKw pos (keywordEach kws X.env)).filterMap (·.1) = [f] := by rfl) (hall : (backToKw pos (keywordEach kws X.env)).all (·.1.isSome) = true := by rfl)
    (hdb : (x == ("__debug__" : Str)) = false := by decide) (hpl : ((backTo pos (starEach [] X.env)).any (·.1) || (backToKw pos (keywordEach kws X.env)).any (·.1.isNone)) = false := by rfl) :
    PE X (.Call (.Name x p) [] kws pos) (tMkV C f tk) := by
  refine ⟨fun pins s σ H Q I w => ?_⟩
  obtain ⟨fI, fd, _, iC, tI, F, _, ⟨g, b2⟩, _⟩ := T.init
  apply wpAny_Call_Name_kw
  apply ld_glob I hg T.gC _ hdb
  refine PySem.W.callWith_KW0 (h₀ := X.base) I.ok.mod.kin T.oex.kC hall (thn (hkw.run pos pins s σ H _ I w) fun ws s2 hh => ?_) hpl
  obtain ⟨zs, H2, I2, rz, v, ev, q⟩ := hh
  subst ev
  refine ⟨I2.kIn, ?_⟩
  rw [hks]
  exact run_mkV (n := 0) (ks := [f]) (us := []) (vs := []) T.oex iC tI F room b2 I2 .nil rz rfl rfl (by omega) fun a na => mk_sp na q
/-- e.f -/
def tFldV (K : PySem.W.Frag) (n : Str) (te : TE) : TE := fun σ H Q => te σ H fun x H1 => ∃ a C v, x = .ref a ∧ XfC K C ∧ PySem.W.findIn K (.ref C) n = some none ∧ ExH H1 C n v a ∧ Q v H1
theorem inst_of {a C d : Addr} {n : Str} {v : V} (I : Inv X pins σ H s) (ea : H a = some (exo a C (some d))) (ed : H d = some (exd d [(n, v)])) :
    ∃ (oe od : Obj) (mA : Str → Option Value), PySem.W.InstAt s.heap a oe C (some od) ∧ (∀ y, PySem.W.lookIn y od = some (mA y)) ∧ ∀ g, RelO ([(n, v)].lookup g) (mA g) := by
  obtain ⟨t1, ho⟩ := exo_at I.hok ea
  obtain ⟨mA, hns, rel⟩ := exd_at I.hok ed
  obtain ⟨od, hd, hl⟩ := lookIn_ns hns
  exact ⟨_, od, mA, ⟨ho, rfl, rfl, hd⟩, hl, rel⟩
theorem pe_fldV {e : Expr} {te : TE} {pos : Pos} {n : Str} (he : PE X e te) (hb : attributeBase e n X.env (eval e X.env) = eval e X.env := by rfl) : PE X (.Attribute e n pos) (tFldV X.K n te) := by
  refine ⟨fun pins s σ H Q I h => ?_⟩
  refine attr_of hb (thn (he.run pins s σ H _ I h) fun u s1 hh => ?_)
  obtain ⟨x, H1, I1, rx, a, C, v, ex, T, hno, ⟨d, ea, ed⟩, q⟩ := hh
  subst ex
  obtain rfl : u = Value.ref a := rx
  obtain ⟨oe, od, mA, J, hl, hr⟩ := inst_of I1 ea ed
  have l : [(n, v)].lookup n = some v := by simp
  obtain ⟨u, hu, ru⟩ := RelO.some_of (v := v) (o := mA n) (by rw [← l]; exact hr n)
  exact HandSPX.exc_get I1.kIn J T.ga T.gg T.exC (PySem.W.findObj_own T.hdC hno rfl (by rw [hl, hu])) (handed_of ru) ⟨v, H1, I1.tok _, ru, q⟩
/-- isinstance(e, c) -/
def rIsV (K : PySem.W.Frag) : List V → Hp → VK → Prop := fun xs H Q => ∃ (a C : Addr) (n : Str) (v c : V) (cv : Value) (b : Bool), xs = [.ref a, c] ∧ ExH H C n v a ∧ XfC K C ∧ PySem.W.findIn K (.ref C) "__class__" = some (some (.builtin "object.__class__")) ∧
  PySem.W.specialIn K (.builtin "object.__class__") "__get__" = some (some (.builtin "getset_descriptor.__get__")) ∧ PySem.W.takesIn K (.builtin "object.__class__") = some true ∧ PySem.W.mroIn K C (.type "object") = some true ∧
  (∀ u, RelV c u → u = cv) ∧ PySem.W.kitOne K (.ref C) cv = some b ∧ Q (.bl b) H
theorem call_isV : CallR X (.builtin "isinstance") (rIsV X.K) := by
  intro pins s σ H xs us Q I r h
  obtain ⟨a, C, n, v, c, cv, b, rfl, ⟨d, ea, ed⟩, T, h1, h2, h3, h4, hcv, e, q⟩ := h
  cases r with
  | cons rx rr =>
    cases rr with
    | cons rt rr =>
      cases rr
      cases rx
      have ec := hcv _ rt
      subst ec
      obtain ⟨oe, od, mA, J, hl, hr⟩ := inst_of I ea ed
      have hcl : (PySem.W.clsIn X.K C).isSome = true := by
        obtain ⟨cd, hc, _⟩ := PySem.W.any_some T.hdC
        rw [hc]
        rfl
      exact PySem.W.kia_one (PySem.W.kitx_exc hcl T.ga T.gg T.exC h1 h2 h3 h4) I.kIn J e (fun z => nomatch z) fun tk => ⟨.bl b, H, I.kept (t' := tk) fun _ _ z => z, rfl, q⟩
end
end SE
/-! Plain data in which empty dicts may stand: its kinds, ==, in, and repr of every kind. -/
namespace SE
open PySem PySem.Spec PyProof.Rows L2
mutual
inductive DpX (K : PySem.W.Frag) (H : Hp) : V → PyData → Prop
  | non : DpX K H .non .none
  | bl (b : Bool) : DpX K H (.bl b) (.bool b)
  | int (i : Int) : DpX K H (.int i) (.int i)
  | str (x : Str) : DpX K H (.str x) (.str x)
  | lst {a : Addr} {xs : List V} {ds : List PyData} : SqL K H a xs → DpXs K H xs ds → DpX K H (.ref a) (.list ds)
  | tup {a : Addr} {xs : List V} {ds : List PyData} : SqT K H a xs → DpXs K H xs ds → DpX K H (.ref a) (.tuple ds)
  | emp {a : Addr} : H a = some (.dK []) → DpX K H (.ref a) (.dict [])
inductive DpXs (K : PySem.W.Frag) (H : Hp) : List V → List PyData → Prop
  | nil : DpXs K H [] []
  | cons {v : V} {vs : List V} {d : PyData} {ds : List PyData} : DpX K H v d → DpXs K H vs ds → DpXs K H (v :: vs) (d :: ds)
end
section
variable {K : PySem.W.Frag} {H H' : Hp}
mutual
theorem DpX.same (s : Same H H') : ∀ (d : PyData) (v : V), DpX K H v d → DpX K H' v d
  | .none, _, h => by cases h; exact .non
  | .bool b, _, h => by cases h; exact .bl b
  | .int i, _, h => by cases h; exact .int i
  | .str x, _, h => by cases h; exact .str x
  | .list ds, _, h => by
    cases h with
    | lst a b => exact .lst (Same.seq s a) (DpXs.same s ds _ b)
  | .tuple ds, _, h => by
    cases h with
    | tup a b => exact .tup (Same.tup s a) (DpXs.same s ds _ b)
  | .dict kvs, _, h => by
    cases h with
    | emp a => exact .emp (s _ _ a)
theorem DpXs.same (s : Same H H') : ∀ (ds : List PyData) (vs : List V), DpXs K H vs ds → DpXs K H' vs ds
  | [], _, h => by cases h; exact .nil
  | d :: ds, _, h => by
    cases h with
    | cons a b => exact .cons (DpX.same s d _ a) (DpXs.same s ds _ b)
end
theorem DpXs.at : ∀ {vs : List V} {ds : List PyData} {i : Nat} {v : V}, DpXs K H vs ds → vs[i]? = some v → ∃ d, ds[i]? = some d ∧ DpX K H v d
  | _, _, 0, v, .cons a b, h => by cases h; exact ⟨_, rfl, a⟩
  | _, _, i + 1, v, .cons a b, h => by
    obtain ⟨d, h1, h2⟩ := DpXs.at b h
    exact ⟨d, h1, h2⟩
theorem DpXs.len : ∀ {vs : List V} {ds : List PyData}, DpXs K H vs ds → vs.length = ds.length
  | _, _, .nil => rfl
  | _, _, .cons a b => by rw [List.length_cons, List.length_cons, DpXs.len b]
end
section
variable {X : Cx} {pins : List (Addr × Obj)} {σ : L2.St} {H : Hp} {s : Shared}
theorem emp_obj (I : Inv X pins σ H s) {a : Addr} (e : H a = some (.dK [])) : (a == sysModules) = false ∧ ∃ o n, s.heap.get? a = some o ∧ o.cls = .type "dict" ∧ o.data = .dict #[] n := by
  obtain ⟨_, hd, vs, rel, o, es, ep, h1, h2, h3, h4, h5, h6⟩ := dk_of I.hok e
  cases rel
  have : es = #[] := by
    have q : es.toList = [] := by
      cases hq : es.toList with
      | nil => rfl
      | cons x r => rw [hq] at h5; cases h5
    exact Array.toList_eq_nil_iff.mp q
  subst this
  exact ⟨hd, o, ep, h1, h2.1, h3⟩
mutual
theorem DpX.reads (I : Inv X pins σ H s) : ∀ (d : PyData) (v : V) (u : Value), DpX X.K H v d → RelV v u → ∃ as, Reads s.heap u d as
  | .none, _, _, h, r => by
    cases h
    cases r
    exact ⟨_, Reads.none⟩
  | .bool b, _, _, h, r => by
    cases h
    cases r
    exact ⟨_, Reads.bool b⟩
  | .int i, _, _, h, r => by
    cases h
    obtain ⟨t, rfl⟩ := r
    exact ⟨_, Reads.int i t⟩
  | .str x, _, _, h, r => by
    cases h
    obtain ⟨t, rfl⟩ := r
    exact ⟨_, Reads.str x t⟩
  | .list ds, _, _, h, r => by
    cases h with
    | lst hs ha =>
      cases r
      obtain ⟨its, rv, ⟨o, n, ho, hc, _, hd⟩, _⟩ := I.list hs
      obtain ⟨as, hr⟩ := DpXs.reads I ds _ its ha rv
      exact ⟨_, Reads.list ho hc hd hr⟩
  | .tuple ds, _, _, h, r => by
    cases h with
    | tup hs ha =>
      cases r
      obtain ⟨its, rv, ⟨o, ho, hc, n, hd⟩, _⟩ := I.tuple hs
      obtain ⟨as, hr⟩ := DpXs.reads I ds _ its ha rv
      exact ⟨_, Reads.tuple ho hc hd hr⟩
  | .dict _, _, _, h, r => by
    cases h with
    | emp e =>
      cases r
      obtain ⟨_, o, n, h1, h2, h3⟩ := emp_obj I e
      exact ⟨_, Reads.dict (kvs := []) h1 h2 h3 .nil .nil⟩
theorem DpXs.reads (I : Inv X pins σ H s) : ∀ (ds : List PyData) (vs : List V) (us : List Value), DpXs X.K H vs ds → Vals vs us → ∃ as, ReadsAll s.heap us ds as
  | [], _, _, h, r => by
    cases h
    cases r
    exact ⟨_, ReadsAll.nil⟩
  | d :: ds, _, _, h, r => by
    cases h with
    | cons h1 h2 =>
      cases r with
      | cons r1 r2 =>
        obtain ⟨as, q1⟩ := DpX.reads I d _ _ h1 r1
        obtain ⟨bs, q2⟩ := DpXs.reads I ds _ _ h2 r2
        exact ⟨_, ReadsAll.cons q1 q2⟩
end
mutual
theorem DpX.reprK (I : Inv X pins σ H s) : ∀ (d : PyData) (v : V) (u : Value), DpX X.K H v d → RelV v u → d.showable = true → d.shown.length ≤ sizeLine → ∃ bs, ReadAtMost s.heap d.depth bs ∧ ReprK X.prog X.w bs s.heap d.depth u d.shown
  | .none, _, _, h, r, _, _ => by
    cases h
    cases r
    exact ⟨[], (fun _ h => nomatch h), by simp only [PyData.shown]; exact .of_is ReprIs.none _ _ _⟩
  | .bool b, _, _, h, r, _, _ => by
    cases h
    cases r
    exact ⟨[], (fun _ h => nomatch h), by simp only [PyData.shown]; exact .of_is (ReprIs.bool b) _ _ _⟩
  | .int i, _, _, h, r, hs, _ => by
    cases h
    obtain ⟨t, rfl⟩ := r
    exact ⟨[], (fun _ h => nomatch h), by simp only [PyData.shown]; exact .of_is (ReprIs.int t (by simpa [PyData.showable] using hs)) _ _ _⟩
  | .str x, _, _, h, r, _, hz => by
    cases h
    obtain ⟨t, rfl⟩ := r
    exact ⟨[], (fun _ h => nomatch h), by simp only [PyData.shown]; exact .of_is (ReprIs.str x t (by simpa only [PyData.shown] using hz)) _ _ _⟩
  | .list ds, _, _, h, r, hs, hz => by
    cases h with
    | @lst a xs _ hs' ha =>
      cases r
      obtain ⟨its, rv, ⟨o, n, ho, hc, _, hd⟩, _⟩ := I.list hs'
      obtain ⟨as, hr⟩ := DpXs.reads I ds _ its ha rv
      have hz' : (listText (PyData.shownAll ds)).length ≤ sizeLine := by simpa only [PyData.shown] using hz
      obtain ⟨bs, hb, hk⟩ := DpXs.reprK I ds _ its ha rv (by simpa [PyData.showable] using hs) (fun t ht => Nat.le_trans (listText_mem_le ht) hz')
      have rr : Reads s.heap (.ref a) (.list ds) _ := .list ho hc hd hr
      have hna : a ∉ bs := not_mem_of_deeper rr (by simp only [PyData.depth]; omega) hb
      refine ⟨a :: bs, ReadAtMost.cons rr (by simp only [PyData.depth]; omega) hb, ?_⟩
      simp only [PyData.depth, PyData.shown]
      cases its with
      | nil =>
        cases hr
        simp only [PyData.shownAll, listText_nil]
        exact ReprK.listEmpty ho hc hd
      | cons x l => exact ReprK.list ho hc hd hna (by simpa using hk.length_eq) (fun i y e => hk.item i y (by simpa using e))
  | .tuple ds, _, _, h, r, hs, hz => by
    cases h with
    | @tup a xs _ hs' ha =>
      cases r
      obtain ⟨its, rv, ⟨o, ho, hc, n, hd⟩, _⟩ := I.tuple hs'
      obtain ⟨as, hr⟩ := DpXs.reads I ds _ its ha rv
      have hz' : (tupleText (PyData.shownAll ds)).length ≤ sizeLine := by simpa only [PyData.shown] using hz
      obtain ⟨bs, hb, hk⟩ := DpXs.reprK I ds _ its ha rv (by simpa [PyData.showable] using hs) (fun t ht => Nat.le_trans (tupleText_mem_le ht) hz')
      have rr : Reads s.heap (.ref a) (.tuple ds) _ := .tuple ho hc hd hr
      have hna : a ∉ bs := not_mem_of_deeper rr (by simp only [PyData.depth]; omega) hb
      refine ⟨a :: bs, ReadAtMost.cons rr (by simp only [PyData.depth]; omega) hb, ?_⟩
      simp only [PyData.depth, PyData.shown]
      exact ReprK.tuple ho hc hd hna hk
  | .dict _, _, _, h, r, _, hz => by
    cases h with
    | @emp a e =>
      cases r
      obtain ⟨hsys, o, n, h1, h2, h3⟩ := emp_obj I e
      have rr : Reads s.heap (.ref a) (.dict []) _ := .dict (kvs := []) h1 h2 h3 .nil .nil
      have h0 : ReadAtMost s.heap 0 [] := fun _ h => nomatch h
      refine ⟨[a], ReadAtMost.cons rr (by simp only [PyData.depth]; omega) h0, ?_⟩
      simp only [PyData.depth, PyData.shown, PyData.depthKv, PyData.shownKv]
      exact ReprK.dict h1 h2 h3 hsys (by simp) .nil
theorem DpXs.reprK (I : Inv X pins σ H s) : ∀ (ds : List PyData) (vs : List V) (us : List Value), DpXs X.K H vs ds → Vals vs us → PyData.showableAll ds = true → (∀ t ∈ PyData.shownAll ds, t.length ≤ sizeLine) →
    ∃ bs, ReadAtMost s.heap (PyData.depthAll ds) bs ∧ ReprAllK X.prog X.w bs s.heap (PyData.depthAll ds) us (PyData.shownAll ds)
  | [], _, _, h, r, _, _ => by
    cases h
    cases r
    exact ⟨[], (fun _ h => nomatch h), by simp only [PyData.shownAll]; exact .nil⟩
  | d :: ds, _, _, h, r, hs, hz => by
    cases h with
    | cons h1 h2 =>
      cases r with
      | cons r1 r2 =>
        have hs' : d.showable = true ∧ PyData.showableAll ds = true := by simpa [PyData.showableAll] using hs
        obtain ⟨b1, hb1, k1⟩ := DpX.reprK I d _ _ h1 r1 hs'.1 (hz _ (by simp only [PyData.shownAll]; exact List.mem_cons_self ..))
        obtain ⟨b2, hb2, k2⟩ := DpXs.reprK I ds _ _ h2 r2 hs'.2 (fun t ht => hz t (by simp only [PyData.shownAll]; exact List.mem_cons_of_mem _ ht))
        refine ⟨b1 ++ b2, ?_, ?_⟩
        · intro b hm
          simp only [PyData.depthAll]
          rcases List.mem_append.mp hm with hm | hm
          · obtain ⟨d', as', r', hd'⟩ := hb1 b hm
            exact ⟨d', as', r', Nat.le_trans hd' (Nat.le_max_left _ _)⟩
          · obtain ⟨d', as', r', hd'⟩ := hb2 b hm
            exact ⟨d', as', r', Nat.le_trans hd' (Nat.le_max_right _ _)⟩
        · simp only [PyData.depthAll, PyData.shownAll]
          exact .cons ((k1.more fun b hb => List.mem_append_left _ hb).level_le (Nat.le_max_left _ _)) (k2.more_le (fun b hb => List.mem_append_right _ hb) (Nat.le_max_right _ _))
end
end
section
variable {X : Cx}
def rEqX (K : PySem.W.Frag) : R2 := fun x y H Q => ∃ d e, DpX K H x d ∧ DpX K H y e ∧ SeqAt.shaped d = true ∧ SeqAt.shaped e = true ∧ Q (.bl (PyData.eqv d e)) H
def rNeX (K : PySem.W.Frag) : R2 := fun x y H Q => ∃ d e, DpX K H x d ∧ DpX K H y e ∧ SeqAt.shaped d = true ∧ SeqAt.shaped e = true ∧ Q (.bl (!PyData.eqv d e)) H
def rInX (K : PySem.W.Frag) : R2 := fun x y H Q => ∃ d ds, DpX K H x d ∧ DpX K H y (.list ds) ∧ SeqAt.shaped d = true ∧ SeqAt.shaped (.list ds) = true ∧ Q (.bl (ds.any fun z => PyData.eqv z d)) H
theorem op_eqX (hu : X.A.units + 64 < cLine) : OpR X (compareOp .Eq) (rEqX X.K) := by
  intro pins s σ H x y v u Q I rx ry h
  obtain ⟨d, e, hd, he, sd, se, q⟩ := h
  obtain ⟨as, r1⟩ := DpX.reads I d x v hd rx
  obtain ⟨bs, r2⟩ := DpX.reads I e y u he ry
  exact SeqAt.compareEq_shaped r1 r2 sd se hu ⟨.bl _, H, I, rfl, q⟩
theorem op_neX (hu : X.A.units + 64 < cLine) : OpR X (compareOp .NotEq) (rNeX X.K) := by
  intro pins s σ H x y v u Q I rx ry h
  obtain ⟨d, e, hd, he, sd, se, q⟩ := h
  obtain ⟨as, r1⟩ := DpX.reads I d x v hd rx
  obtain ⟨bs, r2⟩ := DpX.reads I e y u he ry
  exact SeqAt.compareNe_shaped r1 r2 sd se hu ⟨.bl _, H, I, rfl, q⟩
theorem op_inX (hu : X.A.units + 65 < cLine) : OpR X (compareOp .In) (rInX X.K) := by
  intro pins s σ H x y v u Q I rx ry h
  obtain ⟨d, ds, hd, he, sd, se, q⟩ := h
  obtain ⟨as, r1⟩ := DpX.reads I d x v hd rx
  obtain ⟨bs, r2⟩ := DpX.reads I (.list ds) y u he ry
  exact SeqAt.in_list_reads r2 r1 (SeqAt.canLay_of_shaped se) (SeqAt.canLay_of_shaped sd) (room_in_shaped sd hu) ⟨.bl _, H, I, rfl, q⟩
/-- the kind of such data -/
def tyD : PyData → String
  | .none => "NoneType"
  | .bool _ => "bool"
  | .int _ => "int"
  | .str _ => "str"
  | .list _ => "list"
  | .tuple _ => "tuple"
  | .dict _ => "dict"
theorem DpX.ty {K : PySem.W.Frag} {H : Hp} {v : V} {d : PyData} (h : DpX K H v d) : TyX K H v (.type (tyD d)) := by
  cases h with
  | non => exact .base .non
  | bl b => exact .base (.bl b)
  | int i => exact .base (.int i)
  | str x => exact .base (.str x)
  | lst h _ =>
    rcases h with (h | ⟨o, h⟩) | ⟨o, its, n, h1, h2, _⟩
    · exact .base (.lst h)
    · exact .base (.frz h)
    · exact .kList h1 h2
  | tup h _ =>
    rcases h with (h | ⟨o, h⟩) | ⟨o, its, n, h1, h2, _⟩
    · exact .base (.tup h)
    · exact .fTuple h
    · exact .kTuple h1 h2
  | emp h => exact .base (.dK h)
def isStr : PyData → Bool
  | .str _ => true
  | _ => false
def isTup : PyData → Bool
  | .tuple _ => true
  | _ => false
def isLst : PyData → Bool
  | .list _ => true
  | _ => false
theorem kit_str {K : PySem.W.Frag} : ∀ d : PyData, PySem.W.kitOne K (.type (tyD d)) (.type "str") = some (isStr d)
  | .none => kit_ty (show kitB "NoneType" "str" = some false by decide +kernel)
  | .bool _ => kit_ty (show kitB "bool" "str" = some false by decide +kernel)
  | .int _ => kit_ty (show kitB "int" "str" = some false by decide +kernel)
  | .str _ => kit_ty (show kitB "str" "str" = some true by decide +kernel)
  | .list _ => kit_ty (show kitB "list" "str" = some false by decide +kernel)
  | .tuple _ => kit_ty (show kitB "tuple" "str" = some false by decide +kernel)
  | .dict _ => kit_ty (show kitB "dict" "str" = some false by decide +kernel)
theorem kit_tup {K : PySem.W.Frag} : ∀ d : PyData, PySem.W.kitOne K (.type (tyD d)) (.type "tuple") = some (isTup d)
  | .none => kit_ty (show kitB "NoneType" "tuple" = some false by decide +kernel)
  | .bool _ => kit_ty (show kitB "bool" "tuple" = some false by decide +kernel)
  | .int _ => kit_ty (show kitB "int" "tuple" = some false by decide +kernel)
  | .str _ => kit_ty (show kitB "str" "tuple" = some false by decide +kernel)
  | .list _ => kit_ty (show kitB "list" "tuple" = some false by decide +kernel)
  | .tuple _ => kit_ty (show kitB "tuple" "tuple" = some true by decide +kernel)
  | .dict _ => kit_ty (show kitB "dict" "tuple" = some false by decide +kernel)
theorem kit_lst {K : PySem.W.Frag} : ∀ d : PyData, PySem.W.kitOne K (.type (tyD d)) (.type "list") = some (isLst d)
  | .none => kit_ty (show kitB "NoneType" "list" = some false by decide +kernel)
  | .bool _ => kit_ty (show kitB "bool" "list" = some false by decide +kernel)
  | .int _ => kit_ty (show kitB "int" "list" = some false by decide +kernel)
  | .str _ => kit_ty (show kitB "str" "list" = some false by decide +kernel)
  | .list _ => kit_ty (show kitB "list" "list" = some true by decide +kernel)
  | .tuple _ => kit_ty (show kitB "tuple" "list" = some false by decide +kernel)
  | .dict _ => kit_ty (show kitB "dict" "list" = some false by decide +kernel)
/-- repr(x), x such data of any kind -/
def rRepX (K : PySem.W.Frag) : List V → Hp → VK → Prop := fun xs H Q => ∃ (x : V) (d : PyData), xs = [x] ∧ DpX K H x d ∧ d.showable = true ∧ d.depth ≤ 20 ∧ d.shown.length ≤ sizeLine ∧ Q (.str d.shown) H
theorem call_repX (hgu : X.A.guards = some []) (hu : X.A.units + 64 < cLine) : CallR X (.builtin "repr") (rRepX X.K) := by
  intro pins s σ H xs us Q I r h
  obtain ⟨x, d, rfl, hd, hs, hdep, hz, q⟩ := h
  cases r with
  | cons r1 r2 =>
    cases r2
    rename_i u
    cases hd with
    | non =>
      cases r1
      simp only [PyData.shown] at q
      exact PySem.P.repr_of_none ⟨.str _, H, I.tok _, ⟨_, rfl⟩, q⟩
    | bl b =>
      cases r1
      simp only [PyData.shown] at q
      exact PySem.P.repr_of_bool ⟨.str _, H, I.tok _, ⟨_, rfl⟩, q⟩
    | int i =>
      obtain ⟨t, rfl⟩ := r1
      simp only [PyData.shown] at q
      exact PySem.P.repr_of_int (by simpa [PyData.showable] using hs) ⟨.str _, H, I.tok _, ⟨_, rfl⟩, q⟩
    | str z =>
      obtain ⟨t, rfl⟩ := r1
      simp only [PyData.shown] at q hz
      exact PySem.P.repr_of_str ⟨.str _, H, I.tok _, ⟨_, rfl⟩, q⟩ hz
    | @lst a xs ds hs' ha =>
      cases r1
      obtain ⟨its, rv, ⟨o, n, ho, hc, _, hdd⟩, _⟩ := I.list hs'
      obtain ⟨as, hr⟩ := DpXs.reads I ds _ its ha rv
      have hz' : (listText (PyData.shownAll ds)).length ≤ sizeLine := by simpa only [PyData.shown] using hz
      obtain ⟨bs, hb, hk⟩ := DpXs.reprK I ds _ its ha rv (by simpa [PyData.showable] using hs) (fun t ht => Nat.le_trans (listText_mem_le ht) hz')
      have rr : Reads s.heap (.ref a) (.list ds) _ := .list ho hc hdd hr
      have hna : a ∉ bs := not_mem_of_deeper rr (by simp only [PyData.depth]; omega) hb
      simp only [PyData.depth] at hdep
      simp only [PyData.shown] at q
      refine call_repr_slot (T := "list") (by omega) ⟨o, ho, hc⟩ PySem.F.slot_list_repr.toG ?_
      cases its with
      | nil =>
        cases hr
        simp only [PyData.shownAll, listText_nil] at q
        exact call_list_repr_empty ⟨o, ho, hc⟩ ho hdd ⟨_, _, rfl, .str _, H, I.tok _, ⟨_, rfl⟩, q⟩
      | cons y l =>
        exact call_list_reprK ho hc hdd hna (by simpa using hk.length_eq) (fun i y e => hk.item i y (by simpa using e)) (A := X.A.in1) hgu (fun b _ => Clear.nil b) (by show X.A.units + 1 + _ < cLine; omega) (fun _ _ z => z) (fun h' u tk keep => ⟨_, _, rfl, .str _, H, I.kept (t' := tk) keep, ⟨_, rfl⟩, q⟩) hz'
    | @tup a xs ds hs' ha =>
      cases r1
      obtain ⟨its, rv, ⟨o, ho, hc, n, hdd⟩, _⟩ := I.tuple hs'
      obtain ⟨as, hr⟩ := DpXs.reads I ds _ its ha rv
      have hz' : (tupleText (PyData.shownAll ds)).length ≤ sizeLine := by simpa only [PyData.shown] using hz
      obtain ⟨bs, hb, hk⟩ := DpXs.reprK I ds _ its ha rv (by simpa [PyData.showable] using hs) (fun t ht => Nat.le_trans (tupleText_mem_le ht) hz')
      have rr : Reads s.heap (.ref a) (.tuple ds) _ := .tuple ho hc hdd hr
      have hna : a ∉ bs := not_mem_of_deeper rr (by simp only [PyData.depth]; omega) hb
      simp only [PyData.depth] at hdep
      simp only [PyData.shown] at q
      refine call_repr_slot (T := "tuple") (by omega) ⟨o, ho, hc⟩ PySem.F.slot_tuple_repr ?_
      exact call_tuple_reprK ho hc hdd hna hk (A := X.A.in1) hgu (fun b _ => Clear.nil b) (by show X.A.units + 1 + _ < cLine; omega) (fun _ _ z => z) (fun h' u tk keep => ⟨_, _, rfl, .str _, H, I.kept (t' := tk) keep, ⟨_, rfl⟩, q⟩) hz'
    | @emp a e =>
      cases r1
      obtain ⟨hsys, o, n, h1, h2, h3⟩ := emp_obj I e
      have hz' : (dictText []).length ≤ sizeLine := by simpa only [PyData.shown, PyData.shownKv] using hz
      simp only [PyData.shown, PyData.shownKv] at q
      refine call_repr_slot (T := "dict") (by omega) ⟨o, h1, h2⟩ PySem.F.slot_dict_repr ?_
      exact call_dict_reprK (as := []) (d := 0) h1 h2 h3 hsys (by simp) .nil (A := X.A.in1) hgu (fun b _ => Clear.nil b) (by show X.A.units + 1 + _ < cLine; omega) (fun _ _ z => z) (fun h' u tk keep => ⟨_, _, rfl, .str _, H, I.kept (t' := tk) keep, ⟨_, rfl⟩, q⟩) hz'
end
end SE
/-! repr of plain data and of the dict {"a": 1}. -/
namespace SE
open PySem PySem.Spec PyProof.Rows L2
section
variable {X : Cx} {pins : List (Addr × Obj)} {σ : L2.St} {H H' : Hp} {s : Shared} {K : PySem.W.Frag}
abbrev oneD : HO := .dK [(.inr "a", .int 1)]
def oneE : Str := reprText "a" ++ ": " ++ toString (1 : Int)
def oneT : Str := dictText [oneE]
theorem one_obj (I : Inv X pins σ H s) {a : Addr} (e : H a = some oneD) : (a == sysModules) = false ∧ ∃ o n es, s.heap.get? a = some o ∧ o.cls = .type "dict" ∧ o.data = .dict es n ∧ ∃ d t1 t2, es.toList = [d] ∧ d.key = .str "a" t1 ∧ d.val = .int 1 t2 := by
  obtain ⟨_, hd, vs, rel, o, es, ep, h1, h2, h3, h4, h5, h6⟩ := dk_of I.hok e
  cases rel with
  | @cons _ q _ _ hh ht =>
    cases ht
    obtain ⟨hk, hv⟩ := hh
    refine ⟨hd, o, ep, es, h1, h2.1, h3, ?_⟩
    obtain ⟨qk, qv⟩ := q
    dsimp only at hk hv
    subst hk
    obtain ⟨t2, rfl⟩ := hv
    generalize es.toList = l at h5
    cases h5 with
    | @cons d _ _ _ g1 g2 g3 =>
      cases g3
      rcases keyIs_shape (k := Sum.inr ("a" : Str)) (v := d.key) g1 with ⟨i, t, e1, e2⟩ | ⟨x, t, e1, e2⟩
      · cases e1
      · cases e1
        exact ⟨d, t, t2, rfl, e2, g2⟩
/-- the text of a value's repr -/
def RepT (K : PySem.W.Frag) (H : Hp) (x : V) (t : Str) : Prop :=
  (∃ d, DpX K H x d ∧ d.showable = true ∧ d.depth ≤ 20 ∧ d.shown.length ≤ sizeLine ∧ t = d.shown) ∨ (∃ a, x = .ref a ∧ H a = some oneD ∧ t = oneT) ∨ ∃ i : Int, x = .int i ∧ i.natAbs.log2 < 1920 ∧ t = toString i
theorem RepT.same {x : V} {t : Str} (s : Same H H') (h : RepT K H x t) : RepT K H' x t := by
  rcases h with ⟨d, h1, h2⟩ | ⟨a, h1, h2, h3⟩ | h
  · exact .inl ⟨d, DpX.same s d x h1, h2⟩
  · exact .inr (.inl ⟨a, h1, s _ _ h2, h3⟩)
  · exact .inr (.inr h)
def rRepO (K : PySem.W.Frag) : List V → Hp → VK → Prop := fun xs H Q => ∃ (x : V) (t : Str), xs = [x] ∧ RepT K H x t ∧ Q (.str t) H
theorem call_repO (hgu : X.A.guards = some []) (hu : X.A.units + 64 < cLine) : CallR X (.builtin "repr") (rRepO X.K) := by
  intro pins s σ H xs us Q I r h
  obtain ⟨x, t, rfl, ht, q⟩ := h
  rcases ht with ⟨d, h1, h2, h3, h4, rfl⟩ | ⟨a, rfl, e, rfl⟩ | ⟨i, rfl, hi, rfl⟩
  · exact call_repX hgu hu pins s σ H _ us Q I r ⟨x, d, rfl, h1, h2, h3, h4, q⟩
  · cases r with
    | cons r1 r2 =>
      cases r2
      cases r1
      obtain ⟨hsys, o, n, es, h1, h2, h3, d, t1, t2, hes, hk, hv⟩ := one_obj I e
      have hE : ReprEntriesK X.prog X.w [] s.heap 1 es.toList [oneE] := by
        rw [hes]
        refine .cons ?_ ?_ .nil
        · rw [hk]
          exact .of_is (ReprIs.str "a" t1 (by decide +kernel)) _ _ _
        · rw [hv]
          exact .of_is (ReprIs.int t2 (by decide +kernel)) _ _ _
      refine call_repr_slot (T := "dict") (by omega) ⟨o, h1, h2⟩ PySem.F.slot_dict_repr ?_
      exact call_dict_reprK h1 h2 h3 hsys (by simp) hE (A := X.A.in1) hgu (fun b _ => Clear.nil b) (by show X.A.units + 1 + _ < cLine; omega) (fun _ _ z => z) (fun h' u tk keep => ⟨_, _, rfl, .str _, H, I.kept (t' := tk) keep, ⟨_, rfl⟩, q⟩) (by decide +kernel)
  · cases r with
    | cons r1 r2 =>
      cases r2
      obtain ⟨t, rfl⟩ := r1
      exact PySem.P.repr_of_int hi ⟨.str _, H, I.tok _, ⟨_, rfl⟩, q⟩
end
end SE
namespace SE
open PySem PySem.Spec PyProof.Rows L2
section
variable {P : Program} {w : World} {K : PySem.W.Frag} {mg : Str → Option Value} {base : Heap} {S : Addr} {C : Nat → Addr}
def nmX : List Str := ["InvalidWord", "InvalidNumber", "InvalidItems", "InvalidTable", "InvalidBlocks", "InvalidEffect", "InvalidStacks", "InvalidOrder", "InvalidCandidates", "InvalidText", "InvalidSteps", "InvalidObservation", "InvalidCommand", "UnknownName", "StepFailed", "NothingToUndo", "LimitExceeded"]
def quX : List Str := ["InvalidWord.__init__", "InvalidNumber.__init__", "InvalidItems.__init__", "InvalidTable.__init__", "InvalidBlocks.__init__", "InvalidEffect.__init__", "InvalidStacks.__init__", "InvalidOrder.__init__", "InvalidCandidates.__init__", "InvalidText.__init__", "InvalidSteps.__init__", "InvalidObservation.__init__", "InvalidCommand.__init__", "UnknownName.__init__", "StepFailed.__init__", "NothingToUndo.__init__", "LimitExceeded.__init__"]
def flX : List Str := ["value", "value", "value", "value", "value", "value", "value", "value", "value", "value", "index", "index", "line", "name", "index", "count", "limit"]
def bmX (S : Addr) (i : Nat) : List Value :=
  if i < 13 then [.ref S, .type "ValueError", .type "Exception", .type "BaseException", .type "object"]
  else if i = 13 then [.type "KeyError", .type "LookupError", .type "Exception", .type "BaseException", .type "object"]
  else if i = 14 then [.type "RuntimeError", .type "Exception", .type "BaseException", .type "object"]
  else if i = 15 then [.type "LookupError", .type "Exception", .type "BaseException", .type "object"]
  else [.type "OverflowError", .type "ArithmeticError", .type "Exception", .type "BaseException", .type "object"]
def nameX (i : Nat) : Str := nmX.getD i Str.empty
def qualX (i : Nat) : Str := quX.getD i Str.empty
def fldX (i : Nat) : Str := flX.getD i Str.empty
structure X17 (P : Program) (w : World) (K : PySem.W.Frag) (mg : Str → Option Value) (base : Heap) (S : Addr) (C : Nat → Addr) : Prop where
  c : ∀ i, i < 17 → XvC P w K mg base (nameX i) (qualX i) (fldX i) (C i) (bmX S i)
  gS : mg "StackError" = some (.ref S)
  tS : PySem.W.typeIn K (.ref S) = some (.type "type")
  hS : PySem.W.hasDictIn K S = true
  nS : ∀ i, i < 17 → C i ≠ S
  hn : PySem.W.specialIn K (.builtin "object.__class__") "__get__" = some (some (.builtin "getset_descriptor.__get__"))
  ht : PySem.W.takesIn K (.builtin "object.__class__") = some true
theorem qual_inj : ∀ i j : Fin 17, i ≠ j → qualX i.1 ≠ qualX j.1 := by decide +kernel
theorem X17.inj (h : X17 P w K mg base S C) {i j : Nat} (hi : i < 17) (hj : j < 17) (n : i ≠ j) : C i ≠ C j :=
  (h.c i hi).ne (h.c j hj) (qual_inj ⟨i, hi⟩ ⟨j, hj⟩ fun e => n (congrArg Fin.val e))
theorem bm_ref (S a : Addr) (i : Nat) : (bmX S i).contains (.ref a) = decide (i < 13 ∧ a = S) := by
  have e : ((Value.ref a == Value.ref S) : Bool) = decide (a = S) := by
    by_cases q : a = S
    · subst q
      simp
    · simp [q]
  unfold bmX
  by_cases h : i < 13
  · rw [if_pos h, List.contains_cons, e]
    by_cases q : a = S
    · simp [h, q]
    · simp [h, q]
  · rw [if_neg h]
    have : decide (i < 13 ∧ a = S) = false := decide_eq_false fun z => h z.1
    rw [this]
    by_cases h1 : i = 13
    · rw [if_pos h1]; simp
    · rw [if_neg h1]
      by_cases h2 : i = 14
      · rw [if_pos h2]; simp
      · rw [if_neg h2]
        by_cases h3 : i = 15
        · rw [if_pos h3]; simp
        · rw [if_neg h3]; simp
theorem kit_ref {D : Addr} {c : Value} (hs : (PySem.W.clsIn K D).isSome = true) (ht : PySem.W.typeIn K (.ref D) = some (.type "type")) {b : Bool} (h : PySem.W.subIn K c (.ref D) = some b) (hr : c = .ref D → b = true) : PySem.W.kitOne K c (.ref D) = some b := by
  unfold PySem.W.kitOne
  split
  · rename_i e
    rw [hr (by simpa using e)]
  · show (if ((PySem.W.clsIn K D).isSome && PySem.W.typeIn K (.ref D) == some (.type "type")) = true then PySem.W.subIn K c (.ref D) else none) = some b
    rw [if_pos (by rw [hs, ht]; rfl)]
    exact h
theorem X17.kit (h : X17 P w K mg base S C) {i j : Nat} (hi : i < 17) (hj : j < 17) : PySem.W.kitOne K (.ref (C j)) (.ref (C i)) = some (decide (j = i)) := by
  obtain ⟨cd, hc, _⟩ := (h.c i hi).mr
  refine kit_ref (by rw [hc]; rfl) (h.c i hi).tC ?_ (fun e => ?_)
  · rw [sub_mr (h.c j hj).mr, List.contains_cons, bm_ref]
    by_cases q : j = i
    · subst q
      simp
    · have n := h.inj hi hj (fun e => q e.symm)
      have n2 := h.nS i hi
      simp [q, n, n2]
  · by_cases q : j = i
    · exact decide_eq_true q
    · exact absurd (Value.ref.inj e) (h.inj hj hi q)
theorem X17.kitS (h : X17 P w K mg base S C) {j : Nat} (hj : j < 17) : PySem.W.kitOne K (.ref (C j)) (.ref S) = some (decide (j < 13)) := by
  obtain ⟨cd, hc, _⟩ := PySem.W.any_some h.hS
  refine kit_ref (by rw [hc]; rfl) h.tS ?_ (fun e => absurd (Value.ref.inj e) (h.nS j hj))
  rw [sub_mr (h.c j hj).mr, List.contains_cons, bm_ref]
  have n2 := h.nS j hj
  simp [Ne.symm n2]
theorem X17.kitT (h : X17 P w K mg base S C) {j : Nat} (hj : j < 17) {T : String} (hm : PySem.W.kitMeta T = true) : PySem.W.kitOne K (.ref (C j)) (.type T) = some ((bmX S j).contains (.type T)) := by
  unfold PySem.W.kitOne
  split
  · rename_i e
    cases (show (Value.ref (C j)) = .type T by simpa using e)
  · show (if PySem.W.kitMeta T = true then PySem.W.subIn K (.ref (C j)) (.type T) else none) = _
    rw [if_pos hm, sub_mr (h.c j hj).mr, List.contains_cons]
    rfl
/-! ### what is made -/
def ExS (H : Hp) (C : Nat → Addr) (v : V) (k : Nat) (es : List Addr) : Prop := ∀ i e, es[i]? = some e → ExH H (C (k + i)) (fldX (k + i)) v e
theorem ExS.same {H H' : Hp} {v : V} {k : Nat} {es : List Addr} (s : Same H H') (h : ExS H C v k es) : ExS H' C v k es := fun i e q => (h i e q).same s
theorem ExS.nil {H : Hp} {v : V} {k : Nat} : ExS H C v k [] := fun i e q => by cases q
theorem ExS.cons {H : Hp} {v : V} {k : Nat} {e : Addr} {es : List Addr} (a : ExH H (C k) (fldX k) v e) (b : ExS H C v (k + 1) es) : ExS H C v k (e :: es) := fun i x q => match i, q with
  | 0, q => by cases q; exact a
  | i + 1, q => by rw [show k + (i + 1) = k + 1 + i by omega]; exact b i x q
theorem ExS.app {H : Hp} {v : V} {k n : Nat} {es fs : List Addr} (l : es.length = n) (a : ExS H C v k es) (b : ExS H C v (k + n) fs) : ExS H C v k (es ++ fs) := fun i x q => by
  subst l
  by_cases h : i < es.length
  · rw [List.getElem?_append_left h] at q
    exact a i x q
  · rw [List.getElem?_append_right (by omega)] at q
    have := b _ x q
    rwa [show k + es.length + (i - es.length) = k + i by omega] at this
def spMade (K : PySem.W.Frag) (C : Nat → Addr) : Sp := fun xs H Q _ => ∃ v, xs = [v] ∧ ∀ (p : Addr) (es : List Addr) (H' : Hp), Same H H' → H' p = some (.lst (es.map V.ref)) → es.length = 17 → ExS H' C v 0 es → Q (.ref p) H'
/-- the elements of a display make exceptions -/
def MadeT (ta : TA) (C : Nat → Addr) (v : V) (k n : Nat) : Prop := ∀ (σ : L2.St) (H : Hp) (Q : List V → Hp → Prop), σ[0]? = some (some v) → (∀ (es : List Addr) (H' : Hp), Same H H' → es.length = n → ExS H' C v k es → Q (es.map V.ref) H') → ta σ H Q
theorem MadeT.nil {v : V} {k : Nat} : MadeT tNil C v k 0 := fun σ H Q hv h => h [] H (Same.refl H) rfl .nil
theorem MadeT.cons {v : V} {k n : Nat} {ta : TA} {f : Str} (hf : f = fldX k) (h : MadeT ta C v (k + 1) n) : MadeT (tCons (tMkV (C k) f (tCons (tVar 0) tNil)) ta) C v k (n + 1) := fun σ H Q hv q => by
  subst hf
  refine ⟨v, hv, v, rfl, fun a H1 na s1 x1 => h σ H1 _ hv fun es H2 s2 l2 x2 => ?_⟩
  exact q (a :: es) H2 (s1.trans s2) (congrArg (· + 1) l2) (.cons (x1.same s2) x2)
theorem MadeT.fst {v : V} {n : Nat} {ta : TA} (m : MadeT ta C v 0 n) {σ : L2.St} {H : Hp} (hv : σ[0]? = some (some v)) (hb : n ≤ 17) {Q : VK} (q : ∀ (p : Addr) (es : List Addr) (H' : Hp), Same H H' → H' p = some (.lst (es.map V.ref)) → es.length = n → ExS H' C v 0 es → Q (.ref p) H') : tLst ta σ H Q :=
  m σ H _ hv fun es H1 s1 l1 x1 => ⟨by rw [List.length_map, l1, sizeLine_eq]; omega, fun p hp => q p es _ (s1.trans (Same.new hp)) upd_same l1 (x1.same (Same.new hp))⟩
theorem MadeT.cat {v : V} {a n : Nat} {ta : TA} (m : MadeT ta C v a n) {σ : L2.St} {G : Hp} {p : Addr} {es : List Addr} (hv : σ[0]? = some (some v)) (hp : σ[1]? = some (some (.ref p))) (f : G p = some (.lst (es.map V.ref))) (l : es.length = a) (x : ExS G C v 0 es) (hb : a + n ≤ 17)
    {Q : VK} (q : ∀ (p' : Addr) (es' : List Addr) (G' : Hp), Same G G' → G' p' = some (.lst (es'.map V.ref)) → es'.length = a + n → ExS G' C v 0 es' → Q (.ref p') G') : tOp rCat (tVar 1) (tLst ta) σ G Q := by
  refine ⟨.ref p, hp, m σ G _ hv fun fs H1 s1 l1 x1 => ⟨by rw [List.length_map, l1, sizeLine_eq]; omega, fun r hr => ?_⟩⟩
  have t1 := Same.new (o := .lst (fs.map V.ref)) hr
  refine ⟨p, r, _, _, rfl, rfl, t1 _ _ (s1 _ _ f), upd_same, by rw [List.length_map, List.length_map, l, l1, sizeLine_eq]; omega, fun p' hp' => ?_⟩
  have t2 := Same.new (o := .lst (es.map V.ref ++ fs.map V.ref)) hp'
  refine q p' (es ++ fs) _ (s1.trans (t1.trans t2)) (by rw [upd_same, List.map_append]) (by rw [List.length_append, l, l1]) (.app l (x.same (s1.trans (t1.trans t2))) ?_)
  rw [Nat.zero_add]
  exact x1.same (t1.trans t2)
theorem scMade : FnScope ["_law_odd", "_law_found"] ["_law_odd"] (defScope sLawMade) := ⟨rfl, rfl, rfl, by decide +kernel, rfl, by decide +kernel, by decide +kernel⟩
theorem has_law_made (D : Def K mg "_law_made" sLawMade) (h : X17 P w K mg base S C) : Has P w K mg base "_law_made" 3 ["_law_odd"] [] (spMade K C) := by
  refine has_of D scMade (fun _ _ _ _ _ _ us hl => match us, hl with | [_], _ => rfl) (fun xs H Q E z => ?_) (fun f cv A out s H xs Q E hr z => ?_)
  · obtain ⟨v, rfl, _⟩ := z
    rfl
  · obtain ⟨v, rfl, k⟩ := z
    have c0 : XvC P w K mg base "InvalidWord" "InvalidWord.__init__" "value" (C 0) (bmX S 0) := h.c 0 (by decide)
    have c1 : XvC P w K mg base "InvalidNumber" "InvalidNumber.__init__" "value" (C 1) (bmX S 1) := h.c 1 (by decide)
    have c2 : XvC P w K mg base "InvalidItems" "InvalidItems.__init__" "value" (C 2) (bmX S 2) := h.c 2 (by decide)
    have c3 : XvC P w K mg base "InvalidTable" "InvalidTable.__init__" "value" (C 3) (bmX S 3) := h.c 3 (by decide)
    have c4 : XvC P w K mg base "InvalidBlocks" "InvalidBlocks.__init__" "value" (C 4) (bmX S 4) := h.c 4 (by decide)
    have c5 : XvC P w K mg base "InvalidEffect" "InvalidEffect.__init__" "value" (C 5) (bmX S 5) := h.c 5 (by decide)
    have c6 : XvC P w K mg base "InvalidStacks" "InvalidStacks.__init__" "value" (C 6) (bmX S 6) := h.c 6 (by decide)
    have c7 : XvC P w K mg base "InvalidOrder" "InvalidOrder.__init__" "value" (C 7) (bmX S 7) := h.c 7 (by decide)
    have c8 : XvC P w K mg base "InvalidCandidates" "InvalidCandidates.__init__" "value" (C 8) (bmX S 8) := h.c 8 (by decide)
    have c9 : XvC P w K mg base "InvalidText" "InvalidText.__init__" "value" (C 9) (bmX S 9) := h.c 9 (by decide)
    have c10 : XvC P w K mg base "InvalidSteps" "InvalidSteps.__init__" "index" (C 10) (bmX S 10) := h.c 10 (by decide)
    have c11 : XvC P w K mg base "InvalidObservation" "InvalidObservation.__init__" "index" (C 11) (bmX S 11) := h.c 11 (by decide)
    have c12 : XvC P w K mg base "InvalidCommand" "InvalidCommand.__init__" "line" (C 12) (bmX S 12) := h.c 12 (by decide)
    have c13 : XvC P w K mg base "UnknownName" "UnknownName.__init__" "name" (C 13) (bmX S 13) := h.c 13 (by decide)
    have c14 : XvC P w K mg base "StepFailed" "StepFailed.__init__" "index" (C 14) (bmX S 14) := h.c 14 (by decide)
    have c15 : XvC P w K mg base "NothingToUndo" "NothingToUndo.__init__" "count" (C 15) (bmX S 15) := h.c 15 (by decide)
    have c16 : XvC P w K mg base "LimitExceeded" "LimitExceeded.__init__" "limit" (C 16) (bmX S 16) := h.c 16 (by decide)
    refine ⟨_, (pss_cons (ps_set (i := 1) scMade.nd rfl (.inl rfl) (pe_lst (pa_cons (pe_mkV1 c0 hr (pa_cons (pv 0) pa_nil)) (pa_cons (pe_mkV1 c1 hr (pa_cons (pv 0) pa_nil)) (pa_cons (pe_mkV1 c2 hr (pa_cons (pv 0) pa_nil)) (pa_cons (pe_mkV1 c3 hr (pa_cons (pv 0) pa_nil)) (pa_cons (pe_mkV1 c4 hr (pa_cons (pv 0) pa_nil)) pa_nil)))))))
      (pss_cons (ps_set (i := 1) scMade.nd rfl (.inl rfl) (pe_op op_cat (pv 1) (pe_lst (pa_cons (pe_mkV1 c5 hr (pa_cons (pv 0) pa_nil)) (pa_cons (pe_mkV1 c6 hr (pa_cons (pv 0) pa_nil)) (pa_cons (pe_mkV1 c7 hr (pa_cons (pv 0) pa_nil)) (pa_cons (pe_mkV1 c8 hr (pa_cons (pv 0) pa_nil)) pa_nil)))))))
      (pss_cons (ps_set (i := 1) scMade.nd rfl (.inl rfl) (pe_op op_cat (pv 1) (pe_lst (pa_cons (pe_mkV1 c9 hr (pa_cons (pv 0) pa_nil)) (pa_cons (pe_mkV1 c10 hr (pa_cons (pv 0) pa_nil)) (pa_cons (pe_mkV1 c11 hr (pa_cons (pv 0) pa_nil)) (pa_cons (pe_mkV1 c12 hr (pa_cons (pv 0) pa_nil)) pa_nil)))))))
      (pss_one (ps_ret (pe_op op_cat (pv 1) (pe_lst (pa_cons (pe_mkV1 c13 hr (pa_cons (pv 0) pa_nil)) (pa_cons (pe_mkV1 c14 hr (pa_cons (pv 0) pa_nil)) (pa_cons (pe_mkV1 c15 hr (pa_cons (pv 0) pa_nil)) (pa_cons (pe_mkV1 c16 hr (pa_cons (pv 0) pa_nil)) pa_nil))))))))))), ?_⟩
    dsimp only [tSeq, tAsg, tRet]
    refine MadeT.fst (n := 5) (v := v) (.cons rfl (.cons rfl (.cons rfl (.cons rfl (.cons rfl .nil))))) (by rfl) (by decide) fun p0 e0 G0 s0 f0 l0 x0 => ?_
    dsimp only [gName]
    refine MadeT.cat (a := 5) (n := 4) (v := v) (.cons rfl (.cons rfl (.cons rfl (.cons rfl .nil)))) (by rfl) (by rfl) f0 l0 x0 (by decide) fun p1 e1 G1 s1 f1 l1 x1 => ?_
    dsimp only [gName]
    refine MadeT.cat (a := 9) (n := 4) (v := v) (.cons rfl (.cons rfl (.cons rfl (.cons rfl .nil)))) (by rfl) (by rfl) f1 l1 x1 (by decide) fun p2 e2 G2 s2 f2 l2 x2 => ?_
    dsimp only [gName]
    refine MadeT.cat (a := 13) (n := 4) (v := v) (.cons rfl (.cons rfl (.cons rfl (.cons rfl .nil)))) (by rfl) (by rfl) f2 l2 x2 (by decide) fun p3 e3 G3 s3 f3 l3 x3 => ?_
    exact k p3 e3 G3 (s0.trans (s1.trans (s2.trans s3))) f3 l3 x3
theorem scMadeN : FnScope ["_law_odd", "_law_found"] ["_law_odd"] (defScope sLawMadeByName) := ⟨rfl, rfl, rfl, by decide +kernel, rfl, by decide +kernel, by decide +kernel⟩
theorem has_law_made_by_name (D : Def K mg "_law_made_by_name" sLawMadeByName) (h : X17 P w K mg base S C) : Has P w K mg base "_law_made_by_name" 3 ["_law_odd"] [] (spMade K C) := by
  refine has_of D scMadeN (fun _ _ _ _ _ _ us hl => match us, hl with | [_], _ => rfl) (fun xs H Q E z => ?_) (fun f cv A out s H xs Q E hr z => ?_)
  · obtain ⟨v, rfl, _⟩ := z
    rfl
  · obtain ⟨v, rfl, k⟩ := z
    have c0 : XvC P w K mg base "InvalidWord" "InvalidWord.__init__" "value" (C 0) (bmX S 0) := h.c 0 (by decide)
    have c1 : XvC P w K mg base "InvalidNumber" "InvalidNumber.__init__" "value" (C 1) (bmX S 1) := h.c 1 (by decide)
    have c2 : XvC P w K mg base "InvalidItems" "InvalidItems.__init__" "value" (C 2) (bmX S 2) := h.c 2 (by decide)
    have c3 : XvC P w K mg base "InvalidTable" "InvalidTable.__init__" "value" (C 3) (bmX S 3) := h.c 3 (by decide)
    have c4 : XvC P w K mg base "InvalidBlocks" "InvalidBlocks.__init__" "value" (C 4) (bmX S 4) := h.c 4 (by decide)
    have c5 : XvC P w K mg base "InvalidEffect" "InvalidEffect.__init__" "value" (C 5) (bmX S 5) := h.c 5 (by decide)
    have c6 : XvC P w K mg base "InvalidStacks" "InvalidStacks.__init__" "value" (C 6) (bmX S 6) := h.c 6 (by decide)
    have c7 : XvC P w K mg base "InvalidOrder" "InvalidOrder.__init__" "value" (C 7) (bmX S 7) := h.c 7 (by decide)
    have c8 : XvC P w K mg base "InvalidCandidates" "InvalidCandidates.__init__" "value" (C 8) (bmX S 8) := h.c 8 (by decide)
    have c9 : XvC P w K mg base "InvalidText" "InvalidText.__init__" "value" (C 9) (bmX S 9) := h.c 9 (by decide)
    have c10 : XvC P w K mg base "InvalidSteps" "InvalidSteps.__init__" "index" (C 10) (bmX S 10) := h.c 10 (by decide)
    have c11 : XvC P w K mg base "InvalidObservation" "InvalidObservation.__init__" "index" (C 11) (bmX S 11) := h.c 11 (by decide)
    have c12 : XvC P w K mg base "InvalidCommand" "InvalidCommand.__init__" "line" (C 12) (bmX S 12) := h.c 12 (by decide)
    have c13 : XvC P w K mg base "UnknownName" "UnknownName.__init__" "name" (C 13) (bmX S 13) := h.c 13 (by decide)
    have c14 : XvC P w K mg base "StepFailed" "StepFailed.__init__" "index" (C 14) (bmX S 14) := h.c 14 (by decide)
    have c15 : XvC P w K mg base "NothingToUndo" "NothingToUndo.__init__" "count" (C 15) (bmX S 15) := h.c 15 (by decide)
    have c16 : XvC P w K mg base "LimitExceeded" "LimitExceeded.__init__" "limit" (C 16) (bmX S 16) := h.c 16 (by decide)
    refine ⟨_, (pss_cons (ps_set (i := 1) scMadeN.nd rfl (.inl rfl) (pe_lst (pa_cons (pe_mkV2 c0 hr (pk_cons (pv 0) pk_nil)) (pa_cons (pe_mkV2 c1 hr (pk_cons (pv 0) pk_nil)) (pa_cons (pe_mkV2 c2 hr (pk_cons (pv 0) pk_nil)) (pa_cons (pe_mkV2 c3 hr (pk_cons (pv 0) pk_nil)) pa_nil))))))
      (pss_cons (ps_set (i := 1) scMadeN.nd rfl (.inl rfl) (pe_op op_cat (pv 1) (pe_lst (pa_cons (pe_mkV2 c4 hr (pk_cons (pv 0) pk_nil)) (pa_cons (pe_mkV2 c5 hr (pk_cons (pv 0) pk_nil)) (pa_cons (pe_mkV2 c6 hr (pk_cons (pv 0) pk_nil)) pa_nil))))))
      (pss_cons (ps_set (i := 1) scMadeN.nd rfl (.inl rfl) (pe_op op_cat (pv 1) (pe_lst (pa_cons (pe_mkV2 c7 hr (pk_cons (pv 0) pk_nil)) (pa_cons (pe_mkV2 c8 hr (pk_cons (pv 0) pk_nil)) (pa_cons (pe_mkV2 c9 hr (pk_cons (pv 0) pk_nil)) pa_nil))))))
      (pss_cons (ps_set (i := 1) scMadeN.nd rfl (.inl rfl) (pe_op op_cat (pv 1) (pe_lst (pa_cons (pe_mkV2 c10 hr (pk_cons (pv 0) pk_nil)) (pa_cons (pe_mkV2 c11 hr (pk_cons (pv 0) pk_nil)) (pa_cons (pe_mkV2 c12 hr (pk_cons (pv 0) pk_nil)) pa_nil))))))
      (pss_one (ps_ret (pe_op op_cat (pv 1) (pe_lst (pa_cons (pe_mkV2 c13 hr (pk_cons (pv 0) pk_nil)) (pa_cons (pe_mkV2 c14 hr (pk_cons (pv 0) pk_nil)) (pa_cons (pe_mkV2 c15 hr (pk_cons (pv 0) pk_nil)) (pa_cons (pe_mkV2 c16 hr (pk_cons (pv 0) pk_nil)) pa_nil)))))))))))), ?_⟩
    dsimp only [tSeq, tAsg, tRet]
    refine MadeT.fst (n := 4) (v := v) (.cons rfl (.cons rfl (.cons rfl (.cons rfl .nil)))) (by rfl) (by decide) fun p0 e0 G0 s0 f0 l0 x0 => ?_
    dsimp only [gName]
    refine MadeT.cat (a := 4) (n := 3) (v := v) (.cons rfl (.cons rfl (.cons rfl .nil))) (by rfl) (by rfl) f0 l0 x0 (by decide) fun p1 e1 G1 s1 f1 l1 x1 => ?_
    dsimp only [gName]
    refine MadeT.cat (a := 7) (n := 3) (v := v) (.cons rfl (.cons rfl (.cons rfl .nil))) (by rfl) (by rfl) f1 l1 x1 (by decide) fun p2 e2 G2 s2 f2 l2 x2 => ?_
    dsimp only [gName]
    refine MadeT.cat (a := 10) (n := 3) (v := v) (.cons rfl (.cons rfl (.cons rfl .nil))) (by rfl) (by rfl) f2 l2 x2 (by decide) fun p3 e3 G3 s3 f3 l3 x3 => ?_
    dsimp only [gName]
    refine MadeT.cat (a := 13) (n := 4) (v := v) (.cons rfl (.cons rfl (.cons rfl (.cons rfl .nil)))) (by rfl) (by rfl) f3 l3 x3 (by decide) fun p4 e4 G4 s4 f4 l4 x4 => ?_
    exact k p4 e4 G4 (s0.trans (s1.trans (s2.trans (s3.trans s4)))) f4 l4 x4
end
end SE
namespace SE
open PySem PySem.Spec PyProof.Rows L2
section
variable {P : Program} {w : World} {K : PySem.W.Frag} {mg : Str → Option Value} {base : Heap} {S : Addr} {C : Nat → Addr}
theorem bm_ty (S : Addr) (j : Nat) (T : String) : (bmX S j).contains (.type T) = (bmX 0 j).contains (.type T) := by
  unfold bmX
  by_cases h : j < 13
  · rw [if_pos h, if_pos h, List.contains_cons, List.contains_cons]
    rfl
  · rw [if_neg h, if_neg h]
def basesX (j : Nat) : List Bool := [decide (j < 13), decide (j < 13), decide (j = 13), decide (j = 14), decide (j = 13) || decide (j = 15), decide (j = 16), false]
theorem bases_of : ∀ j : Fin 17, basesX j.1 = [decide (j.1 < 13), (bmX 0 j.1).contains (.type "ValueError"), (bmX 0 j.1).contains (.type "KeyError"), (bmX 0 j.1).contains (.type "RuntimeError"), (bmX 0 j.1).contains (.type "LookupError"), (bmX 0 j.1).contains (.type "OverflowError"), (bmX 0 j.1).contains (.type "IndexError")] := by decide +kernel
/-- what isinstance needs of a class -/
structure IsC (K : PySem.W.Frag) (D : Addr) : Prop where
  xf : XfC K D
  ha : PySem.W.findIn K (.ref D) "__class__" = some (some (.builtin "object.__class__"))
  hn : PySem.W.specialIn K (.builtin "object.__class__") "__get__" = some (some (.builtin "getset_descriptor.__get__"))
  ht : PySem.W.takesIn K (.builtin "object.__class__") = some true
  hm : PySem.W.mroIn K D (.type "object") = some true
theorem X17.is (h : X17 P w K mg base S C) {j : Nat} (hj : j < 17) : IsC K (C j) := by
  refine ⟨(h.c j hj).xf, (h.c j hj).ha, h.hn, h.ht, ?_⟩
  have e := sub_mr (h.c j hj).mr (.type "object")
  have q : ∀ j : Fin 17, (bmX 0 j.1).contains (.type "object") = true := by decide +kernel
  rw [List.contains_cons, bm_ty, q ⟨j, hj⟩, Bool.or_true] at e
  exact e
/-- the elements of a display ask for the class of the exception at 0 -/
def KindT (D : Addr) (ta : TA) (bs : List Bool) : Prop := ∀ (σ : L2.St) (H : Hp) (Q : List V → Hp → Prop) (a : Addr) (f : Str) (v : V), σ[0]? = some (some (.ref a)) → ExH H D f v a → Q (bs.map V.bl) H → ta σ H Q
theorem KindT.nil {D : Addr} : KindT D tNil [] := fun σ H Q a f v h0 hx q => q
theorem KindT.cons {D : Addr} (T : IsC K D) {ta : TA} {bs : List Bool} {c : V} {cv : Value} {b : Bool} (hc : ∀ u, RelV c u → u = cv) (hk : PySem.W.kitOne K (.ref D) cv = some b) (h : KindT D ta bs) :
    KindT D (tCons (tCB (rIsV K) (tCons (tVar 0) (tCons (tC c) tNil))) ta) (b :: bs) := fun σ H Q a f v h0 hx q =>
  ⟨_, h0, a, D, f, v, c, cv, b, rfl, hx, T.xf, T.ha, T.hn, T.ht, T.hm, hc, hk, h σ H _ a f v h0 hx q⟩
theorem KindT.fst {D : Addr} {ta : TA} {bs : List Bool} (m : KindT D ta bs) {σ : L2.St} {H : Hp} {a : Addr} {f : Str} {v : V} (h0 : σ[0]? = some (some (.ref a))) (hx : ExH H D f v a) (hb : bs.length ≤ 17) {Q : VK} (q : ∀ (p : Addr) (H' : Hp), Same H H' → H' p = some (.lst (bs.map V.bl)) → Q (.ref p) H') : tLst ta σ H Q :=
  m σ H _ a f v h0 hx ⟨by rw [List.length_map, sizeLine_eq]; omega, fun p hp => q p _ (Same.new hp) upd_same⟩
theorem KindT.cat {D : Addr} {ta : TA} {bs cs : List Bool} (m : KindT D ta bs) {σ : L2.St} {G : Hp} {a p : Addr} {f : Str} {v : V} (h0 : σ[0]? = some (some (.ref a))) (hp : σ[1]? = some (some (.ref p))) (hx : ExH G D f v a) (hf : G p = some (.lst (cs.map V.bl))) (hb : cs.length + bs.length ≤ 17)
    {Q : VK} (q : ∀ (p' : Addr) (G' : Hp), Same G G' → G' p' = some (.lst ((cs ++ bs).map V.bl)) → Q (.ref p') G') : tOp rCat (tVar 1) (tLst ta) σ G Q := by
  refine ⟨.ref p, hp, m σ G _ a f v h0 hx ⟨by rw [List.length_map, sizeLine_eq]; omega, fun r hr => ?_⟩⟩
  have t1 := Same.new (o := .lst (bs.map V.bl)) hr
  refine ⟨p, r, _, _, rfl, rfl, t1 _ _ hf, upd_same, by rw [List.length_map, List.length_map, sizeLine_eq]; omega, fun p' hp' => ?_⟩
  exact q p' _ (t1.trans (Same.new hp')) (by rw [upd_same, List.map_append])
def spAsk (C : Nat → Addr) (bs : Nat → List Bool) : Sp := fun xs H Q _ => ∃ a j v, xs = [.ref a] ∧ j < 17 ∧ ExH H (C j) (fldX j) v a ∧ ∀ (p : Addr) (H' : Hp), Same H H' → H' p = some (.lst ((bs j).map V.bl)) → Q (.ref p) H'
def kindsX (j : Nat) : List Bool := (List.range 17).map fun i => decide (j = i)
theorem scKinds : FnScope ["_law_e", "_law_found"] ["_law_e"] (defScope sLawKinds) := ⟨rfl, rfl, rfl, by decide +kernel, rfl, by decide +kernel, by decide +kernel⟩
theorem has_law_kinds (D : Def K mg "_law_kinds" sLawKinds) (h : X17 P w K mg base S C) (mi : mg "isinstance" = none) : Has P w K mg base "_law_kinds" 1 ["_law_e"] [] (spAsk C kindsX) := by
  refine has_of D scKinds (fun _ _ _ _ _ _ us hl => match us, hl with | [_], _ => rfl) (fun xs H Q E z => ?_) (fun f cv A out s H xs Q E hr z => ?_)
  · obtain ⟨a, j, v, rfl, _⟩ := z
    rfl
  · obtain ⟨a, j, v, rfl, hj, hx, k⟩ := z
    have T := h.is hj
    have c0 : XvC P w K mg base "InvalidWord" "InvalidWord.__init__" "value" (C 0) (bmX S 0) := h.c 0 (by decide)
    have c1 : XvC P w K mg base "InvalidNumber" "InvalidNumber.__init__" "value" (C 1) (bmX S 1) := h.c 1 (by decide)
    have c2 : XvC P w K mg base "InvalidItems" "InvalidItems.__init__" "value" (C 2) (bmX S 2) := h.c 2 (by decide)
    have c3 : XvC P w K mg base "InvalidTable" "InvalidTable.__init__" "value" (C 3) (bmX S 3) := h.c 3 (by decide)
    have c4 : XvC P w K mg base "InvalidBlocks" "InvalidBlocks.__init__" "value" (C 4) (bmX S 4) := h.c 4 (by decide)
    have c5 : XvC P w K mg base "InvalidEffect" "InvalidEffect.__init__" "value" (C 5) (bmX S 5) := h.c 5 (by decide)
    have c6 : XvC P w K mg base "InvalidStacks" "InvalidStacks.__init__" "value" (C 6) (bmX S 6) := h.c 6 (by decide)
    have c7 : XvC P w K mg base "InvalidOrder" "InvalidOrder.__init__" "value" (C 7) (bmX S 7) := h.c 7 (by decide)
    have c8 : XvC P w K mg base "InvalidCandidates" "InvalidCandidates.__init__" "value" (C 8) (bmX S 8) := h.c 8 (by decide)
    have c9 : XvC P w K mg base "InvalidText" "InvalidText.__init__" "value" (C 9) (bmX S 9) := h.c 9 (by decide)
    have c10 : XvC P w K mg base "InvalidSteps" "InvalidSteps.__init__" "index" (C 10) (bmX S 10) := h.c 10 (by decide)
    have c11 : XvC P w K mg base "InvalidObservation" "InvalidObservation.__init__" "index" (C 11) (bmX S 11) := h.c 11 (by decide)
    have c12 : XvC P w K mg base "InvalidCommand" "InvalidCommand.__init__" "line" (C 12) (bmX S 12) := h.c 12 (by decide)
    have c13 : XvC P w K mg base "UnknownName" "UnknownName.__init__" "name" (C 13) (bmX S 13) := h.c 13 (by decide)
    have c14 : XvC P w K mg base "StepFailed" "StepFailed.__init__" "index" (C 14) (bmX S 14) := h.c 14 (by decide)
    have c15 : XvC P w K mg base "NothingToUndo" "NothingToUndo.__init__" "count" (C 15) (bmX S 15) := h.c 15 (by decide)
    have c16 : XvC P w K mg base "LimitExceeded" "LimitExceeded.__init__" "limit" (C 16) (bmX S 16) := h.c 16 (by decide)
    refine ⟨_, (pss_cons (ps_set (i := 1) scKinds.nd rfl (.inl rfl) (pe_lst (pa_cons (pe_callB call_isV (by rfl) mi (by decide +kernel) (pa_cons (pv 0) (pa_cons (pe_glob (v := .ref (C 0)) rfl c0.gC rfl) pa_nil))) (pa_cons (pe_callB call_isV (by rfl) mi (by decide +kernel) (pa_cons (pv 0) (pa_cons (pe_glob (v := .ref (C 1)) rfl c1.gC rfl) pa_nil))) (pa_cons (pe_callB call_isV (by rfl) mi (by decide +kernel) (pa_cons (pv 0) (pa_cons (pe_glob (v := .ref (C 2)) rfl c2.gC rfl) pa_nil))) pa_nil)))))
      (pss_cons (ps_set (i := 1) scKinds.nd rfl (.inl rfl) (pe_op op_cat (pv 1) (pe_lst (pa_cons (pe_callB call_isV (by rfl) mi (by decide +kernel) (pa_cons (pv 0) (pa_cons (pe_glob (v := .ref (C 3)) rfl c3.gC rfl) pa_nil))) (pa_cons (pe_callB call_isV (by rfl) mi (by decide +kernel) (pa_cons (pv 0) (pa_cons (pe_glob (v := .ref (C 4)) rfl c4.gC rfl) pa_nil))) (pa_cons (pe_callB call_isV (by rfl) mi (by decide +kernel) (pa_cons (pv 0) (pa_cons (pe_glob (v := .ref (C 5)) rfl c5.gC rfl) pa_nil))) pa_nil))))))
      (pss_cons (ps_set (i := 1) scKinds.nd rfl (.inl rfl) (pe_op op_cat (pv 1) (pe_lst (pa_cons (pe_callB call_isV (by rfl) mi (by decide +kernel) (pa_cons (pv 0) (pa_cons (pe_glob (v := .ref (C 6)) rfl c6.gC rfl) pa_nil))) (pa_cons (pe_callB call_isV (by rfl) mi (by decide +kernel) (pa_cons (pv 0) (pa_cons (pe_glob (v := .ref (C 7)) rfl c7.gC rfl) pa_nil))) (pa_cons (pe_callB call_isV (by rfl) mi (by decide +kernel) (pa_cons (pv 0) (pa_cons (pe_glob (v := .ref (C 8)) rfl c8.gC rfl) pa_nil))) pa_nil))))))
      (pss_cons (ps_set (i := 1) scKinds.nd rfl (.inl rfl) (pe_op op_cat (pv 1) (pe_lst (pa_cons (pe_callB call_isV (by rfl) mi (by decide +kernel) (pa_cons (pv 0) (pa_cons (pe_glob (v := .ref (C 9)) rfl c9.gC rfl) pa_nil))) (pa_cons (pe_callB call_isV (by rfl) mi (by decide +kernel) (pa_cons (pv 0) (pa_cons (pe_glob (v := .ref (C 10)) rfl c10.gC rfl) pa_nil))) (pa_cons (pe_callB call_isV (by rfl) mi (by decide +kernel) (pa_cons (pv 0) (pa_cons (pe_glob (v := .ref (C 11)) rfl c11.gC rfl) pa_nil))) pa_nil))))))
      (pss_cons (ps_set (i := 1) scKinds.nd rfl (.inl rfl) (pe_op op_cat (pv 1) (pe_lst (pa_cons (pe_callB call_isV (by rfl) mi (by decide +kernel) (pa_cons (pv 0) (pa_cons (pe_glob (v := .ref (C 12)) rfl c12.gC rfl) pa_nil))) (pa_cons (pe_callB call_isV (by rfl) mi (by decide +kernel) (pa_cons (pv 0) (pa_cons (pe_glob (v := .ref (C 13)) rfl c13.gC rfl) pa_nil))) (pa_cons (pe_callB call_isV (by rfl) mi (by decide +kernel) (pa_cons (pv 0) (pa_cons (pe_glob (v := .ref (C 14)) rfl c14.gC rfl) pa_nil))) pa_nil))))))
      (pss_one (ps_ret (pe_op op_cat (pv 1) (pe_lst (pa_cons (pe_callB call_isV (by rfl) mi (by decide +kernel) (pa_cons (pv 0) (pa_cons (pe_glob (v := .ref (C 15)) rfl c15.gC rfl) pa_nil))) (pa_cons (pe_callB call_isV (by rfl) mi (by decide +kernel) (pa_cons (pv 0) (pa_cons (pe_glob (v := .ref (C 16)) rfl c16.gC rfl) pa_nil))) pa_nil))))))))))), ?_⟩
    dsimp only [tSeq, tAsg, tRet]
    refine KindT.fst (.cons (c := .ref (C 0)) T (cv := .ref (C 0)) (fun u r => r) (h.kit (i := 0) (by decide) hj) (.cons (c := .ref (C 1)) T (cv := .ref (C 1)) (fun u r => r) (h.kit (i := 1) (by decide) hj) (.cons (c := .ref (C 2)) T (cv := .ref (C 2)) (fun u r => r) (h.kit (i := 2) (by decide) hj) .nil))) (by rfl) hx (by simp) fun p0 G0 s0 f0 => ?_
    have x0 := hx.same s0
    dsimp only [gName]
    refine KindT.cat (.cons (c := .ref (C 3)) T (cv := .ref (C 3)) (fun u r => r) (h.kit (i := 3) (by decide) hj) (.cons (c := .ref (C 4)) T (cv := .ref (C 4)) (fun u r => r) (h.kit (i := 4) (by decide) hj) (.cons (c := .ref (C 5)) T (cv := .ref (C 5)) (fun u r => r) (h.kit (i := 5) (by decide) hj) .nil))) (by rfl) (by rfl) x0 f0 (by simp) fun p1 G1 s1 f1 => ?_
    have x1 := x0.same s1
    dsimp only [gName]
    refine KindT.cat (.cons (c := .ref (C 6)) T (cv := .ref (C 6)) (fun u r => r) (h.kit (i := 6) (by decide) hj) (.cons (c := .ref (C 7)) T (cv := .ref (C 7)) (fun u r => r) (h.kit (i := 7) (by decide) hj) (.cons (c := .ref (C 8)) T (cv := .ref (C 8)) (fun u r => r) (h.kit (i := 8) (by decide) hj) .nil))) (by rfl) (by rfl) x1 f1 (by simp) fun p2 G2 s2 f2 => ?_
    have x2 := x1.same s2
    dsimp only [gName]
    refine KindT.cat (.cons (c := .ref (C 9)) T (cv := .ref (C 9)) (fun u r => r) (h.kit (i := 9) (by decide) hj) (.cons (c := .ref (C 10)) T (cv := .ref (C 10)) (fun u r => r) (h.kit (i := 10) (by decide) hj) (.cons (c := .ref (C 11)) T (cv := .ref (C 11)) (fun u r => r) (h.kit (i := 11) (by decide) hj) .nil))) (by rfl) (by rfl) x2 f2 (by simp) fun p3 G3 s3 f3 => ?_
    have x3 := x2.same s3
    dsimp only [gName]
    refine KindT.cat (.cons (c := .ref (C 12)) T (cv := .ref (C 12)) (fun u r => r) (h.kit (i := 12) (by decide) hj) (.cons (c := .ref (C 13)) T (cv := .ref (C 13)) (fun u r => r) (h.kit (i := 13) (by decide) hj) (.cons (c := .ref (C 14)) T (cv := .ref (C 14)) (fun u r => r) (h.kit (i := 14) (by decide) hj) .nil))) (by rfl) (by rfl) x3 f3 (by simp) fun p4 G4 s4 f4 => ?_
    have x4 := x3.same s4
    dsimp only [gName]
    refine KindT.cat (.cons (c := .ref (C 15)) T (cv := .ref (C 15)) (fun u r => r) (h.kit (i := 15) (by decide) hj) (.cons (c := .ref (C 16)) T (cv := .ref (C 16)) (fun u r => r) (h.kit (i := 16) (by decide) hj) .nil)) (by rfl) (by rfl) x4 f4 (by simp) fun p5 G5 s5 f5 => ?_
    have x5 := x4.same s5
    refine k p5 G5 (s0.trans (s1.trans (s2.trans (s3.trans (s4.trans s5))))) ?_
    exact f5
theorem scBases : FnScope ["_law_e", "_law_found"] ["_law_e"] (defScope sLawBases) := ⟨rfl, rfl, rfl, by decide +kernel, rfl, by decide +kernel, by decide +kernel⟩
theorem has_law_bases (D : Def K mg "_law_bases" sLawBases) (h : X17 P w K mg base S C) (mi : mg "isinstance" = none) (mValueError : mg "ValueError" = none) (mKeyError : mg "KeyError" = none) (mRuntimeError : mg "RuntimeError" = none) (mLookupError : mg "LookupError" = none) (mOverflowError : mg "OverflowError" = none) (mIndexError : mg "IndexError" = none) : Has P w K mg base "_law_bases" 1 ["_law_e"] [] (spAsk C basesX) := by
  refine has_of D scBases (fun _ _ _ _ _ _ us hl => match us, hl with | [_], _ => rfl) (fun xs H Q E z => ?_) (fun f cv A out s H xs Q E hr z => ?_)
  · obtain ⟨a, j, v, rfl, _⟩ := z
    rfl
  · obtain ⟨a, j, v, rfl, hj, hx, k⟩ := z
    have T := h.is hj
    refine ⟨_, (pss_cons (ps_set (i := 1) scBases.nd rfl (.inl rfl) (pe_lst (pa_cons (pe_callB call_isV (by rfl) mi (by decide +kernel) (pa_cons (pv 0) (pa_cons (pe_glob (v := .ref S) rfl h.gS rfl) pa_nil))) (pa_cons (pe_callB call_isV (by rfl) mi (by decide +kernel) (pa_cons (pv 0) (pa_cons (pe_bltn (v := .ty "ValueError") (by rfl) mValueError (by decide +kernel) rfl) pa_nil))) (pa_cons (pe_callB call_isV (by rfl) mi (by decide +kernel) (pa_cons (pv 0) (pa_cons (pe_bltn (v := .ty "KeyError") (by rfl) mKeyError (by decide +kernel) rfl) pa_nil))) pa_nil)))))
      (pss_cons (ps_set (i := 1) scBases.nd rfl (.inl rfl) (pe_op op_cat (pv 1) (pe_lst (pa_cons (pe_callB call_isV (by rfl) mi (by decide +kernel) (pa_cons (pv 0) (pa_cons (pe_bltn (v := .ty "RuntimeError") (by rfl) mRuntimeError (by decide +kernel) rfl) pa_nil))) (pa_cons (pe_callB call_isV (by rfl) mi (by decide +kernel) (pa_cons (pv 0) (pa_cons (pe_bltn (v := .ty "LookupError") (by rfl) mLookupError (by decide +kernel) rfl) pa_nil))) pa_nil)))))
      (pss_one (ps_ret (pe_op op_cat (pv 1) (pe_lst (pa_cons (pe_callB call_isV (by rfl) mi (by decide +kernel) (pa_cons (pv 0) (pa_cons (pe_bltn (v := .ty "OverflowError") (by rfl) mOverflowError (by decide +kernel) rfl) pa_nil))) (pa_cons (pe_callB call_isV (by rfl) mi (by decide +kernel) (pa_cons (pv 0) (pa_cons (pe_bltn (v := .ty "IndexError") (by rfl) mIndexError (by decide +kernel) rfl) pa_nil))) pa_nil)))))))), ?_⟩
    dsimp only [tSeq, tAsg, tRet]
    refine KindT.fst (.cons (c := .ref S) T (cv := .ref S) (fun u r => r) (h.kitS hj) (.cons (c := .ty "ValueError") T (cv := .type "ValueError") (fun u r => r) (h.kitT (T := "ValueError") hj (by decide +kernel)) (.cons (c := .ty "KeyError") T (cv := .type "KeyError") (fun u r => r) (h.kitT (T := "KeyError") hj (by decide +kernel)) .nil))) (by rfl) hx (by simp) fun p0 G0 s0 f0 => ?_
    have x0 := hx.same s0
    dsimp only [gName]
    refine KindT.cat (.cons (c := .ty "RuntimeError") T (cv := .type "RuntimeError") (fun u r => r) (h.kitT (T := "RuntimeError") hj (by decide +kernel)) (.cons (c := .ty "LookupError") T (cv := .type "LookupError") (fun u r => r) (h.kitT (T := "LookupError") hj (by decide +kernel)) .nil)) (by rfl) (by rfl) x0 f0 (by simp) fun p1 G1 s1 f1 => ?_
    have x1 := x0.same s1
    dsimp only [gName]
    refine KindT.cat (.cons (c := .ty "OverflowError") T (cv := .type "OverflowError") (fun u r => r) (h.kitT (T := "OverflowError") hj (by decide +kernel)) (.cons (c := .ty "IndexError") T (cv := .type "IndexError") (fun u r => r) (h.kitT (T := "IndexError") hj (by decide +kernel)) .nil)) (by rfl) (by rfl) x1 f1 (by simp) fun p2 G2 s2 f2 => ?_
    have x2 := x1.same s2
    refine k p2 G2 (s0.trans (s1.trans s2)) ?_
    have e := bases_of ⟨j, hj⟩
    dsimp only at e
    rw [e, ← bm_ty S, ← bm_ty S, ← bm_ty S, ← bm_ty S, ← bm_ty S, ← bm_ty S]
    exact f2
def spDue : Sp := fun xs H Q _ => ∃ j : Nat, xs = [.int j] ∧ j < 17 ∧ ∀ (p : Addr) (H' : Hp), Same H H' → H' p = some (.lst ((basesX j).map V.bl)) → Q (.ref p) H'
theorem scDue : FnScope ["_law_spot"] ["_law_spot"] (defScope sLawDue) := ⟨rfl, rfl, rfl, by decide +kernel, rfl, by decide +kernel, by decide +kernel⟩
theorem has_due (D : Def K mg "_law_due" sLawDue) : Has P w K mg base "_law_due" 1 ["_law_spot"] [] spDue := by
  refine has_of D scDue (fun _ _ _ _ _ _ us hl => match us, hl with | [_], _ => rfl) (fun xs H Q E z => ?_) (fun f cv A out s H xs Q E hr z => ?_)
  · obtain ⟨j, rfl, _⟩ := z
    rfl
  · obtain ⟨j, rfl, hj, k⟩ := z
    refine ⟨_, pss_cons (ps_if (pt_cmpR op_lt (pv 0) pe_int (nomark _)) (pss_one (ps_ret (pe_lst (pa_cons pe_bl (pa_cons pe_bl (pa_cons pe_bl (pa_cons pe_bl (pa_cons pe_bl (pa_cons pe_bl (pa_cons pe_bl pa_nil)))))))))) pss_nil)
      (pss_cons (ps_if (pt_cmpR op_eq (pv 0) pe_int (nomark _)) (pss_one (ps_ret (pe_lst (pa_cons pe_bl (pa_cons pe_bl (pa_cons pe_bl (pa_cons pe_bl (pa_cons pe_bl (pa_cons pe_bl (pa_cons pe_bl pa_nil)))))))))) pss_nil)
      (pss_cons (ps_if (pt_cmpR op_eq (pv 0) pe_int (nomark _)) (pss_one (ps_ret (pe_lst (pa_cons pe_bl (pa_cons pe_bl (pa_cons pe_bl (pa_cons pe_bl (pa_cons pe_bl (pa_cons pe_bl (pa_cons pe_bl pa_nil)))))))))) pss_nil)
      (pss_one (ps_ret (pe_lst (pa_cons pe_bl (pa_cons pe_bl (pa_cons pe_bl (pa_cons pe_bl (pa_cons (pe_cmpR op_eq (pv 0) pe_int (nomark _)) (pa_cons (pe_cmpR op_eq (pv 0) pe_int (nomark _)) (pa_cons pe_bl pa_nil)))))))))))), ?_⟩
    have dj : ∀ n : Nat, decide (V.int (j : Int) = V.int (n : Int)) = decide (j = n) := fun n => by
      by_cases q : j = n
      · subst q; simp
      · have : ¬ ((j : Int) = (n : Int)) := by omega
        simp [q, this]
    refine ⟨_, rfl, j, 13, rfl, rfl, _, rfl, ite2 (fun c => ?_) (fun c => ?_)⟩
    · refine ⟨by show 7 ≤ sizeLine; decide, fun p hp => k p _ (Same.new hp) ?_⟩
      have c := of_decide_eq_true c
      have c : j < 13 := by omega
      rw [upd_same]
      have q : ∀ j : Fin 13, basesX j.1 = [true, true, false, false, false, false, false] := by decide +kernel
      rw [q ⟨j, c⟩]
      rfl
    have c : ¬ ((j : Int) < 13) := fun z => c (decide_eq_true z)
    refine ⟨_, rfl, rfl, _, rfl, ite2 (fun c1 => ?_) (fun c1 => ?_)⟩
    · refine ⟨by show 7 ≤ sizeLine; decide, fun p hp => k p _ (Same.new hp) ?_⟩
      obtain rfl : j = 13 := of_decide_eq_true ((dj 13).symm.trans c1)
      rw [upd_same]
      rfl
    have c1 : j ≠ 13 := fun z => c1 ((dj 13).trans (decide_eq_true z))
    refine ⟨_, rfl, rfl, _, rfl, ite2 (fun c2 => ?_) (fun c2 => ?_)⟩
    · refine ⟨by show 7 ≤ sizeLine; decide, fun p hp => k p _ (Same.new hp) ?_⟩
      obtain rfl : j = 14 := of_decide_eq_true ((dj 14).symm.trans c2)
      rw [upd_same]
      rfl
    have c2 : j ≠ 14 := fun z => c2 ((dj 14).trans (decide_eq_true z))
    refine ⟨_, rfl, rfl, _, rfl, rfl, by show 7 ≤ sizeLine; decide, fun p hp => k p _ (Same.new hp) ?_⟩
    have e : j = 15 ∨ j = 16 := by omega
    rw [upd_same]
    rcases e with rfl | rfl <;> rfl
end
end SE
namespace SE
open PySem PySem.Spec PyProof.Rows L2
section
variable {P : Program} {w : World} {K : PySem.W.Frag} {mg : Str → Option Value} {base : Heap} {S : Addr} {C : Nat → Addr}
theorem can_bools : ∀ bs : List Bool, PyData.canLayAll0 (bs.map PyData.bool) = true
  | [] => by simp [PyData.canLayAll0]
  | b :: bs => by simp [PyData.canLayAll0, PyData.canLay0, can_bools bs]
theorem dep_bools : ∀ bs : List Bool, PyData.depthAll (bs.map PyData.bool) = 0
  | [] => by simp [PyData.depthAll]
  | b :: bs => by simp [PyData.depthAll, PyData.depth, dep_bools bs]
theorem shp_bools (bs : List Bool) : SeqAt.shaped (.list (bs.map PyData.bool)) = true := by
  simp [SeqAt.shaped, PyData.canLay0, PyData.depth, can_bools bs, dep_bools bs]
theorem dps_bools {H : Hp} : ∀ bs : List Bool, DpAll K H (bs.map V.bl) (bs.map PyData.bool)
  | [] => .nil
  | b :: bs => .cons (.bl b) (dps_bools bs)
/-- two lists of the same booleans -/
theorem ne_bools {H : Hp} {p q : Addr} {bs : List Bool} {Q : VK} (h1 : H p = some (.lst (bs.map V.bl))) (h2 : H q = some (.lst (bs.map V.bl))) (k : Q (.bl false) H) : rNeD K (.ref p) (.ref q) H Q := by
  have s := shp_bools bs
  refine ⟨_, _, .lst (.of h1) (dps_bools bs), .lst (.of h2) (dps_bools bs), s, s, ?_⟩
  rw [SeqAt.eqv_refl _ (SeqAt.canLay_of_shaped s)]
  exact k
theorem fld_at (h : X17 P w K mg base S C) {i : Nat} (hi : i < 17) {H : Hp} {p : Addr} {es : List Addr} {v : V} (f : SqL K H p (es.map V.ref)) (l : es.length = 17) (x : ExS H C v 0 es) {n : Str} (hn : n = fldX i) {y : V} (hy : y = .int (i : Nat)) {Q : VK} (q : Q v H) :
    rIxL K (.ref p) y H fun a H1 => ∃ a' C' v', a = .ref a' ∧ XfC K C' ∧ PySem.W.findIn K (.ref C') n = some none ∧ ExH H1 C' n v' a' ∧ Q v' H1 := by
  subst hn hy
  have e : es[i]? = some (es[i]'(by omega)) := List.getElem?_eq_getElem (by omega)
  have z := x i _ e
  rw [Nat.zero_add] at z
  refine ⟨p, _, (i : Nat), .ref (es[i]'(by omega)), rfl, rfl, f, at_of (j := i) rfl (by rw [List.getElem?_map, e]; rfl), ?_⟩
  exact ⟨_, C i, v, rfl, (h.c i hi).xf, (h.c i hi).noF, z, q⟩
theorem fld_pk {H : Hp} {es : List Addr} {v : V} (l : es.length = 17) (x : ExS H C v 0 es) (i : Nat) (hi : i < 17) : ∃ e, atI (es.map V.ref) (i : Int) = some (.ref e) ∧ ExH H (C i) (fldX i) v e := by
  have e : es[i]? = some (es[i]'(by omega)) := List.getElem?_eq_getElem (by omega)
  have z := x i _ e
  rw [Nat.zero_add] at z
  exact ⟨_, at_of (j := i) rfl (by rw [List.getElem?_map, e]; rfl), z⟩
theorem fld10 : ∀ i : Fin 10, ("value" : Str) = fldX i.1 := by decide +kernel
theorem yes_in {σ : L2.St} {H : Hp} {F G : Hp → Prop} (h : F H) : tYes σ H (fun b H3 => if b = true then F H3 else G H3) := by
  show if true = true then F H else G H
  exact iteT h
theorem line100 {m : Nat} (h : m ≤ 100) : m ≤ sizeLine := by
  rw [sizeLine_eq]
  omega
abbrev nRight : List Str := ["_law_found", "_law_odd", "_law_told", "_law_spot", "_law_e", "_law_thing", "_law_one"]
theorem scRight : FnScope nRight ["_law_found", "_law_odd"] (defScope sRight) := ⟨rfl, rfl, rfl, by decide +kernel, rfl, by decide +kernel, by decide +kernel⟩
def spRight (K : PySem.W.Frag) (C : Nat → Addr) : Sp := fun xs H Q _ => ∃ (p : Addr) (o : V) (es : List Addr) (t : Str), xs = [.ref p, o] ∧ H p = some (.lst (es.map V.ref)) ∧ es.length = 17 ∧ ExS H C o 0 es ∧ RepT K H o t ∧ ∀ H', Same H H' → Q (.bl true) H'
theorem has_right (D : Def K mg "_law_right" sRight) (h : X17 P w K mg base S C) (GK : Has P w K mg base "_law_kinds" 1 ["_law_e"] [] (spAsk C kindsX)) (GB : Has P w K mg base "_law_bases" 1 ["_law_e"] [] (spAsk C basesX)) (GD : Has P w K mg base "_law_due" 1 ["_law_spot"] [] spDue)
    (mr : mg "range" = none) (mn : mg "enumerate" = none) (mp : mg "repr" = none) : GHas P w K mg base "_law_right" 2 ["_law_found", "_law_odd"] (spRight K C) := by
  refine ghas_of D scRight (fun _ _ _ _ _ _ us hl => match us, hl with | [_, _], _ => rfl) (fun xs H Q E z => ?_) (fun f cv A out s H xs Q E hgu hr z => ?_)
  · obtain ⟨p, o, es, t, rfl, _⟩ := z
    rfl
  · obtain ⟨p, o, es, t, rfl, hp, l, x, ht, k⟩ := z
    refine ⟨_, pss_cons (ps_set (i := 2) scRight.nd rfl (.inl rfl) (pe_op op_cat (pe_lc (own := [("_law_spot", 3)]) (g := gName 3) (tt := tYes) (te := tFldV K "value" (tOp (rIxL K) (tVar 0) (tVar 3))) rfl scRight.nd (pi_range1 (by rfl) mr (pa_cons pe_int pa_nil)) (blkOk_by (own := [("_law_spot", 3)]) (N := nRight) (sc := defScope sRight) (by decide +kernel))
          (fun _ _ _ _ _ => pg_name (i := 3) scRight.nd rfl (.inl rfl)) (fun _ _ _ _ _ => pts_nil) (fun _ _ _ _ _ => pe_fldV (pe_ix ix_list (pv 0) (pv 3) (fun _ _ => rfl))))
        (pe_lst (pa_cons (pe_fldV (pe_ix ix_list (pv 0) pe_int (fun _ _ => rfl))) (pa_cons (pe_fldV (pe_ix ix_list (pv 0) pe_int (fun _ _ => rfl))) (pa_cons (pe_fldV (pe_ix ix_list (pv 0) pe_int (fun _ _ => rfl))) pa_nil))))))
      (pss_cons (ps_set (i := 2) scRight.nd rfl (.inl rfl) (pe_op op_cat (pv 2) (pe_lst (pa_cons (pe_fldV (pe_ix ix_list (pv 0) pe_int (fun _ _ => rfl))) (pa_cons (pe_fldV (pe_ix ix_list (pv 0) pe_int (fun _ _ => rfl))) (pa_cons (pe_fldV (pe_ix ix_list (pv 0) pe_int (fun _ _ => rfl))) (pa_cons (pe_fldV (pe_ix ix_list (pv 0) pe_int (fun _ _ => rfl))) pa_nil)))))))
      (pss_cons (ps_if (pt_cmpR (op_neD hr.units) (pe_lc (own := [("_law_thing", 5)]) (g := gName 5) (tt := tTest (tOp rNe (tCB (rRepO K) (tCons (tVar 5) tNil)) (tCB (rRepO K) (tCons (tVar 1) tNil)))) (te := tVar 5) rfl scRight.nd (pi_list (pv 2)) (blkOk_by (own := [("_law_thing", 5)]) (N := nRight) (sc := defScope sRight) (by decide +kernel))
          (fun _ _ _ _ _ => pg_name (i := 5) scRight.nd rfl (.inl rfl)) (fun _ _ _ _ _ => pts_one (pt_cmpR op_ne (pe_callB (call_repO hgu hr.units) (by rfl) mp (by decide +kernel) (pa_cons (pv 5) pa_nil)) (pe_callB (call_repO hgu hr.units) (by rfl) mp (by decide +kernel) (pa_cons (pv 1) pa_nil)) (nomark _))) (fun _ _ _ _ _ => pv 5)) (pe_lst pa_nil) (nomark _)) (pss_one (ps_ret pe_bl)) pss_nil)
      (pss_cons (ps_for PassesOwn.never rfl (pi_enum (by rfl) mn (pa_cons (pv 0) pa_nil)) (pg_tup (by rfl) (pgs_cons (pg_name (i := 3) scRight.nd rfl (.inr rfl)) (pgs_cons (pg_name (i := 4) scRight.nd rfl (.inl rfl)) pgs_nil)))
        (pss_one (ps_if (PW.pt (pw_or (pt_cmpR (op_neD hr.units) (pe_has GK hr (pa_cons (pv 4) pa_nil)) (pe_lc (own := [("_law_one", 6)]) (g := gName 6) (tt := tYes) (te := tOp rEq (tVar 3) (tVar 6)) rfl scRight.nd (pi_range1 (by rfl) mr (pa_cons pe_int pa_nil)) (blkOk_by (own := [("_law_one", 6)]) (N := nRight) (sc := defScope sRight) (by decide +kernel))
            (fun _ _ _ _ _ => pg_name (i := 6) scRight.nd rfl (.inl rfl)) (fun _ _ _ _ _ => pts_nil) (fun _ _ _ _ _ => pe_cmpR op_eq (pv 3) (pv 6) (nomark _))) (nomark _))
          (pw_or1 (pt_cmpR (op_neD hr.units) (pe_has GB hr (pa_cons (pv 4) pa_nil)) (pe_has GD hr (pa_cons (pv 3) pa_nil)) (nomark _))))) (pss_one (ps_ret pe_bl)) pss_nil)))
      (pss_one (ps_ret pe_bl))))), ?_⟩
    have sp : SqL K H p (es.map V.ref) := .of hp
    refine ⟨10, rfl, by decide, by decide, fun D0 hD0 => lc_range (lo := 0) (n := 10) (fun i H1 => Same H H1 ∧ H1 D0 = some (.lst (List.replicate i o))) ⟨Same.new hD0, upd_same⟩ ?_ ?_⟩
    · rintro i H1 hi ⟨s1, d1⟩
      refine ⟨rfl, yes_in ⟨_, rfl, _, rfl, fld_at h (i := i) (by omega) (Same.seq s1 sp) l (x.same s1) (fld10 ⟨i, hi⟩) (by rw [Int.zero_add]) ⟨_, d1, ?_, Same.free2 s1 hD0, ?_⟩⟩⟩
      · rw [List.length_replicate, sizeLine_eq]
        omega
      · rw [upd_same, List.replicate_succ']
    rintro H1 ⟨s1, d1⟩
    have S1 := Same.seq s1 sp
    have X1 := x.same s1
    obtain ⟨e10, a10, z10⟩ := fld_pk l x 10 (by decide)
    obtain ⟨e11, a11, z11⟩ := fld_pk l x 11 (by decide)
    obtain ⟨e12, a12, z12⟩ := fld_pk l x 12 (by decide)
    obtain ⟨e13, a13, z13⟩ := fld_pk l x 13 (by decide)
    obtain ⟨e14, a14, z14⟩ := fld_pk l x 14 (by decide)
    obtain ⟨e15, a15, z15⟩ := fld_pk l x 15 (by decide)
    obtain ⟨e16, a16, z16⟩ := fld_pk l x 16 (by decide)
    refine ⟨_, rfl, p, _, 10, .ref e10, rfl, rfl, S1, a10, e10, C 10, o, rfl, (h.c 10 (by decide)).xf, (h.c 10 (by decide)).noF, z10.same s1, _, rfl, p, _, 11, .ref e11, rfl, rfl, S1, a11, e11, C 11, o, rfl, (h.c 11 (by decide)).xf, (h.c 11 (by decide)).noF, z11.same s1, _, rfl, p, _, 12, .ref e12, rfl, rfl, S1, a12, e12, C 12, o, rfl, (h.c 12 (by decide)).xf, (h.c 12 (by decide)).noF, z12.same s1, line100 (by simp), fun p1 hp1 => ?_⟩
    have t1 := Same.new (o := .lst [o, o, o]) hp1
    refine ⟨D0, p1, _, _, rfl, rfl, t1 _ _ d1, upd_same, line100 (by simp), fun p2 hp2 => ?_⟩
    have t2 := Same.new (o := .lst (List.replicate 10 o ++ [o, o, o])) hp2
    have f2 : (upd (upd H1 p1 (.lst [o, o, o])) p2 (.lst (List.replicate 10 o ++ [o, o, o]))) p2 = some (.lst (List.replicate 13 o)) := upd_same
    have s2 := s1.trans (t1.trans t2)
    generalize upd (upd H1 p1 (.lst [o, o, o])) p2 (.lst (List.replicate 10 o ++ [o, o, o])) = H2 at f2 s2
    have S2 := Same.seq s2 sp
    have X2 := x.same s2
    refine ⟨_, rfl, _, rfl, p, _, 13, .ref e13, rfl, rfl, S2, a13, e13, C 13, o, rfl, (h.c 13 (by decide)).xf, (h.c 13 (by decide)).noF, z13.same s2, _, rfl, p, _, 14, .ref e14, rfl, rfl, S2, a14, e14, C 14, o, rfl, (h.c 14 (by decide)).xf, (h.c 14 (by decide)).noF, z14.same s2, _, rfl, p, _, 15, .ref e15, rfl, rfl, S2, a15, e15, C 15, o, rfl, (h.c 15 (by decide)).xf, (h.c 15 (by decide)).noF, z15.same s2, _, rfl, p, _, 16, .ref e16, rfl, rfl, S2, a16, e16, C 16, o, rfl, (h.c 16 (by decide)).xf, (h.c 16 (by decide)).noF, z16.same s2, line100 (by simp), fun p3 hp3 => ?_⟩
    have t3 := Same.new (o := .lst [o, o, o, o]) hp3
    refine ⟨p2, p3, _, _, rfl, rfl, t3 _ _ f2, upd_same, line100 (by simp), fun p4 hp4 => ?_⟩
    have t4 := Same.new (o := .lst (List.replicate 13 o ++ [o, o, o, o])) hp4
    have f4 : (upd (upd H2 p3 (.lst [o, o, o, o])) p4 (.lst (List.replicate 13 o ++ [o, o, o, o]))) p4 = some (.lst (List.replicate 17 o)) := upd_same
    have s4 := s2.trans (t3.trans t4)
    generalize upd (upd H2 p3 (.lst [o, o, o, o])) p4 (.lst (List.replicate 13 o ++ [o, o, o, o])) = H4 at f4 s4
    refine ⟨_, rfl, p4, rfl, ⟨_, .of f4⟩, fun E hE => lc_list (K := K) (a := p4) (xs := List.replicate 17 o) (fun i H5 => Same H4 H5 ∧ H5 E = some (.lst [])) ⟨Same.new hE, upd_same⟩ (fun i H5 _ q => .of (q.1 _ _ f4)) ?_ ?_⟩
    · rintro i y H5 hi ⟨s5, d5⟩
      obtain rfl : y = o := List.eq_of_mem_replicate (List.mem_of_getElem? hi)
      have T5 := (ht.same s4).same s5
      refine ⟨rfl, _, rfl, y, t, rfl, T5, _, rfl, y, t, rfl, T5, rfl, _, rfl, ?_⟩
      rw [show (!decide (V.str t = V.str t)) = false from by simp]
      exact iteF ⟨s5, d5⟩
    rintro H5 ⟨s5, d5⟩
    refine ⟨Nat.zero_le _, fun q hq => ne_bools (bs := []) (Same.new hq _ _ d5) upd_same ⟨_, rfl, iteF ?_⟩⟩
    have s6 := (s4.trans s5).trans (Same.new (o := .lst []) hq)
    generalize upd H5 q (.lst []) = H6 at s6
    refine ⟨_, rfl, p, _, rfl, Same.seq s6 sp, for_it (walk_enum (K := K) (a := p) (xs := es.map V.ref)) (fun i σ H2 => ∃ y3 y4 y5 y6, σ = [some (.ref p), some o, some (.ref p4), y3, y4, y5, y6] ∧ Same H H2) ⟨_, _, _, _, rfl, s6⟩ (fun i σ H2 _ q => ?_) ?_ ?_⟩
    · obtain ⟨_, _, _, _, _, s2⟩ := q
      exact Same.seq s2 sp
    · rintro i x0 σ H7 H8 hi ⟨y3, y4, y5, y6, rfl, s7⟩ ⟨T, n, y, rfl, nT, rfl, hn, hy⟩
      have hi : i < 17 := by
        rw [List.length_map, l] at hi
        exact hi
      obtain rfl : n = .int (i : Nat) := (Option.some.inj hn).symm
      have e : es[i]? = some (es[i]'(by omega)) := List.getElem?_eq_getElem (by omega)
      dsimp only at hy
      rw [List.getElem?_map, e] at hy
      obtain rfl : V.ref (es[i]'(by omega)) = y := Option.some.inj hy
      have z := x i _ e
      rw [Nat.zero_add] at z
      have s8 : Same H (upd H7 T (.tup [.int (i : Nat), V.ref (es[i]'(by omega))])) := Same.free2 s7 (s7.free nT)
      refine ⟨T, _, rfl, .of upd_same, rfl, _, _, rfl, _, _, rfl, rfl, ?_⟩
      generalize upd H7 T (.tup [.int (i : Nat), V.ref (es[i]'(by omega))]) = H8 at s8
      refine ⟨_, rfl, _, i, o, rfl, hi, z.same s8, fun a1 G1 u1 g1 => ?_⟩
      refine ⟨17, rfl, by decide, by decide, fun D9 hD9 => lc_range (lo := 0) (n := 17) (fun m G2 => Same G1 G2 ∧ G2 D9 = some (.lst ((((List.range m).map fun k => decide (i = k))).map V.bl))) ⟨Same.new hD9, upd_same⟩ ?_ ?_⟩
      · rintro m G2 hm ⟨u2, d2⟩
        refine ⟨rfl, yes_in ⟨_, rfl, _, rfl, rfl, _, d2, ?_, Same.free2 u2 hD9, ?_⟩⟩
        · rw [List.length_map, List.length_map, List.length_range, sizeLine_eq]
          omega
        · rw [upd_same, List.range_succ, List.map_append, List.map_append]
          have e : decide (V.int (i : Nat) = V.int (0 + (m : Nat))) = decide (i = m) := by
            by_cases q : i = m
            · subst q; simp
            · have : ¬ ((i : Int) = 0 + (m : Int)) := by omega
              simp only [V.int.injEq, this, q]
          rw [e]
          rfl
      rintro G2 ⟨u2, d2⟩
      refine ne_bools (u2 _ _ g1) d2 ⟨_, rfl, iteF ?_⟩
      refine ⟨_, rfl, _, i, o, rfl, hi, z.same (s8.trans (u1.trans u2)), fun a3 G3 u3 g3 => ⟨_, rfl, i, rfl, hi, fun a4 G4 u4 g4 => ne_bools (u4 _ _ g3) g4 ⟨_, rfl, iteF ?_⟩⟩⟩
      exact ⟨_, _, _, _, rfl, s8.trans (u1.trans (u2.trans (u3.trans u4)))⟩
    · rintro σ H7 ⟨y3, y4, y5, y6, rfl, s7⟩
      exact k _ s7
end
end SE
namespace SE
open PySem PySem.Spec PyProof.Rows L2
section
/-- list + list, whichever lists -/
def rCatX (K : PySem.W.Frag) : R2 := fun x y H Q => ∃ l b xs zs, x = .ref l ∧ y = .ref b ∧ SqL K H l xs ∧ SqL K H b zs ∧ xs.length + zs.length ≤ sizeLine ∧ ∀ p, H p = none → Q (.ref p) (upd H p (.lst (xs ++ zs)))
theorem op_catX {X : Cx} : OpR X (binaryOp .Add) (rCatX X.K) := by
  intro pins s σ H x y v u Q I rx ry h
  obtain ⟨l, b, xs, zs, rfl, rfl, hH, hB, hz, q⟩ := h
  cases rx
  cases ry
  obtain ⟨its, r, p1, z1⟩ := I.list hH
  obtain ⟨its2, r2, p2, z2⟩ := I.list hB
  have l1 := r.length
  have l2 := r2.length
  obtain ⟨⟨cls, dd, data, sl⟩, n, ho, hc, hd, hda⟩ := p1
  obtain ⟨⟨cls2, dd2, data2, sl2⟩, n2, ho2, hc2, hd2, hda2⟩ := p2
  simp only at hc hd hda hc2 hd2 hda2
  subst hc hda hc2 hda2
  have e : its.toArray ++ its2.toArray = (its ++ its2).toArray := by simp
  refine concat_meets ⟨_, ho, rfl⟩ ⟨_, ho2, rfl⟩ noFill_list_add seq_list_add PySem.F.slot_list_add PySem.F.entry_list_add (PySem.F.args_list_add_2 _ _) (list_addW l b its.toArray its2.toArray n n2 dd dd2 sl sl2 (by simp only [List.size_toArray]; omega)) ⟨ho, ho2, ?_⟩
  rw [e]
  exact ⟨.ref _, _, I.lnew (t' := s.toks) (r.append r2) (by rw [List.length_append]; omega), rfl, q _ I.fresh⟩
end
section
variable {P : Program} {w : World} {K : PySem.W.Frag} {mg : Str → Option Value} {base : Heap} {S : Addr} {C : Nat → Addr}
def spLaw (K : PySem.W.Frag) : Sp := fun xs H Q _ => ∃ (a : Addr) (ns : List Int), xs = [.ref a] ∧ SqL K H a (ns.map V.int) ∧ ns.length ≤ 63 ∧ ∀ H', Q (.bl true) H'
abbrev nLaw : List Str := ["_law_script", "_law_k", "_law_cell", "_law_things", "_law_odd"]
theorem scLaw : FnScope nLaw ["_law_script"] (defScope sLaw) := ⟨rfl, rfl, rfl, by decide +kernel, rfl, by decide +kernel, by decide +kernel⟩
theorem ok_law {f : Addr} {fd : FuncData} (F : Fun K "law" "law" sLaw f fd) (GM : Has P w K mg base "_law_made" 3 ["_law_odd"] [] (spMade K C)) (GN : Has P w K mg base "_law_made_by_name" 3 ["_law_odd"] [] (spMade K C)) (GR : GHas P w K mg base "_law_right" 2 ["_law_found", "_law_odd"] (spRight K C))
    (mr : mg "range" = none) (mx : mg "max" = none) (mn : mg "min" = none) (ml : mg "len" = none) : GOk P w K mg base 4 f fd ["_law_script"] (spLaw K) := by
  refine gok_mk F scLaw (fun xs H Q E h => ?_) (fun cv A out s H xs Q E hgu hr h => ?_)
  · obtain ⟨a, ns, rfl, _⟩ := h
    rfl
  · obtain ⟨a, ns, rfl, hS, hlen, k⟩ := h
    have hr2 : Room 2 _ := hr.mono (by decide)
    refine ⟨_, (pss_cons (ps_for PassesOwn.never rfl (pi_range1 (by rfl) mr (pa_cons (pe_callB (call_max2 rfl) (by rfl) mx (by decide +kernel) (pa_cons pe_int (pa_cons (pe_callB (call_min2 rfl) (by rfl) mn (by decide +kernel) (pa_cons (pe_callB call_len_seq (by rfl) ml PySem.boot_len (pa_cons (pv 0) pa_nil)) (pa_cons pe_int pa_nil))) pa_nil))) pa_nil)) (pg_name (i := 1) scLaw.nd rfl (.inl rfl))
      (pss_cons (ps_set (i := 2) scLaw.nd rfl (.inl rfl) (pe_ix ix_list (pe_op op_catX (pv 0) (pe_lst (pa_cons pe_int pa_nil))) (pe_callB (call_min2 rfl) (by rfl) mn (by decide +kernel) (pa_cons (pv 1) (pa_cons (pe_callB call_len_seq (by rfl) ml PySem.boot_len (pa_cons (pv 0) pa_nil)) pa_nil))) (fun _ _ => rfl)))
      (pss_cons (ps_set (i := 3) scLaw.nd rfl (.inl rfl) (pe_lst (pa_cons pe_non (pa_cons pe_str (pa_cons (pe_tup pa_nil) (pa_cons (pe_lst pa_nil) (pa_cons (pe_disp (pps_cons pe_str pe_int pps_nil) rfl rfl (by decide) (by decide)) (pa_cons pe_bl (pa_cons (pe_tup (pa_cons pe_str (pa_cons (pe_lst (pa_cons pe_int pa_nil)) pa_nil))) (pa_cons pe_int (pa_cons (pe_op op_mod (pv 2) (pe_op op_pow pe_int pe_int)) pa_nil)))))))))))
      (pss_cons (ps_set (i := 4) scLaw.nd rfl (.inl rfl) (pe_ix ix_list (pv 3) (pe_op op_mod (pe_op op_add (pv 1) (pe_op op_mod (pv 2) pe_int)) pe_int) (fun _ _ => rfl)))
      (pss_one (ps_if (PW.pt (pw_or (pt_not (pt_val (pe_ghas GR hgu hr2 (pa_cons (pe_has GM (hr.mono (by decide)) (pa_cons (pv 4) pa_nil)) (pa_cons (pv 4) pa_nil))))) (pw_or1 (pt_not (pt_val (pe_ghas GR hgu hr2 (pa_cons (pe_has GN (hr.mono (by decide)) (pa_cons (pv 4) pa_nil)) (pa_cons (pv 4) pa_nil)))))))) (pss_one (ps_ret pe_bl)) pss_nil))))))
      (pss_one (ps_ret pe_bl))), ?_⟩
    refine ⟨_, rfl, a, _, rfl, .inl hS, _, 9, rfl, 1, _, rfl, ?_⟩
    have hN : ∀ n : Nat, (1 : Int) ≤ (if (if (9 : Int) < (n : Int) then 9 else (n : Int)) > 1 then (if (9 : Int) < (n : Int) then 9 else (n : Int)) else 1) ∧ (if (if (9 : Int) < (n : Int) then 9 else (n : Int)) > 1 then (if (9 : Int) < (n : Int) then 9 else (n : Int)) else 1) ≤ 9 := by
      intro n
      split <;> split <;> omega
    have hN1 := hN (ns.map V.int).length
    generalize hM : (if (if (9 : Int) < ((ns.map V.int).length : Int) then 9 else ((ns.map V.int).length : Int)) > 1 then (if (9 : Int) < ((ns.map V.int).length : Int) then 9 else ((ns.map V.int).length : Int)) else 1) = N at hN1
    refine ⟨N, by rw [← hM], by omega, by omega, for_range (lo := 0) (n := N.toNat) (fun i σ H2 => ∃ (y1 y2 y3 y4 : Option V), σ = [some (.ref a), y1, y2, y3, y4] ∧ Same H H2) ⟨_, _, _, _, rfl, Same.refl H⟩ ?_ ?_⟩
    rotate_left
    · rintro σ H2 ⟨y1, y2, y3, y4, rfl, s2⟩
      exact k _
    rintro i σ H2 hi ⟨y1, y2, y3, y4, rfl, s2⟩
    refine ⟨_, rfl, by show 1 ≤ sizeLine; decide, fun r1 h1 => ?_⟩
    have t1 := Same.new (o := .lst [.int 0]) h1
    refine ⟨a, r1, _, _, rfl, rfl, Same.seq (s2.trans t1) hS, .of upd_same, by rw [List.length_map, List.length_singleton, sizeLine_eq]; omega, fun r2 h2 => ?_⟩
    have t2 := Same.new (o := .lst (ns.map V.int ++ [.int 0])) h2
    have s3 := s2.trans (t1.trans t2)
    have f3 : (upd (upd H2 r1 (.lst [.int 0])) r2 (.lst (ns.map V.int ++ [.int 0]))) r2 = some (.lst ((ns ++ [0]).map V.int)) := by
      rw [upd_same, List.map_append]
      rfl
    generalize upd (upd H2 r1 (.lst [.int 0])) r2 (.lst (ns.map V.int ++ [.int 0])) = H3 at s3 f3
    obtain ⟨c, hc⟩ : ∃ c, (ns ++ [0])[min i ns.length]? = some c := ⟨_, List.getElem?_eq_getElem (by rw [List.length_append, List.length_singleton]; omega)⟩
    refine ⟨_, rfl, _, rfl, a, _, rfl, .inl (Same.seq s3 hS), 0 + i, _, rfl, r2, _, _, .int c, rfl, rfl, .of f3, at_of (j := min i ns.length) (by rw [List.length_map]; split <;> omega) (by rw [List.getElem?_map, hc]; rfl), ?_⟩
    clear hc f3
    refine ⟨by show 0 ≤ sizeLine; decide, fun p1 h1 => ⟨by show 0 ≤ sizeLine; decide, fun p2 h2 p3 h3 => ⟨upd_same, [(.inr "a", .int 1)], rfl, by decide, by show 1 ≤ sizeLine; decide, fun p4 h4 => ⟨by show 2 ≤ sizeLine; decide, fun p5 h5 => ?_⟩⟩⟩⟩
    have u1 := Same.new (o := .tup []) h1
    have u2 := Same.new (o := .lst []) h2
    have u3 := Same.free2 (o := oneD) (Same.new (o := .dK []) h3) h3
    have u4 := Same.new (o := .lst [.int 0]) h4
    have u5 := Same.new (o := .tup [.str "a", .ref p4]) h5
    have hz : (0 : Int) < (10 : Int) ^ (30 : Int).toNat := by decide
    refine ⟨_, rfl, 10, 30, rfl, rfl, ⟨by decide, by decide, by decide⟩, c, _, rfl, rfl, hz, by show 9 ≤ sizeLine; decide, fun p6 h6 => ?_⟩
    obtain ⟨z, hzz⟩ : ∃ z, z = c % (10 : Int) ^ (30 : Int).toNat := ⟨_, rfl⟩
    have z0 : 0 ≤ z := by rw [hzz]; exact Int.emod_nonneg _ (by omega)
    have z1 : z < (10 : Int) ^ (30 : Int).toNat := by rw [hzz]; exact Int.emod_lt_of_pos _ hz
    change gName 3 (V.ref p6) _ (upd (upd (upd (upd (upd (upd (upd H3 p1 (.tup [])) p2 (.lst [])) p3 (.dK [])) p3 oneD) p4 (.lst [.int 0])) p5 (.tup [.str "a", .ref p4])) p6 (.lst [.non, .str "text", .ref p1, .ref p2, .ref p3, .bl true, .ref p5, .int 0, .int (c % (10 : Int) ^ (30 : Int).toNat)])) _
    rw [← hzz]
    have u6 := Same.new (o := .lst [.non, .str "text", .ref p1, .ref p2, .ref p3, .bl true, .ref p5, .int 0, .int z]) h6
    have e2 := u6 _ _ (u5 _ _ (u4 _ _ (u3 _ _ (upd_same (H := upd H3 p1 (.tup [])) (a := p2) (o := .lst [])))))
    have e1 := u6 _ _ (u5 _ _ (u4 _ _ (u3 _ _ (u2 _ _ (upd_same (H := H3) (a := p1) (o := .tup []))))))
    have e3 := u6 _ _ (u5 _ _ (u4 _ _ (upd_same (H := upd (upd (upd H3 p1 (.tup [])) p2 (.lst [])) p3 (.dK [])) (a := p3) (o := oneD))))
    have e4 := u6 _ _ (u5 _ _ (upd_same (H := upd (upd (upd (upd H3 p1 (.tup [])) p2 (.lst [])) p3 (.dK [])) p3 oneD) (a := p4) (o := .lst [.int 0])))
    have e5 := u6 _ _ (upd_same (H := upd (upd (upd (upd (upd H3 p1 (.tup [])) p2 (.lst [])) p3 (.dK [])) p3 oneD) p4 (.lst [.int 0])) (a := p5) (o := .tup [.str "a", .ref p4]))
    have s4 := s3.trans (u1.trans (u2.trans (u3.trans (u4.trans (u5.trans u6)))))
    have e6 := upd_same (H := upd (upd (upd (upd (upd (upd H3 p1 (.tup [])) p2 (.lst [])) p3 (.dK [])) p3 oneD) p4 (.lst [.int 0])) p5 (.tup [.str "a", .ref p4])) (a := p6) (o := .lst [.non, .str "text", .ref p1, .ref p2, .ref p3, .bl true, .ref p5, .int 0, .int z])
    replace e1 : (upd (upd (upd (upd (upd (upd (upd H3 p1 (.tup [])) p2 (.lst [])) p3 (.dK [])) p3 oneD) p4 (.lst [.int 0])) p5 (.tup [.str "a", .ref p4])) p6 (.lst [.non, .str "text", .ref p1, .ref p2, .ref p3, .bl true, .ref p5, .int 0, .int z])) p1 = some (.tup []) := e1
    replace e2 : (upd (upd (upd (upd (upd (upd (upd H3 p1 (.tup [])) p2 (.lst [])) p3 (.dK [])) p3 oneD) p4 (.lst [.int 0])) p5 (.tup [.str "a", .ref p4])) p6 (.lst [.non, .str "text", .ref p1, .ref p2, .ref p3, .bl true, .ref p5, .int 0, .int z])) p2 = some (.lst []) := e2
    replace e3 : (upd (upd (upd (upd (upd (upd (upd H3 p1 (.tup [])) p2 (.lst [])) p3 (.dK [])) p3 oneD) p4 (.lst [.int 0])) p5 (.tup [.str "a", .ref p4])) p6 (.lst [.non, .str "text", .ref p1, .ref p2, .ref p3, .bl true, .ref p5, .int 0, .int z])) p3 = some (oneD) := e3
    replace e4 : (upd (upd (upd (upd (upd (upd (upd H3 p1 (.tup [])) p2 (.lst [])) p3 (.dK [])) p3 oneD) p4 (.lst [.int 0])) p5 (.tup [.str "a", .ref p4])) p6 (.lst [.non, .str "text", .ref p1, .ref p2, .ref p3, .bl true, .ref p5, .int 0, .int z])) p4 = some (.lst [.int 0]) := e4
    replace e5 : (upd (upd (upd (upd (upd (upd (upd H3 p1 (.tup [])) p2 (.lst [])) p3 (.dK [])) p3 oneD) p4 (.lst [.int 0])) p5 (.tup [.str "a", .ref p4])) p6 (.lst [.non, .str "text", .ref p1, .ref p2, .ref p3, .bl true, .ref p5, .int 0, .int z])) p5 = some (.tup [.str "a", .ref p4]) := e5
    replace s4 : Same H (upd (upd (upd (upd (upd (upd (upd H3 p1 (.tup [])) p2 (.lst [])) p3 (.dK [])) p3 oneD) p4 (.lst [.int 0])) p5 (.tup [.str "a", .ref p4])) p6 (.lst [.non, .str "text", .ref p1, .ref p2, .ref p3, .bl true, .ref p5, .int 0, .int z])) := s4
    generalize upd (upd (upd (upd (upd (upd (upd H3 p1 (.tup [])) p2 (.lst [])) p3 (.dK [])) p3 oneD) p4 (.lst [.int 0])) p5 (.tup [.str "a", .ref p4])) p6 (.lst [.non, .str "text", .ref p1, .ref p2, .ref p3, .bl true, .ref p5, .int 0, .int z]) = G at s4 e1 e2 e3 e4 e5 e6 ⊢
    clear u1 u2 u3 u4 u5 u6 h1 h2 h3 h4 h5 h6 t1 t2
    obtain ⟨m, hm⟩ : ∃ m : Nat, ((0 + (i : Int)) + c % 9) % 9 = (m : Int) := ⟨(((0 + (i : Int)) + c % 9) % 9).toNat, (Int.toNat_of_nonneg (Int.emod_nonneg _ (by omega))).symm⟩
    have m9 : m < 9 := by
      have := Int.emod_lt_of_pos ((0 + (i : Int)) + c % 9) (show (0 : Int) < 9 by decide)
      omega
    obtain ⟨x, hx⟩ : ∃ x, ([.non, .str "text", .ref p1, .ref p2, .ref p3, .bl true, .ref p5, .int 0, .int z] : List V)[m]? = some x := ⟨_, List.getElem?_eq_getElem (show m < 9 from m9)⟩
    have one : ∀ x ∈ ([.non, .str "text", .ref p1, .ref p2, .ref p3, .bl true, .ref p5, .int 0, .int z] : List V), ∃ t, RepT K G x t := fun x mx => by
      simp only [List.mem_cons, List.not_mem_nil, or_false] at mx
      rcases mx with rfl | rfl | rfl | rfl | rfl | rfl | rfl | rfl | rfl
      · exact ⟨_, .inl ⟨.none, .non, by decide +kernel, by decide +kernel, by decide +kernel, rfl⟩⟩
      · exact ⟨_, .inl ⟨.str "text", .str _, by decide +kernel, by decide +kernel, by decide +kernel, rfl⟩⟩
      · exact ⟨_, .inl ⟨.tuple [], .tup (.of e1) .nil, by decide +kernel, by decide +kernel, by decide +kernel, rfl⟩⟩
      · exact ⟨_, .inl ⟨.list [], .lst (.of e2) .nil, by decide +kernel, by decide +kernel, by decide +kernel, rfl⟩⟩
      · exact ⟨_, .inr (.inl ⟨p3, rfl, e3, rfl⟩)⟩
      · exact ⟨_, .inl ⟨.bool true, .bl true, by decide +kernel, by decide +kernel, by decide +kernel, rfl⟩⟩
      · exact ⟨_, .inl ⟨.tuple [.str "a", .list [.int 0]], .tup (.of e5) (.cons (.str _) (.cons (.lst (.of e4) (.cons (.int 0) .nil)) .nil)), by decide +kernel, by decide +kernel, by decide +kernel, rfl⟩⟩
      · exact ⟨_, .inr (.inr ⟨0, rfl, by decide +kernel, rfl⟩)⟩
      · refine ⟨_, .inr (.inr ⟨z, rfl, PySem.Flt.log2_lt_of (by decide) (Nat.lt_of_lt_of_le (show z.natAbs < 2 ^ 100 from ?_) (Nat.pow_le_pow_right (by decide) (by decide))), rfl⟩)⟩
        have z2 : (10 : Int) ^ (30 : Int).toNat < 2 ^ 100 := by decide
        have z3 : ((2 ^ 100 : Nat) : Int) = (2 : Int) ^ 100 := by norm_cast
        omega
    obtain ⟨t, ht⟩ := one x (List.mem_of_getElem? hx)
    clear one e1 e2 e3 e4 e5
    refine ⟨_, rfl, _, rfl, _, rfl, c, 9, rfl, rfl, by show (0 : Int) < 9; decide, _, _, rfl, rfl, _, 9, rfl, rfl, by show (0 : Int) < 9; decide, p6, _, _, x, rfl, rfl, .of e6, at_of (j := m) hm hx, ?_⟩
    refine ⟨_, rfl, x, rfl, fun q1 es1 H7 s7 f7 l7 x7 => ⟨_, rfl, q1, x, es1, t, rfl, f7, l7, x7, ht.same s7, fun H8 s8 => ⟨true, rfl, iteF ?_⟩⟩⟩
    refine ⟨_, rfl, x, rfl, fun q2 es2 H9 s9 f9 l9 x9 => ⟨_, rfl, q2, x, es2, t, rfl, f9, l9, x9, ((ht.same s7).same s8).same s9, fun H10 s10 => ⟨true, rfl, iteF ?_⟩⟩⟩
    exact ⟨_, _, _, _, rfl, s4.trans (s7.trans (s8.trans (s9.trans s10)))⟩
end
end SE
namespace SE
open PySem PySem.Spec PyProof.Rows L2
section
/-! ### what the top has left -/
theorem scI_InvalidWord : FnScope ["self", "value"] ["self", "value"] (defScope (inClass sInvalidword 0)) := ⟨rfl, rfl, rfl, by decide +kernel, rfl, by decide +kernel, by decide +kernel⟩
theorem scI_InvalidNumber : FnScope ["self", "value"] ["self", "value"] (defScope (inClass sInvalidnumber 0)) := ⟨rfl, rfl, rfl, by decide +kernel, rfl, by decide +kernel, by decide +kernel⟩
theorem scI_InvalidItems : FnScope ["self", "value"] ["self", "value"] (defScope (inClass sInvaliditems 0)) := ⟨rfl, rfl, rfl, by decide +kernel, rfl, by decide +kernel, by decide +kernel⟩
theorem scI_InvalidTable : FnScope ["self", "value"] ["self", "value"] (defScope (inClass sInvalidtable 0)) := ⟨rfl, rfl, rfl, by decide +kernel, rfl, by decide +kernel, by decide +kernel⟩
theorem scI_InvalidBlocks : FnScope ["self", "value"] ["self", "value"] (defScope (inClass sInvalidblocks 0)) := ⟨rfl, rfl, rfl, by decide +kernel, rfl, by decide +kernel, by decide +kernel⟩
theorem scI_InvalidEffect : FnScope ["self", "value"] ["self", "value"] (defScope (inClass sInvalideffect 0)) := ⟨rfl, rfl, rfl, by decide +kernel, rfl, by decide +kernel, by decide +kernel⟩
theorem scI_InvalidStacks : FnScope ["self", "value"] ["self", "value"] (defScope (inClass sInvalidstacks 0)) := ⟨rfl, rfl, rfl, by decide +kernel, rfl, by decide +kernel, by decide +kernel⟩
theorem scI_InvalidOrder : FnScope ["self", "value"] ["self", "value"] (defScope (inClass sInvalidorder 0)) := ⟨rfl, rfl, rfl, by decide +kernel, rfl, by decide +kernel, by decide +kernel⟩
theorem scI_InvalidCandidates : FnScope ["self", "value"] ["self", "value"] (defScope (inClass sInvalidcandidates 0)) := ⟨rfl, rfl, rfl, by decide +kernel, rfl, by decide +kernel, by decide +kernel⟩
theorem scI_InvalidText : FnScope ["self", "value"] ["self", "value"] (defScope (inClass sInvalidtext 0)) := ⟨rfl, rfl, rfl, by decide +kernel, rfl, by decide +kernel, by decide +kernel⟩
theorem scI_InvalidSteps : FnScope ["self", "index"] ["self", "index"] (defScope (inClass sInvalidsteps 0)) := ⟨rfl, rfl, rfl, by decide +kernel, rfl, by decide +kernel, by decide +kernel⟩
theorem scI_InvalidObservation : FnScope ["self", "index"] ["self", "index"] (defScope (inClass sInvalidobservation 0)) := ⟨rfl, rfl, rfl, by decide +kernel, rfl, by decide +kernel, by decide +kernel⟩
theorem scI_InvalidCommand : FnScope ["self", "line"] ["self", "line"] (defScope (inClass sInvalidcommand 0)) := ⟨rfl, rfl, rfl, by decide +kernel, rfl, by decide +kernel, by decide +kernel⟩
theorem scI_UnknownName : FnScope ["self", "name"] ["self", "name"] (defScope (inClass sUnknownname 0)) := ⟨rfl, rfl, rfl, by decide +kernel, rfl, by decide +kernel, by decide +kernel⟩
theorem scI_StepFailed : FnScope ["self", "index"] ["self", "index"] (defScope (inClass sStepfailed 0)) := ⟨rfl, rfl, rfl, by decide +kernel, rfl, by decide +kernel, by decide +kernel⟩
theorem scI_NothingToUndo : FnScope ["self", "count"] ["self", "count"] (defScope (inClass sNothingtoundo 0)) := ⟨rfl, rfl, rfl, by decide +kernel, rfl, by decide +kernel, by decide +kernel⟩
theorem scI_LimitExceeded : FnScope ["self", "limit"] ["self", "limit"] (defScope (inClass sLimitexceeded 0)) := ⟨rfl, rfl, rfl, by decide +kernel, rfl, by decide +kernel, by decide +kernel⟩
theorem def_mk {K : PySem.W.Frag} {h : Heap} {mg : Str → Option Value} {x : Str} {st : Stmt} {f : Addr} {oc : Value} {od an : Option Addr} {osl : Array (Option Value)} {kV doc pm cdv ct : Value} (X : K.In h) (G : h.Ns mainGlobals mg)
    (a : PySem.W.nsIn K mainGlobals x = some (some (.ref f))) (l : K.lookup f = some ⟨oc, od, .func (PySem.W.fnOf x x (defArgs st) (defBody st) (defScope st) .none kV doc pm an cdv ct), osl⟩)
    (c : PySem.W.codeIn K cdv x = true) (k : PySem.W.keepIn K (.ref f) = true) : Def K mg x st := ⟨f, _, fun_mk l c k, PySem.W.mg_of X G a⟩
theorem XvC.neS {P : Program} {w : World} {K : PySem.W.Frag} {mg : Str → Option Value} {base : Heap} {x q f : Str} {C S : Addr} {bm : List Value} {b : String} (h : XvC P w K mg base x q f C bm) (i : PySem.W.findIn K (.ref S) "__init__" = some (some (.builtin b))) : C ≠ S := fun e => by
  subst e
  obtain ⟨fI, fd, st, i1, _⟩ := h.init
  rw [i1] at i
  cases i
set_option maxHeartbeats 40000000 in
theorem all_mk {l : PySem.W.OpenLaw} {w : World} {K : PySem.W.Frag} {h : Heap} {mg : Str → Option Value} {fa fL S CX0 gX0 NX0 CX1 gX1 NX1 CX2 gX2 NX2 CX3 gX3 NX3 CX4 gX4 NX4 CX5 gX5 NX5 CX6 gX6 NX6 CX7 gX7 NX7 CX8 gX8 NX8 CX9 gX9 NX9 CX10 gX10 NX10 CX11 gX11 NX11 CX12 gX12 NX12 CX13 gX13 NX13 CX14 gX14 NX14 CX15 gX15 NX15 CX16 gX16 NX16 : Addr} (X : K.In h) (G : h.Ns mainGlobals mg) (hfa : mg "law" = some (.ref fa))
    {nmX0 qX0 : Str} {bsX0 : List Value} {snX0 : List Str} {subX0 : List Value} {abX0 : Bool} {colX0 : Option Bool} {ddX0 odX0 anX0 : Option Addr} {m0X0 m1X0 m2X0 m3X0 m5X0 : Option Value} {slX0 : Array (Option Value)} {ocX0 kVX0 dcX0 pmX0 cdX0 ctX0 : Value}
    {nmX1 qX1 : Str} {bsX1 : List Value} {snX1 : List Str} {subX1 : List Value} {abX1 : Bool} {colX1 : Option Bool} {ddX1 odX1 anX1 : Option Addr} {m0X1 m1X1 m2X1 m3X1 m5X1 : Option Value} {slX1 : Array (Option Value)} {ocX1 kVX1 dcX1 pmX1 cdX1 ctX1 : Value}
    {nmX2 qX2 : Str} {bsX2 : List Value} {snX2 : List Str} {subX2 : List Value} {abX2 : Bool} {colX2 : Option Bool} {ddX2 odX2 anX2 : Option Addr} {m0X2 m1X2 m2X2 m3X2 m5X2 : Option Value} {slX2 : Array (Option Value)} {ocX2 kVX2 dcX2 pmX2 cdX2 ctX2 : Value}
    {nmX3 qX3 : Str} {bsX3 : List Value} {snX3 : List Str} {subX3 : List Value} {abX3 : Bool} {colX3 : Option Bool} {ddX3 odX3 anX3 : Option Addr} {m0X3 m1X3 m2X3 m3X3 m5X3 : Option Value} {slX3 : Array (Option Value)} {ocX3 kVX3 dcX3 pmX3 cdX3 ctX3 : Value}
    {nmX4 qX4 : Str} {bsX4 : List Value} {snX4 : List Str} {subX4 : List Value} {abX4 : Bool} {colX4 : Option Bool} {ddX4 odX4 anX4 : Option Addr} {m0X4 m1X4 m2X4 m3X4 m5X4 : Option Value} {slX4 : Array (Option Value)} {ocX4 kVX4 dcX4 pmX4 cdX4 ctX4 : Value}
    {nmX5 qX5 : Str} {bsX5 : List Value} {snX5 : List Str} {subX5 : List Value} {abX5 : Bool} {colX5 : Option Bool} {ddX5 odX5 anX5 : Option Addr} {m0X5 m1X5 m2X5 m3X5 m5X5 : Option Value} {slX5 : Array (Option Value)} {ocX5 kVX5 dcX5 pmX5 cdX5 ctX5 : Value}
    {nmX6 qX6 : Str} {bsX6 : List Value} {snX6 : List Str} {subX6 : List Value} {abX6 : Bool} {colX6 : Option Bool} {ddX6 odX6 anX6 : Option Addr} {m0X6 m1X6 m2X6 m3X6 m5X6 : Option Value} {slX6 : Array (Option Value)} {ocX6 kVX6 dcX6 pmX6 cdX6 ctX6 : Value}
    {nmX7 qX7 : Str} {bsX7 : List Value} {snX7 : List Str} {subX7 : List Value} {abX7 : Bool} {colX7 : Option Bool} {ddX7 odX7 anX7 : Option Addr} {m0X7 m1X7 m2X7 m3X7 m5X7 : Option Value} {slX7 : Array (Option Value)} {ocX7 kVX7 dcX7 pmX7 cdX7 ctX7 : Value}
    {nmX8 qX8 : Str} {bsX8 : List Value} {snX8 : List Str} {subX8 : List Value} {abX8 : Bool} {colX8 : Option Bool} {ddX8 odX8 anX8 : Option Addr} {m0X8 m1X8 m2X8 m3X8 m5X8 : Option Value} {slX8 : Array (Option Value)} {ocX8 kVX8 dcX8 pmX8 cdX8 ctX8 : Value}
    {nmX9 qX9 : Str} {bsX9 : List Value} {snX9 : List Str} {subX9 : List Value} {abX9 : Bool} {colX9 : Option Bool} {ddX9 odX9 anX9 : Option Addr} {m0X9 m1X9 m2X9 m3X9 m5X9 : Option Value} {slX9 : Array (Option Value)} {ocX9 kVX9 dcX9 pmX9 cdX9 ctX9 : Value}
    {nmX10 qX10 : Str} {bsX10 : List Value} {snX10 : List Str} {subX10 : List Value} {abX10 : Bool} {colX10 : Option Bool} {ddX10 odX10 anX10 : Option Addr} {m0X10 m1X10 m2X10 m3X10 m5X10 : Option Value} {slX10 : Array (Option Value)} {ocX10 kVX10 dcX10 pmX10 cdX10 ctX10 : Value}
    {nmX11 qX11 : Str} {bsX11 : List Value} {snX11 : List Str} {subX11 : List Value} {abX11 : Bool} {colX11 : Option Bool} {ddX11 odX11 anX11 : Option Addr} {m0X11 m1X11 m2X11 m3X11 m5X11 : Option Value} {slX11 : Array (Option Value)} {ocX11 kVX11 dcX11 pmX11 cdX11 ctX11 : Value}
    {nmX12 qX12 : Str} {bsX12 : List Value} {snX12 : List Str} {subX12 : List Value} {abX12 : Bool} {colX12 : Option Bool} {ddX12 odX12 anX12 : Option Addr} {m0X12 m1X12 m2X12 m3X12 m5X12 : Option Value} {slX12 : Array (Option Value)} {ocX12 kVX12 dcX12 pmX12 cdX12 ctX12 : Value}
    {nmX13 qX13 : Str} {bsX13 : List Value} {snX13 : List Str} {subX13 : List Value} {abX13 : Bool} {colX13 : Option Bool} {ddX13 odX13 anX13 : Option Addr} {m0X13 m1X13 m2X13 m3X13 m5X13 : Option Value} {slX13 : Array (Option Value)} {ocX13 kVX13 dcX13 pmX13 cdX13 ctX13 : Value}
    {nmX14 qX14 : Str} {bsX14 : List Value} {snX14 : List Str} {subX14 : List Value} {abX14 : Bool} {colX14 : Option Bool} {ddX14 odX14 anX14 : Option Addr} {m0X14 m1X14 m2X14 m3X14 m5X14 : Option Value} {slX14 : Array (Option Value)} {ocX14 kVX14 dcX14 pmX14 cdX14 ctX14 : Value}
    {nmX15 qX15 : Str} {bsX15 : List Value} {snX15 : List Str} {subX15 : List Value} {abX15 : Bool} {colX15 : Option Bool} {ddX15 odX15 anX15 : Option Addr} {m0X15 m1X15 m2X15 m3X15 m5X15 : Option Value} {slX15 : Array (Option Value)} {ocX15 kVX15 dcX15 pmX15 cdX15 ctX15 : Value}
    {nmX16 qX16 : Str} {bsX16 : List Value} {snX16 : List Str} {subX16 : List Value} {abX16 : Bool} {colX16 : Option Bool} {ddX16 odX16 anX16 : Option Addr} {m0X16 m1X16 m2X16 m3X16 m5X16 : Option Value} {slX16 : Array (Option Value)} {ocX16 kVX16 dcX16 pmX16 cdX16 ctX16 : Value}
    {odL anL : Option Addr} {slL : Array (Option Value)} {ocL kVL dcL pmL cdL ctL : Value}
    (d__law_made : Def K mg "_law_made" sLawMade)
    (d__law_made_by_name : Def K mg "_law_made_by_name" sLawMadeByName)
    (d__law_kinds : Def K mg "_law_kinds" sLawKinds)
    (d__law_bases : Def K mg "_law_bases" sLawBases)
    (d__law_due : Def K mg "_law_due" sLawDue)
    (d__law_right : Def K mg "_law_right" sRight)
    (z_isinstance : PySem.W.nsIn K mainGlobals "isinstance" = some none)
    (z_repr : PySem.W.nsIn K mainGlobals "repr" = some none)
    (z_range : PySem.W.nsIn K mainGlobals "range" = some none)
    (z_enumerate : PySem.W.nsIn K mainGlobals "enumerate" = some none)
    (z_max : PySem.W.nsIn K mainGlobals "max" = some none)
    (z_min : PySem.W.nsIn K mainGlobals "min" = some none)
    (z_len : PySem.W.nsIn K mainGlobals "len" = some none)
    (z_ValueError : PySem.W.nsIn K mainGlobals "ValueError" = some none)
    (z_KeyError : PySem.W.nsIn K mainGlobals "KeyError" = some none)
    (z_RuntimeError : PySem.W.nsIn K mainGlobals "RuntimeError" = some none)
    (z_LookupError : PySem.W.nsIn K mainGlobals "LookupError" = some none)
    (z_OverflowError : PySem.W.nsIn K mainGlobals "OverflowError" = some none)
    (z_IndexError : PySem.W.nsIn K mainGlobals "IndexError" = some none)
    (aS : PySem.W.nsIn K mainGlobals "StackError" = some (some (.ref S)))
    (tS : PySem.W.typeIn K (.ref S) = some (.type "type"))
    (hS : PySem.W.hasDictIn K S = true)
    (iS : PySem.W.findIn K (.ref S) "__init__" = some (some (.builtin "ValueError.__init__")))
    (cg : PySem.W.specialIn K (.builtin "object.__class__") "__get__" = some (some (.builtin "getset_descriptor.__get__")))
    (ct : PySem.W.takesIn K (.builtin "object.__class__") = some true)
    (aX0 : PySem.W.nsIn K mainGlobals "InvalidWord" = some (some (.ref CX0)))
    (xX0 : K.lookup CX0 = some (excClassObj nmX0 qX0 CX0 NX0 bsX0 [.ref S, .type "ValueError", .type "Exception", .type "BaseException", .type "object"] true snX0 subX0 abX0 colX0 ddX0 m0X0 m1X0 m2X0 m3X0 m5X0 "ValueError.__new__"))
    (saX0 : PySem.W.findIn K (.ref CX0) "__setattr__" = some (some (.builtin "object.__setattr__")))
    (gaX0 : PySem.W.findIn K (.ref CX0) "__getattribute__" = some (some (.builtin "BaseException.__getattribute__")))
    (ggX0 : PySem.W.findIn K (.ref CX0) "__getattr__" = some none)
    (nfX0 : PySem.W.findIn K (.ref CX0) "value" = some none)
    (iiX0 : PySem.W.findIn K (.ref CX0) "__init__" = some (some (.ref gX0)))
    (tiX0 : PySem.W.typeIn K (.ref gX0) = some (.type "function"))
    (lX0 : K.lookup gX0 = some ⟨ocX0, odX0, .func (PySem.W.fnOf "__init__" "InvalidWord.__init__" (defArgs (inClass sInvalidword 0)) (defBody (inClass sInvalidword 0)) (defScope (inClass sInvalidword 0)) .none kVX0 dcX0 pmX0 anX0 cdX0 ctX0), slX0⟩)
    (cX0 : PySem.W.codeIn K cdX0 "InvalidWord.__init__" = true)
    (kX0 : PySem.W.keepIn K (.ref gX0) = true)
    (kCX0 : PySem.W.keepIn K (.ref CX0) = true)
    (ccX0 : PySem.W.findIn K (.ref CX0) "__class__" = some (some (.builtin "object.__class__")))
    (aX1 : PySem.W.nsIn K mainGlobals "InvalidNumber" = some (some (.ref CX1)))
    (xX1 : K.lookup CX1 = some (excClassObj nmX1 qX1 CX1 NX1 bsX1 [.ref S, .type "ValueError", .type "Exception", .type "BaseException", .type "object"] true snX1 subX1 abX1 colX1 ddX1 m0X1 m1X1 m2X1 m3X1 m5X1 "ValueError.__new__"))
    (saX1 : PySem.W.findIn K (.ref CX1) "__setattr__" = some (some (.builtin "object.__setattr__")))
    (gaX1 : PySem.W.findIn K (.ref CX1) "__getattribute__" = some (some (.builtin "BaseException.__getattribute__")))
    (ggX1 : PySem.W.findIn K (.ref CX1) "__getattr__" = some none)
    (nfX1 : PySem.W.findIn K (.ref CX1) "value" = some none)
    (iiX1 : PySem.W.findIn K (.ref CX1) "__init__" = some (some (.ref gX1)))
    (tiX1 : PySem.W.typeIn K (.ref gX1) = some (.type "function"))
    (lX1 : K.lookup gX1 = some ⟨ocX1, odX1, .func (PySem.W.fnOf "__init__" "InvalidNumber.__init__" (defArgs (inClass sInvalidnumber 0)) (defBody (inClass sInvalidnumber 0)) (defScope (inClass sInvalidnumber 0)) .none kVX1 dcX1 pmX1 anX1 cdX1 ctX1), slX1⟩)
    (cX1 : PySem.W.codeIn K cdX1 "InvalidNumber.__init__" = true)
    (kX1 : PySem.W.keepIn K (.ref gX1) = true)
    (kCX1 : PySem.W.keepIn K (.ref CX1) = true)
    (ccX1 : PySem.W.findIn K (.ref CX1) "__class__" = some (some (.builtin "object.__class__")))
    (aX2 : PySem.W.nsIn K mainGlobals "InvalidItems" = some (some (.ref CX2)))
    (xX2 : K.lookup CX2 = some (excClassObj nmX2 qX2 CX2 NX2 bsX2 [.ref S, .type "ValueError", .type "Exception", .type "BaseException", .type "object"] true snX2 subX2 abX2 colX2 ddX2 m0X2 m1X2 m2X2 m3X2 m5X2 "ValueError.__new__"))
    (saX2 : PySem.W.findIn K (.ref CX2) "__setattr__" = some (some (.builtin "object.__setattr__")))
    (gaX2 : PySem.W.findIn K (.ref CX2) "__getattribute__" = some (some (.builtin "BaseException.__getattribute__")))
    (ggX2 : PySem.W.findIn K (.ref CX2) "__getattr__" = some none)
    (nfX2 : PySem.W.findIn K (.ref CX2) "value" = some none)
    (iiX2 : PySem.W.findIn K (.ref CX2) "__init__" = some (some (.ref gX2)))
    (tiX2 : PySem.W.typeIn K (.ref gX2) = some (.type "function"))
    (lX2 : K.lookup gX2 = some ⟨ocX2, odX2, .func (PySem.W.fnOf "__init__" "InvalidItems.__init__" (defArgs (inClass sInvaliditems 0)) (defBody (inClass sInvaliditems 0)) (defScope (inClass sInvaliditems 0)) .none kVX2 dcX2 pmX2 anX2 cdX2 ctX2), slX2⟩)
    (cX2 : PySem.W.codeIn K cdX2 "InvalidItems.__init__" = true)
    (kX2 : PySem.W.keepIn K (.ref gX2) = true)
    (kCX2 : PySem.W.keepIn K (.ref CX2) = true)
    (ccX2 : PySem.W.findIn K (.ref CX2) "__class__" = some (some (.builtin "object.__class__")))
    (aX3 : PySem.W.nsIn K mainGlobals "InvalidTable" = some (some (.ref CX3)))
    (xX3 : K.lookup CX3 = some (excClassObj nmX3 qX3 CX3 NX3 bsX3 [.ref S, .type "ValueError", .type "Exception", .type "BaseException", .type "object"] true snX3 subX3 abX3 colX3 ddX3 m0X3 m1X3 m2X3 m3X3 m5X3 "ValueError.__new__"))
    (saX3 : PySem.W.findIn K (.ref CX3) "__setattr__" = some (some (.builtin "object.__setattr__")))
    (gaX3 : PySem.W.findIn K (.ref CX3) "__getattribute__" = some (some (.builtin "BaseException.__getattribute__")))
    (ggX3 : PySem.W.findIn K (.ref CX3) "__getattr__" = some none)
    (nfX3 : PySem.W.findIn K (.ref CX3) "value" = some none)
    (iiX3 : PySem.W.findIn K (.ref CX3) "__init__" = some (some (.ref gX3)))
    (tiX3 : PySem.W.typeIn K (.ref gX3) = some (.type "function"))
    (lX3 : K.lookup gX3 = some ⟨ocX3, odX3, .func (PySem.W.fnOf "__init__" "InvalidTable.__init__" (defArgs (inClass sInvalidtable 0)) (defBody (inClass sInvalidtable 0)) (defScope (inClass sInvalidtable 0)) .none kVX3 dcX3 pmX3 anX3 cdX3 ctX3), slX3⟩)
    (cX3 : PySem.W.codeIn K cdX3 "InvalidTable.__init__" = true)
    (kX3 : PySem.W.keepIn K (.ref gX3) = true)
    (kCX3 : PySem.W.keepIn K (.ref CX3) = true)
    (ccX3 : PySem.W.findIn K (.ref CX3) "__class__" = some (some (.builtin "object.__class__")))
    (aX4 : PySem.W.nsIn K mainGlobals "InvalidBlocks" = some (some (.ref CX4)))
    (xX4 : K.lookup CX4 = some (excClassObj nmX4 qX4 CX4 NX4 bsX4 [.ref S, .type "ValueError", .type "Exception", .type "BaseException", .type "object"] true snX4 subX4 abX4 colX4 ddX4 m0X4 m1X4 m2X4 m3X4 m5X4 "ValueError.__new__"))
    (saX4 : PySem.W.findIn K (.ref CX4) "__setattr__" = some (some (.builtin "object.__setattr__")))
    (gaX4 : PySem.W.findIn K (.ref CX4) "__getattribute__" = some (some (.builtin "BaseException.__getattribute__")))
    (ggX4 : PySem.W.findIn K (.ref CX4) "__getattr__" = some none)
    (nfX4 : PySem.W.findIn K (.ref CX4) "value" = some none)
    (iiX4 : PySem.W.findIn K (.ref CX4) "__init__" = some (some (.ref gX4)))
    (tiX4 : PySem.W.typeIn K (.ref gX4) = some (.type "function"))
    (lX4 : K.lookup gX4 = some ⟨ocX4, odX4, .func (PySem.W.fnOf "__init__" "InvalidBlocks.__init__" (defArgs (inClass sInvalidblocks 0)) (defBody (inClass sInvalidblocks 0)) (defScope (inClass sInvalidblocks 0)) .none kVX4 dcX4 pmX4 anX4 cdX4 ctX4), slX4⟩)
    (cX4 : PySem.W.codeIn K cdX4 "InvalidBlocks.__init__" = true)
    (kX4 : PySem.W.keepIn K (.ref gX4) = true)
    (kCX4 : PySem.W.keepIn K (.ref CX4) = true)
    (ccX4 : PySem.W.findIn K (.ref CX4) "__class__" = some (some (.builtin "object.__class__")))
    (aX5 : PySem.W.nsIn K mainGlobals "InvalidEffect" = some (some (.ref CX5)))
    (xX5 : K.lookup CX5 = some (excClassObj nmX5 qX5 CX5 NX5 bsX5 [.ref S, .type "ValueError", .type "Exception", .type "BaseException", .type "object"] true snX5 subX5 abX5 colX5 ddX5 m0X5 m1X5 m2X5 m3X5 m5X5 "ValueError.__new__"))
    (saX5 : PySem.W.findIn K (.ref CX5) "__setattr__" = some (some (.builtin "object.__setattr__")))
    (gaX5 : PySem.W.findIn K (.ref CX5) "__getattribute__" = some (some (.builtin "BaseException.__getattribute__")))
    (ggX5 : PySem.W.findIn K (.ref CX5) "__getattr__" = some none)
    (nfX5 : PySem.W.findIn K (.ref CX5) "value" = some none)
    (iiX5 : PySem.W.findIn K (.ref CX5) "__init__" = some (some (.ref gX5)))
    (tiX5 : PySem.W.typeIn K (.ref gX5) = some (.type "function"))
    (lX5 : K.lookup gX5 = some ⟨ocX5, odX5, .func (PySem.W.fnOf "__init__" "InvalidEffect.__init__" (defArgs (inClass sInvalideffect 0)) (defBody (inClass sInvalideffect 0)) (defScope (inClass sInvalideffect 0)) .none kVX5 dcX5 pmX5 anX5 cdX5 ctX5), slX5⟩)
    (cX5 : PySem.W.codeIn K cdX5 "InvalidEffect.__init__" = true)
    (kX5 : PySem.W.keepIn K (.ref gX5) = true)
    (kCX5 : PySem.W.keepIn K (.ref CX5) = true)
    (ccX5 : PySem.W.findIn K (.ref CX5) "__class__" = some (some (.builtin "object.__class__")))
    (aX6 : PySem.W.nsIn K mainGlobals "InvalidStacks" = some (some (.ref CX6)))
    (xX6 : K.lookup CX6 = some (excClassObj nmX6 qX6 CX6 NX6 bsX6 [.ref S, .type "ValueError", .type "Exception", .type "BaseException", .type "object"] true snX6 subX6 abX6 colX6 ddX6 m0X6 m1X6 m2X6 m3X6 m5X6 "ValueError.__new__"))
    (saX6 : PySem.W.findIn K (.ref CX6) "__setattr__" = some (some (.builtin "object.__setattr__")))
    (gaX6 : PySem.W.findIn K (.ref CX6) "__getattribute__" = some (some (.builtin "BaseException.__getattribute__")))
    (ggX6 : PySem.W.findIn K (.ref CX6) "__getattr__" = some none)
    (nfX6 : PySem.W.findIn K (.ref CX6) "value" = some none)
    (iiX6 : PySem.W.findIn K (.ref CX6) "__init__" = some (some (.ref gX6)))
    (tiX6 : PySem.W.typeIn K (.ref gX6) = some (.type "function"))
    (lX6 : K.lookup gX6 = some ⟨ocX6, odX6, .func (PySem.W.fnOf "__init__" "InvalidStacks.__init__" (defArgs (inClass sInvalidstacks 0)) (defBody (inClass sInvalidstacks 0)) (defScope (inClass sInvalidstacks 0)) .none kVX6 dcX6 pmX6 anX6 cdX6 ctX6), slX6⟩)
    (cX6 : PySem.W.codeIn K cdX6 "InvalidStacks.__init__" = true)
    (kX6 : PySem.W.keepIn K (.ref gX6) = true)
    (kCX6 : PySem.W.keepIn K (.ref CX6) = true)
    (ccX6 : PySem.W.findIn K (.ref CX6) "__class__" = some (some (.builtin "object.__class__")))
    (aX7 : PySem.W.nsIn K mainGlobals "InvalidOrder" = some (some (.ref CX7)))
    (xX7 : K.lookup CX7 = some (excClassObj nmX7 qX7 CX7 NX7 bsX7 [.ref S, .type "ValueError", .type "Exception", .type "BaseException", .type "object"] true snX7 subX7 abX7 colX7 ddX7 m0X7 m1X7 m2X7 m3X7 m5X7 "ValueError.__new__"))
    (saX7 : PySem.W.findIn K (.ref CX7) "__setattr__" = some (some (.builtin "object.__setattr__")))
    (gaX7 : PySem.W.findIn K (.ref CX7) "__getattribute__" = some (some (.builtin "BaseException.__getattribute__")))
    (ggX7 : PySem.W.findIn K (.ref CX7) "__getattr__" = some none)
    (nfX7 : PySem.W.findIn K (.ref CX7) "value" = some none)
    (iiX7 : PySem.W.findIn K (.ref CX7) "__init__" = some (some (.ref gX7)))
    (tiX7 : PySem.W.typeIn K (.ref gX7) = some (.type "function"))
    (lX7 : K.lookup gX7 = some ⟨ocX7, odX7, .func (PySem.W.fnOf "__init__" "InvalidOrder.__init__" (defArgs (inClass sInvalidorder 0)) (defBody (inClass sInvalidorder 0)) (defScope (inClass sInvalidorder 0)) .none kVX7 dcX7 pmX7 anX7 cdX7 ctX7), slX7⟩)
    (cX7 : PySem.W.codeIn K cdX7 "InvalidOrder.__init__" = true)
    (kX7 : PySem.W.keepIn K (.ref gX7) = true)
    (kCX7 : PySem.W.keepIn K (.ref CX7) = true)
    (ccX7 : PySem.W.findIn K (.ref CX7) "__class__" = some (some (.builtin "object.__class__")))
    (aX8 : PySem.W.nsIn K mainGlobals "InvalidCandidates" = some (some (.ref CX8)))
    (xX8 : K.lookup CX8 = some (excClassObj nmX8 qX8 CX8 NX8 bsX8 [.ref S, .type "ValueError", .type "Exception", .type "BaseException", .type "object"] true snX8 subX8 abX8 colX8 ddX8 m0X8 m1X8 m2X8 m3X8 m5X8 "ValueError.__new__"))
    (saX8 : PySem.W.findIn K (.ref CX8) "__setattr__" = some (some (.builtin "object.__setattr__")))
    (gaX8 : PySem.W.findIn K (.ref CX8) "__getattribute__" = some (some (.builtin "BaseException.__getattribute__")))
    (ggX8 : PySem.W.findIn K (.ref CX8) "__getattr__" = some none)
    (nfX8 : PySem.W.findIn K (.ref CX8) "value" = some none)
    (iiX8 : PySem.W.findIn K (.ref CX8) "__init__" = some (some (.ref gX8)))
    (tiX8 : PySem.W.typeIn K (.ref gX8) = some (.type "function"))
    (lX8 : K.lookup gX8 = some ⟨ocX8, odX8, .func (PySem.W.fnOf "__init__" "InvalidCandidates.__init__" (defArgs (inClass sInvalidcandidates 0)) (defBody (inClass sInvalidcandidates 0)) (defScope (inClass sInvalidcandidates 0)) .none kVX8 dcX8 pmX8 anX8 cdX8 ctX8), slX8⟩)
    (cX8 : PySem.W.codeIn K cdX8 "InvalidCandidates.__init__" = true)
    (kX8 : PySem.W.keepIn K (.ref gX8) = true)
    (kCX8 : PySem.W.keepIn K (.ref CX8) = true)
    (ccX8 : PySem.W.findIn K (.ref CX8) "__class__" = some (some (.builtin "object.__class__")))
    (aX9 : PySem.W.nsIn K mainGlobals "InvalidText" = some (some (.ref CX9)))
    (xX9 : K.lookup CX9 = some (excClassObj nmX9 qX9 CX9 NX9 bsX9 [.ref S, .type "ValueError", .type "Exception", .type "BaseException", .type "object"] true snX9 subX9 abX9 colX9 ddX9 m0X9 m1X9 m2X9 m3X9 m5X9 "ValueError.__new__"))
    (saX9 : PySem.W.findIn K (.ref CX9) "__setattr__" = some (some (.builtin "object.__setattr__")))
    (gaX9 : PySem.W.findIn K (.ref CX9) "__getattribute__" = some (some (.builtin "BaseException.__getattribute__")))
    (ggX9 : PySem.W.findIn K (.ref CX9) "__getattr__" = some none)
    (nfX9 : PySem.W.findIn K (.ref CX9) "value" = some none)
    (iiX9 : PySem.W.findIn K (.ref CX9) "__init__" = some (some (.ref gX9)))
    (tiX9 : PySem.W.typeIn K (.ref gX9) = some (.type "function"))
    (lX9 : K.lookup gX9 = some ⟨ocX9, odX9, .func (PySem.W.fnOf "__init__" "InvalidText.__init__" (defArgs (inClass sInvalidtext 0)) (defBody (inClass sInvalidtext 0)) (defScope (inClass sInvalidtext 0)) .none kVX9 dcX9 pmX9 anX9 cdX9 ctX9), slX9⟩)
    (cX9 : PySem.W.codeIn K cdX9 "InvalidText.__init__" = true)
    (kX9 : PySem.W.keepIn K (.ref gX9) = true)
    (kCX9 : PySem.W.keepIn K (.ref CX9) = true)
    (ccX9 : PySem.W.findIn K (.ref CX9) "__class__" = some (some (.builtin "object.__class__")))
    (aX10 : PySem.W.nsIn K mainGlobals "InvalidSteps" = some (some (.ref CX10)))
    (xX10 : K.lookup CX10 = some (excClassObj nmX10 qX10 CX10 NX10 bsX10 [.ref S, .type "ValueError", .type "Exception", .type "BaseException", .type "object"] true snX10 subX10 abX10 colX10 ddX10 m0X10 m1X10 m2X10 m3X10 m5X10 "ValueError.__new__"))
    (saX10 : PySem.W.findIn K (.ref CX10) "__setattr__" = some (some (.builtin "object.__setattr__")))
    (gaX10 : PySem.W.findIn K (.ref CX10) "__getattribute__" = some (some (.builtin "BaseException.__getattribute__")))
    (ggX10 : PySem.W.findIn K (.ref CX10) "__getattr__" = some none)
    (nfX10 : PySem.W.findIn K (.ref CX10) "index" = some none)
    (iiX10 : PySem.W.findIn K (.ref CX10) "__init__" = some (some (.ref gX10)))
    (tiX10 : PySem.W.typeIn K (.ref gX10) = some (.type "function"))
    (lX10 : K.lookup gX10 = some ⟨ocX10, odX10, .func (PySem.W.fnOf "__init__" "InvalidSteps.__init__" (defArgs (inClass sInvalidsteps 0)) (defBody (inClass sInvalidsteps 0)) (defScope (inClass sInvalidsteps 0)) .none kVX10 dcX10 pmX10 anX10 cdX10 ctX10), slX10⟩)
    (cX10 : PySem.W.codeIn K cdX10 "InvalidSteps.__init__" = true)
    (kX10 : PySem.W.keepIn K (.ref gX10) = true)
    (kCX10 : PySem.W.keepIn K (.ref CX10) = true)
    (ccX10 : PySem.W.findIn K (.ref CX10) "__class__" = some (some (.builtin "object.__class__")))
    (aX11 : PySem.W.nsIn K mainGlobals "InvalidObservation" = some (some (.ref CX11)))
    (xX11 : K.lookup CX11 = some (excClassObj nmX11 qX11 CX11 NX11 bsX11 [.ref S, .type "ValueError", .type "Exception", .type "BaseException", .type "object"] true snX11 subX11 abX11 colX11 ddX11 m0X11 m1X11 m2X11 m3X11 m5X11 "ValueError.__new__"))
    (saX11 : PySem.W.findIn K (.ref CX11) "__setattr__" = some (some (.builtin "object.__setattr__")))
    (gaX11 : PySem.W.findIn K (.ref CX11) "__getattribute__" = some (some (.builtin "BaseException.__getattribute__")))
    (ggX11 : PySem.W.findIn K (.ref CX11) "__getattr__" = some none)
    (nfX11 : PySem.W.findIn K (.ref CX11) "index" = some none)
    (iiX11 : PySem.W.findIn K (.ref CX11) "__init__" = some (some (.ref gX11)))
    (tiX11 : PySem.W.typeIn K (.ref gX11) = some (.type "function"))
    (lX11 : K.lookup gX11 = some ⟨ocX11, odX11, .func (PySem.W.fnOf "__init__" "InvalidObservation.__init__" (defArgs (inClass sInvalidobservation 0)) (defBody (inClass sInvalidobservation 0)) (defScope (inClass sInvalidobservation 0)) .none kVX11 dcX11 pmX11 anX11 cdX11 ctX11), slX11⟩)
    (cX11 : PySem.W.codeIn K cdX11 "InvalidObservation.__init__" = true)
    (kX11 : PySem.W.keepIn K (.ref gX11) = true)
    (kCX11 : PySem.W.keepIn K (.ref CX11) = true)
    (ccX11 : PySem.W.findIn K (.ref CX11) "__class__" = some (some (.builtin "object.__class__")))
    (aX12 : PySem.W.nsIn K mainGlobals "InvalidCommand" = some (some (.ref CX12)))
    (xX12 : K.lookup CX12 = some (excClassObj nmX12 qX12 CX12 NX12 bsX12 [.ref S, .type "ValueError", .type "Exception", .type "BaseException", .type "object"] true snX12 subX12 abX12 colX12 ddX12 m0X12 m1X12 m2X12 m3X12 m5X12 "ValueError.__new__"))
    (saX12 : PySem.W.findIn K (.ref CX12) "__setattr__" = some (some (.builtin "object.__setattr__")))
    (gaX12 : PySem.W.findIn K (.ref CX12) "__getattribute__" = some (some (.builtin "BaseException.__getattribute__")))
    (ggX12 : PySem.W.findIn K (.ref CX12) "__getattr__" = some none)
    (nfX12 : PySem.W.findIn K (.ref CX12) "line" = some none)
    (iiX12 : PySem.W.findIn K (.ref CX12) "__init__" = some (some (.ref gX12)))
    (tiX12 : PySem.W.typeIn K (.ref gX12) = some (.type "function"))
    (lX12 : K.lookup gX12 = some ⟨ocX12, odX12, .func (PySem.W.fnOf "__init__" "InvalidCommand.__init__" (defArgs (inClass sInvalidcommand 0)) (defBody (inClass sInvalidcommand 0)) (defScope (inClass sInvalidcommand 0)) .none kVX12 dcX12 pmX12 anX12 cdX12 ctX12), slX12⟩)
    (cX12 : PySem.W.codeIn K cdX12 "InvalidCommand.__init__" = true)
    (kX12 : PySem.W.keepIn K (.ref gX12) = true)
    (kCX12 : PySem.W.keepIn K (.ref CX12) = true)
    (ccX12 : PySem.W.findIn K (.ref CX12) "__class__" = some (some (.builtin "object.__class__")))
    (aX13 : PySem.W.nsIn K mainGlobals "UnknownName" = some (some (.ref CX13)))
    (xX13 : K.lookup CX13 = some (excClassObj nmX13 qX13 CX13 NX13 bsX13 [.type "KeyError", .type "LookupError", .type "Exception", .type "BaseException", .type "object"] true snX13 subX13 abX13 colX13 ddX13 m0X13 m1X13 m2X13 m3X13 m5X13 "LookupError.__new__"))
    (saX13 : PySem.W.findIn K (.ref CX13) "__setattr__" = some (some (.builtin "object.__setattr__")))
    (gaX13 : PySem.W.findIn K (.ref CX13) "__getattribute__" = some (some (.builtin "BaseException.__getattribute__")))
    (ggX13 : PySem.W.findIn K (.ref CX13) "__getattr__" = some none)
    (nfX13 : PySem.W.findIn K (.ref CX13) "name" = some none)
    (iiX13 : PySem.W.findIn K (.ref CX13) "__init__" = some (some (.ref gX13)))
    (tiX13 : PySem.W.typeIn K (.ref gX13) = some (.type "function"))
    (lX13 : K.lookup gX13 = some ⟨ocX13, odX13, .func (PySem.W.fnOf "__init__" "UnknownName.__init__" (defArgs (inClass sUnknownname 0)) (defBody (inClass sUnknownname 0)) (defScope (inClass sUnknownname 0)) .none kVX13 dcX13 pmX13 anX13 cdX13 ctX13), slX13⟩)
    (cX13 : PySem.W.codeIn K cdX13 "UnknownName.__init__" = true)
    (kX13 : PySem.W.keepIn K (.ref gX13) = true)
    (kCX13 : PySem.W.keepIn K (.ref CX13) = true)
    (ccX13 : PySem.W.findIn K (.ref CX13) "__class__" = some (some (.builtin "object.__class__")))
    (aX14 : PySem.W.nsIn K mainGlobals "StepFailed" = some (some (.ref CX14)))
    (xX14 : K.lookup CX14 = some (excClassObj nmX14 qX14 CX14 NX14 bsX14 [.type "RuntimeError", .type "Exception", .type "BaseException", .type "object"] true snX14 subX14 abX14 colX14 ddX14 m0X14 m1X14 m2X14 m3X14 m5X14 "RuntimeError.__new__"))
    (saX14 : PySem.W.findIn K (.ref CX14) "__setattr__" = some (some (.builtin "object.__setattr__")))
    (gaX14 : PySem.W.findIn K (.ref CX14) "__getattribute__" = some (some (.builtin "BaseException.__getattribute__")))
    (ggX14 : PySem.W.findIn K (.ref CX14) "__getattr__" = some none)
    (nfX14 : PySem.W.findIn K (.ref CX14) "index" = some none)
    (iiX14 : PySem.W.findIn K (.ref CX14) "__init__" = some (some (.ref gX14)))
    (tiX14 : PySem.W.typeIn K (.ref gX14) = some (.type "function"))
    (lX14 : K.lookup gX14 = some ⟨ocX14, odX14, .func (PySem.W.fnOf "__init__" "StepFailed.__init__" (defArgs (inClass sStepfailed 0)) (defBody (inClass sStepfailed 0)) (defScope (inClass sStepfailed 0)) .none kVX14 dcX14 pmX14 anX14 cdX14 ctX14), slX14⟩)
    (cX14 : PySem.W.codeIn K cdX14 "StepFailed.__init__" = true)
    (kX14 : PySem.W.keepIn K (.ref gX14) = true)
    (kCX14 : PySem.W.keepIn K (.ref CX14) = true)
    (ccX14 : PySem.W.findIn K (.ref CX14) "__class__" = some (some (.builtin "object.__class__")))
    (aX15 : PySem.W.nsIn K mainGlobals "NothingToUndo" = some (some (.ref CX15)))
    (xX15 : K.lookup CX15 = some (excClassObj nmX15 qX15 CX15 NX15 bsX15 [.type "LookupError", .type "Exception", .type "BaseException", .type "object"] true snX15 subX15 abX15 colX15 ddX15 m0X15 m1X15 m2X15 m3X15 m5X15 "LookupError.__new__"))
    (saX15 : PySem.W.findIn K (.ref CX15) "__setattr__" = some (some (.builtin "object.__setattr__")))
    (gaX15 : PySem.W.findIn K (.ref CX15) "__getattribute__" = some (some (.builtin "BaseException.__getattribute__")))
    (ggX15 : PySem.W.findIn K (.ref CX15) "__getattr__" = some none)
    (nfX15 : PySem.W.findIn K (.ref CX15) "count" = some none)
    (iiX15 : PySem.W.findIn K (.ref CX15) "__init__" = some (some (.ref gX15)))
    (tiX15 : PySem.W.typeIn K (.ref gX15) = some (.type "function"))
    (lX15 : K.lookup gX15 = some ⟨ocX15, odX15, .func (PySem.W.fnOf "__init__" "NothingToUndo.__init__" (defArgs (inClass sNothingtoundo 0)) (defBody (inClass sNothingtoundo 0)) (defScope (inClass sNothingtoundo 0)) .none kVX15 dcX15 pmX15 anX15 cdX15 ctX15), slX15⟩)
    (cX15 : PySem.W.codeIn K cdX15 "NothingToUndo.__init__" = true)
    (kX15 : PySem.W.keepIn K (.ref gX15) = true)
    (kCX15 : PySem.W.keepIn K (.ref CX15) = true)
    (ccX15 : PySem.W.findIn K (.ref CX15) "__class__" = some (some (.builtin "object.__class__")))
    (aX16 : PySem.W.nsIn K mainGlobals "LimitExceeded" = some (some (.ref CX16)))
    (xX16 : K.lookup CX16 = some (excClassObj nmX16 qX16 CX16 NX16 bsX16 [.type "OverflowError", .type "ArithmeticError", .type "Exception", .type "BaseException", .type "object"] true snX16 subX16 abX16 colX16 ddX16 m0X16 m1X16 m2X16 m3X16 m5X16 "OverflowError.__new__"))
    (saX16 : PySem.W.findIn K (.ref CX16) "__setattr__" = some (some (.builtin "object.__setattr__")))
    (gaX16 : PySem.W.findIn K (.ref CX16) "__getattribute__" = some (some (.builtin "BaseException.__getattribute__")))
    (ggX16 : PySem.W.findIn K (.ref CX16) "__getattr__" = some none)
    (nfX16 : PySem.W.findIn K (.ref CX16) "limit" = some none)
    (iiX16 : PySem.W.findIn K (.ref CX16) "__init__" = some (some (.ref gX16)))
    (tiX16 : PySem.W.typeIn K (.ref gX16) = some (.type "function"))
    (lX16 : K.lookup gX16 = some ⟨ocX16, odX16, .func (PySem.W.fnOf "__init__" "LimitExceeded.__init__" (defArgs (inClass sLimitexceeded 0)) (defBody (inClass sLimitexceeded 0)) (defScope (inClass sLimitexceeded 0)) .none kVX16 dcX16 pmX16 anX16 cdX16 ctX16), slX16⟩)
    (cX16 : PySem.W.codeIn K cdX16 "LimitExceeded.__init__" = true)
    (kX16 : PySem.W.keepIn K (.ref gX16) = true)
    (kCX16 : PySem.W.keepIn K (.ref CX16) = true)
    (ccX16 : PySem.W.findIn K (.ref CX16) "__class__" = some (some (.builtin "object.__class__")))
    (aL : PySem.W.nsIn K mainGlobals "law" = some (some (.ref fL)))
    (lL : K.lookup fL = some ⟨ocL, odL, .func (PySem.W.fnOf "law" "law" (defArgs sLaw) (defBody sLaw) (defScope sLaw) .none kVL dcL pmL anL cdL ctL), slL⟩)
    (ckL : PySem.W.codeIn K cdL "law" = true)
    (kL : PySem.W.keepIn K (.ref fL) = true) :
    ∃ fd : FuncData, (∀ (s : Shared) (v : Value), BindsTo s fd ⟨[v], []⟩ [("_law_script", v)]) ∧ ∀ base : Heap, K.In base → base.Ns mainGlobals mg → GOk l.prog w K mg base 4 fa fd ["_law_script"] (spLaw K) := by
  have e := hfa.symm.trans (PySem.W.mg_of X G aL)
  cases e
  have F := fun_mk (st := sLaw) lL ckL kL
  have m_isinstance : mg "isinstance" = none := PySem.W.mg_none_of X G z_isinstance
  have m_repr : mg "repr" = none := PySem.W.mg_none_of X G z_repr
  have m_range : mg "range" = none := PySem.W.mg_none_of X G z_range
  have m_enumerate : mg "enumerate" = none := PySem.W.mg_none_of X G z_enumerate
  have m_max : mg "max" = none := PySem.W.mg_none_of X G z_max
  have m_min : mg "min" = none := PySem.W.mg_none_of X G z_min
  have m_len : mg "len" = none := PySem.W.mg_none_of X G z_len
  have m_ValueError : mg "ValueError" = none := PySem.W.mg_none_of X G z_ValueError
  have m_KeyError : mg "KeyError" = none := PySem.W.mg_none_of X G z_KeyError
  have m_RuntimeError : mg "RuntimeError" = none := PySem.W.mg_none_of X G z_RuntimeError
  have m_LookupError : mg "LookupError" = none := PySem.W.mg_none_of X G z_LookupError
  have m_OverflowError : mg "OverflowError" = none := PySem.W.mg_none_of X G z_OverflowError
  have m_IndexError : mg "IndexError" = none := PySem.W.mg_none_of X G z_IndexError
  refine ⟨PySem.W.fnOf "law" "law" (defArgs sLaw) (defBody sLaw) (defScope sLaw) .none kVL dcL pmL anL cdL ctL, fun s v => .of_eq rfl, fun base _ _ => ?_⟩
  have gS := PySem.W.mg_of X G aS
  have FX0 := fun_mk (st := inClass sInvalidword 0) lX0 cX0 kX0
  have v0 : XvC l.prog w K mg base "InvalidWord" "InvalidWord.__init__" "value" CX0 (bmX S 0) := xv_mk (PySem.W.mg_of X G aX0) xX0 (tail_VE rfl) (by rw [bm_ty]; decide +kernel) saX0 gaX0 ggX0 nfX0 iiX0 tiX0 kCX0 ccX0 FX0 scI_InvalidWord rfl (.inl rfl) (.inl rfl) (by decide) (by decide) (fun _ _ _ _ _ _ us ws hl hw => match us, ws, hl, hw with | [_, _], [], _, _ => rfl) (fun _ _ _ _ _ _ us ws hl hw => match us, ws, hl, hw with | [_], [_], _, _ => rfl)
  have FX1 := fun_mk (st := inClass sInvalidnumber 0) lX1 cX1 kX1
  have v1 : XvC l.prog w K mg base "InvalidNumber" "InvalidNumber.__init__" "value" CX1 (bmX S 1) := xv_mk (PySem.W.mg_of X G aX1) xX1 (tail_VE rfl) (by rw [bm_ty]; decide +kernel) saX1 gaX1 ggX1 nfX1 iiX1 tiX1 kCX1 ccX1 FX1 scI_InvalidNumber rfl (.inl rfl) (.inl rfl) (by decide) (by decide) (fun _ _ _ _ _ _ us ws hl hw => match us, ws, hl, hw with | [_, _], [], _, _ => rfl) (fun _ _ _ _ _ _ us ws hl hw => match us, ws, hl, hw with | [_], [_], _, _ => rfl)
  have FX2 := fun_mk (st := inClass sInvaliditems 0) lX2 cX2 kX2
  have v2 : XvC l.prog w K mg base "InvalidItems" "InvalidItems.__init__" "value" CX2 (bmX S 2) := xv_mk (PySem.W.mg_of X G aX2) xX2 (tail_VE rfl) (by rw [bm_ty]; decide +kernel) saX2 gaX2 ggX2 nfX2 iiX2 tiX2 kCX2 ccX2 FX2 scI_InvalidItems rfl (.inl rfl) (.inl rfl) (by decide) (by decide) (fun _ _ _ _ _ _ us ws hl hw => match us, ws, hl, hw with | [_, _], [], _, _ => rfl) (fun _ _ _ _ _ _ us ws hl hw => match us, ws, hl, hw with | [_], [_], _, _ => rfl)
  have FX3 := fun_mk (st := inClass sInvalidtable 0) lX3 cX3 kX3
  have v3 : XvC l.prog w K mg base "InvalidTable" "InvalidTable.__init__" "value" CX3 (bmX S 3) := xv_mk (PySem.W.mg_of X G aX3) xX3 (tail_VE rfl) (by rw [bm_ty]; decide +kernel) saX3 gaX3 ggX3 nfX3 iiX3 tiX3 kCX3 ccX3 FX3 scI_InvalidTable rfl (.inl rfl) (.inl rfl) (by decide) (by decide) (fun _ _ _ _ _ _ us ws hl hw => match us, ws, hl, hw with | [_, _], [], _, _ => rfl) (fun _ _ _ _ _ _ us ws hl hw => match us, ws, hl, hw with | [_], [_], _, _ => rfl)
  have FX4 := fun_mk (st := inClass sInvalidblocks 0) lX4 cX4 kX4
  have v4 : XvC l.prog w K mg base "InvalidBlocks" "InvalidBlocks.__init__" "value" CX4 (bmX S 4) := xv_mk (PySem.W.mg_of X G aX4) xX4 (tail_VE rfl) (by rw [bm_ty]; decide +kernel) saX4 gaX4 ggX4 nfX4 iiX4 tiX4 kCX4 ccX4 FX4 scI_InvalidBlocks rfl (.inl rfl) (.inl rfl) (by decide) (by decide) (fun _ _ _ _ _ _ us ws hl hw => match us, ws, hl, hw with | [_, _], [], _, _ => rfl) (fun _ _ _ _ _ _ us ws hl hw => match us, ws, hl, hw with | [_], [_], _, _ => rfl)
  have FX5 := fun_mk (st := inClass sInvalideffect 0) lX5 cX5 kX5
  have v5 : XvC l.prog w K mg base "InvalidEffect" "InvalidEffect.__init__" "value" CX5 (bmX S 5) := xv_mk (PySem.W.mg_of X G aX5) xX5 (tail_VE rfl) (by rw [bm_ty]; decide +kernel) saX5 gaX5 ggX5 nfX5 iiX5 tiX5 kCX5 ccX5 FX5 scI_InvalidEffect rfl (.inl rfl) (.inl rfl) (by decide) (by decide) (fun _ _ _ _ _ _ us ws hl hw => match us, ws, hl, hw with | [_, _], [], _, _ => rfl) (fun _ _ _ _ _ _ us ws hl hw => match us, ws, hl, hw with | [_], [_], _, _ => rfl)
  have FX6 := fun_mk (st := inClass sInvalidstacks 0) lX6 cX6 kX6
  have v6 : XvC l.prog w K mg base "InvalidStacks" "InvalidStacks.__init__" "value" CX6 (bmX S 6) := xv_mk (PySem.W.mg_of X G aX6) xX6 (tail_VE rfl) (by rw [bm_ty]; decide +kernel) saX6 gaX6 ggX6 nfX6 iiX6 tiX6 kCX6 ccX6 FX6 scI_InvalidStacks rfl (.inl rfl) (.inl rfl) (by decide) (by decide) (fun _ _ _ _ _ _ us ws hl hw => match us, ws, hl, hw with | [_, _], [], _, _ => rfl) (fun _ _ _ _ _ _ us ws hl hw => match us, ws, hl, hw with | [_], [_], _, _ => rfl)
  have FX7 := fun_mk (st := inClass sInvalidorder 0) lX7 cX7 kX7
  have v7 : XvC l.prog w K mg base "InvalidOrder" "InvalidOrder.__init__" "value" CX7 (bmX S 7) := xv_mk (PySem.W.mg_of X G aX7) xX7 (tail_VE rfl) (by rw [bm_ty]; decide +kernel) saX7 gaX7 ggX7 nfX7 iiX7 tiX7 kCX7 ccX7 FX7 scI_InvalidOrder rfl (.inl rfl) (.inl rfl) (by decide) (by decide) (fun _ _ _ _ _ _ us ws hl hw => match us, ws, hl, hw with | [_, _], [], _, _ => rfl) (fun _ _ _ _ _ _ us ws hl hw => match us, ws, hl, hw with | [_], [_], _, _ => rfl)
  have FX8 := fun_mk (st := inClass sInvalidcandidates 0) lX8 cX8 kX8
  have v8 : XvC l.prog w K mg base "InvalidCandidates" "InvalidCandidates.__init__" "value" CX8 (bmX S 8) := xv_mk (PySem.W.mg_of X G aX8) xX8 (tail_VE rfl) (by rw [bm_ty]; decide +kernel) saX8 gaX8 ggX8 nfX8 iiX8 tiX8 kCX8 ccX8 FX8 scI_InvalidCandidates rfl (.inl rfl) (.inl rfl) (by decide) (by decide) (fun _ _ _ _ _ _ us ws hl hw => match us, ws, hl, hw with | [_, _], [], _, _ => rfl) (fun _ _ _ _ _ _ us ws hl hw => match us, ws, hl, hw with | [_], [_], _, _ => rfl)
  have FX9 := fun_mk (st := inClass sInvalidtext 0) lX9 cX9 kX9
  have v9 : XvC l.prog w K mg base "InvalidText" "InvalidText.__init__" "value" CX9 (bmX S 9) := xv_mk (PySem.W.mg_of X G aX9) xX9 (tail_VE rfl) (by rw [bm_ty]; decide +kernel) saX9 gaX9 ggX9 nfX9 iiX9 tiX9 kCX9 ccX9 FX9 scI_InvalidText rfl (.inl rfl) (.inl rfl) (by decide) (by decide) (fun _ _ _ _ _ _ us ws hl hw => match us, ws, hl, hw with | [_, _], [], _, _ => rfl) (fun _ _ _ _ _ _ us ws hl hw => match us, ws, hl, hw with | [_], [_], _, _ => rfl)
  have FX10 := fun_mk (st := inClass sInvalidsteps 0) lX10 cX10 kX10
  have v10 : XvC l.prog w K mg base "InvalidSteps" "InvalidSteps.__init__" "index" CX10 (bmX S 10) := xv_mk (PySem.W.mg_of X G aX10) xX10 (tail_VE rfl) (by rw [bm_ty]; decide +kernel) saX10 gaX10 ggX10 nfX10 iiX10 tiX10 kCX10 ccX10 FX10 scI_InvalidSteps rfl (.inl rfl) (.inl rfl) (by decide) (by decide) (fun _ _ _ _ _ _ us ws hl hw => match us, ws, hl, hw with | [_, _], [], _, _ => rfl) (fun _ _ _ _ _ _ us ws hl hw => match us, ws, hl, hw with | [_], [_], _, _ => rfl)
  have FX11 := fun_mk (st := inClass sInvalidobservation 0) lX11 cX11 kX11
  have v11 : XvC l.prog w K mg base "InvalidObservation" "InvalidObservation.__init__" "index" CX11 (bmX S 11) := xv_mk (PySem.W.mg_of X G aX11) xX11 (tail_VE rfl) (by rw [bm_ty]; decide +kernel) saX11 gaX11 ggX11 nfX11 iiX11 tiX11 kCX11 ccX11 FX11 scI_InvalidObservation rfl (.inl rfl) (.inl rfl) (by decide) (by decide) (fun _ _ _ _ _ _ us ws hl hw => match us, ws, hl, hw with | [_, _], [], _, _ => rfl) (fun _ _ _ _ _ _ us ws hl hw => match us, ws, hl, hw with | [_], [_], _, _ => rfl)
  have FX12 := fun_mk (st := inClass sInvalidcommand 0) lX12 cX12 kX12
  have v12 : XvC l.prog w K mg base "InvalidCommand" "InvalidCommand.__init__" "line" CX12 (bmX S 12) := xv_mk (PySem.W.mg_of X G aX12) xX12 (tail_VE rfl) (by rw [bm_ty]; decide +kernel) saX12 gaX12 ggX12 nfX12 iiX12 tiX12 kCX12 ccX12 FX12 scI_InvalidCommand rfl (.inl rfl) (.inl rfl) (by decide) (by decide) (fun _ _ _ _ _ _ us ws hl hw => match us, ws, hl, hw with | [_, _], [], _, _ => rfl) (fun _ _ _ _ _ _ us ws hl hw => match us, ws, hl, hw with | [_], [_], _, _ => rfl)
  have FX13 := fun_mk (st := inClass sUnknownname 0) lX13 cX13 kX13
  have v13 : XvC l.prog w K mg base "UnknownName" "UnknownName.__init__" "name" CX13 (bmX S 13) := xv_mk (PySem.W.mg_of X G aX13) xX13 tail_KE (by rw [bm_ty]; decide +kernel) saX13 gaX13 ggX13 nfX13 iiX13 tiX13 kCX13 ccX13 FX13 scI_UnknownName rfl (.inl rfl) (.inl rfl) (by decide) (by decide) (fun _ _ _ _ _ _ us ws hl hw => match us, ws, hl, hw with | [_, _], [], _, _ => rfl) (fun _ _ _ _ _ _ us ws hl hw => match us, ws, hl, hw with | [_], [_], _, _ => rfl)
  have FX14 := fun_mk (st := inClass sStepfailed 0) lX14 cX14 kX14
  have v14 : XvC l.prog w K mg base "StepFailed" "StepFailed.__init__" "index" CX14 (bmX S 14) := xv_mk (PySem.W.mg_of X G aX14) xX14 tail_RE (by rw [bm_ty]; decide +kernel) saX14 gaX14 ggX14 nfX14 iiX14 tiX14 kCX14 ccX14 FX14 scI_StepFailed rfl (.inl rfl) (.inl rfl) (by decide) (by decide) (fun _ _ _ _ _ _ us ws hl hw => match us, ws, hl, hw with | [_, _], [], _, _ => rfl) (fun _ _ _ _ _ _ us ws hl hw => match us, ws, hl, hw with | [_], [_], _, _ => rfl)
  have FX15 := fun_mk (st := inClass sNothingtoundo 0) lX15 cX15 kX15
  have v15 : XvC l.prog w K mg base "NothingToUndo" "NothingToUndo.__init__" "count" CX15 (bmX S 15) := xv_mk (PySem.W.mg_of X G aX15) xX15 tail_LE (by rw [bm_ty]; decide +kernel) saX15 gaX15 ggX15 nfX15 iiX15 tiX15 kCX15 ccX15 FX15 scI_NothingToUndo rfl (.inl rfl) (.inl rfl) (by decide) (by decide) (fun _ _ _ _ _ _ us ws hl hw => match us, ws, hl, hw with | [_, _], [], _, _ => rfl) (fun _ _ _ _ _ _ us ws hl hw => match us, ws, hl, hw with | [_], [_], _, _ => rfl)
  have FX16 := fun_mk (st := inClass sLimitexceeded 0) lX16 cX16 kX16
  have v16 : XvC l.prog w K mg base "LimitExceeded" "LimitExceeded.__init__" "limit" CX16 (bmX S 16) := xv_mk (PySem.W.mg_of X G aX16) xX16 tail_OE (by rw [bm_ty]; decide +kernel) saX16 gaX16 ggX16 nfX16 iiX16 tiX16 kCX16 ccX16 FX16 scI_LimitExceeded rfl (.inl rfl) (.inl rfl) (by decide) (by decide) (fun _ _ _ _ _ _ us ws hl hw => match us, ws, hl, hw with | [_, _], [], _, _ => rfl) (fun _ _ _ _ _ _ us ws hl hw => match us, ws, hl, hw with | [_], [_], _, _ => rfl)
  have vs : ∀ i, i < 17 → XvC l.prog w K mg base (nameX i) (qualX i) (fldX i) ((fun i => [CX0, CX1, CX2, CX3, CX4, CX5, CX6, CX7, CX8, CX9, CX10, CX11, CX12, CX13, CX14, CX15, CX16].getD i 0) i) (bmX S i) := fun i hi => match i, hi with | 0, _ => v0 | 1, _ => v1 | 2, _ => v2 | 3, _ => v3 | 4, _ => v4 | 5, _ => v5 | 6, _ => v6 | 7, _ => v7 | 8, _ => v8 | 9, _ => v9 | 10, _ => v10 | 11, _ => v11 | 12, _ => v12 | 13, _ => v13 | 14, _ => v14 | 15, _ => v15 | 16, _ => v16 | n + 17, h => absurd h (by omega)
  have hX : X17 l.prog w K mg base S (fun i => [CX0, CX1, CX2, CX3, CX4, CX5, CX6, CX7, CX8, CX9, CX10, CX11, CX12, CX13, CX14, CX15, CX16].getD i 0) := ⟨vs, gS, tS, hS, fun i hi => (vs i hi).neS iS, cg, ct⟩
  have gM := has_law_made d__law_made hX
  have gN := has_law_made_by_name d__law_made_by_name hX
  have gK := has_law_kinds d__law_kinds hX m_isinstance
  have gB := has_law_bases d__law_bases hX m_isinstance m_ValueError m_KeyError m_RuntimeError m_LookupError m_OverflowError m_IndexError
  have gD := has_due (P := l.prog) (w := w) (base := base) d__law_due
  have gR := has_right d__law_right hX gK gB gD m_range m_enumerate m_repr
  exact ok_law F gM gN gR m_range m_max m_min m_len
end
end SE
open PySem PySem.W PyProof.Rows
set_option maxHeartbeats 0 in
theorem PySem.Challenge.cw_stackeffect_k05_exceptions_holds : PySem.Challenge.rw_stackeffect_k05_exceptions.Holds := by
  w_on; o_law; k_head; (case hw => w_witness2)
  k_fill
  refine SE.walkG (l := PySem.Challenge.rw_stackeffect_k05_exceptions) (n := 63) (k := 4) (x := "_law_script") (sp := SE.spLaw) rfl (by decide) rfl ⟨rfl, by decide, by decide⟩ (fun w h Y => PySem.W.kIn_of Y) ?F (fun _ _ a ns hl hS => ⟨a, ns, rfl, hS, hl, fun _ => rfl⟩)
  case F =>
    intro w mg fa h KX G hmg
    refine' SE.all_mk KX G hmg ?d__law_made ?d__law_made_by_name ?d__law_kinds ?d__law_bases ?d__law_due ?d__law_right ?z_isinstance ?z_repr ?z_range ?z_enumerate ?z_max ?z_min ?z_len ?z_ValueError ?z_KeyError ?z_RuntimeError ?z_LookupError ?z_OverflowError ?z_IndexError ?aS ?tS ?hS ?iS ?cg ?ct ?aX0 ?xX0 ?saX0 ?gaX0 ?ggX0 ?nfX0 ?iiX0 ?tiX0 ?lX0 ?cX0 ?kX0 ?kCX0 ?ccX0 ?aX1 ?xX1 ?saX1 ?gaX1 ?ggX1 ?nfX1 ?iiX1 ?tiX1 ?lX1 ?cX1 ?kX1 ?kCX1 ?ccX1 ?aX2 ?xX2 ?saX2 ?gaX2 ?ggX2 ?nfX2 ?iiX2 ?tiX2 ?lX2 ?cX2 ?kX2 ?kCX2 ?ccX2 ?aX3 ?xX3 ?saX3 ?gaX3 ?ggX3 ?nfX3 ?iiX3 ?tiX3 ?lX3 ?cX3 ?kX3 ?kCX3 ?ccX3 ?aX4 ?xX4 ?saX4 ?gaX4 ?ggX4 ?nfX4 ?iiX4 ?tiX4 ?lX4 ?cX4 ?kX4 ?kCX4 ?ccX4 ?aX5 ?xX5 ?saX5 ?gaX5 ?ggX5 ?nfX5 ?iiX5 ?tiX5 ?lX5 ?cX5 ?kX5 ?kCX5 ?ccX5 ?aX6 ?xX6 ?saX6 ?gaX6 ?ggX6 ?nfX6 ?iiX6 ?tiX6 ?lX6 ?cX6 ?kX6 ?kCX6 ?ccX6 ?aX7 ?xX7 ?saX7 ?gaX7 ?ggX7 ?nfX7 ?iiX7 ?tiX7 ?lX7 ?cX7 ?kX7 ?kCX7 ?ccX7 ?aX8 ?xX8 ?saX8 ?gaX8 ?ggX8 ?nfX8 ?iiX8 ?tiX8 ?lX8 ?cX8 ?kX8 ?kCX8 ?ccX8 ?aX9 ?xX9 ?saX9 ?gaX9 ?ggX9 ?nfX9 ?iiX9 ?tiX9 ?lX9 ?cX9 ?kX9 ?kCX9 ?ccX9 ?aX10 ?xX10 ?saX10 ?gaX10 ?ggX10 ?nfX10 ?iiX10 ?tiX10 ?lX10 ?cX10 ?kX10 ?kCX10 ?ccX10 ?aX11 ?xX11 ?saX11 ?gaX11 ?ggX11 ?nfX11 ?iiX11 ?tiX11 ?lX11 ?cX11 ?kX11 ?kCX11 ?ccX11 ?aX12 ?xX12 ?saX12 ?gaX12 ?ggX12 ?nfX12 ?iiX12 ?tiX12 ?lX12 ?cX12 ?kX12 ?kCX12 ?ccX12 ?aX13 ?xX13 ?saX13 ?gaX13 ?ggX13 ?nfX13 ?iiX13 ?tiX13 ?lX13 ?cX13 ?kX13 ?kCX13 ?ccX13 ?aX14 ?xX14 ?saX14 ?gaX14 ?ggX14 ?nfX14 ?iiX14 ?tiX14 ?lX14 ?cX14 ?kX14 ?kCX14 ?ccX14 ?aX15 ?xX15 ?saX15 ?gaX15 ?ggX15 ?nfX15 ?iiX15 ?tiX15 ?lX15 ?cX15 ?kX15 ?kCX15 ?ccX15 ?aX16 ?xX16 ?saX16 ?gaX16 ?ggX16 ?nfX16 ?iiX16 ?tiX16 ?lX16 ?cX16 ?kX16 ?kCX16 ?ccX16 ?aL ?lL ?ckL ?kL
    (case d__law_made => refine' SE.def_mk KX G ?a ?l ?c ?k; (case a => k_is); (case l => k_is); (case c => k_is); (case k => k_is))
    (case d__law_made_by_name => refine' SE.def_mk KX G ?a ?l ?c ?k; (case a => k_is); (case l => k_is); (case c => k_is); (case k => k_is))
    (case d__law_kinds => refine' SE.def_mk KX G ?a ?l ?c ?k; (case a => k_is); (case l => k_is); (case c => k_is); (case k => k_is))
    (case d__law_bases => refine' SE.def_mk KX G ?a ?l ?c ?k; (case a => k_is); (case l => k_is); (case c => k_is); (case k => k_is))
    (case d__law_due => refine' SE.def_mk KX G ?a ?l ?c ?k; (case a => k_is); (case l => k_is); (case c => k_is); (case k => k_is))
    (case d__law_right => refine' SE.def_mk KX G ?a ?l ?c ?k; (case a => k_is); (case l => k_is); (case c => k_is); (case k => k_is))
    (case z_isinstance => k_is)
    (case z_repr => k_is)
    (case z_range => k_is)
    (case z_enumerate => k_is)
    (case z_max => k_is)
    (case z_min => k_is)
    (case z_len => k_is)
    (case z_ValueError => k_is)
    (case z_KeyError => k_is)
    (case z_RuntimeError => k_is)
    (case z_LookupError => k_is)
    (case z_OverflowError => k_is)
    (case z_IndexError => k_is)
    (case aS => k_is)
    (case tS => k_is)
    (case hS => k_is)
    (case iS => k_is)
    (case cg => k_is)
    (case ct => k_is)
    (case aX0 => k_is)
    (case xX0 => k_is)
    (case saX0 => k_is)
    (case gaX0 => k_is)
    (case ggX0 => k_is)
    (case nfX0 => k_is)
    (case iiX0 => k_is)
    (case tiX0 => k_is)
    (case lX0 => k_is)
    (case cX0 => k_is)
    (case kX0 => k_is)
    (case kCX0 => k_is)
    (case ccX0 => k_is)
    (case aX1 => k_is)
    (case xX1 => k_is)
    (case saX1 => k_is)
    (case gaX1 => k_is)
    (case ggX1 => k_is)
    (case nfX1 => k_is)
    (case iiX1 => k_is)
    (case tiX1 => k_is)
    (case lX1 => k_is)
    (case cX1 => k_is)
    (case kX1 => k_is)
    (case kCX1 => k_is)
    (case ccX1 => k_is)
    (case aX2 => k_is)
    (case xX2 => k_is)
    (case saX2 => k_is)
    (case gaX2 => k_is)
    (case ggX2 => k_is)
    (case nfX2 => k_is)
    (case iiX2 => k_is)
    (case tiX2 => k_is)
    (case lX2 => k_is)
    (case cX2 => k_is)
    (case kX2 => k_is)
    (case kCX2 => k_is)
    (case ccX2 => k_is)
    (case aX3 => k_is)
    (case xX3 => k_is)
    (case saX3 => k_is)
    (case gaX3 => k_is)
    (case ggX3 => k_is)
    (case nfX3 => k_is)
    (case iiX3 => k_is)
    (case tiX3 => k_is)
    (case lX3 => k_is)
    (case cX3 => k_is)
    (case kX3 => k_is)
    (case kCX3 => k_is)
    (case ccX3 => k_is)
    (case aX4 => k_is)
    (case xX4 => k_is)
    (case saX4 => k_is)
    (case gaX4 => k_is)
    (case ggX4 => k_is)
    (case nfX4 => k_is)
    (case iiX4 => k_is)
    (case tiX4 => k_is)
    (case lX4 => k_is)
    (case cX4 => k_is)
    (case kX4 => k_is)
    (case kCX4 => k_is)
    (case ccX4 => k_is)
    (case aX5 => k_is)
    (case xX5 => k_is)
    (case saX5 => k_is)
    (case gaX5 => k_is)
    (case ggX5 => k_is)
    (case nfX5 => k_is)
    (case iiX5 => k_is)
    (case tiX5 => k_is)
    (case lX5 => k_is)
    (case cX5 => k_is)
    (case kX5 => k_is)
    (case kCX5 => k_is)
    (case ccX5 => k_is)
    (case aX6 => k_is)
    (case xX6 => k_is)
    (case saX6 => k_is)
    (case gaX6 => k_is)
    (case ggX6 => k_is)
    (case nfX6 => k_is)
    (case iiX6 => k_is)
    (case tiX6 => k_is)
    (case lX6 => k_is)
    (case cX6 => k_is)
    (case kX6 => k_is)
    (case kCX6 => k_is)
    (case ccX6 => k_is)
    (case aX7 => k_is)
    (case xX7 => k_is)
    (case saX7 => k_is)
    (case gaX7 => k_is)
    (case ggX7 => k_is)
    (case nfX7 => k_is)
    (case iiX7 => k_is)
    (case tiX7 => k_is)
    (case lX7 => k_is)
    (case cX7 => k_is)
    (case kX7 => k_is)
    (case kCX7 => k_is)
    (case ccX7 => k_is)
    (case aX8 => k_is)
    (case xX8 => k_is)
    (case saX8 => k_is)
    (case gaX8 => k_is)
    (case ggX8 => k_is)
    (case nfX8 => k_is)
    (case iiX8 => k_is)
    (case tiX8 => k_is)
    (case lX8 => k_is)
    (case cX8 => k_is)
    (case kX8 => k_is)
    (case kCX8 => k_is)
    (case ccX8 => k_is)
    (case aX9 => k_is)
    (case xX9 => k_is)
    (case saX9 => k_is)
    (case gaX9 => k_is)
    (case ggX9 => k_is)
    (case nfX9 => k_is)
    (case iiX9 => k_is)
    (case tiX9 => k_is)
    (case lX9 => k_is)
    (case cX9 => k_is)
    (case kX9 => k_is)
    (case kCX9 => k_is)
    (case ccX9 => k_is)
    (case aX10 => k_is)
    (case xX10 => k_is)
    (case saX10 => k_is)
    (case gaX10 => k_is)
    (case ggX10 => k_is)
    (case nfX10 => k_is)
    (case iiX10 => k_is)
    (case tiX10 => k_is)
    (case lX10 => k_is)
    (case cX10 => k_is)
    (case kX10 => k_is)
    (case kCX10 => k_is)
    (case ccX10 => k_is)
    (case aX11 => k_is)
    (case xX11 => k_is)
    (case saX11 => k_is)
    (case gaX11 => k_is)
    (case ggX11 => k_is)
    (case nfX11 => k_is)
    (case iiX11 => k_is)
    (case tiX11 => k_is)
    (case lX11 => k_is)
    (case cX11 => k_is)
    (case kX11 => k_is)
    (case kCX11 => k_is)
    (case ccX11 => k_is)
    (case aX12 => k_is)
    (case xX12 => k_is)
    (case saX12 => k_is)
    (case gaX12 => k_is)
    (case ggX12 => k_is)
    (case nfX12 => k_is)
    (case iiX12 => k_is)
    (case tiX12 => k_is)
    (case lX12 => k_is)
    (case cX12 => k_is)
    (case kX12 => k_is)
    (case kCX12 => k_is)
    (case ccX12 => k_is)
    (case aX13 => k_is)
    (case xX13 => k_is)
    (case saX13 => k_is)
    (case gaX13 => k_is)
    (case ggX13 => k_is)
    (case nfX13 => k_is)
    (case iiX13 => k_is)
    (case tiX13 => k_is)
    (case lX13 => k_is)
    (case cX13 => k_is)
    (case kX13 => k_is)
    (case kCX13 => k_is)
    (case ccX13 => k_is)
    (case aX14 => k_is)
    (case xX14 => k_is)
    (case saX14 => k_is)
    (case gaX14 => k_is)
    (case ggX14 => k_is)
    (case nfX14 => k_is)
    (case iiX14 => k_is)
    (case tiX14 => k_is)
    (case lX14 => k_is)
    (case cX14 => k_is)
    (case kX14 => k_is)
    (case kCX14 => k_is)
    (case ccX14 => k_is)
    (case aX15 => k_is)
    (case xX15 => k_is)
    (case saX15 => k_is)
    (case gaX15 => k_is)
    (case ggX15 => k_is)
    (case nfX15 => k_is)
    (case iiX15 => k_is)
    (case tiX15 => k_is)
    (case lX15 => k_is)
    (case cX15 => k_is)
    (case kX15 => k_is)
    (case kCX15 => k_is)
    (case ccX15 => k_is)
    (case aX16 => k_is)
    (case xX16 => k_is)
    (case saX16 => k_is)
    (case gaX16 => k_is)
    (case ggX16 => k_is)
    (case nfX16 => k_is)
    (case iiX16 => k_is)
    (case tiX16 => k_is)
    (case lX16 => k_is)
    (case cX16 => k_is)
    (case kX16 => k_is)
    (case kCX16 => k_is)
    (case ccX16 => k_is)
    (case aL => k_is)
    (case lL => k_is)
    (case ckL => k_is)
    (case kL => k_is)
