import PyProof.Rows.All
import Wide.All
import OpenK.AllK
import Wide.FinOn
import PyProof.EqAt
import PyProof.EqKinds
import PyProof.TupleCall
import HandS.Base
import HandS.Call
import HandS.List
import HandS.Ends
import HandS.Words
import HandS.Comp
import HandS.Dict
import HandS.Iter
import HandS.Text
import HandS.WordsList
import HandS.Defaults
import PyProof.EnumMake
import PyProof.Draws
import KE.GoesMore
import KE.KRevSl
import PyProof.ReprLen
import PyProof.ReprText
import HandS.More
import HandS.Evl
import HandS.Walk
import HandS.IsInst
import HandS.TupAny
import HandS.Style
import HandS.TupMul
import HandS.Strs
import HandS.Set
import HandS.GenBody
import HandS.GenYield
import HandS.GenCall
import HandS.GenList
import PyProof.GenComp
import HandS.Property
import HandS.ClsMeth
import HandS.MakeKwOnly
import PyProof.InstEq
import KE.KFmtOwn
import HandS.OwnEq
import HandS.FStr
import HandS.SetKeys
import HandS.DictComp
import HandS.Exc
import HandS.ExcOwn
import HandS.ExcInit
import HandS.ExcField
import HandS.ExcIs
import HandS.WordsExc
import KE.KExcIs
import PyProof.ExcBaseAll.ValueError
import PyProof.ExcBaseAll.LookupError
import PyProof.ExcBaseAll.RuntimeError
import PyProof.ExcBaseAll.OverflowError
import HandS.Star
import HandS.SlotsOwn
import HandS.NamedTupGet
import KE.KAssignIn
import KE.KParD
import HandS.ListItems
import HandS.TryOnly
import HandS.TryMany
import PyProof.CallFns
import PySem.Challenge.RW_stackeffect_k63_sessions_led_by_deeds
set_option Elab.async false
set_option linter.all false
set_option maxRecDepth 100000
set_option maxHeartbeats 4000000
/-! Defs called where no repr is under way: their promise (GOk), their call, the law's head, and repr of plain data. -/
namespace SE
open PySem PySem.Spec PyProof.Rows L2

/-- the promise of a def whose caller has no repr under way -/
structure GOk (P : Program) (w : World) (K : PySem.W.Frag) (mg : Str → Option Value) (base : Heap) (k : Nat) (f : Addr) (fd : FuncData) (ps : List Str) (sp : Sp) : Prop where
  len : ∀ xs H Q E, sp xs H Q E → xs.length = ps.length
  run : ∀ (A : Around) (out : List Env) (s : Shared) (H : Hp) (args : Args) (us : List Value) (xs : List V) (Q : VK) (E : XK), A.guards = some [] → Room k A → Env0 P w K mg base A out s H →
    BindsTo s fd args (ps.zip us) → Vals xs us → sp xs H Q E → codeAny (model P w) A (.call (.ref f) args) (CR (fun _ _ _ _ _ _ => False) out P w H s Q E) s

section
variable {P : Program} {w : World} {K : PySem.W.Frag} {mg : Str → Option Value} {base : Heap}
theorem gok_of {k : Nat} {f : Addr} {nm ql : Str} {pars : Arguments} {bd : List Stmt} {sc : Scope} {dV kV doc pm cv ct oc : Value} {an od : Option Addr}
    {osl : Array (Option Value)} {N ps : List Str} {sp : Sp} (look : K.lookup f = some ⟨oc, od, .func (PySem.W.fnOf nm ql pars bd sc dV kV doc pm an cv ct), osl⟩) (hcode : PySem.W.codeIn K cv ql = true) (S : FnScope N ps sc)
    (len : ∀ xs H Q E, sp xs H Q E → xs.length = ps.length)
    (hbd : ∀ (A : Around) (out : List Env) (s : Shared) (H : Hp) (xs : List V) (Q : VK) (E : XK), A.guards = some [] → Room k (A.deeper (envOfC ql sc s.heap.objs.size f cv)) → sp xs H Q E →
      ∃ t, PSs (cxOf (fun _ _ _ _ _ _ => False) P w K mg base N ql sc f cv A out s H E) bd t ∧ t { nx := fun _ H2 => Q .non H2, rt := Q } (start N xs) H) :
    GOk P w K mg base (k + 1) f (PySem.W.fnOf nm ql pars bd sc dV kV doc pm an cv ct) ps sp := by
  constructor
  · exact len
  intro A out s H args us xs Q E hgu hroom env hbind hvals hpre
  have hlen := len _ _ _ _ hpre
  have kin : K.In s.heap := env.mod.kin.keeps fun b o z => (env.bs b o z).1
  have nolim : s.heap.NoLimit := env.mod.nolimit.keeps fun b o z => (env.bs b o z).1
  have kinds : ∀ y ∈ ps.zip us, sc.names.lookup y.1 = some .local ∨ (sc.names.lookup y.1 = some .cell ∧ ((cellsFrom (s.heap.objs.size + 1) sc.names []).lookup y.1).isSome = true) := by
    rintro ⟨n, v⟩ hy
    rcases S.par n (List.of_mem_zip hy).1 with q | q
    · exact .inl q
    · exact .inr ⟨q, PySem.W.cellsFrom_some _ _ _ (.inl q)⟩
  apply codeAny_call_function hroom.depth (kin _ _ look) rfl S.co S.gen rfl (PySem.W.codeRec_of kin hcode)
  apply hbind
  refine wpAny_newFunctionEnv_cells S.kind kinds fun ev hev s2 inc => ?_
  subst hev
  refine ⟨nolim.keeps inc.toInCall.keep, codeAny_func ?_⟩
  obtain ⟨t, der, rd⟩ := hbd A out s H xs Q E hgu (hroom.deeper _) hpre
  have J0 : Inv (cxOf (fun _ _ _ _ _ _ => False) P w K mg base N ql sc f cv A out s H E) [] (start N xs) H s2 := inv_start S hroom.hd env hlen hvals inc
  refine wpAny_mono (der.run [] s2 (start N xs) H _ J0 rd) (fun fl s3 hs => ?_) fun e s3 hs => hs
  cases fl with
  | ret u =>
    obtain ⟨v, σ3, H3, J, rv, q⟩ := hs
    exact ⟨v, H3, J.os, J.bare, J.base, J.hok, rv, q⟩
  | next =>
    obtain ⟨σ3, H3, J, q⟩ := hs
    exact ⟨V.non, H3, J.os, J.bare, J.base, J.hok, rfl, q⟩
  | brk => exact hs.elim fun _ z => z.elim fun _ z => z.2.elim
  | cont => exact hs.elim fun _ z => z.elim fun _ z => z.2.elim
theorem gok_mk {x ql : Str} {st : Stmt} {f : Addr} {fd : FuncData} {N ps : List Str} {k : Nat} {sp : Sp} (F : Fun K x ql st f fd) (S : FnScope N ps (defScope st)) (len : ∀ xs H Q E, sp xs H Q E → xs.length = ps.length)
    (hbd : ∀ (cv : Value) (A : Around) (out : List Env) (s : Shared) (H : Hp) (xs : List V) (Q : VK) (E : XK), A.guards = some [] → Room k (A.deeper (envOfC ql (defScope st) s.heap.objs.size f cv)) → sp xs H Q E →
      ∃ t, PSs (cxOf CX0 P w K mg base N ql (defScope st) f cv A out s H E).nox (defBody st) t ∧ t { nx := fun _ H2 => Q .non H2, rt := Q } (start N xs) H) : GOk P w K mg base (k + 1) f fd ps sp := by
  obtain ⟨oc, od, kV, doc, pm, an, cv, ct, osl, rfl, look, hcode⟩ := F.ex
  refine gok_of look hcode S len fun A out s H xs Q E hgu hr hpre => ?_
  obtain ⟨t, a, b⟩ := hbd cv A out s H xs Q E hgu hr hpre
  exact ⟨t, a.nox, b⟩
end

section
variable {X : Cx} {k : Nat} {f : Addr} {fd : FuncData} {ps : List Str} {sp : Sp} {x : Str} {p pos : Pos} {e : Expr} {es : List Expr} {t : TA}
theorem pe_callG (F : GOk X.prog X.w X.K X.mg X.base k f fd ps sp) (hgu : X.A.guards = some []) (hr : Room k X.A) (hg : Gl X x) (hm : X.mg x = some (.ref f)) (hk : PySem.W.keepIn X.K (.ref f) = true) (hb : Binds X.K fd ps [])
    (ha : PA X (e :: es) t) (hdb : (x == ("__debug__" : Str)) = false := by decide) (he : starEach (e :: es) X.env = (false, eval e X.env) :: starEach es X.env := by rfl) (hpl : (backTo pos (starEach es X.env)).any (·.1) = false := by rfl) :
    PE X (.Call (.Name x p) (e :: es) [] pos) (tCall sp [] (fun _ _ _ => False) t) := by
  constructor
  intro pins s σ H Q I h
  apply wpAny_Call_Name_kw
  apply ld_glob I hg hm _ hdb
  refine PySem.W.callWith_K (h₀ := X.base) I.ok.mod.kin hk (thn (ha.run pos pins s σ H _ I h) fun us s1 hh => ?_) he hpl
  obtain ⟨xs, H1, I1, r, q⟩ := hh
  refine ⟨I1.kIn, ?_⟩
  have q' : sp xs H1 Q (fun _ _ _ => False) := by rw [List.append_nil] at q; exact q
  have hl : us.length = ps.length := by rw [← r.length]; exact F.len _ _ _ _ q'
  have hb' := hb s1 us I1.kIn (by rw [List.append_nil]; exact hl)
  rw [List.append_nil] at hb'
  refine wpAny_call (codeAny_mono (F.run X.A X.stack s1 H1 ⟨us, []⟩ us xs Q _ hgu hr I1.env0 hb' r q') fun r2 s2 hq => ?_)
  cases r2 with
  | error _ => exact hq.elim
  | ok fl =>
    cases fl with
    | ret _ => exact I1.after hq
    | next => exact hq.elim
    | brk => exact hq.elim
    | cont => exact hq.elim
end

section
variable {X : Cx}
/-- repr(x), x plain data -/
def rRep (K : PySem.W.Frag) : List V → Hp → VK → Prop := fun xs H Q => ∃ (x : V) (d : PyData), xs = [x] ∧ Dp K H x d ∧ (∃ a, x = .ref a) ∧ d.showable = true ∧ d.hasDict = false ∧ d.depth ≤ 20 ∧ d.shown.length ≤ sizeLine ∧ Q (.str d.shown) H
theorem call_rep (hgu : X.A.guards = some []) (hu : X.A.units + 64 < cLine) : CallR X (.builtin "repr") (rRep X.K) := by
  intro pins s σ H xs us Q I r h
  obtain ⟨x, d, rfl, hd, ⟨a, rfl⟩, hs, hn, hdep, hz, q⟩ := h
  cases r with
  | cons r1 r2 =>
    cases r2
    cases r1
    obtain ⟨as, rd⟩ := Dp.reads I d (.ref a) (.ref a) hd rfl
    refine repr_of_reads' rd hs (PyData.noDict_hsm hn) hgu (by omega) (fun _ _ z => z) (fun h' u tk hk => ?_) hz
    exact ⟨.str d.shown, H, I.kept (t' := tk) hk, ⟨_, rfl⟩, q⟩
end
/-! ### the law's head -/
theorem lawG {P : Program} {w : World} {K : PySem.W.Frag} {mg mb : Str → Option Value} {k : Nat} {fa a : Addr} {fd : FuncData} {x : Str} {sp : Sp} {s1 : Shared} {vs : List Value} {ns : List Int}
    (kin : K.In s1.heap) (hns : s1.heap.Ns mainGlobals mg) (hbn : s1.heap.Ns builtinsNs mb) (hbb : ∀ x : Str, x ≠ "__name__" → mb x = bootBuiltins x) (nolim : s1.heap.NoLimit) (hg : s1.gens = #[])
    (hobj : s1.heap.get? a = some { cls := .type "list", data := .seq vs.toArray }) (hi : IntsAre vs ns) (hz : ns.length ≤ sizeLine) (hr : Room k callerA)
    (F : ∀ base : Heap, K.In base → base.Ns mainGlobals mg → GOk P w K mg base k fa fd [x] sp) (hbind : ∀ (s : Shared) (u : Value), BindsTo s fd ⟨[u], []⟩ [(x, u)])
    (hsp : ∀ H : Hp, SqL K H a (ns.map V.int) → sp [.ref a] H (fun v _ => v = .bl true) fun _ _ _ => False) :
    codeAny (model P w) callerA (.call (.ref fa) ⟨[.ref a], []⟩) (fun r s2 => r = .ok (.ret (.bool true)) ∧ OldK s1.heap s2.heap ∧ s2.os = s1.os ∧ AllBare s2.gens) s1 := by
  have rel := vals_ints hi
  have same := hi.length
  have go : ∀ H : Hp, (∀ b u, H b = some u → b = a ∧ K.lookup a = none ∧ ∃ o xs, u = .frz o (.lst xs)) → SqL K H a (ns.map V.int) → HOk P w H s1.heap →
      codeAny (model P w) callerA (.call (.ref fa) ⟨[.ref a], []⟩) (fun r s2 => r = .ok (.ret (.bool true)) ∧ OldK s1.heap s2.heap ∧ s2.os = s1.os ∧ AllBare s2.gens) s1 := by
    intro H only hS hok
    have free : ∀ {b : Addr}, b ≠ a → H b = none := fun {b} hb => by
      cases q : H b with
      | none => rfl
      | some u => exact absurd (only b u q).1 hb
    have freeD : ∀ {b : Addr} {o : Obj} {es : Array DictEntry} {ep : Nat}, s1.heap.get? b = some o → o.data = .dict es ep → H b = none := fun {b o es ep} e d => by
      by_cases hb : b = a
      · subst hb
        rw [hobj] at e
        cases e
        cases d
      · exact free hb
    have ns2 : ∀ {b : Addr} {m : Str → Option Value}, s1.heap.Ns b m → (hidT s1.heap H).Ns b m := by
      rintro b m ⟨o, es, ep, e, d, r⟩
      exact ⟨o, es, ep, hidT_get e (freeD e d), d, r⟩
    have kin2 : K.In (hidT s1.heap H) := by
      intro b o e
      refine hidT_get (kin b o e) ?_
      cases q : H b with
      | none => rfl
      | some u =>
        obtain ⟨eb, nk, _⟩ := only b u q
        subst eb
        rw [nk] at e
        cases e
    have mod : Mod K mg (hidT s1.heap H) := by
      refine ⟨kin2, ns2 hns, ⟨mb, ns2 hbn, hbb⟩, ?_⟩
      obtain ⟨mc, h1, h2⟩ := nolim
      exact ⟨mc, ns2 h1, h2⟩
    have env : Env0 P w K mg (hidT s1.heap H) callerA [] s1 H :=
      ⟨rfl, mod, fun b o e => of_hidT e, Nat.le_of_eq (hidT_size _ _), trivial, fun b hb => (by cases (show b ∈ ([] : List Addr) from hb)), hok, .of_eq hg⟩
    have runs := (F _ kin2 (ns2 hns)).run callerA [] s1 H ⟨[.ref a], []⟩ [.ref a] [.ref a] (fun v _ => v = .bl true) (fun _ _ _ => False) rfl hr env (hbind s1 (.ref a)) (.cons rfl .nil) (hsp H hS)
    refine codeAny_mono runs fun r s2 h => ?_
    cases r with
    | error _ => exact h.elim
    | ok fl =>
      cases fl with
      | next => exact h.elim
      | brk => exact h.elim
      | cont => exact h.elim
      | ret u =>
        obtain ⟨v, H2, os, bare, un, hok2, r2, q⟩ := h
        have q2 : v = .bl true := q
        subst q2
        obtain rfl : u = Value.bool true := r2
        refine ⟨rfl, OldK.of_keep fun b o e => ?_, os, bare⟩
        cases z : H b with
        | none => exact un.keep b o e z (fun m => by cases (show b ∈ ([] : List Addr) from m)) (fun m => by cases m)
        | some u2 =>
          obtain ⟨_, _, ob, ys, eu⟩ := only b u2 z
          subst eu
          obtain ⟨e1, _⟩ := hok b _ z
          obtain ⟨e2, _⟩ := hok2 b _ (un.frzs b ob _ z)
          rw [e] at e1
          cases e1
          exact e2
  cases hk : K.lookup a with
  | some o =>
    have e := kin a o hk
    rw [hobj] at e
    cases e
    refine go (fun _ => none) (fun b u z => nomatch z) (.inr ⟨_, vs.toArray, _, hk, rfl, rfl, rfl, by rw [List.size_toArray, same]; exact hz, by simpa using rel⟩) (fun b u z => nomatch z)
  | none =>
    have at1 : ∀ {b : Addr} {u : HO}, (if b = a then some (HO.frz { cls := .type "list", data := .seq vs.toArray } (.lst (ns.map V.int))) else none) = some u → b = a ∧ u = .frz { cls := .type "list", data := .seq vs.toArray } (.lst (ns.map V.int)) := fun {b u} z => by
      by_cases hb : b = a
      · rw [if_pos hb] at z
        cases z
        exact ⟨hb, rfl⟩
      · rw [if_neg hb] at z
        cases z
    refine go (fun b => if b = a then some (.frz { cls := .type "list", data := .seq vs.toArray } (.lst (ns.map V.int))) else none) (fun b u z => ?_) (.inl (.inr ⟨{ cls := .type "list", data := .seq vs.toArray }, if_pos rfl⟩)) (fun b u z => ?_)
    · obtain ⟨e1, e2⟩ := at1 z
      exact ⟨e1, hk, _, _, e2⟩
    · obtain ⟨e1, e2⟩ := at1 z
      subst e1
      subst e2
      exact ⟨hobj, by rw [List.length_map]; exact hz, vs, _, rel, hobj⟩
theorem walkG {l : PySem.W.OpenLaw} {n k : Nat} {q : Program} {loose : List Str} {XP : (Str → Option Value) → Heap → Prop} {YP : World → Heap → Prop} {d : DefRec} {K : Params → PySem.W.Frag} {sp : PySem.W.Frag → Sp} {x : Str}
    (hn : l.most = some n) (hn2 : n ≤ sizeLine) (hdf : d.params.defaults = []) (hr : Room k callerA) (hY : ∀ (w : World) (h : Heap), YP w h → (K w.params).In h)
    (F : ∀ (w : World) (mg : Str → Option Value) (fa : Addr) (h : Heap), (K w.params).In h → h.Ns mainGlobals mg → mg d.name = some (.ref fa) →
      ∃ fd : FuncData, (∀ (s : Shared) (u : Value), BindsTo s fd ⟨[u], []⟩ [(x, u)]) ∧ ∀ base : Heap, (K w.params).In base → base.Ns mainGlobals mg → GOk l.prog w (K w.params) mg base k fa fd [x] (sp (K w.params)))
    (hsp : ∀ (K : PySem.W.Frag) (H : Hp) (a : Addr) (ns : List Int), ns.length ≤ n → SqL K H a (ns.map V.int) → sp K [.ref a] H (fun v _ => v = .bl true) fun _ _ _ => False) :
    PySem.W.WalkO q loose XP YP l.row.toRowW d [] (fun f vs => PySem.call f vs) := by
  apply Att.attach_call hn hdf
  intro w s0 s1 mg mb fa o pm cd doc a vs ns G Y ho hd hcd hmg hobj hints hlen hg
  have kin := hY w _ Y
  obtain ⟨fd, hb, hF⟩ := F w mg fa _ kin G.T.g hmg
  exact lawG kin G.T.g G.T.b G.T.builtins G.T.nolimit hg hobj hints (Nat.le_trans hlen hn2) hr hF hb fun H hS => hsp _ H a ns hlen hS
end SE
/-! Defs by their names. -/
namespace SE
open PySem PySem.Spec PyProof.Rows L2
section
variable {P : Program} {w : World} {K : PySem.W.Frag} {mg : Str → Option Value} {base : Heap}
/-- the def st stands under its name -/
def Def (K : PySem.W.Frag) (mg : Str → Option Value) (x : Str) (st : Stmt) : Prop := ∃ f fd, Fun K x x st f fd ∧ mg x = some (.ref f)
/-- a def that keeps the promise sp stands under the name x; dvs: the values of its defaults -/
def Has (P : Program) (w : World) (K : PySem.W.Frag) (mg : Str → Option Value) (base : Heap) (x : Str) (k : Nat) (ps : List Str) (dvs : List V) (sp : Sp) : Prop :=
  ∃ f fd ds, FnOk P w K mg base CX0 k f fd ps sp ∧ mg x = some (.ref f) ∧ PySem.W.keepIn K (.ref f) = true ∧ Binds K fd ps ds ∧ Vals dvs ds ∧ ∃ st, Fun K x x st f fd
def GHas (P : Program) (w : World) (K : PySem.W.Frag) (mg : Str → Option Value) (base : Heap) (x : Str) (k : Nat) (ps : List Str) (sp : Sp) : Prop :=
  ∃ f fd, GOk P w K mg base k f fd ps sp ∧ mg x = some (.ref f) ∧ PySem.W.keepIn K (.ref f) = true ∧ Binds K fd ps []
abbrev Bx (P : Program) (w : World) (K : PySem.W.Frag) (mg : Str → Option Value) (base : Heap) (N : List Str) (x : Str) (st : Stmt) (f : Addr) (cv : Value) (A : Around) (out : List Env) (s : Shared) (H : Hp) (E : XK) : Cx :=
  (cxOf CX0 P w K mg base N x (defScope st) f cv A out s H E).nox
theorem has_of {x : Str} {st : Stmt} {N ps : List Str} {k : Nat} {sp : Sp} (D : Def K mg x st) (S : FnScope N ps (defScope st))
    (hb : ∀ (kV doc pm : Value) (an : Option Addr) (cv ct : Value) (us : List Value), us.length = ps.length → bindArgs (PySem.W.fnOf x x (defArgs st) (defBody st) (defScope st) .none kV doc pm an cv ct) ⟨us, []⟩ = pure (ps.zip us))
    (len : ∀ xs H Q E, sp xs H Q E → xs.length = ps.length)
    (hbd : ∀ (f : Addr) (cv : Value) (A : Around) (out : List Env) (s : Shared) (H : Hp) (xs : List V) (Q : VK) (E : XK), Room k (A.deeper (envOfC x (defScope st) s.heap.objs.size f cv)) → sp xs H Q E →
      ∃ t, PSs (Bx P w K mg base N x st f cv A out s H E) (defBody st) t ∧ t { nx := fun _ H2 => Q .non H2, rt := Q } (start N xs) H) : Has P w K mg base x (k + 1) ps [] sp := by
  obtain ⟨f, fd, F, hm⟩ := D
  exact ⟨f, fd, [], F.ok S len fun cv A out s H xs Q E hr h => hbd f cv A out s H xs Q E hr h, hm, F.kp, F.binds hb, .nil, st, F⟩
theorem ghas_of {x : Str} {st : Stmt} {N ps : List Str} {k : Nat} {sp : Sp} (D : Def K mg x st) (S : FnScope N ps (defScope st))
    (hb : ∀ (kV doc pm : Value) (an : Option Addr) (cv ct : Value) (us : List Value), us.length = ps.length → bindArgs (PySem.W.fnOf x x (defArgs st) (defBody st) (defScope st) .none kV doc pm an cv ct) ⟨us, []⟩ = pure (ps.zip us))
    (len : ∀ xs H Q E, sp xs H Q E → xs.length = ps.length)
    (hbd : ∀ (f : Addr) (cv : Value) (A : Around) (out : List Env) (s : Shared) (H : Hp) (xs : List V) (Q : VK) (E : XK), A.guards = some [] → Room k (A.deeper (envOfC x (defScope st) s.heap.objs.size f cv)) → sp xs H Q E →
      ∃ t, PSs (Bx P w K mg base N x st f cv A out s H E) (defBody st) t ∧ t { nx := fun _ H2 => Q .non H2, rt := Q } (start N xs) H) : GHas P w K mg base x (k + 1) ps sp := by
  obtain ⟨f, fd, F, hm⟩ := D
  exact ⟨f, fd, gok_mk F S len fun cv A out s H xs Q E hg hr h => hbd f cv A out s H xs Q E hg hr h, hm, F.kp, F.binds hb⟩
theorem Has.mono {x : Str} {j k : Nat} {ps : List Str} {dvs : List V} {sp : Sp} (h : Has P w K mg base x j ps dvs sp) (hk : j ≤ k) : Has P w K mg base x k ps dvs sp := by
  obtain ⟨f, fd, ds, F, r⟩ := h
  exact ⟨f, fd, ds, F.mono hk, r⟩
theorem Has.fun {x : Str} {k : Nat} {ps : List Str} {dvs : List V} {sp : Sp} {st : Stmt} (h : Has P w K mg base x k ps dvs sp) (D : Def K mg x st) : ∃ f fd, FnOk P w K mg base CX0 k f fd ps sp ∧ mg x = some (.ref f) ∧ PySem.W.keepIn K (.ref f) = true ∧ Fun K x x st f fd := by
  obtain ⟨f, fd, ds, G, hm, hk, hb, hd, st2, F2⟩ := h
  obtain ⟨g, fe, F, hg⟩ := D
  have e : f = g := by
    rw [hm] at hg
    cases hg
    rfl
  subst e
  have e2 : fd = fe := by
    obtain ⟨_, _, _, _, _, _, _, _, _, _, l1, _⟩ := F.ex
    obtain ⟨_, _, _, _, _, _, _, _, _, _, l2, _⟩ := F2.ex
    rw [l1] at l2
    cases l2
    rfl
  subst e2
  exact ⟨f, fd, G, hm, hk, F⟩
end
section
variable {X : Cx} {k : Nat} {ps : List Str} {sp : Sp} {x : Str} {p pos : Pos} {e : Expr} {es : List Expr} {t : TA} {dvs : List V}
theorem pe_has (h : Has X.prog X.w X.K X.mg X.base x k ps dvs sp) (hr : Room k X.A) (ha : PA X (e :: es) t) (hg : Gl X x := by rfl) (hdb : (x == ("__debug__" : Str)) = false := by decide)
    (he : starEach (e :: es) X.env = (false, eval e X.env) :: starEach es X.env := by rfl) (hpl : (backTo pos (starEach es X.env)).any (·.1) = false := by rfl) : PE X (.Call (.Name x p) (e :: es) [] pos) (tCall sp dvs E0 t) := by
  obtain ⟨f, fd, ds, F, hm, hk, hb, hd, _⟩ := h
  exact pe_call F hr hg hm hk hb hd pass0 ha hdb he hpl
theorem pe_ghas (h : GHas X.prog X.w X.K X.mg X.base x k ps sp) (hgu : X.A.guards = some []) (hr : Room k X.A) (ha : PA X (e :: es) t) (hg : Gl X x := by rfl) (hdb : (x == ("__debug__" : Str)) = false := by decide)
    (he : starEach (e :: es) X.env = (false, eval e X.env) :: starEach es X.env := by rfl) (hpl : (backTo pos (starEach es X.env)).any (·.1) = false := by rfl) : PE X (.Call (.Name x p) (e :: es) [] pos) (tCall sp [] E0 t) := by
  obtain ⟨f, fd, F, hm, hk, hb⟩ := h
  exact pe_callG F hgu hr hg hm hk hb ha hdb he hpl
end
/-! ### heaps -/
theorem Same.tup {K : PySem.W.Frag} {H H' : Hp} {a : Addr} {xs : List V} (e : Same H H') (h : SqT K H a xs) : SqT K H' a xs := by
  rcases h with (h | ⟨o, h⟩) | h
  · exact .inl (.inl (e _ _ h))
  · exact .inl (.inr ⟨o, e _ _ h⟩)
  · exact .inr h
theorem Same.new {H : Hp} {p : Addr} {o : HO} (h : H p = none) : Same H (upd H p o) := fun b u z => by
  rw [upd_ne (ne_of_none z h)]
  exact z
/-- all but what stands at p -/
def But (p : Addr) (H H' : Hp) : Prop := ∀ b o, b ≠ p → H b = some o → H' b = some o
theorem But.refl (p : Addr) (H : Hp) : But p H H := fun _ _ _ h => h
theorem But.trans {p : Addr} {H H1 H2 : Hp} (a : But p H H1) (b : But p H1 H2) : But p H H2 := fun c o n h => b c o n (a c o n h)
theorem But.of {p : Addr} {H H1 : Hp} (a : Same H H1) : But p H H1 := fun c o _ h => a c o h
theorem But.at {p : Addr} {H : Hp} {o : HO} : But p H (upd H p o) := fun c u n h => by
  rw [upd_ne n]
  exact h
/-- what H does not know may change -/
theorem But.free {p q : Addr} {H H1 : Hp} {o : HO} (a : But p H H1) (h : H q = none) : But p H (upd H1 q o) := fun c u n z => by
  rw [upd_ne (ne_of_none z h)]
  exact a c u n z
theorem Same.free2 {q : Addr} {H H1 : Hp} {o : HO} (a : Same H H1) (h : H q = none) : Same H (upd H1 q o) := fun c u z => by
  rw [upd_ne (ne_of_none z h)]
  exact a c u z
theorem But.none {p q : Addr} {H H1 : Hp} (a : But p H H1) (n : q ≠ p) (h : H1 q = Option.none) : H q = Option.none := by
  cases z : H q with
  | none => rfl
  | some o =>
    rw [a q o n z] at h
    cases h
/-! ### the drawn numbers -/
/-- a pool: two numbers -/
structure Pool (H : Hp) (p : Addr) : Prop where
  ex : ∃ m s : Int, H p = some (.lst [.int m, .int s]) ∧ 0 ≤ m ∧ 0 ≤ s ∧ s < 2147483647
theorem Pool.ne {H : Hp} {p t : Addr} {xs : List V} (h : Pool H p) (ht : H t = some (.tup xs)) : t ≠ p := by
  obtain ⟨m, s, e, _⟩ := h.ex
  intro z
  rw [z, e] at ht
  cases ht
theorem Pool.free {H : Hp} {p q : Addr} (h : Pool H p) (hq : H q = none) : q ≠ p := by
  obtain ⟨m, s, e, _⟩ := h.ex
  intro z
  rw [z, e] at hq
  cases hq
theorem Pool.same {H H' : Hp} {p : Addr} (h : Pool H p) (s : Same H H') : Pool H' p := by
  obtain ⟨m, n, e, r⟩ := h.ex
  exact ⟨m, n, s _ _ e, r⟩
theorem Pool.upd {H : Hp} {p q : Addr} {o : HO} (h : Pool H p) (n : q ≠ p) : Pool (L2.upd H q o) p := by
  obtain ⟨m, k, e, r⟩ := h.ex
  exact ⟨m, k, by rw [upd_ne (Ne.symm n)]; exact e, r⟩
end SE
/-! enumerate(t) and t[::-1] of a tuple. -/
namespace SE
open PySem PySem.Spec PyProof.Rows L2
section
open Sem (wp)
open AutoSeq1 (wpAny_loadPart')
theorem meets_enum_newT (t : Addr) (items : Array Value) (n : Nat) (dct : Option Addr) (sl : Array (Option Value)) :
    Meets (Builtin.«enumerate.__new__» ⟨[.type "enumerate", .ref t], []⟩) (fun _ R s => s.heap.get? t = some { cls := .type "tuple", dict := dct, data := .seq items n, slots := sl } ∧
      R (.ok (.ret (.ref (s.heap.push { cls := .type "tuple_iterator", data := .fields #[.ref t, .int 0 0] }).objs.size)))
        { s with heap := (s.heap.push { cls := .type "tuple_iterator", data := .fields #[.ref t, .int 0 0] }).push { cls := .type "enumerate", data := .fields #[.none, .bool false, .ref s.heap.objs.size, rawInt 0, .none, .none] } }) := by
  refine .of_wp fun prog w A R s h => ?_
  obtain ⟨hp, g, d, tk, os⟩ := s
  obtain ⟨ht, h⟩ := h
  have hsub := sub_enumerate
  have hT : Heap.IsTuple (Shared.heap ⟨hp, g, d, tk, os⟩) t items := ⟨_, ht, rfl, n, rfl⟩
  wp_walk using wpAny_loadPart' ht
  refine wpAny_stack_any fun st => wpAny_pure ?_
  split
  · rename_i c _ _ _ _ _
    cases (c == Value.type "enumerate")
    · wp_walk using wpAny_loadPart' ht, wpAny_pyIter_tuple hT
      exact ⟨_, rfl, h⟩
    · wp_walk using wpAny_loadPart' ht, wpAny_pyIter_tuple hT
      exact ⟨_, rfl, h⟩
  · wp_walk using wpAny_loadPart' ht, wpAny_pyIter_tuple hT
    exact ⟨_, rfl, h⟩
end
section
variable {prog : Program} {w : World} {A : Around} {E : Value → Shared → Prop} {s : Shared}
theorem call_enumT {t : Addr} {items : Array Value} {Q : Value → Shared → Prop} (hT : s.heap.IsTuple t items)
    (h : ∀ h', IsEnum h' (s.heap.objs.size + 1) s.heap.objs.size 0 .none → h'.IsTupleIter s.heap.objs.size t 0 → (∀ b o, s.heap.get? b = some o → h'.get? b = some o) → Q (.ref (s.heap.objs.size + 1)) { s with heap := h' }) :
    wpAny (model prog w) A (call (.type "enumerate") [.ref t]) Q E s := by
  obtain ⟨⟨c, dct, dt, sl⟩, ht, hc, n, hd⟩ := hT
  simp only at hc hd
  subst hc hd
  refine callType_new F.called_enumerate (by decide) (F.typeCall_enumerate_1 _) (F.newCall_enumerate_1 _) (fun obj => F.args_object_init_2 obj _) F.entry_enumerate_new (meets_enum_newT t items n dct sl) ⟨ht, ?_⟩
  have hz : (s.heap.push { cls := .type "tuple_iterator", data := .fields #[.ref t, .int 0 0] }).objs.size = s.heap.objs.size + 1 := Heap.size_push ..
  show _ ∧ _
  rw [hz]
  have he : IsEnum ((s.heap.push { cls := .type "tuple_iterator", data := .fields #[.ref t, .int 0 0] }).push
      { cls := .type "enumerate", data := .fields #[.none, .bool false, .ref s.heap.objs.size, rawInt 0, .none, .none] }) (s.heap.objs.size + 1) s.heap.objs.size 0 .none := by
    have z := Heap.get?_push_size (s.heap.push { cls := .type "tuple_iterator", data := .fields #[.ref t, .int 0 0] })
      (o := { cls := .type "enumerate", data := .fields #[.none, .bool false, .ref s.heap.objs.size, rawInt 0, .none, .none] }) rfl
    rw [hz] at z
    exact z
  exact ⟨⟨_, he, rfl⟩, h _ he ⟨_, Heap.get?_push_of_some _ (Heap.get?_push_size _ rfl), rfl, rfl⟩ fun b o x => Heap.get?_push_of_some _ (Heap.get?_push_of_some _ x)⟩
end
/-- the tuple at a, each item in a new pair -/
def ItE (K : PySem.W.Frag) (a : Addr) : It :=
  ⟨fun i H => ∃ (xs : List V) (x : V), SqT K H a xs ∧ xs[i]? = some x, fun i H v H' => ∃ T x, v = .ref T ∧ H T = none ∧ H' = upd H T (.tup [.int (i : Nat), x]) ∧ ∀ xs, SqT K H a xs → xs[i]? = some x, fun i H => ∃ xs : List V, SqT K H a xs ∧ xs.length ≤ i⟩
theorem turn_enumT {P : Program} {w : World} {K : PySem.W.Frag} {elts : List Expr} {kk : Nat} {tpos : Pos} (a e it : Addr) :
    Turn P w K (.Tuple elts kk tpos) (ItE K a) [e, it] e (fun i h => (∃ old, IsEnum h e it ((i : Nat) : Int) old) ∧ h.IsTupleIter it a i ∧ e ≠ it ∧ a ≠ it ∧ a ≠ e) where
  mem := by simp
  obj := fun i h st b hb => by
    obtain ⟨⟨old, he⟩, ⟨o, ho, hc, hd⟩, _⟩ := st
    have ee : b = e ∨ b = it := by simpa using hb
    rcases ee with z | z
    · rw [z]
      exact ⟨_, he, fun v q => nomatch q⟩
    · rw [z]
      exact ⟨o, ho, fun v q => by rw [hd] at q; cases q⟩
  keep := fun i h h' st k => by
    obtain ⟨⟨old, he⟩, hi, hne⟩ := st
    exact ⟨⟨old, k e (by simp) _ he⟩, (let ⟨o, ho, r⟩ := hi; ⟨o, k it (by simp) o ho, r⟩), hne⟩
  item := by
    intro X hP hw hK hc i pins s σ H E I hf st hg
    subst hP hw hK
    obtain ⟨⟨old, he⟩, hit, hne, hai, hae⟩ := st
    obtain ⟨xs, x, hq, hx⟩ := hg
    obtain ⟨its, rv, p, hz⟩ := I.tuple hq
    obtain ⟨u, hu, ru⟩ := rv.get hx
    have hel : e < s.heap.objs.size := Heap.lt_size he
    have hil : it < s.heap.objs.size := by
      obtain ⟨_, q, _⟩ := hit
      exact Heap.lt_size q
    have hlt : i < its.toArray.size := by
      rw [List.size_toArray, ← rv.length]
      exact (List.getElem?_eq_some_iff.mp hx).1
    have D : Draws X.prog X.w X.A.in1 it [it, a] its.toArray.size (fun j v => its.toArray[j]? = some v) (fun j h => h.IsTupleIter it a j ∧ h.IsTuple a its.toArray) := Draws.tuple (A := X.A.in1) (I.ok.hd hc) it a hai its.toArray
    refine wpAny_pyNext_enum_itemD D he ⟨hit, p⟩ hlt hne (by simp [Ne.symm hae, hne]) fun v h1 tk hv ho hit1 hT hsz hk => ?_
    have ev : v = u := by
      have z : some v = some u := by rw [← hv]; simpa using hu
      exact Option.some.inj z
    subst ev
    refine ⟨_, rfl, wpAny_letOwnedTupleGo_enum (s := { s with heap := h1, toks := tk + 1 }) ho fun h2 he2 sb => ?_⟩
    have hT2 : h2.get? s.heap.objs.size = some { cls := .type "tuple", data := .seq #[.int i tk, v] } := (sb.2 _ (Nat.ne_of_gt hel)).trans hT
    have new : ObjOk X.prog X.w (upd H s.heap.objs.size (.tup [.int (i : Nat), x])) h2 s.heap.objs.size (.tup [.int (i : Nat), x]) :=
      ⟨by show 2 ≤ sizeLine; decide, [.int i tk, v], .cons ⟨_, rfl⟩ (.cons ru .nil), ⟨_, hT2, rfl, _, rfl⟩⟩
    have J : Inv X pins σ (upd H s.heap.objs.size (.tup [.int (i : Nat), x])) { s with heap := h2, toks := tk + 1 } :=
      I.turnedNew (ch := [e, it]) (fun b ob hb q => (sb.2 b (fun z => hb (by simp [z]))).trans (hk b ob (fun z => hb (by simp [z])) (fun z => hb (by simp [z])) q)) hf (Nat.le_refl _) new
    refine ⟨.ref s.heap.objs.size, _, J, rfl, ⟨_, x, rfl, I.hok.fresh (Nat.le_refl _), rfl, fun ys hy => by rw [I.tuple_inj hy hq]; exact hx⟩, ⟨⟨v, ?_⟩, ?_, hne, hai, hae⟩, fun b hb => ?_⟩
    · have e1 : ((i + 1 : Nat) : Int) = (i : Int) + 1 := by omega
      rw [e1]
      exact he2
    · obtain ⟨o, ho2, r⟩ := hit1.1
      exact ⟨o, (sb.2 it (Ne.symm hne)).trans ho2, r⟩
    · have hb2 : b < s.heap.objs.size := by
        have ee : b = e ∨ b = it := by simpa using hb
        rcases ee with z | z
        · rw [z]; exact hel
        · rw [z]; exact hil
      rw [upd_ne (Nat.ne_of_lt hb2)]
      exact (hf b hb).1
  done := by
    intro X hP hw hK hc i pins s σ H E I hf st hg
    subst hP hw hK
    obtain ⟨⟨old, he⟩, hit, hne, hai, hae⟩ := st
    obtain ⟨xs, hq, hx⟩ := hg
    obtain ⟨its, rv, p, hz⟩ := I.tuple hq
    obtain ⟨f0, f1, f2, f3, f4, f5⟩ := hf it (by simp)
    have hl := rv.length
    have D : Draws X.prog X.w X.A.in1 it [it, a] i (fun j v => its.toArray[j]? = some v) (fun j h => j = i ∧ h.IsTupleIter it a i ∧ h.IsTuple a its.toArray ∧ its.toArray.size ≤ i) := by
      have D0 := Draws.tuple (prog := X.prog) (w := X.w) (A := X.A.in1) (I.ok.hd hc) it a hai its.toArray
      refine ⟨fun j h z => D0.live i h ⟨z.2.1, z.2.2.1⟩, fun j h h' z k => ⟨z.1, (D0.frame i h h' ⟨z.2.1, z.2.2.1⟩ k).1, (D0.frame i h h' ⟨z.2.1, z.2.2.1⟩ k).2, z.2.2.2⟩, fun j s Q E hj z k => ?_, fun s Q E z k => ?_⟩
      · exact absurd z.1 (Nat.ne_of_lt hj)
      · exact wpAny_nextOf_tuple_end (I.ok.hd hc) z.2.1 z.2.2.1 (Array.getElem?_eq_none z.2.2.2) k
    exact wpAny_pyNext_enum_endD D he ⟨rfl, hit, p, by rw [List.size_toArray]; omega⟩ fun h' eb => ⟨rfl, I.turned (t' := s.toks) (fun b o hb q => eb b o hb q) f0 f1 f3 f4 f5⟩
  self := fun A i s Q E st h => let ⟨⟨_, he⟩, _⟩ := st; wpAny_pyIter_enum he h
def iEnumT (K : PySem.W.Frag) (ta : TA) : TI := fun σ H R => ta σ H fun vs H1 => ∃ a xs, vs = [.ref a] ∧ SqT K H1 a xs ∧ R (ItE K a) H1
theorem pi_enumT {X : Cx} {e : Expr} {ta : TA} {p pos tpos : Pos} {elts : List Expr} {kk : Nat} (hg : Gl X "enumerate") (hm : X.mg "enumerate" = none) (ha : PA X [e] ta) (hs : starEach [e] X.env = [(false, eval e X.env)] := by rfl) :
    PI X (.Tuple elts kk tpos) (.Call (.Name "enumerate" p) [e] [] pos) (iEnumT X.K ta) := by
  constructor
  intro pins s σ H R I h
  refine Call_ (ld_blt I hg hm boot_enumerate (PyProof.Rows.callWith_type1 (thn (ha.run pos pins s σ H _ I h) fun us s1 hh => ?_) hs rfl))
  obtain ⟨vs, H1, I1, r1, a, xs, ex, hq, q⟩ := hh
  subst ex
  cases r1 with
  | cons r rr =>
    cases rr
    cases r
    obtain ⟨its, rv, p2, hz⟩ := I1.tuple hq
    refine call_enumT p2 fun h2 he hit hk => wpAny_pyIter_enum he ?_
    have I2 : Inv X pins σ H1 { s1 with heap := h2 } := I1.kept (t' := s1.toks) hk
    have hlt : a < s1.heap.objs.size := p2.lt
    refine ⟨s1.heap.objs.size + 1, [s1.heap.objs.size + 1, s1.heap.objs.size], _, _, H1, rfl, I2, turn_enumT a (s1.heap.objs.size + 1) s1.heap.objs.size, ⟨⟨.none, he⟩, hit, Nat.succ_ne_self _, Nat.ne_of_lt hlt, Nat.ne_of_lt (Nat.lt_succ_of_lt hlt)⟩, fun b hb => ?_, q⟩
    have ee : b = s1.heap.objs.size + 1 ∨ b = s1.heap.objs.size := by simpa using hb
    have hle : s1.heap.objs.size ≤ b := by
      rcases ee with z | z
      · rw [z]; exact Nat.le_add_right _ _
      · rw [z]; exact Nat.le_refl _
    exact I1.fpOk hle (I1.hok.fresh hle)
/-! ### t[::-1] -/
section
variable {prog : Program} {w : World} {A : Around} {E : Value → Shared → Prop} {s : Shared}
theorem back_pick (xs : Array Value) (n : Nat) (hn : n = xs.size) : (List.range n).filterMap (fun (m : Nat) => xs[(((n : Int) - 1) + (m : Int) * (-1)).toNat]?) = xs.toList.reverse := by
  subst hn
  have e : (fun (m : Nat) => xs[(((xs.size : Nat) : Int) - 1 + (m : Int) * (-1)).toNat]?) = fun m => xs[xs.size - 1 - m]? := by
    funext m
    have z : (((xs.size : Nat) : Int) - 1 + (m : Int) * (-1)).toNat = xs.size - 1 - m := by omega
    rw [z]
  rw [e]
  have a := PySem.W.krv_pick xs
  have b : PySem.slicePick xs none none (some (-1)) = ((List.range xs.size).filterMap fun m => xs[xs.size - 1 - m]?).toArray := by
    unfold PySem.slicePick
    rw [PySem.W.krv_bounds]
    show ((PySem.sliceRange ((xs.size : Int) - 1) (-1) (-1)).filterMap (xs[·]?)).toArray = _
    rw [PySem.W.krv_sliceRange, List.filterMap_map]
    rfl
  have c := a.symm.trans b
  have d := congrArg Array.toList c
  exact d.symm
theorem applied_back {sl : Addr} {vs : Value} {n : Nat} {Q : Int × Int × Nat → Shared → Prop} (hs : s.heap.IsSliceOf sl .none .none vs) (pv : IsPart vs (some (-1)))
    (h : Q ((n : Int) - 1, -1, n) s) : wpAny (model prog w) A (Builtin.Slice.sliceApplied (.ref sl) (pure (n : Int))) Q E s := by
  obtain ⟨os, hos, hcs, hds⟩ := id hs
  unfold Builtin.Slice.sliceApplied Builtin.Slice.sliceFields
  refine wpAny_bind (wpAny_bind (wpAny_field hos hds (x := .none) rfl (wpAny_bind (wpAny_field hos hds (x := .none) rfl (wpAny_bind (wpAny_field hos hds (x := vs) rfl (wpAny_pure ?_)))))))
  refine wpAny_bind (HT.slicePart_ pv ?_)
  show wpAny _ _ (if ((-1 : Int) == 0) = true then _ else _) _ _ s
  rw [if_neg (by decide)]
  refine wpAny_bind (HT.slicePart_ .none (wpAny_bind (HT.slicePart_ .none (wpAny_bind (wpAny_pure ?_)))))
  show wpAny _ _ (pure ((n : Int) - 1, (-1 : Int), Builtin.Slice.slicePlaces ((n : Int) - 1) (-1) (-1))) _ _ s
  have e : Builtin.Slice.slicePlaces ((n : Int) - 1) (-1) (-1) = n := by
    unfold Builtin.Slice.slicePlaces
    rw [if_neg (by decide)]
    by_cases hn : (n : Int) - 1 > -1
    · rw [if_pos hn, show (- -1 : Int) = 1 by decide, Int.ediv_one]
      omega
    · rw [if_neg hn]
      omega
  rw [e]
  exact wpAny_pure h
theorem item_back {t sl : Addr} {items : Array Value} {vs : Value} {Q : Value → Shared → Prop} (ht : IsTup s.heap t items) (hs : s.heap.IsSliceOf sl .none .none vs) (pv : IsPart vs (some (-1)))
    (h : Q (.ref s.heap.objs.size) { s with heap := s.heap.push { cls := .type "tuple", data := .seq items.toList.reverse.toArray } }) (hsz : items.size ≤ sizeLine) : wpAny (model prog w) A (getItem (.ref t) (.ref sl)) Q E s := by
  have hok : sizeOk (.seq items.toList.reverse.toArray) := by
    show items.toList.reverse.toArray.size ≤ sizeLine
    rw [List.size_toArray, List.length_reverse, Array.length_toList]
    exact hsz
  obtain ⟨os, hos, hcs, hds⟩ := id hs
  have hTs : s.TypeIs (.ref sl) "slice" := ⟨os, hos, hcs⟩
  unfold getItem
  try with_reducible refine wpAny_holding ?_
  first | refine wpAny_bind (wpAny_pure ?_) | skip
  refine wpAny_bind (wpAny_sequenceKey ht.typeIs (by decide) ?_)
  refine wpAny_bind (wpAny_callSpecial?_slot (name := Str.ofString "__getitem__") ht.typeIs PyProof.Rows.slot_tuple_getitem (wpAny_call_entry PyProof.Rows.slot_tuple_getitem ht.typeIs entry_tuple_getitem ?_ (args_tuple_getitem _ _)))
  show wpAny _ _ (Builtin.Tuple.tupleItemsOf (.ref t) >>= _) _ _ s
  refine wpAny_bind (tupleItemsOf_ ht ?_)
  refine wpAny_bind (wpAny_typeOf hTs ?_)
  rw [if_pos (by decide)]
  refine wpAny_bind (applied_back hs pv ?_)
  have hno : ¬ ((((items.size : Int) - 1) == 0 && (-1 : Int) == 1 && items.size == items.size) = true) := by
    intro q
    rw [Bool.and_eq_true, Bool.and_eq_true] at q
    exact absurd q.1.2 (by decide)
  show wpAny _ _ (if (((items.size : Int) - 1) == 0 && (-1 : Int) == 1 && items.size == items.size) = true then _ else _) _ _ s
  rw [if_neg hno, back_pick items items.size rfl]
  first
    | exact wpAny_bind (m := Builtin.Tuple.tupleExact _) (wpAny_newObj_type (wpAny_pure ⟨_, rfl, wpAny_pure h⟩) hok)
    | exact wpAny_bind (m := Builtin.Tuple.tupleExact _) (wpAny_newObj_type (wpAny_bind (wpAny_pure (wpAny_pure ⟨_, rfl, wpAny_pure h⟩))) hok)
    | exact wpAny_bind (wpAny_bind (m := Builtin.Tuple.tupleExact _) (wpAny_newObj_type (wpAny_pure (wpAny_pure ⟨_, rfl, wpAny_pure h⟩)) hok))
    | exact wpAny_bind (wpAny_bind (m := Builtin.Tuple.tupleExact _) (wpAny_newObj_type (wpAny_pure ⟨_, rfl, wpAny_pure h⟩) hok))
end
def tRevT (K : PySem.W.Frag) (te : TE) : TE := fun σ H Q => te σ H fun x H1 => ∃ a xs, x = .ref a ∧ SqT K H1 a xs ∧ ∀ p, H1 p = none → Q (.ref p) (upd H1 p (.tup xs.reverse))
theorem pe_revT {X : Cx} {e : Expr} {te : TE} {k : Nat} {p1 p2 p3 pos : Pos} (he : PE X e te) : PE X (.Subscript e (.Slice none none (some (.UnaryOp .USub (.Constant (.int 1) k p1) p2)) p3) pos) (tRevT X.K te) := by
  constructor
  intro pins s σ H Q I h
  refine Subscript_ (thn (he.run pins s σ H _ I h) fun v s1 hh => ?_)
  obtain ⟨x, H1, I1, r1, a, xs, ex, hx, q⟩ := hh
  subst ex
  cases r1
  have hst : PO X (some (.UnaryOp .USub (.Constant (.int 1) k p1) p2)) (tPart (tUn (rU fun i => .int (-i)) (tC (.int 1)))) := po_some (pe_un un_neg pe_int)
  refine wpAny_Slice (thn (po_none.run pins s1 σ H1 (fun o H2 => o = none ∧ H2 = H1) I1 ⟨rfl, rfl⟩) fun vl s2 hl => ?_)
  obtain ⟨l, H2, I2, pl, el, e2⟩ := hl
  subst el e2
  refine thn (po_none.run pins s2 σ H2 (fun o H3 => o = none ∧ H3 = H2) I2 ⟨rfl, rfl⟩) fun vu s3 hu => ?_
  obtain ⟨u, H3, I3, pu, eu, e3⟩ := hu
  subst eu e3
  refine thn (hst.run pins s3 σ H3 (fun o H4 => o = some (-1) ∧ H4 = H3) I3 ⟨1, rfl, -1, rfl, rfl, rfl⟩) fun vs s4 ho => ?_
  obtain ⟨o, H4, I4, ps, eo, e4⟩ := ho
  subst eo e4
  cases pl
  cases pu
  have I5 : Inv X pins σ H4 { s4 with heap := s4.heap.push { cls := .type "slice", data := .fields #[.none, .none, vs] } } := I4.kept (t' := s4.toks) fun b ob q => Heap.get?_push_of_some _ q
  obtain ⟨its, r, ht, hz⟩ := I5.tuple hx
  have hlen := r.length
  show wpAny (model X.prog X.w) X.A (subscriptTail e (.Slice none none (some (.UnaryOp .USub (.Constant (.int 1) k p1) p2)) p3) (.ref a) (.ref s4.heap.objs.size)) (EP X pins σ Q) X.xe { s4 with heap := s4.heap.push { cls := .type "slice", data := .fields #[.none, .none, vs] } }
  refine tail_any (ops := [.ref a, .ref s4.heap.objs.size]) ht.typeIs (PyProof.Rows.slot_tuple_getitem.lookup) ?_ (by with_unfolding_all rfl)
  refine item_back ht (Heap.IsSliceOf.new _ .none .none vs) ps ?_ (by rw [List.size_toArray]; omega)
  refine ⟨.ref _, _, I5.laid (t' := s4.toks) (o := .tup xs.reverse) (fun b ob q => Heap.get?_push_of_some _ q) (Nat.le_refl _) ?_, rfl, q _ (I5.hok.fresh (Nat.le_refl _))⟩
  exact ⟨by rw [List.length_reverse]; exact hz, _, r.reverse, IsTup.new _ _⟩
end SE
/-! Plain data: texts, steps; when they are equal, how they are shown. -/
namespace SE
open PySem PySem.Spec PyProof.Rows L2
/-- a text that is an item -/
structure Item (z : Str) : Prop where
  pos : 1 ≤ z.length
  most : z.length ≤ 8
  low : ∀ c ∈ z.cps.toList, 97 ≤ c ∧ c ≤ 122
/-- data that may be compared and shown: its depth, its weight -/
structure Nice (k B : Nat) (d : PyData) : Prop where
  lay : d.canLay0 = true
  dep : d.depth ≤ k
  sh : d.showable = true
  nd : d.hasDict = false
  ish : d.intsShort 13 = true
  wt : d.weight ≤ B
theorem Nice.mono {k j B C : Nat} {d : PyData} (h : Nice k B d) (hk : k ≤ j) (hB : B ≤ C) : Nice j C d := ⟨h.lay, Nat.le_trans h.dep hk, h.sh, h.nd, h.ish, Nat.le_trans h.wt hB⟩
theorem nice_str {z : Str} {B : Nat} (hc : ∀ c ∈ z.cps.toList, c < 0x110000) (hB : z.length ≤ B) : Nice 0 B (.str z) := by
  refine ⟨?_, ?_, ?_, ?_, ?_, ?_⟩
  · simp only [PyData.canLay0, PyData.strOk]
    rw [← Array.all_toList, List.all_eq_true]
    intro c h
    exact decide_eq_true (hc c h)
  · simp only [PyData.depth]
    exact Nat.le_refl _
  · simp only [PyData.showable]
  · simp only [PyData.hasDict]
  · simp only [PyData.intsShort]
  · simp only [PyData.weight]
    exact hB
theorem Item.nice {z : Str} (h : Item z) : Nice 0 8 (.str z) := nice_str (fun c hc => by have := (h.low c hc).2; omega) h.most
theorem nice_all {k B : Nat} : ∀ {ds : List PyData}, (∀ d ∈ ds, Nice k B d) → PyData.canLayAll0 ds = true ∧ PyData.depthAll ds ≤ k ∧ PyData.showableAll ds = true ∧ PyData.hasDictAll ds = false ∧ PyData.intsShortAll 13 ds = true ∧ PyData.weightAll ds ≤ ds.length * (B + 1)
  | [], _ => by
    refine ⟨?_, ?_, ?_, ?_, ?_, ?_⟩
    · simp only [PyData.canLayAll0]
    · simp only [PyData.depthAll]
      exact Nat.zero_le _
    · simp only [PyData.showableAll]
    · simp only [PyData.hasDictAll]
    · simp only [PyData.intsShortAll]
    · simp only [PyData.weightAll]
      exact Nat.zero_le _
  | d :: ds, h => by
    obtain ⟨a1, a2, a3, a4, a5, a6⟩ := nice_all (ds := ds) fun x hx => h x (List.mem_cons_of_mem _ hx)
    have q := h d List.mem_cons_self
    refine ⟨?_, ?_, ?_, ?_, ?_, ?_⟩
    · simp only [PyData.canLayAll0, q.lay, a1, Bool.and_self]
    · simp only [PyData.depthAll]
      exact Nat.max_le.mpr ⟨q.dep, a2⟩
    · simp only [PyData.showableAll, q.sh, a3, Bool.and_self]
    · simp only [PyData.hasDictAll, q.nd, a4, Bool.or_self]
    · simp only [PyData.intsShortAll, q.ish, a5, Bool.and_self]
    · simp only [PyData.weightAll, List.length_cons]
      have := q.wt
      rw [Nat.add_mul]
      omega
theorem nice_list {k B : Nat} {ds : List PyData} (h : ∀ d ∈ ds, Nice k B d) : Nice (k + 1) (ds.length * (B + 1)) (.list ds) := by
  obtain ⟨a1, a2, a3, a4, a5, a6⟩ := nice_all h
  exact ⟨by simp only [PyData.canLay0]; exact a1, by simp only [PyData.depth]; omega, by simp only [PyData.showable]; exact a3, by simp only [PyData.hasDict]; exact a4, by simp only [PyData.intsShort]; exact a5, by simp only [PyData.weight]; exact a6⟩
theorem nice_tuple {k B : Nat} {ds : List PyData} (h : ∀ d ∈ ds, Nice k B d) : Nice (k + 1) (ds.length * (B + 1)) (.tuple ds) := by
  obtain ⟨a1, a2, a3, a4, a5, a6⟩ := nice_all h
  exact ⟨by simp only [PyData.canLay0]; exact a1, by simp only [PyData.depth]; omega, by simp only [PyData.showable]; exact a3, by simp only [PyData.hasDict]; exact a4, by simp only [PyData.intsShort]; exact a5, by simp only [PyData.weight]; exact a6⟩
theorem Nice.shaped {k B : Nat} {d : PyData} (h : Nice k B d) (hk : k ≤ 64) : SeqAt.shaped d = true := by
  unfold SeqAt.shaped
  rw [h.lay, Bool.true_and]
  exact decide_eq_true (Nat.le_trans h.dep hk)
theorem Nice.shown {k B : Nat} {d : PyData} (h : Nice k B d) (hk : k ≤ 64) (hB : B ≤ 2 ^ 20) : d.shown.length ≤ sizeLine := by
  refine PyData.shown_fits_of_layable0 (B := 13) (by decide) (by decide) ?_ h.ish
  unfold PyData.layable0
  rw [h.lay, Bool.true_and, Bool.and_eq_true]
  exact ⟨decide_eq_true (Nat.le_trans h.dep hk), decide_eq_true (Nat.le_trans h.wt hB)⟩
theorem Nice.eqv {k B : Nat} {d : PyData} (h : Nice k B d) : PyData.eqv d d = true := SeqAt.eqv_refl d h.lay
/-! ### texts -/
theorem dp_strs {K : PySem.W.Frag} {H : Hp} : ∀ zs : List Str, DpAll K H (zs.map V.str) (zs.map PyData.str)
  | [] => .nil
  | z :: zs => .cons (.str z) (dp_strs zs)
theorem eqvAll_strs : ∀ a b : List Str, PyData.eqvAll (a.map .str) (b.map .str) = decide (a = b)
  | [], [] => by simp [PyData.eqvAll]
  | [], y :: b => by simp [PyData.eqvAll]
  | x :: a, [] => by simp [PyData.eqvAll]
  | x :: a, y :: b => by
    rw [List.map_cons, List.map_cons]
    unfold PyData.eqvAll
    rw [eqvAll_strs a b]
    unfold PyData.eqv
    by_cases e : x = y
    · subst e
      simp
    · simp [e]
theorem eqv_listS (a b : List Str) : PyData.eqv (.list (a.map .str)) (.list (b.map .str)) = decide (a = b) := by
  unfold PyData.eqv
  exact eqvAll_strs a b
theorem eqv_tupS (a b : List Str) : PyData.eqv (.tuple (a.map .str)) (.tuple (b.map .str)) = decide (a = b) := by
  unfold PyData.eqv
  exact eqvAll_strs a b
theorem nice_strs {zs : List Str} (h : ∀ z ∈ zs, Item z) : ∀ d ∈ zs.map PyData.str, Nice 0 8 d := by
  intro d hd
  obtain ⟨z, hz, rfl⟩ := List.mem_map.mp hd
  exact (h z hz).nice
/-! ### steps -/
abbrev Stp := Bool × Str
def act (b : Bool) : Str := if b then "push" else "pop"
theorem act_nice (b : Bool) : Nice 0 8 (.str (act b)) := by
  cases b
  · exact nice_str (by decide +kernel) (by decide +kernel)
  · exact nice_str (by decide +kernel) (by decide +kernel)
def stepD (s : Stp) : PyData := .tuple [.str (act s.1), .str s.2]
theorem stepD_nice {s : Stp} (h : Item s.2) : Nice 1 18 (stepD s) := by
  refine (nice_tuple (k := 0) (B := 8) (ds := [.str (act s.1), .str s.2]) ?_).mono (Nat.le_refl _) (by show 2 * 9 ≤ 18; decide)
  intro d hd
  rcases List.mem_cons.mp hd with q | q
  · rw [q]
    exact act_nice _
  · rw [List.mem_singleton.mp q]
    exact h.nice
/-- a step -/
def StepV (K : PySem.W.Frag) (H : Hp) (v : V) (s : Stp) : Prop := ∃ t, v = .ref t ∧ SqT K H t [.str (act s.1), .str s.2]
abbrev StepsV (K : PySem.W.Frag) (H : Hp) : List V → List Stp → Prop := Paired (StepV K H)
theorem StepV.same {K : PySem.W.Frag} {H H' : Hp} {v : V} {s : Stp} (h : StepV K H v s) (e : Same H H') : StepV K H' v s := by
  obtain ⟨t, rfl, q⟩ := h
  exact ⟨t, rfl, Same.tup e q⟩
theorem StepsV.same {K : PySem.W.Frag} {H H' : Hp} {xs : List V} {ss : List Stp} (h : StepsV K H xs ss) (e : Same H H') : StepsV K H' xs ss := Paired.mapP h fun _ _ q => q.same e
theorem StepsV.at {K : PySem.W.Frag} {H : Hp} : ∀ {xs : List V} {ss : List Stp} {i : Nat} {v : V}, StepsV K H xs ss → xs[i]? = some v → ∃ s, ss[i]? = some s ∧ StepV K H v s
  | _, _, _, _, .nil, h => by simp at h
  | _, _, 0, _, .cons a _, h => by
    have e := Option.some.inj h
    subst e
    exact ⟨_, rfl, a⟩
  | _, _, i + 1, _, .cons _ r, h => StepsV.at (i := i) r h
theorem dp_steps {K : PySem.W.Frag} {H : Hp} : ∀ {xs : List V} {ss : List Stp}, StepsV K H xs ss → DpAll K H xs (ss.map stepD)
  | _, _, .nil => .nil
  | _, _, .cons a r => by
    obtain ⟨t, rfl, q⟩ := a
    exact .cons (.tup q (.cons (.str _) (.cons (.str _) .nil))) (dp_steps r)
theorem nice_steps {ss : List Stp} (h : ∀ s ∈ ss, Item s.2) : ∀ d ∈ ss.map stepD, Nice 1 18 d := by
  intro d hd
  obtain ⟨s, hs, rfl⟩ := List.mem_map.mp hd
  exact stepD_nice (h s hs)
theorem StepsV.rev {K : PySem.W.Frag} {H : Hp} : ∀ {xs : List V} {ss : List Stp}, StepsV K H xs ss → StepsV K H xs.reverse ss.reverse
  | _, _, .nil => .nil
  | _, _, .cons a r => by
    rw [List.reverse_cons, List.reverse_cons]
    exact (StepsV.rev r).snoc a
/-- the exchange of push and pop -/
def flip1 (s : Stp) : Stp := (!s.1, s.2)
def revM (ss : List Stp) : List Stp := ss.reverse.map flip1
/-- what a step makes of a stack -/
def stepM (s : Stp) (zs : List Str) : Option (List Str) := if s.1 then some (s.2 :: zs) else match zs with
  | [] => none
  | z :: r => if z = s.2 then some r else none
def runM : List Stp → List Str → Option (List Str)
  | [], zs => some zs
  | s :: ss, zs => match stepM s zs with
    | none => none
    | some ws => runM ss ws
theorem runM_append : ∀ (a b : List Stp) (zs : List Str), runM (a ++ b) zs = (runM a zs).bind (runM b)
  | [], b, zs => rfl
  | s :: a, b, zs => by
    show (match stepM s zs with | none => none | some ws => runM (a ++ b) ws) = (match stepM s zs with | none => none | some ws => runM a ws).bind (runM b)
    cases stepM s zs with
    | none => rfl
    | some ws => exact runM_append a b ws
theorem stepM_flip {s : Stp} {zs ws : List Str} (h : stepM s zs = some ws) : stepM (flip1 s) ws = some zs := by
  obtain ⟨b, x⟩ := s
  cases b with
  | true =>
    have e : x :: zs = ws := by
      have q : some (x :: zs) = some ws := h
      exact Option.some.inj q
    subst e
    show (if x = x then some zs else none) = some zs
    rw [if_pos rfl]
  | false =>
    cases zs with
    | nil => exact absurd h (by intro q; cases q)
    | cons z r =>
      have q : (if z = x then some r else none) = some ws := h
      by_cases e : z = x
      · rw [if_pos e] at q
        have e2 := Option.some.inj q
        subst e2
        subst e
        rfl
      · rw [if_neg e] at q
        cases q
theorem runM_rev : ∀ (ss : List Stp) (zs ws : List Str), runM ss zs = some ws → runM (revM ss) ws = some zs
  | [], zs, ws, h => by
    have e : zs = ws := Option.some.inj h
    subst e
    rfl
  | s :: ss, zs, ws, h => by
    have h' : (match stepM s zs with | none => none | some ys => runM ss ys) = some ws := h
    cases e : stepM s zs with
    | none =>
      rw [e] at h'
      cases h'
    | some ys =>
      rw [e] at h'
      have ih := runM_rev ss ys ws h'
      show runM ((s :: ss).reverse.map flip1) ws = some zs
      rw [List.reverse_cons, List.map_append, runM_append]
      have ih' : runM (ss.reverse.map flip1) ws = some ys := ih
      rw [ih']
      show (match stepM (flip1 s) ys with | none => none | some ws => runM [] ws) = some zs
      rw [stepM_flip e]
      rfl
theorem revM_revM (ss : List Stp) : revM (revM ss) = ss := by
  unfold revM
  rw [← List.map_reverse, List.reverse_reverse, List.map_map]
  have e : flip1 ∘ flip1 = id := by
    funext s
    obtain ⟨b, x⟩ := s
    cases b <;> rfl
  rw [e, List.map_id]
theorem revM_items {ss : List Stp} (h : ∀ s ∈ ss, Item s.2) : ∀ s ∈ revM ss, Item s.2 := by
  intro s hs
  obtain ⟨t, ht, rfl⟩ := List.mem_map.mp hs
  exact h t (List.mem_reverse.mp ht)
theorem stepM_items {s : Stp} {zs ws : List Str} (h : stepM s zs = some ws) (hs : Item s.2) (hz : ∀ z ∈ zs, Item z) : ∀ z ∈ ws, Item z := by
  obtain ⟨b, x⟩ := s
  cases b with
  | true =>
    have e : x :: zs = ws := Option.some.inj (show some (x :: zs) = some ws from h)
    subst e
    intro z m
    rcases List.mem_cons.mp m with q | q
    · rw [q]
      exact hs
    · exact hz z q
  | false =>
    cases zs with
    | nil => exact absurd h (by intro q; cases q)
    | cons y r =>
      have q : (if y = x then some r else none) = some ws := h
      by_cases e : y = x
      · rw [if_pos e] at q
        have e2 := Option.some.inj q
        subst e2
        exact fun z m => hz z (List.mem_cons_of_mem _ m)
      · rw [if_neg e] at q
        cases q
theorem stepM_len {s : Stp} {zs ws : List Str} (h : stepM s zs = some ws) : ws.length ≤ zs.length + 1 := by
  obtain ⟨b, x⟩ := s
  cases b with
  | true =>
    have e : x :: zs = ws := Option.some.inj (show some (x :: zs) = some ws from h)
    subst e
    exact Nat.le_refl _
  | false =>
    cases zs with
    | nil => exact absurd h (by intro q; cases q)
    | cons y r =>
      have q : (if y = x then some r else none) = some ws := h
      by_cases e : y = x
      · rw [if_pos e] at q
        have e2 := Option.some.inj q
        subst e2
        rw [List.length_cons]
        omega
      · rw [if_neg e] at q
        cases q
end SE
namespace SE
open PySem PySem.Spec PyProof.Rows L2
def topS (i : Nat) : Stmt := PySem.Challenge.pw_stackeffect_k63_sessions_led_by_deeds.main.body.getD i (.Pass ⟨0, 0, 0, 0⟩)
abbrev sWall : Stmt := topS 0
abbrev sStackerror : Stmt := topS 2
abbrev sInvalidword : Stmt := topS 3
abbrev sInvalidsteps : Stmt := topS 4
abbrev sInvalidnumber : Stmt := topS 5
abbrev sInvalidstacks : Stmt := topS 6
abbrev sStepfailed : Stmt := topS 7
abbrev sNothingtoundo : Stmt := topS 8
abbrev sLimitexceeded : Stmt := topS 9
abbrev sIsWhole : Stmt := topS 11
abbrev sIsBetween : Stmt := topS 12
abbrev sIsItem : Stmt := topS 19
abbrev sIsWord : Stmt := topS 20
abbrev sIsStep : Stmt := topS 21
abbrev sMayHold : Stmt := topS 22
abbrev sIsLimit : Stmt := topS 23
abbrev sChkSteps : Stmt := topS 24
abbrev sChkWord : Stmt := topS 25
abbrev sChkLimit : Stmt := topS 26
abbrev sTooHigh : Stmt := topS 27
abbrev sAfter : Stmt := topS 28
abbrev sLeastPeak : Stmt := topS 30
abbrev sEffect : Stmt := topS 31
abbrev sJoined : Stmt := topS 32
abbrev sPartsOfStep : Stmt := topS 33
abbrev sEffectOf : Stmt := topS 34
abbrev sIsNamedStep : Stmt := topS 36
abbrev sCheckNamedSteps : Stmt := topS 37
abbrev sAreStacks : Stmt := topS 38
abbrev sCheckStacks : Stmt := topS 39
abbrev sCheckName : Stmt := topS 41
abbrev sCheckHeights : Stmt := topS 42
abbrev sWithoutEmpty : Stmt := topS 43
abbrev sSession : Stmt := topS 44
abbrev sPool : Stmt := topS 46
abbrev sTake : Stmt := topS 47
abbrev sName : Stmt := topS 48
abbrev sItems : Stmt := topS 49
abbrev sSteps : Stmt := topS 50
abbrev sWord : Stmt := topS 51
abbrev sLawNamed : Stmt := topS 52
abbrev sLawNamedWell : Stmt := topS 53
abbrev sLawParts : Stmt := topS 54
abbrev sLawEffect : Stmt := topS 55
abbrev sLawPerformed : Stmt := topS 56
abbrev sLawDeed : Stmt := topS 57
abbrev sLawDue : Stmt := topS 58
abbrev sLawTold : Stmt := topS 59
abbrev sLawSame : Stmt := topS 60
abbrev sLaw : Stmt := topS 61
end SE
namespace SE
open PySem PySem.Spec PyProof.Rows L2
section
variable {P : Program} {w : World} {K : PySem.W.Frag} {mg : Str → Option Value} {base : Heap}
/-! ### _law_take -/
def spTake : Sp := fun xs H Q _ => ∃ (p : Addr) (n : Int), xs = [.ref p, .int n] ∧ Pool H p ∧ 1 ≤ n ∧ n ≤ 100000 ∧
  ∀ (r : Int) (H' : Hp), But p H H' → Pool H' p → 0 ≤ r → r < n → Q (.int r) H'
theorem scTake : FnScope ["_law_pool_here", "_law_many", "_law_found"] ["_law_pool_here", "_law_many"] (defScope sTake) := ⟨rfl, rfl, rfl, by decide +kernel, rfl, by decide +kernel, by decide +kernel⟩
theorem has_take (D : Def K mg "_law_take" sTake) : Has P w K mg base "_law_take" 1 ["_law_pool_here", "_law_many"] [] spTake := by
  refine has_of D scTake (fun _ _ _ _ _ _ us hl => match us, hl with | [_, _], _ => rfl) (fun xs H Q E h => ?_) (fun f cv A out s H xs Q E hr h => ?_)
  · obtain ⟨p, n, rfl, _⟩ := h
    rfl
  · obtain ⟨p, n, rfl, hp, h1, h2, k⟩ := h
    obtain ⟨m, z, e, hm, hz0, hz1⟩ := hp.ex
    have a0 : atI [V.int m, V.int z] 0 = some (.int m) := atI_nat (j := 0) rfl
    refine ⟨_, pss_cons (ps_if (pt_cmpR op_gt (pe_ix ix_list (pv 0) pe_int (fun _ _ => rfl)) pe_int (nomark _))
        (pss_cons (ps_set (i := 2) scTake.nd rfl (.inl rfl) (pe_op op_modN (pe_ix ix_list (pv 0) pe_int (fun _ _ => rfl)) (pv 1)))
        (pss_cons (ps_asg (pe_op op_fdivN (pe_ix ix_list (pv 0) pe_int (fun _ _ => rfl)) (pv 1)) (pg_sub (pv 0) pe_int set_list))
        (pss_one (ps_ret (pv 2))))) pss_nil)
      (pss_cons (ps_asg (pe_op op_mod (pe_op op_add (pe_op op_mul (pe_ix ix_list (pv 0) pe_int (fun _ _ => rfl)) pe_int) pe_int) pe_int) (pg_sub (pv 0) pe_int set_list))
      (pss_one (ps_ret (pe_op op_modN (pe_op op_fdiv (pe_op op_mod (pe_op op_mul (pe_ix ix_list (pv 0) pe_int (fun _ _ => rfl)) (pe_ix ix_list (pv 0) pe_int (fun _ _ => rfl))) pe_int) pe_int) (pv 1))))), ?_⟩
    refine ⟨.ref p, rfl, p, _, 0, _, rfl, rfl, .of e, a0, m, 0, rfl, rfl, _, rfl, ite2 (fun c => ?_) (fun c => ?_)⟩
    · refine ⟨.ref p, rfl, p, _, 0, _, rfl, rfl, .of e, a0, .int n, rfl, m, n, rfl, rfl, (by omega), ?_⟩
      refine ⟨.ref p, rfl, p, _, 0, _, rfl, rfl, .of e, a0, .int n, rfl, m, n, rfl, rfl, ⟨by omega, by omega⟩, .ref p, rfl, p, _, 0, 0, rfl, rfl, e, rfl, ?_⟩
      refine ⟨_, rfl, k _ _ .at ⟨m.fdiv n, z, upd_same, ?_, hz0, hz1⟩ ?_ ?_⟩
      · rw [Int.fdiv_eq_ediv_of_nonneg _ (by omega)]
        exact Int.ediv_nonneg hm (by omega)
      · rw [Int.fmod_eq_emod_of_nonneg _ (by omega)]
        exact Int.emod_nonneg _ (by omega)
      · rw [Int.fmod_eq_emod_of_nonneg _ (by omega)]
        exact Int.emod_lt_of_pos _ (by omega)
    · have a1 : atI [V.int m, V.int z] 1 = some (.int z) := atI_nat (j := 1) rfl
      refine ⟨.ref p, rfl, p, _, 1, _, rfl, rfl, .of e, a1, z, 48271, rfl, rfl, .inl ⟨by omega, by omega⟩, _, 11, rfl, rfl, _, 2147483647, rfl, rfl, (by show (0 : Int) < 2147483647; decide), .ref p, rfl, p, _, 1, 1, rfl, rfl, e, rfl, ?_⟩
      have q0 : 0 ≤ (z * 48271 + 11) % 2147483647 := Int.emod_nonneg _ (by omega)
      have q1 : (z * 48271 + 11) % 2147483647 < 2147483647 := Int.emod_lt_of_pos _ (by omega)
      have e' : (upd H p (.lst ([V.int m, V.int z].set 1 (.int ((z * 48271 + 11) % 2147483647))))) p = some (.lst [V.int m, .int ((z * 48271 + 11) % 2147483647)]) := upd_same
      have a1' : atI [V.int m, V.int ((z * 48271 + 11) % 2147483647)] 1 = some (.int ((z * 48271 + 11) % 2147483647)) := atI_nat (j := 1) rfl
      refine ⟨.ref p, rfl, p, _, 1, _, rfl, rfl, .of e', a1', .ref p, rfl, p, _, 1, _, rfl, rfl, .of e', a1', ((z * 48271 + 11) % 2147483647), ((z * 48271 + 11) % 2147483647), rfl, rfl, .inl ⟨by omega, by omega⟩, _, 2147483629, rfl, rfl, (by show (0 : Int) < 2147483629; decide), _, 64, rfl, rfl, ⟨by decide, by decide⟩, .int n, rfl, _, n, rfl, rfl, (by omega), ?_⟩
      refine k _ _ .at ⟨m, ((z * 48271 + 11) % 2147483647), upd_same, hm, q0, q1⟩ ?_ ?_
      · rw [Int.fmod_eq_emod_of_nonneg _ (by omega)]
        exact Int.emod_nonneg _ (by omega)
      · rw [Int.fmod_eq_emod_of_nonneg _ (by omega)]
        exact Int.emod_lt_of_pos _ (by omega)
/-! ### _law_pool -/
def spPool (K : PySem.W.Frag) : Sp := fun xs H Q _ => ∃ (a : Addr) (ns : List Int) (i : Int), xs = [.ref a, .int i] ∧ SqL K H a (ns.map V.int) ∧ 0 ≤ i ∧ i ≤ 63 ∧
  ∀ (p : Addr) (H' : Hp), Same H H' → H p = none → Pool H' p → Q (.ref p) H'
theorem scPool : FnScope ["_law_script", "_law_k", "_law_cell", "_law_size", "_law_seed"] ["_law_script", "_law_k"] (defScope sPool) := ⟨rfl, rfl, rfl, by decide +kernel, rfl, by decide +kernel, by decide +kernel⟩
theorem has_pool (D : Def K mg "_law_pool" sPool) (ml : mg "len" = none) (ma : mg "abs" = none) (mi : mg "int" = none) : Has P w K mg base "_law_pool" 1 ["_law_script", "_law_k"] [] (spPool K) := by
  refine has_of D scPool (fun _ _ _ _ _ _ us hl => match us, hl with | [_, _], _ => rfl) (fun xs H Q E h => ?_) (fun f cv A out s H xs Q E hr h => ?_)
  · obtain ⟨a, ns, i, rfl, _⟩ := h
    rfl
  · obtain ⟨a, ns, i, rfl, hS, h0, h1, k⟩ := h
    refine ⟨_, pss_cons (ps_set (i := 2) scPool.nd rfl (.inl rfl) pe_int)
      (Evl.pss_cut (ps_if (pt_cmpR op_lt (pv 1) (pe_callB call_len_seq (by rfl) ml PySem.boot_len (pa_cons (pv 0) pa_nil)) (nomark _))
        (pss_one (ps_set (i := 2) scPool.nd rfl (.inl rfl) (pe_ix ix_list (pv 0) (pv 1) (fun _ _ => rfl)))) pss_nil)
      (pss_cons (ps_set (i := 3) scPool.nd rfl (.inl rfl) (pe_callB call_abs (by rfl) ma (by decide +kernel) (pa_cons (pv 2) pa_nil)))
      (pss_cons (ps_set (i := 4) scPool.nd rfl (.inl rfl) (pe_op op_mod (pe_op op_pow (pe_op op_add (pe_op op_add (pe_op op_add (pe_op op_mod (pv 2) pe_int) (pe_op op_mul (pe_op op_mul pe_int (pv 1)) (pv 1))) (pe_op op_mul pe_int (pv 1))) pe_int) pe_int) pe_int))
      (pss_one (ps_ret (pe_lst (pa_cons (pe_op op_mul (pv 3) (pe_callTy call_int1 (by rfl) mi (by decide +kernel) (pa_cons (pe_cmpR op_ge (pv 3) (pe_op op_pow pe_int pe_int) (nomark _)) pa_nil))) (pa_cons (pv 4) pa_nil)))))))), ?_⟩
    refine ⟨fun σ H2 => H2 = H ∧ ∃ c : Int, σ = [some (.ref a), some (.int i), some (.int c), none, none], ?_, ?_⟩
    · refine ⟨_, rfl, .ref a, rfl, a, _, rfl, .inl hS, i, _, rfl, rfl, _, rfl, ite2 (fun c => ?_) (fun c => ?_)⟩
      · have hi : i < ((ns.map V.int).length : Int) := of_decide_eq_true c
        rw [List.length_map] at hi
        have hj : i.toNat < ns.length := by omega
        refine ⟨.ref a, rfl, .int i, rfl, a, _, i, .int ns[i.toNat], rfl, rfl, hS, at_of (j := i.toNat) (by omega) ?_, rfl, ns[i.toNat], rfl⟩
        rw [List.getElem?_map, List.getElem?_eq_getElem hj]
        rfl
      · exact ⟨rfl, 0, rfl⟩
    · rintro σ H2 ⟨rfl, c, rfl⟩
      refine ⟨_, rfl, c, rfl, ?_⟩
      refine ⟨_, rfl, c, 2147483629, rfl, rfl, (by show (0 : Int) < 2147483629; decide), _, rfl, 104729, i, rfl, rfl, .inl ⟨by decide, by decide⟩, _, rfl, _, i, rfl, rfl, .inr ⟨by omega, by omega⟩, _, _, rfl, rfl, _, rfl, 7919, i, rfl, rfl, .inl ⟨by decide, by decide⟩, _, _, rfl, rfl, _, 11, rfl, rfl, _, 3, rfl, rfl, ⟨by decide, by decide, ?_⟩, _, 2147483647, rfl, rfl, (by show (0 : Int) < 2147483647; decide), ?_⟩
      · have b0 : 0 ≤ c % 2147483629 := Int.emod_nonneg _ (by omega)
        have b1 : c % 2147483629 < 2147483629 := Int.emod_lt_of_pos _ (by omega)
        have b2 : 0 ≤ 104729 * i * i := Int.mul_nonneg (by omega) h0
        have b3 : 104729 * i * i ≤ 104729 * 63 * 63 := Int.mul_le_mul (by omega) h1 h0 (by omega)
        omega
      · have t0 : ∀ y : Int, 0 ≤ y ^ 3 % 2147483647 ∧ y ^ 3 % 2147483647 < 2147483647 := fun y => ⟨Int.emod_nonneg _ (by omega), Int.emod_lt_of_pos _ (by omega)⟩
        have u0 : 0 ≤ (if c < 0 then -c else c) := by
          split <;> omega
        refine ⟨_, rfl, _, rfl, 10, 18, rfl, rfl, ⟨by decide, by decide, by decide⟩, _, _, rfl, rfl, .inr ⟨_, rfl, ?_⟩⟩
        have b01 : ∀ b : Bool, (0 : Int) ≤ (if b = true then 1 else 0) ∧ (if b = true then (1 : Int) else 0) ≤ 1 := fun b => by cases b <;> decide
        have g := b01 (decide (10 ^ Int.toNat 18 ≤ if c < 0 then -c else c))
        refine ⟨_, _, rfl, rfl, .inr ⟨by omega, by omega⟩, _, rfl, (by show 2 ≤ sizeLine; decide), fun p hp => k p _ (Same.new hp) hp ⟨_, _, upd_same, Int.mul_nonneg u0 g.1, (t0 _).1, (t0 _).2⟩⟩
end
end SE
namespace SE
open PySem PySem.Spec PyProof.Rows L2
theorem len_add (x y : Str) : (x ++ y).length = x.length + y.length := by
  show (x.cps ++ y.cps).size = _
  rw [Array.size_append]
  rfl
theorem cps_add (x y : Str) : (x ++ y).cps.toList = x.cps.toList ++ y.cps.toList := by
  show (x.cps ++ y.cps).toList = _
  exact Array.toList_append
abbrev abc : Str := Str.ofString "abcdefghijklmnopqrstuvwxyz"
theorem abc_len : abc.length = 26 := by decide +kernel
theorem abc_at (i : Nat) (h : i < 26) : ∃ c, abc.cps[i]? = some c ∧ 97 ≤ c ∧ c ≤ 122 := by
  have q : ∀ j : Fin 26, (abc.cps[j.1]?).any (fun c => decide (97 ≤ c) && decide (c ≤ 122)) = true := by decide +kernel
  have z := q ⟨i, h⟩
  simp only [Option.any_eq_true, Bool.and_eq_true, decide_eq_true_eq] at z
  obtain ⟨c, h1, h2, h3⟩ := z
  exact ⟨c, h1, h2, h3⟩
section
variable {P : Program} {w : World} {K : PySem.W.Frag} {mg : Str → Option Value} {base : Heap}
/-! ### _law_name -/
def spName : Sp := fun xs H Q _ => ∃ (p : Addr), xs = [.ref p] ∧ Pool H p ∧ ∀ (z : Str) (H' : Hp), But p H H' → Pool H' p → Item z → Q (.str z) H'
theorem scName : FnScope ["_law_pool_here", "_law_letters", "_law_found", "_law_turn"] ["_law_pool_here"] (defScope sName) := ⟨rfl, rfl, rfl, by decide +kernel, rfl, by decide +kernel, by decide +kernel⟩
theorem has_name (D : Def K mg "_law_name" sName) (GT : Has P w K mg base "_law_take" 1 ["_law_pool_here", "_law_many"] [] spTake) (mr : mg "range" = none) : Has P w K mg base "_law_name" 2 ["_law_pool_here"] [] spName := by
  refine has_of D scName (fun _ _ _ _ _ _ us hl => match us, hl with | [_], _ => rfl) (fun xs H Q E h => ?_) (fun f cv A out s H xs Q E hr h => ?_)
  · obtain ⟨p, rfl, _⟩ := h
    rfl
  · obtain ⟨p, rfl, hp, k⟩ := h
    refine ⟨_, pss_cons (ps_set (i := 1) scName.nd rfl (.inl rfl) pe_str)
      (pss_cons (ps_set (i := 2) scName.nd rfl (.inl rfl) (pe_item_str (pv 1) (pe_has GT hr (pa_cons (pv 0) (pa_cons pe_int pa_nil))) (fun _ _ => rfl)))
      (pss_cons (ps_for PassesOwn.never rfl (pi_range1 (by rfl) mr (pa_cons (pe_has GT hr (pa_cons (pv 0) (pa_cons pe_int pa_nil))) pa_nil)) (pg_name (i := 3) scName.nd rfl (.inl rfl))
        (pss_one (ps_set (i := 2) scName.nd rfl (.inl rfl) (pe_op op_add_str (pv 2) (pe_item_str (pv 1) (pe_has GT hr (pa_cons (pv 0) (pa_cons pe_int pa_nil))) (fun _ _ => rfl))))))
      (pss_one (ps_ret (pv 2))))), ?_⟩
    refine ⟨_, rfl, _, rfl, p, 26, rfl, hp, by decide, by decide, fun r H1 b1 p1 r0 r1 => ?_⟩
    obtain ⟨c, hc, c0, c1⟩ := abc_at r.toNat (by omega)
    refine ⟨abc, r, c, rfl, rfl, r0, by omega, ?_, hc, ?_⟩
    · have := abc_len
      rw [this]
      omega
    refine ⟨_, rfl, p, 8, rfl, p1, by decide, by decide, fun n H2 b2 p2 n0 n1 => ?_⟩
    refine ⟨n, rfl, by omega, by omega, for_range (lo := 0) (n := n.toNat) (fun i σ H3 => ∃ (z : Str) (y : Option V), σ = [some (.ref p), some (.str abc), some (.str z), y] ∧ But p H H3 ∧ Pool H3 p ∧ z.length = i + 1 ∧ ∀ c ∈ z.cps.toList, 97 ≤ c ∧ c ≤ 122) ?_ ?_ ?_⟩
    · refine ⟨⟨#[c]⟩, none, rfl, b1.trans b2, p2, rfl, fun d hd => ?_⟩
      obtain rfl : d = c := by simpa using hd
      exact ⟨c0, c1⟩
    · rintro i σ H3 hi ⟨z, y, rfl, b3, p3, hz, hl⟩
      refine ⟨_, rfl, _, rfl, _, rfl, p, 26, rfl, p3, by decide, by decide, fun r2 H4 b4 p4 s0 s1 => ?_⟩
      obtain ⟨d, hd, d0, d1⟩ := abc_at r2.toNat (by omega)
      refine ⟨abc, r2, d, rfl, rfl, s0, by omega, ?_, hd, z, ⟨#[d]⟩, rfl, rfl, ?_, z ++ ⟨#[d]⟩, _, rfl, b3.trans b4, p4, ?_, fun e he => ?_⟩
      · have := abc_len
        rw [this]
        omega
      · rw [hz]
        exact Nat.le_of_lt (small1000 (show i + 1 + 1 ≤ 1000 by omega))
      · rw [len_add, hz]
        rfl
      · rw [cps_add] at he
        rcases List.mem_append.mp he with q | q
        · exact hl e q
        · obtain rfl : e = d := by simpa using q
          exact ⟨d0, d1⟩
    · rintro σ H3 ⟨z, y, rfl, b3, p3, hz, hl⟩
      exact ⟨_, rfl, k z H3 b3 p3 ⟨by omega, by omega, hl⟩⟩
end
end SE
namespace SE
open PySem PySem.Spec PyProof.Rows L2
theorem nodup_le {α : Type} [DecidableEq α] : ∀ {ys zs : List α}, ys.Nodup → (∀ y ∈ ys, y ∈ zs) → ys.length ≤ zs.length
  | [], _, _, _ => Nat.zero_le _
  | y :: ys, zs, nd, h => by
    obtain ⟨n1, n2⟩ := List.nodup_cons.mp nd
    have hy : y ∈ zs := h y List.mem_cons_self
    have ih := nodup_le (zs := zs.erase y) n2 fun x hx => (List.mem_erase_of_ne (fun e => n1 (by rw [← e]; exact hx))).mpr (h x (List.mem_cons_of_mem _ hx))
    rw [List.length_erase_of_mem hy] at ih
    have : 0 < zs.length := List.length_pos_of_mem hy
    rw [List.length_cons]
    omega
theorem yes_in {σ : L2.St} {H : Hp} {F G : Hp → Prop} (h : F H) : tYes σ H (fun b H3 => if b = true then F H3 else G H3) := by
  show if true = true then F H else G H
  exact iteT h
theorem eqV_str (a b : Str) : eqV (.str a) (.str b) = (a == b) := by
  unfold eqV
  rfl
theorem inV_str (z : Str) : ∀ zs : List Str, inV (.str z) (zs.map V.str) = decide (z ∈ zs)
  | [] => by simp [inV]
  | y :: zs => by
    have ih := inV_str z zs
    unfold inV at ih ⊢
    rw [List.map_cons, List.any_cons, ih, eqV_str]
    by_cases e : y = z
    · subst e
      simp
    · have e2 : ¬ z = y := fun q => e q.symm
      simp [e, e2]
theorem flat_strs : ∀ zs : List Str, (zs.map V.str).all flatV = true
  | [] => rfl
  | y :: zs => by
    rw [List.map_cons, List.all_cons, flat_strs zs]
    rfl
/-- the names that are taken where one is drawn twice -/
def spare : List Str := abc.cps.toList.map fun c => (⟨#[c]⟩ : Str) ++ "zz"
theorem spare_len : spare.length = 26 := by decide +kernel
theorem spare_nd : spare.Nodup := by decide +kernel
theorem spare_item {z : Str} (h : z ∈ spare) : Item z := by
  have q : ∀ y ∈ spare, (decide (1 ≤ y.length) && decide (y.length ≤ 8) && y.cps.toList.all fun c => decide (97 ≤ c) && decide (c ≤ 122)) = true := by decide +kernel
  have e := q z h
  simp only [Bool.and_eq_true, decide_eq_true_eq, List.all_eq_true] at e
  exact ⟨e.1.1, e.1.2, e.2⟩
theorem spare_at {i c : Nat} (h : abc.cps[i]? = some c) : spare[i]? = some ((⟨#[c]⟩ : Str) ++ "zz") := by
  unfold spare
  rw [List.getElem?_map, Array.getElem?_toList, h]
  rfl
theorem abc_size : abc.cps.size = 26 := by decide +kernel
section
variable {P : Program} {w : World} {K : PySem.W.Frag} {mg : Str → Option Value} {base : Heap}
/-! ### _law_items -/
def spItems : Sp := fun xs H Q _ => ∃ (p : Addr) (n : Int), xs = [.ref p, .int n] ∧ Pool H p ∧ 0 ≤ n ∧ n ≤ 20 ∧
  ∀ (l : Addr) (zs : List Str) (H' : Hp), But p H H' → Pool H' p → H l = none → l ≠ p → H' l = some (.lst (zs.map V.str)) → zs.length = n.toNat → (∀ z ∈ zs, Item z) → Q (.ref l) H'
theorem scItems : FnScope ["_law_pool_here", "_law_many", "_law_found", "_law_at", "_law_name_here", "_law_some", "_law_one"] ["_law_pool_here", "_law_many"] (defScope sItems) := ⟨rfl, rfl, rfl, by decide +kernel, rfl, by decide +kernel, by decide +kernel⟩
abbrev nItems : List Str := ["_law_pool_here", "_law_many", "_law_found", "_law_at", "_law_name_here", "_law_some", "_law_one"]
theorem has_items (D : Def K mg "_law_items" sItems) (GN : Has P w K mg base "_law_name" 2 ["_law_pool_here"] [] spName) (mr : mg "range" = none) : Has P w K mg base "_law_items" 3 ["_law_pool_here", "_law_many"] [] spItems := by
  refine has_of D scItems (fun _ _ _ _ _ _ us hl => match us, hl with | [_, _], _ => rfl) (fun xs H Q E h => ?_) (fun f cv A out s H xs Q E hr h => ?_)
  · obtain ⟨p, n, rfl, _⟩ := h
    rfl
  · obtain ⟨p, n, rfl, hp, h0, h1, k⟩ := h
    refine ⟨_, pss_cons (ps_set (i := 2) scItems.nd rfl (.inr rfl) (pe_lst pa_nil))
      (pss_cons (ps_for PassesOwn.never rfl (pi_range1 (by rfl) mr (pa_cons (pv 1) pa_nil)) (pg_name (i := 3) scItems.nd rfl (.inl rfl))
        (pss_cons (ps_set (i := 4) scItems.nd rfl (.inl rfl) (pe_has GN hr (pa_cons (pv 0) pa_nil)))
        (Evl.pss_cut (ps_if (pt_cmpR op_in_seq (pv 4) (pv 2) (by rfl))
          (pss_cons (ps_setLc (i := 5) (own := [("_law_one", 6)]) (g := gName 6) (tt := tYes) rfl scItems.nd rfl rfl (sw_true rfl rfl rfl (by decide +kernel)) (pi_str pe_str) (blkOk_by (own := [("_law_one", 6)]) (N := nItems) (sc := defScope sItems) (by decide +kernel))
              (fun _ _ _ _ _ => pg_name (i := 6) scItems.nd rfl (.inl rfl)) (fun _ _ _ _ _ => pts_nil) (fun _ _ _ _ _ => pe_op op_add_str (pv 6) pe_str))
          (pss_one (ps_set (i := 4) scItems.nd rfl (.inl rfl) (pe_ix ix_list (pe_lc (own := [("_law_one", 6)]) (g := gName 6) (tt := tTest (tOp (rIn K true) (tVar 6) (tVar 2))) (te := tVar 6) rfl scItems.nd (pi_list (pv 5)) (blkOk_by (own := [("_law_one", 6)]) (N := nItems) (sc := defScope sItems) (by decide +kernel))
              (fun _ _ _ _ _ => pg_name (i := 6) scItems.nd rfl (.inl rfl)) (fun _ _ _ _ _ => pts_one (pt_cmpR op_notIn_seq (pv 6) (pv 2) (by rfl))) (fun _ _ _ _ _ => pv 6)) pe_int (fun _ _ => rfl))))) pss_nil)
        (pss_one (ps_expr (pe_bm PySem.F.plainAttrs_list PySem.F.slot_list_append PySem.F.type_list_append mt_append (pv 2) (pa_cons (pv 4) pa_nil)))))))
      (pss_one (ps_ret (pv 2)))), ?_⟩
    refine ⟨Nat.zero_le _, fun l hl => ?_⟩
    have lp : l ≠ p := hp.free hl
    refine ⟨_, rfl, n, rfl, by omega, by omega, for_range (lo := 0) (n := n.toNat) (fun i σ H3 => ∃ (zs : List Str) (y3 y4 y5 y6 : Option V), σ = [some (.ref p), some (.int n), some (.ref l), y3, y4, y5, y6] ∧ But p H H3 ∧ Pool H3 p ∧ H3 l = some (.lst (zs.map V.str)) ∧ zs.length = i ∧ ∀ z ∈ zs, Item z) ?_ ?_ ?_⟩
    · exact ⟨[], none, none, none, none, rfl, .of (Same.new hl), hp.upd lp, upd_same, rfl, fun z h => nomatch h⟩
    · rintro i σ H3 hi ⟨zs, y3, y4, y5, y6, rfl, b3, p3, hl3, hz, hI⟩
      refine ⟨_, rfl, p, rfl, p3, fun z H4 b4 p4 iz => ?_⟩
      have hl4 : H4 l = some (.lst (zs.map V.str)) := b4 l _ lp hl3
      have bb := b3.trans b4
      refine ⟨fun σ H5 => ∃ (z : Str) (y5 y6 : Option V), σ = [some (.ref p), some (.int n), some (.ref l), some (.int (0 + i)), some (.str z), y5, y6] ∧ But p H H5 ∧ Pool H5 p ∧ H5 l = some (.lst (zs.map V.str)) ∧ Item z, ?_, ?_⟩
      · refine ⟨_, rfl, _, rfl, l, _, rfl, .inl (.of hl4), rfl, flat_strs _, _, rfl, ite2 (fun c => ?_) (fun c => ?_)⟩
        · refine ⟨abc, rfl, fun D hD => lc_it walk_str (fun j H5 => H5 D = some (.lst ((spare.take j).map V.str)) ∧ But p H H5 ∧ Pool H5 p ∧ H5 l = some (.lst (zs.map V.str))) ?_ (fun _ _ _ _ => trivial) ?_ ?_⟩
          · have Dp : D ≠ p := p4.free hD
            exact ⟨upd_same, bb.free (bb.none Dp hD), p4.upd Dp, by rw [upd_ne (ne_of_none hl4 hD)]; exact hl4⟩
          · rintro j x H5 H6 hj ⟨hD5, b5, p5, hl5⟩ ⟨rfl, d, hd, rfl⟩
            have Dp : D ≠ p := p4.free hD
            refine ⟨rfl, yes_in ⟨_, rfl, ⟨#[d]⟩, "zz", rfl, rfl, (by show 1 + 2 ≤ sizeLine; decide), _, hD5, ?_, ?_, b5.free (bb.none Dp hD), p5.upd Dp, ?_⟩⟩
            · rw [List.length_map, List.length_take, spare_len]
              exact small1000 (by omega)
            · rw [upd_same, List.take_add_one, spare_at hd, List.map_append]
              rfl
            · rw [upd_ne (ne_of_none hl4 hD)]
              exact hl5
          · rintro H5 ⟨hD5, b5, p5, hl5⟩
            have full : spare.take abc.cps.size = spare := List.take_of_length_le (by rw [spare_len, abc_size]; omega)
            rw [full] at hD5
            have Dp : D ≠ p := p4.free hD
            have Dl : l ≠ D := ne_of_none hl4 hD
            refine ⟨_, rfl, D, rfl, ⟨_, .of hD5⟩, fun E2 hE => lc_list (K := K) (a := D) (xs := spare.map V.str) (fun j H6 => H6 D = some (.lst (spare.map V.str)) ∧ H6 E2 = some (.lst (((spare.take j).filter fun y => !decide (y ∈ zs)).map V.str)) ∧ But p H H6 ∧ Pool H6 p ∧ H6 l = some (.lst (zs.map V.str))) ?_ (fun _ _ _ q => .of q.1) ?_ ?_⟩
            · have Ep : E2 ≠ p := p5.free hE
              refine ⟨?_, upd_same, b5.free (b5.none Ep hE), p5.upd Ep, ?_⟩
              · rw [upd_ne (ne_of_none hD5 hE)]
                exact hD5
              · rw [upd_ne (ne_of_none hl5 hE)]
                exact hl5
            · rintro j x H6 hj ⟨hD6, hE6, b6, p6, hl6⟩
              have Ep : E2 ≠ p := p5.free hE
              rw [List.getElem?_map] at hj
              obtain ⟨y, hy, rfl⟩ : ∃ y, spare[j]? = some y ∧ V.str y = x := by
                cases e : spare[j]? with
                | none => rw [e] at hj; cases hj
                | some y => rw [e] at hj; exact ⟨y, rfl, Option.some.inj hj⟩
              have tk : spare.take (j + 1) = spare.take j ++ [y] := by
                rw [List.take_add_one, hy]
                rfl
              refine ⟨rfl, _, rfl, _, rfl, l, _, rfl, .inl (.of hl6), rfl, flat_strs _, _, rfl, ?_⟩
              rw [if_pos rfl, inV_str]
              by_cases m : y ∈ zs
              · rw [decide_eq_true m]
                refine iteF ⟨hD6, ?_, b6, p6, hl6⟩
                rw [tk, List.filter_append, List.filter_cons_of_neg (by simp [m]), List.filter_nil, List.append_nil]
                exact hE6
              · rw [decide_eq_false m]
                refine iteT ⟨_, rfl, _, hE6, ?_, ?_, ?_, b6.free (b5.none Ep hE), p6.upd Ep, ?_⟩
                · rw [List.length_map]
                  have z1 := List.length_filter_le (fun y => !decide (y ∈ zs)) (spare.take j)
                  have z2 : (spare.take j).length ≤ 26 := by
                    rw [List.length_take, spare_len]
                    omega
                  exact small1000 (by omega)
                · rw [upd_ne (ne_of_none hD5 hE)]
                  exact hD6
                · rw [upd_same, tk, List.filter_append, List.filter_cons_of_pos (by simp [m]), List.filter_nil, List.map_append]
                  rfl
                · rw [upd_ne (ne_of_none hl5 hE)]
                  exact hl6
            · rintro H6 ⟨hD6, hE6, b6, p6, hl6⟩
              rw [List.length_map, List.take_length] at hE6
              have some1 : ∃ y0 r, (spare.filter fun y => !decide (y ∈ zs)) = y0 :: r := by
                cases e : spare.filter fun y => !decide (y ∈ zs) with
                | cons y0 r => exact ⟨y0, r, rfl⟩
                | nil =>
                  have all : ∀ y ∈ spare, y ∈ zs := fun y hy => by
                    by_cases m : y ∈ zs
                    · exact m
                    · have q : y ∈ spare.filter fun y => !decide (y ∈ zs) := List.mem_filter.mpr ⟨hy, by simp [m]⟩
                      rw [e] at q
                      cases q
                  have q := nodup_le spare_nd all
                  rw [spare_len] at q
                  omega
              obtain ⟨y0, r, e0⟩ := some1
              have y0s : y0 ∈ spare := (List.mem_filter.mp (show y0 ∈ spare.filter fun y => !decide (y ∈ zs) by rw [e0]; exact List.mem_cons_self)).1
              rw [e0] at hE6
              exact ⟨E2, _, 0, .str y0, rfl, rfl, .of hE6, atI_nat (j := 0) rfl, y0, _, _, rfl, b6, p6, hl6, spare_item y0s⟩
        · exact ⟨z, _, _, rfl, bb, p4, hl4, iz⟩
      · rintro σ H5 ⟨z, y5, y6, rfl, b5, p5, hl5, iz⟩
        refine ⟨.ref l, rfl, .inl ⟨rfl, _, .inl (.inl hl5)⟩, _, rfl, l, _, _, rfl, rfl, hl5, ?_, zs ++ [z], _, _, _, _, rfl, b5.free hl, p5.upd lp, ?_, ?_, ?_⟩
        · rw [List.length_map, hz]
          exact small1000 (by omega)
        · rw [upd_same, List.map_append]
          rfl
        · rw [List.length_append, hz]
          rfl
        · intro y hy
          rcases List.mem_append.mp hy with q | q
          · exact hI y q
          · rw [List.mem_singleton.mp q]
            exact iz
    · rintro σ H3 ⟨zs, y3, y4, y5, y6, rfl, b3, p3, hl3, hz, hI⟩
      exact ⟨_, rfl, k l zs H3 b3 p3 hl lp hl3 hz hI⟩
end
end SE
namespace SE
open PySem PySem.Spec PyProof.Rows L2
section
variable {P : Program} {w : World} {K : PySem.W.Frag} {mg : Str → Option Value} {base : Heap}
/-! ### _law_word -/
def spWord : Sp := fun xs H Q _ => ∃ (p l : Addr) (m : Int) (zs : List Str), xs = [.ref p, .ref l, .int m] ∧ Pool H p ∧ l ≠ p ∧ H l = some (.lst (zs.map V.str)) ∧ zs ≠ [] ∧ zs.length ≤ 100 ∧ 0 ≤ m ∧ m ≤ 900 ∧
  ∀ (t : Addr) (ws : List Str) (H' : Hp), But p H H' → Pool H' p → H t = none → H' t = some (.tup (ws.map V.str)) → (ws.length : Int) ≤ m → (∀ z ∈ ws, z ∈ zs) → Q (.ref t) H'
abbrev nWord : List Str := ["_law_pool_here", "_law_items_here", "_law_most", "_law_turn"]
theorem scWord : FnScope nWord ["_law_pool_here", "_law_items_here", "_law_most"] (defScope sWord) := ⟨rfl, rfl, rfl, by decide +kernel, rfl, by decide +kernel, by decide +kernel⟩
theorem pick_str {zs : List Str} {r : Int} (h0 : 0 ≤ r) (h1 : r < (zs.length : Int)) : ∃ z, z ∈ zs ∧ atI (zs.map V.str) r = some (.str z) := by
  have hj : r.toNat < zs.length := by omega
  refine ⟨zs[r.toNat], List.getElem_mem hj, at_of (j := r.toNat) (by omega) ?_⟩
  rw [List.getElem?_map, List.getElem?_eq_getElem hj]
  rfl
theorem has_word (D : Def K mg "_law_word" sWord) (GT : Has P w K mg base "_law_take" 1 ["_law_pool_here", "_law_many"] [] spTake) (mr : mg "range" = none) (ml : mg "len" = none) (mt : mg "tuple" = none) : Has P w K mg base "_law_word" 2 ["_law_pool_here", "_law_items_here", "_law_most"] [] spWord := by
  refine has_of D scWord (fun _ _ _ _ _ _ us hl => match us, hl with | [_, _, _], _ => rfl) (fun xs H Q E h => ?_) (fun f cv A out s H xs Q E hr h => ?_)
  · obtain ⟨p, l, m, zs, rfl, _⟩ := h
    rfl
  · obtain ⟨p, l, m, zs, rfl, hp, lp, hl, hne, hz, h0, h1, k⟩ := h
    refine ⟨_, pss_one (ps_ret (pe_callTy call_tuple_of (by rfl) mt (by decide +kernel) (pa_cons
      (pe_lc (own := [("_law_turn", 3)]) (g := gName 3) (tt := tYes) (te := tOp (rIxL K) (tVar 1) (tCall spTake [] E0 (tCons (tVar 0) (tCons (tCB (Evl.rLenS K) (tCons (tVar 1) tNil)) tNil)))) rfl scWord.nd
        (pi_range1 (by rfl) mr (pa_cons (pe_has GT hr (pa_cons (pv 0) (pa_cons (pe_op op_add (pv 2) pe_int) pa_nil))) pa_nil)) (blkOk_by (own := [("_law_turn", 3)]) (N := nWord) (sc := defScope sWord) (by decide +kernel))
        (fun _ _ _ _ _ => pg_name (i := 3) scWord.nd rfl (.inl rfl)) (fun _ _ _ _ _ => pts_nil)
        (fun _ _ _ _ _ => pe_ix ix_list (pv 1) (pe_has GT hr (pa_cons (pv 0) (pa_cons (pe_callB call_len_seq (by rfl) ml PySem.boot_len (pa_cons (pv 1) pa_nil)) pa_nil))) (fun _ _ => rfl))) pa_nil))), ?_⟩
    refine ⟨_, rfl, _, rfl, m, 1, rfl, rfl, p, m + 1, rfl, hp, by omega, by omega, fun n H1 b1 p1 n0 n1 => ?_⟩
    have hl1 : H1 l = some (.lst (zs.map V.str)) := b1 l _ lp hl
    refine ⟨n, rfl, by omega, by omega, fun D hD => lc_range (lo := 0) (n := n.toNat) (fun i H2 => ∃ ws : List Str, H2 D = some (.lst (ws.map V.str)) ∧ ws.length = i ∧ (∀ z ∈ ws, z ∈ zs) ∧ But p H H2 ∧ Pool H2 p ∧ H2 l = some (.lst (zs.map V.str))) ?_ ?_ ?_⟩
    · have Dp : D ≠ p := p1.free hD
      exact ⟨[], upd_same, rfl, fun z q => (by cases q), b1.free (b1.none Dp hD), p1.upd Dp, by rw [upd_ne (ne_of_none hl1 hD)]; exact hl1⟩
    · rintro i H2 hi ⟨ws, hw, wl, wz, b2, p2, hl2⟩
      have Dp : D ≠ p := p1.free hD
      have Dl : l ≠ D := ne_of_none hl1 hD
      have hzp : 0 < zs.length := List.length_pos_iff.mpr hne
      refine ⟨rfl, yes_in ⟨_, rfl, _, rfl, _, rfl, l, _, rfl, .inl (.of hl2), p, _, rfl, p2, ?_, ?_, fun r H3 b3 p3 r0 r1 => ?_⟩⟩
      · rw [List.length_map]
        omega
      · rw [List.length_map]
        omega
      · rw [List.length_map] at r1
        obtain ⟨z, zm, az⟩ := pick_str r0 r1
        have hl3 : H3 l = some (.lst (zs.map V.str)) := b3 l _ lp hl2
        have hD3 : H3 D = some (.lst (ws.map V.str)) := b3 D _ Dp hw
        refine ⟨l, _, r, _, rfl, rfl, .of hl3, az, _, hD3, ?_, ws ++ [z], ?_, ?_, ?_, (b2.trans b3).free (b1.none Dp hD), p3.upd Dp, ?_⟩
        · rw [List.length_map, wl]
          exact small1000 (by omega)
        · rw [upd_same, List.map_append]
          rfl
        · rw [List.length_append, wl]
          rfl
        · intro y hy
          rcases List.mem_append.mp hy with q | q
          · exact wz y q
          · rw [List.mem_singleton.mp q]
            exact zm
        · rw [upd_ne Dl]
          exact hl3
    · rintro H2 ⟨ws, hw, wl, wz, b2, p2, hl2⟩
      refine ⟨D, _, rfl, .inl ⟨.of hw, fun t ht => ?_⟩⟩
      have tp : t ≠ p := p2.free ht
      refine k t ws _ (b2.free (b2.none tp ht)) (p2.upd tp) (b2.none tp ht) upd_same ?_ wz
      omega
end
end SE
namespace SE
open PySem PySem.Spec PyProof.Rows L2
/-- a test whose ways meet -/
def tCutT (t : TT) : TT := fun σ H Q => ∃ M : Bool → Hp → Prop, t σ H M ∧ ∀ b H2, M b H2 → Q b H2
theorem pt_cut {X : Cx} {e : Expr} {t : TT} (h : PT X e t) : PT X e (tCutT t) := ⟨fun pins s σ H Q I hw => by
  obtain ⟨M, h1, h2⟩ := hw
  refine thn (h.run pins s σ H M I h1) fun b s2 z => ?_
  obtain ⟨H2, I2, q⟩ := z
  exact ⟨H2, I2, h2 b H2 q⟩⟩
theorem cut_map {α : Type} (f : α → V) (hs : List α) (lo hi : Option Int) : cutV (hs.map f) lo hi = ((hs.drop (HT.sIx hs.length 0 lo)).take (HT.sIx hs.length hs.length hi - HT.sIx hs.length 0 lo)).map f := by
  unfold cutV
  rw [List.length_map, List.map_take, List.map_drop]
theorem cut_mem {α : Type} {x : α} {hs : List α} {a b : Nat} (h : x ∈ (hs.drop a).take b) : x ∈ hs := List.mem_of_mem_drop (List.mem_of_mem_take h)
/-- steps whose tuples stand in the heap -/
abbrev StepsH (H : Hp) : List V → List Stp → Prop := Paired fun v s => ∃ t, v = .ref t ∧ H t = some (.tup [.str (act s.1), .str s.2])
theorem StepsH.v {K : PySem.W.Frag} {H : Hp} {xs : List V} {ss : List Stp} (h : StepsH H xs ss) : StepsV K H xs ss := Paired.mapP h fun _ _ q => by
  obtain ⟨t, e, z⟩ := q
  exact ⟨t, e, .of z⟩
theorem StepsH.but {H H' : Hp} {p : Addr} {xs : List V} {ss : List Stp} (h : StepsH H xs ss) (hp : Pool H p) (b : But p H H') : StepsH H' xs ss := Paired.mapP h fun _ _ q => by
  obtain ⟨t, e, z⟩ := q
  exact ⟨t, e, b t _ (hp.ne z) z⟩
theorem StepsH.upd {H : Hp} {q : Addr} {o : HO} {xs : List V} {ss : List Stp} (h : StepsH H xs ss) (hq : ∀ ys, H q ≠ some (.tup ys)) : StepsH (upd H q o) xs ss := Paired.mapP h fun _ _ r => by
  obtain ⟨t, e, z⟩ := r
  refine ⟨t, e, ?_⟩
  rw [upd_ne (fun w => hq _ (by rw [← w]; exact z))]
  exact z
structure SI (p l f h : Addr) (zs : List Str) (H H3 : Hp) (xs : List V) (ss : List Stp) (hs : List Str) : Prop where
  b : But p H H3
  pl : Pool H3 p
  it : H3 l = some (.lst (zs.map V.str))
  fl : H3 f = some (.lst xs)
  st : StepsH H3 xs ss
  sz : ∀ s ∈ ss, s.2 ∈ zs
  hl : H3 h = some (.lst (hs.map V.str))
  hz : ∀ z ∈ hs, z ∈ zs
  lp : l ≠ p
  fp : f ≠ p
  fn : H f = none
  hp : h ≠ p
  hn : H h = none
  hf : h ≠ f
  hnl : h ≠ l
  lf : l ≠ f
section
variable {p l f h : Addr} {zs : List Str} {H H3 : Hp} {xs : List V} {ss : List Stp} {hs : List Str}
theorem SI.new (a : SI p l f h zs H H3 xs ss hs) {q : Addr} {o : HO} (hq : H3 q = none) : SI p l f h zs H (upd H3 q o) xs ss hs := by
  have qp : q ≠ p := a.pl.free hq
  exact ⟨a.b.free (a.b.none qp hq), a.pl.upd qp, by rw [upd_ne (ne_of_none a.it hq)]; exact a.it, by rw [upd_ne (ne_of_none a.fl hq)]; exact a.fl, a.st.upd (fun ys z => by rw [hq] at z; cases z), a.sz,
    by rw [upd_ne (ne_of_none a.hl hq)]; exact a.hl, a.hz, a.lp, a.fp, a.fn, a.hp, a.hn, a.hf, a.hnl, a.lf⟩
theorem SI.draw (a : SI p l f h zs H H3 xs ss hs) {H4 : Hp} (b : But p H3 H4) (q : Pool H4 p) : SI p l f h zs H H4 xs ss hs :=
  ⟨a.b.trans b, q, b _ _ a.lp a.it, b _ _ a.fp a.fl, a.st.but a.pl b, a.sz, b _ _ a.hp a.hl, a.hz, a.lp, a.fp, a.fn, a.hp, a.hn, a.hf, a.hnl, a.lf⟩
theorem SI.app (a : SI p l f h zs H H3 xs ss hs) {t : Addr} {c : Bool} {z : Str} (ht : H3 t = some (.tup [.str (act c), .str z])) (hz : z ∈ zs) : SI p l f h zs H (upd H3 f (.lst (xs ++ [.ref t]))) (xs ++ [.ref t]) (ss ++ [(c, z)]) hs := by
  have tf : t ≠ f := ne_of ht a.fl (by intro w; cases w)
  refine ⟨a.b.free a.fn, a.pl.upd a.fp, by rw [upd_ne a.lf]; exact a.it, upd_same, (a.st.upd (fun ys w => by rw [a.fl] at w; cases w)).snoc ⟨t, rfl, by rw [upd_ne tf]; exact ht⟩, fun s hs' => ?_, by rw [upd_ne a.hf]; exact a.hl, a.hz, a.lp, a.fp, a.fn, a.hp, a.hn, a.hf, a.hnl, a.lf⟩
  rcases List.mem_append.mp hs' with q | q
  · exact a.sz s q
  · rw [List.mem_singleton.mp q]
    exact hz
theorem SI.hset (a : SI p l f h zs H H3 xs ss hs) {ys : List Str} (hy : ∀ z ∈ ys, z ∈ zs) : SI p l f h zs H (upd H3 h (.lst (ys.map V.str))) xs ss ys :=
  ⟨a.b.free a.hn, a.pl.upd a.hp, by rw [upd_ne (Ne.symm a.hnl)]; exact a.it, by rw [upd_ne (Ne.symm a.hf)]; exact a.fl, a.st.upd (fun us w => by rw [a.hl] at w; cases w), a.sz, upd_same, hy, a.lp, a.fp, a.fn, a.hp, a.hn, a.hf, a.hnl, a.lf⟩
theorem SI.hnew (a : SI p l f h zs H H3 xs ss hs) {q : Addr} {ys : List Str} (hq : H3 q = none) (hy : ∀ z ∈ ys, z ∈ zs) : SI p l f q zs H (upd H3 q (.lst (ys.map V.str))) xs ss ys := by
  have b := a.new (o := .lst (ys.map V.str)) hq
  have qp : q ≠ p := a.pl.free hq
  exact ⟨b.b, b.pl, b.it, b.fl, b.st, b.sz, upd_same, hy, a.lp, a.fp, a.fn, qp, a.b.none qp hq, Ne.symm (ne_of_none a.fl hq), Ne.symm (ne_of_none a.it hq), a.lf⟩
end
section
variable {P : Program} {w : World} {K : PySem.W.Frag} {mg : Str → Option Value} {base : Heap}
/-! ### _law_steps -/
def spSteps : Sp := fun xs H Q _ => ∃ (p l : Addr) (m : Int) (zs : List Str), xs = [.ref p, .ref l, .int m] ∧ Pool H p ∧ l ≠ p ∧ H l = some (.lst (zs.map V.str)) ∧ zs ≠ [] ∧ zs.length ≤ 100 ∧ (∀ z ∈ zs, Item z) ∧ 0 ≤ m ∧ m ≤ 100 ∧
  ∀ (t : Addr) (us : List V) (ss : List Stp) (H' : Hp), But p H H' → Pool H' p → H t = none → H' t = some (.lst us) → StepsH H' us ss → ss.length = m.toNat → (∀ s ∈ ss, s.2 ∈ zs) → Q (.ref t) H'
abbrev nSteps : List Str := ["_law_pool_here", "_law_items_here", "_law_many", "_law_found", "_law_held", "_law_turn", "_law_way", "_law_item"]
theorem scSteps : FnScope nSteps ["_law_pool_here", "_law_items_here", "_law_many"] (defScope sSteps) := ⟨rfl, rfl, rfl, by decide +kernel, rfl, by decide +kernel, by decide +kernel⟩
theorem has_steps (D : Def K mg "_law_steps" sSteps) (GT : Has P w K mg base "_law_take" 1 ["_law_pool_here", "_law_many"] [] spTake) (mr : mg "range" = none) (ml : mg "len" = none) : Has P w K mg base "_law_steps" 2 ["_law_pool_here", "_law_items_here", "_law_many"] [] spSteps := by
  refine has_of D scSteps (fun _ _ _ _ _ _ us hl => match us, hl with | [_, _, _], _ => rfl) (fun xs H Q E h => ?_) (fun f cv A out s H xs Q E hr h => ?_)
  · obtain ⟨p, l, m, zs, rfl, _⟩ := h
    rfl
  · obtain ⟨p, l, m, zs, rfl, hp, lp, hl, hne, hz, hI, h0, h1, k⟩ := h
    refine ⟨_, pss_cons (ps_par (i := 3) (j := 4) (by rfl) scSteps.nd rfl rfl (by decide) rfl rfl (pa_cons (pe_lst pa_nil) (pa_cons (pe_lst pa_nil) pa_nil)) (by rfl))
      (pss_cons (ps_for PassesOwn.never rfl (pi_range1 (by rfl) mr (pa_cons (pv 2) pa_nil)) (pg_name (i := 5) scSteps.nd rfl (.inl rfl))
        (pss_cons (ps_set (i := 6) scSteps.nd rfl (.inl rfl) (pe_has GT hr (pa_cons (pv 0) (pa_cons pe_int pa_nil))))
        (pss_cons (ps_set (i := 7) scSteps.nd rfl (.inl rfl) (pe_ix ix_list (pv 1) (pe_has GT hr (pa_cons (pv 0) (pa_cons (pe_callB call_len_seq (by rfl) ml PySem.boot_len (pa_cons (pv 1) pa_nil)) pa_nil))) (fun _ _ => rfl)))
        (pss_one (ps_if (pt_cut (PW.pt (pw_and (pt_cmpR op_lt (pv 6) pe_int (nomark _)) (pw_and1 (pt_cmpR (op_neD hr.units) (pv 4) (pe_lst pa_nil) (nomark _))))))
          (pss_cons (ps_set (i := 7) scSteps.nd rfl (.inl rfl) (pe_bm0 PySem.F.plainAttrs_list PySem.F.slot_list_pop PySem.F.type_list_pop mt_pop (pv 4)))
          (pss_one (ps_expr (pe_bm PySem.F.plainAttrs_list PySem.F.slot_list_append PySem.F.type_list_append mt_append (pv 3) (pa_cons (pe_tup (pa_cons pe_str (pa_cons (pv 7) pa_nil))) pa_nil)))))
          (pss_one (ps_if (pt_cut (PW.pt (pw_or (pt_cmpR op_eq (pv 6) pe_int (nomark _)) (pw_or1 (PW.pt (pw_and (pt_cmpR op_eq (pv 6) pe_int (nomark _)) (pw_and1 (pt_cmpR (op_eqD hr.units) (pv 4) (pe_lst pa_nil) (nomark _)))))))))
            (pss_cons (ps_expr (pe_bm PySem.F.plainAttrs_list PySem.F.slot_list_append PySem.F.type_list_append mt_append (pv 3) (pa_cons (pe_tup (pa_cons pe_str (pa_cons (pv 7) pa_nil))) pa_nil)))
            (pss_one (ps_set (i := 4) scSteps.nd rfl (.inl rfl) (pe_ifExp (pt_cut (pt_cmpR (op_eqD hr.units) (pe_slice sl_list (pv 4) (po_some (pe_un un_neg pe_int)) po_none) (pe_lst (pa_cons (pv 7) pa_nil)) (nomark _))) (pe_slice sl_list (pv 4) po_none (po_some (pe_un un_neg pe_int))) (pv 4)))))
            (pss_cons (ps_expr (pe_bm PySem.F.plainAttrs_list PySem.F.slot_list_append PySem.F.type_list_append mt_append (pv 3) (pa_cons (pe_tup (pa_cons pe_str (pa_cons (pv 7) pa_nil))) pa_nil)))
            (pss_one (ps_expr (pe_bm PySem.F.plainAttrs_list PySem.F.slot_list_append PySem.F.type_list_append mt_append (pv 4) (pa_cons (pv 7) pa_nil)))))))))))
      ) (pss_one (ps_ret (pv 3)))), ?_⟩
    refine ⟨Nat.zero_le _, fun g hg => ⟨Nat.zero_le _, fun h0' hh => ⟨_, _, rfl, ?_⟩⟩⟩
    have gp : g ≠ p := hp.free hg
    have hh0 : H h0' = none := (Same.new hg).free hh
    have hgne : g ≠ h0' := ne_of_none upd_same hh
    have ofz : ∀ {hs : List Str}, (∀ z ∈ hs, z ∈ zs) → SeqAt.shaped (.list (hs.map PyData.str)) = true := fun {hs} q => (nice_list (nice_strs fun z m => hI z (q z m))).shaped (by decide)
    refine ⟨_, rfl, m, rfl, by omega, by omega, for_range (lo := 0) (n := m.toNat) (fun i σ H3 => ∃ (h : Addr) (xs : List V) (ss : List Stp) (hs : List Str) (y5 y6 y7 : Option V), σ = [some (.ref p), some (.ref l), some (.int m), some (.ref g), some (.ref h), y5, y6, y7] ∧ SI p l g h zs H H3 xs ss hs ∧ ss.length = i ∧ xs.length = i ∧ hs.length ≤ i) ?_ ?_ ?_⟩
    · refine ⟨h0', [], [], [], none, none, none, rfl, ⟨(But.of (Same.new hg)).free hh0, (hp.upd gp).upd (hp.free hh0), ?_, ?_, .nil, fun s q => (by cases q), upd_same, fun z q => (by cases q), lp, gp, hg, hp.free hh0, hh0, Ne.symm hgne, Ne.symm (ne_of_none hl hh0), ne_of_none hl hg⟩, rfl, rfl, Nat.le_refl _⟩
      · rw [upd_ne (ne_of_none hl hh0), upd_ne (ne_of_none hl hg)]
        exact hl
      · rw [upd_ne hgne]
        exact upd_same
    · rintro i σ H3 hi ⟨h, xs, ss, hs, y5, y6, y7, rfl, a, hsl, hxl, hhl⟩
      refine ⟨_, rfl, p, 8, rfl, a.pl, by decide, by decide, fun r H4 b4 p4 r0 r1 => ?_⟩
      have a4 := a.draw b4 p4
      have hzp : 0 < zs.length := List.length_pos_iff.mpr hne
      refine ⟨_, rfl, _, rfl, _, rfl, l, _, rfl, .inl (.of a4.it), p, _, rfl, a4.pl, ?_, ?_, fun r2 H5 b5 p5 s0 s1 => ?_⟩
      · rw [List.length_map]
        omega
      · rw [List.length_map]
        omega
      rw [List.length_map] at s1
      obtain ⟨z, zm, az⟩ := pick_str s0 s1
      have a5 := a4.draw b5 p5
      refine ⟨l, _, r2, _, rfl, rfl, .of a5.it, az, ?_⟩
      -- way < 3 and held != []
      refine ⟨fun b H6 => SI p l g h zs H H6 xs ss hs ∧ (b = true → hs ≠ []), ?_, ?_⟩
      · refine ⟨_, rfl, r, 3, rfl, rfl, _, rfl, ite2 (fun c => ?_) (fun c => ?_)⟩
        · refine ⟨_, rfl, Nat.zero_le _, fun q hq => ⟨.list (hs.map .str), .list (([] : List Str).map .str), .lst (.of (a5.new hq).hl) (dp_strs hs), .lst (.of upd_same) .nil, ofz a5.hz, ofz (fun z w => (by cases w)), _, rfl, a5.new hq, fun e => ?_⟩⟩
          rw [eqv_listS] at e
          intro z
          rw [z] at e
          exact absurd e (by decide)
        · exact ⟨a5, fun e => (by cases e)⟩
      rintro b H6 ⟨a6, hb⟩
      cases b with
      | true =>
        have hs0 : hs ≠ [] := hb rfl
        refine iteT ?_
        have hlast : (hs.map V.str)[(hs.map V.str).length - 1]? = some (.str (hs.getLast hs0)) := by
          rw [List.length_map, List.getElem?_map, ← List.getLast?_eq_getElem?, List.getLast?_eq_getLast hs0]
          rfl
        have hmem : hs.getLast hs0 ∈ zs := a6.hz _ (List.getLast_mem hs0)
        have a7 : SI p l g h zs H (upd H6 h (.lst (hs.dropLast.map V.str))) xs ss hs.dropLast := a6.hset fun z m => a6.hz z ((List.dropLast_sublist hs).subset m)
        refine ⟨.ref h, rfl, .inl ⟨rfl, _, .of a6.hl⟩, h, _, _, rfl, rfl, a6.hl, hlast, ?_⟩
        rw [← List.map_dropLast]
        refine ⟨.ref g, rfl, .inl ⟨rfl, _, .of a7.fl⟩, _, rfl, (by show 2 ≤ sizeLine; decide), fun t ht => ⟨g, _, _, rfl, rfl, (a7.new ht).fl, ?_, ?_⟩⟩
        · rw [hxl]
          exact small1000 (by omega)
        · refine ⟨h, _, ss ++ [(false, hs.getLast hs0)], _, _, _, _, rfl, (a7.new ht).app (c := false) upd_same hmem, ?_, ?_, ?_⟩
          · rw [List.length_append, hsl]
            rfl
          · rw [List.length_append, hxl]
            rfl
          · rw [List.length_dropLast]
            omega
      | false =>
        refine iteF ?_
        -- the other ways
        refine ⟨fun b H7 => SI p l g h zs H H7 xs ss hs, ?_, ?_⟩
        · refine ⟨_, rfl, rfl, _, rfl, ite2 (fun c => ?_) (fun c => ?_)⟩
          · exact a6
          · refine ⟨_, rfl, rfl, _, rfl, ite2 (fun c2 => ?_) (fun c2 => ?_)⟩
            · exact ⟨_, rfl, Nat.zero_le _, fun q hq => ⟨.list (hs.map .str), .list (([] : List Str).map .str), .lst (.of (a6.new hq).hl) (dp_strs hs), .lst (.of upd_same) .nil, ofz a6.hz, ofz (fun z w => (by cases w)), _, rfl, a6.new hq⟩⟩
            · exact a6
        rintro b H7 a7
        cases b with
        | true =>
          refine iteT ?_
          refine ⟨.ref g, rfl, .inl ⟨rfl, _, .of a7.fl⟩, _, rfl, (by show 2 ≤ sizeLine; decide), fun t ht => ⟨g, _, _, rfl, rfl, (a7.new ht).fl, ?_, ?_⟩⟩
          · rw [hxl]
            exact small1000 (by omega)
          have a8 := (a7.new ht).app (c := false) upd_same zm
          have fin : ∀ (v : Addr) (H9 : Hp) (ks : List Str), SI p l g v zs H H9 (xs ++ [.ref t]) (ss ++ [(false, z)]) ks → ks.length ≤ i → ∃ (h : Addr) (xs : List V) (ss : List Stp) (hs : List Str) (y5 y6 y7 : Option V), [some (.ref p), some (.ref l), some (.int m), some (.ref g), some (.ref v), some (.int (0 + i)), some (.int r), some (.str z)] = [some (V.ref p), some (.ref l), some (.int m), some (.ref g), some (.ref h), y5, y6, y7] ∧ SI p l g h zs H H9 xs ss hs ∧ ss.length = i + 1 ∧ xs.length = i + 1 ∧ hs.length ≤ i + 1 := by
            intro v H9 ks a9 kl
            refine ⟨v, _, _, ks, _, _, _, rfl, a9, ?_, ?_, by omega⟩
            · rw [List.length_append, hsl]
              rfl
            · rw [List.length_append, hxl]
              rfl
          refine ⟨fun b H8 => SI p l g h zs H H8 (xs ++ [.ref t]) (ss ++ [(false, z)]) hs, ?_, ?_⟩
          · refine ⟨_, rfl, 1, rfl, -1, rfl, h, _, rfl, .of a8.hl, fun q hq => ⟨_, rfl, (by show 1 ≤ sizeLine; decide), fun q2 hq2 => ?_⟩⟩
            have a9 := (a8.new hq (o := .lst (cutV (hs.map V.str) (some (-1)) none))).new hq2 (o := .lst [.str z])
            have ne2 : q ≠ q2 := ne_of_none upd_same hq2
            refine ⟨.list (((hs.drop (HT.sIx hs.length 0 (some (-1)))).take (HT.sIx hs.length hs.length none - HT.sIx hs.length 0 (some (-1)))).map .str), .list ([z].map .str), .lst (.of ?_) (dp_strs _), .lst (.of upd_same) (dp_strs [z]), ofz (fun y m => a8.hz y (cut_mem m)), ofz (fun y m => (by rw [List.mem_singleton.mp m]; exact zm)), _, rfl, a9⟩
            rw [upd_ne ne2, upd_same, cut_map]
          rintro b H8 a9
          cases b with
          | true =>
            refine iteT ?_
            refine ⟨_, rfl, 1, rfl, -1, rfl, h, _, rfl, .of a9.hl, fun q hq => ?_⟩
            rw [cut_map]
            refine fin q _ _ (a9.hnew hq fun y m => a9.hz y (cut_mem m)) ?_
            rw [List.length_take, List.length_drop]
            omega
          | false =>
            refine iteF ?_
            exact ⟨_, rfl, fin h H8 hs a9 hhl⟩
        | false =>
          refine iteF ?_
          refine ⟨.ref g, rfl, .inl ⟨rfl, _, .of a7.fl⟩, _, rfl, (by show 2 ≤ sizeLine; decide), fun t ht => ⟨g, _, _, rfl, rfl, (a7.new ht).fl, ?_, ?_⟩⟩
          · rw [hxl]
            exact small1000 (by omega)
          have a8 := (a7.new ht).app (c := true) upd_same zm
          refine ⟨.ref h, rfl, .inl ⟨rfl, _, .of a8.hl⟩, _, rfl, h, _, _, rfl, rfl, a8.hl, ?_, ?_⟩
          · rw [List.length_map]
            exact small1000 (by omega)
          · have a9 : SI p l g h zs H (upd _ h (.lst ((hs ++ [z]).map V.str))) (xs ++ [.ref t]) (ss ++ [(true, z)]) (hs ++ [z]) := a8.hset fun y m => by
              rcases List.mem_append.mp m with q | q
              · exact a8.hz y q
              · rw [List.mem_singleton.mp q]
                exact zm
            rw [List.map_append] at a9
            refine ⟨h, _, _, _, _, _, _, rfl, a9, ?_, ?_, ?_⟩
            · rw [List.length_append, hsl]
              rfl
            · rw [List.length_append, hxl]
              rfl
            · rw [List.length_append]
              show hs.length + 1 ≤ i + 1
              omega
    · rintro σ H3 ⟨h, xs, ss, hs, y5, y6, y7, rfl, a, hsl, hxl, hhl⟩
      exact ⟨_, rfl, k g xs ss H3 a.b a.pl hg a.fl a.st hsl a.sz⟩
end
end SE
namespace SE
open PySem PySem.Spec PyProof.Rows L2
/-! ### what is never reached; types -/
theorem pe_never {X : Cx} {e : Expr} : PE X e (fun _ _ _ => False) := ⟨fun _ _ _ _ _ _ h => h.elim⟩
theorem ty_tup {K : PySem.W.Frag} {H : Hp} {a : Addr} {xs : List V} (h : SqT K H a xs) : TyX K H (.ref a) (.type "tuple") := by
  rcases h with (h | ⟨o, h⟩) | ⟨o, its, n, h1, h2, _⟩
  · exact .base (.tup h)
  · exact .fTuple h
  · exact .kTuple h1 h2
theorem ty_lst {K : PySem.W.Frag} {H : Hp} {a : Addr} {xs : List V} (h : SqL K H a xs) : TyX K H (.ref a) (.type "list") := by
  rcases h with (h | ⟨o, h⟩) | ⟨o, its, n, h1, h2, _⟩
  · exact .base (.lst h)
  · exact .base (.frz h)
  · exact .kList h1 h2
theorem bl_snoc (n : Nat) : (List.replicate n true).map V.bl ++ [V.bl true] = (List.replicate (n + 1) true).map V.bl := by
  rw [List.replicate_succ', List.map_append]
  rfl
theorem all_true (n : Nat) : (List.replicate n true).all id = true := by
  rw [List.all_eq_true]
  intro b hb
  rw [(List.mem_replicate.mp hb).2]
  rfl
theorem abc_has {c : Nat} (h : 97 ≤ c ∧ c ≤ 122) : c ∈ abc.cps.toList := by
  have q : ∀ j : Fin 26, (97 + j.1) ∈ abc.cps.toList := by decide +kernel
  have z := q ⟨c - 97, by omega⟩
  have e : 97 + (c - 97) = c := by omega
  rw [← e]
  exact z
/-- the module's constants -/
structure Cons (K : PySem.W.Frag) (w : World) (mg : Str → Option Value) : Prop where
  let_ : ∃ t, mg "LETTERS" = some (.str abc t)
  ml : ∃ t, mg "MOST_LETTERS" = some (.int 8 t)
  ms : ∃ t, mg "MOST_STEPS" = some (.int 1000 t)
  opp : ∃ (d : Addr) (es : Array DictEntry) (n : Nat) (u v : Value), mg "OPPOSITES" = some (.ref d) ∧ KDict K w d es n ∧ PySem.W.nsIn K d "push" = some (some u) ∧ RelV (.str "pop") u ∧ PySem.W.nsIn K d "pop" = some (some v) ∧ RelV (.str "push") v
/-- built-in names that the module leaves as they are -/
structure Blt (mg : Str → Option Value) : Prop where
  isi : mg "isinstance" = none
  str : mg "str" = none
  len : mg "len" = none
  all : mg "all" = none
  tup : mg "tuple" = none
  lst : mg "list" = none
  enu : mg "enumerate" = none
section
variable {P : Program} {w : World} {K : PySem.W.Frag} {mg : Str → Option Value} {base : Heap}
/-! ### is_item -/
def spIsItem : Sp := fun xs H Q _ => ∃ (z : Str), xs = [.str z] ∧ Item z ∧ ∀ H', Same H H' → Q (.bl true) H'
theorem scIsItem : FnScope ["value", "letter"] ["value"] (defScope sIsItem) := ⟨rfl, rfl, rfl, by decide +kernel, rfl, by decide +kernel, by decide +kernel⟩
theorem has_isItem (D : Def K mg "is_item" sIsItem) (B : Blt mg) (C : Cons K w mg) : Has P w K mg base "is_item" 1 ["value"] [] spIsItem := by
  obtain ⟨tl, hL⟩ := C.let_
  obtain ⟨tm, hM⟩ := C.ml
  refine has_of D scIsItem (fun _ _ _ _ _ _ us hl => match us, hl with | [_], _ => rfl) (fun xs H Q E h => ?_) (fun f cv A out s H xs Q E hr h => ?_)
  · obtain ⟨z, rfl, _⟩ := h
    rfl
  · obtain ⟨z, rfl, iz, k⟩ := h
    refine ⟨_, pss_cons (ps_if (PW.pt (pw_or (pt_not (pt_val (pe_callB call_isi (by rfl) B.isi (by decide +kernel) (pa_cons (pv 0) (pa_cons (pe_bltn (v := .ty "str") (by rfl) B.str (by decide +kernel) rfl) pa_nil)))))
        (pw_or1 (pt_not (pt_chain op_le op_le pe_int (pe_callB call_len_str (by rfl) B.len PySem.boot_len (pa_cons (pv 0) pa_nil)) (pe_glob (v := .int 8) rfl hM ⟨_, rfl⟩)))))) (pss_one (ps_ret pe_bl)) pss_nil)
      (pss_one (ps_ret (pe_callB (cr_all rfl) (by rfl) B.all (by decide +kernel) (pa_cons
        (pe_lc (own := [("letter", 1)]) (g := gName 1) (tt := tYes) rfl scIsItem.nd (pi_str (pv 0)) (blkOk_by (own := [("letter", 1)]) (N := ["value", "letter"]) (sc := defScope sIsItem) (by decide +kernel))
          (fun _ _ _ _ _ => pg_name (i := 1) scIsItem.nd rfl (.inl rfl)) (fun _ _ _ _ _ => pts_nil) (fun _ _ _ _ _ => pe_cmpR op_in_sign (pv 1) (pe_glob (v := .str abc) rfl hL ⟨_, rfl⟩) (by rfl))) pa_nil)))), ?_⟩
    refine ⟨_, rfl, _, .ty "str", .type "str", .type "str", true, rfl, .ty _, .base (.str z), kit_ty (by decide +kernel), true, rfl, iteF ?_⟩
    have p1 : (1 : Int) ≤ (z.length : Int) := by have := iz.pos; omega
    have p2 : (z.length : Int) ≤ 8 := by have := iz.most; omega
    refine ⟨_, rfl, z, rfl, Nat.le_of_lt (small1000 (by have := iz.most; omega)), 1, _, rfl, rfl, true, congrArg V.bl (decide_eq_true p1), iteT ⟨_, 8, rfl, rfl, true, congrArg V.bl (decide_eq_true p2), iteF ?_⟩⟩
    refine ⟨_, rfl, z, rfl, fun D hD => lc_it walk_str (fun j H2 => H2 D = some (.lst ((List.replicate j true).map V.bl)) ∧ Same H H2) ⟨upd_same, Same.new hD⟩ (fun _ _ _ _ => trivial) ?_ ?_⟩
    · rintro j x H2 H3 hj ⟨h2, s2⟩ ⟨rfl, c, hc, rfl⟩
      refine ⟨rfl, yes_in ⟨_, rfl, c, abc, rfl, rfl, _, h2, ?_, ?_, ?_⟩⟩
      · rw [List.length_map, List.length_replicate]
        have : j < z.length := hj
        have := iz.most
        exact small1000 (by omega)
      · have cm : c ∈ z.cps.toList := by
          have q : z.cps.toList[j]? = some c := by rw [Array.getElem?_toList]; exact hc
          exact List.mem_of_getElem? q
        rw [upd_same, decide_eq_true (abc_has (iz.low c cm)), bl_snoc]
      · exact Same.free2 s2 hD
    · rintro H2 ⟨h2, s2⟩
      refine ⟨D, _, rfl, .of h2, ?_⟩
      rw [all_true]
      exact k H2 s2
/-! ### is_word -/
def spIsWord (K : PySem.W.Frag) : Sp := fun xs H Q _ => ∃ (a : Addr) (zs : List Str), xs = [.ref a] ∧ SqT K H a (zs.map V.str) ∧ zs.length ≤ 5000 ∧ (∀ z ∈ zs, Item z) ∧ ∀ H', Same H H' → Q (.bl true) H'
theorem scIsWord : FnScope ["value", "item"] ["value"] (defScope sIsWord) := ⟨rfl, rfl, rfl, by decide +kernel, rfl, by decide +kernel, by decide +kernel⟩
theorem has_isWord (D : Def K mg "is_word" sIsWord) (G : Has P w K mg base "is_item" 1 ["value"] [] spIsItem) (B : Blt mg) : Has P w K mg base "is_word" 2 ["value"] [] (spIsWord K) := by
  refine has_of D scIsWord (fun _ _ _ _ _ _ us hl => match us, hl with | [_], _ => rfl) (fun xs H Q E h => ?_) (fun f cv A out s H xs Q E hr h => ?_)
  · obtain ⟨a, zs, rfl, _⟩ := h
    rfl
  · obtain ⟨a, zs, rfl, hT, hz, hI, k⟩ := h
    refine ⟨_, pss_one (ps_ret (pe_and (pe_callB call_isi (by rfl) B.isi (by decide +kernel) (pa_cons (pv 0) (pa_cons (pe_bltn (v := .ty "tuple") (by rfl) B.tup (by decide +kernel) rfl) pa_nil)))
      (pe_one (pe_callB (cr_all rfl) (by rfl) B.all (by decide +kernel) (pa_cons
        (pe_lc (own := [("item", 1)]) (g := gName 1) (tt := tYes) (te := tCall spIsItem [] E0 (tCons (tVar 1) tNil)) rfl scIsWord.nd (pi_tup (pv 0)) (blkOk_by (own := [("item", 1)]) (N := ["value", "item"]) (sc := defScope sIsWord) (by decide +kernel))
          (fun _ _ _ _ _ => pg_name (i := 1) scIsWord.nd rfl (.inl rfl)) (fun _ _ _ _ _ => pts_nil) (fun _ _ _ _ _ => pe_has G hr (pa_cons (pv 1) pa_nil))) pa_nil))))), ?_⟩
    refine ⟨_, rfl, _, .ty "tuple", .type "tuple", .type "tuple", true, rfl, .ty _, ty_tup hT, kit_ty (by decide +kernel), true, rfl, iteT ?_⟩
    refine ⟨_, rfl, a, rfl, ⟨_, hT⟩, fun D hD => lc_tup (K := K) (a := a) (xs := zs.map V.str) (fun j H2 => H2 D = some (.lst ((List.replicate j true).map V.bl)) ∧ Same H H2) ⟨upd_same, Same.new hD⟩ (fun _ _ _ q => Same.tup q.2 hT) ?_ ?_⟩
    · rintro j x H2 hj ⟨h2, s2⟩
      have jl : j < zs.length := by
        have := (List.getElem?_eq_some_iff.mp hj).1
        rwa [List.length_map] at this
      rw [List.getElem?_map, List.getElem?_eq_getElem jl] at hj
      have e := Option.some.inj hj
      subst e
      refine ⟨rfl, yes_in ⟨_, rfl, zs[j], rfl, hI _ (List.getElem_mem jl), fun H3 s3 => ⟨_, s3 _ _ h2, ?_, ?_, ?_⟩⟩⟩
      · rw [List.length_map, List.length_replicate]
        exact Nat.lt_of_lt_of_le jl (Nat.le_trans hz (by decide))
      · rw [upd_same, bl_snoc]
      · exact Same.free2 (s2.trans s3) hD
    · rintro H2 ⟨h2, s2⟩
      refine ⟨D, _, rfl, .of h2, ?_⟩
      rw [all_true]
      exact k H2 s2
/-! ### is_step -/
def spIsStep (K : PySem.W.Frag) : Sp := fun xs H Q _ => ∃ (v : V) (s : Stp), xs = [v] ∧ StepV K H v s ∧ Item s.2 ∧ ∀ H', Same H H' → Q (.bl true) H'
theorem scIsStep : FnScope ["value", "action", "item"] ["value"] (defScope sIsStep) := ⟨rfl, rfl, rfl, by decide +kernel, rfl, by decide +kernel, by decide +kernel⟩
theorem has_isStep (D : Def K mg "is_step" sIsStep) (G : Has P w K mg base "is_item" 1 ["value"] [] spIsItem) (B : Blt mg) (C : Cons K w mg) : Has P w K mg base "is_step" 2 ["value"] [] (spIsStep K) := by
  obtain ⟨d, es, n, u1, u2, hO, KD, n1, r1, n2, r2⟩ := C.opp
  refine has_of D scIsStep (fun _ _ _ _ _ _ us hl => match us, hl with | [_], _ => rfl) (fun xs H Q E h => ?_) (fun f cv A out s H xs Q E hr h => ?_)
  · obtain ⟨v, st, rfl, _⟩ := h
    rfl
  · obtain ⟨v, st, rfl, ⟨t, rfl, hT⟩, iz, k⟩ := h
    refine ⟨_, pss_cons (ps_if (PW.pt (pw_or (pt_not (pt_val (pe_callB call_isi (by rfl) B.isi (by decide +kernel) (pa_cons (pv 0) (pa_cons (pe_bltn (v := .ty "tuple") (by rfl) B.tup (by decide +kernel) rfl) pa_nil)))))
        (pw_or1 (pt_cmpR op_ne (pe_callB call_len_seq (by rfl) B.len PySem.boot_len (pa_cons (pv 0) pa_nil)) pe_int (nomark _))))) (pss_one (ps_ret pe_bl)) pss_nil)
      (pss_cons (ps_asg (pv 0) (pg_tup (by rfl) (pgs_cons (pg_name (i := 1) scIsStep.nd rfl (.inl rfl)) (pgs_cons (pg_name (i := 2) scIsStep.nd rfl (.inl rfl)) pgs_nil))))
      (pss_one (ps_ret (pe_and (pe_callB call_isi (by rfl) B.isi (by decide +kernel) (pa_cons (pv 1) (pa_cons (pe_bltn (v := .ty "str") (by rfl) B.str (by decide +kernel) rfl) pa_nil)))
        (pe_and (pe_cmpR (op_in_kd KD) (pv 1) (pe_glob (v := .ref d) rfl hO rfl) (by rfl)) (pe_one (pe_has G hr (pa_cons (pv 2) pa_nil)))))))), ?_⟩
    refine ⟨_, rfl, _, .ty "tuple", .type "tuple", .type "tuple", true, rfl, .ty _, ty_tup hT, kit_ty (by decide +kernel), true, rfl, iteF ?_⟩
    refine ⟨_, rfl, t, _, rfl, .inr hT, rfl, _, rfl, iteF ?_⟩
    refine ⟨_, rfl, t, _, rfl, hT, rfl, _, _, rfl, _, _, rfl, rfl, ?_⟩
    refine ⟨_, rfl, _, .ty "str", .type "str", .type "str", true, rfl, .ty _, .base (.str _), kit_ty (by decide +kernel), true, rfl, iteT ?_⟩
    have inO : ∃ r, PySem.W.nsIn K d (act st.1) = some r ∧ r.isSome = true := by
      cases e : st.1 with
      | true => exact ⟨some u1, n1, rfl⟩
      | false => exact ⟨some u2, n2, rfl⟩
    obtain ⟨r, hr1, hr2⟩ := inO
    refine ⟨_, rfl, act st.1, r, rfl, rfl, hr1, r.isSome, rfl, ?_⟩
    rw [hr2]
    exact iteT ⟨_, rfl, st.2, rfl, iz, k⟩
end
end SE
namespace SE
open PySem PySem.Spec PyProof.Rows L2
section
variable {P : Program} {w : World} {K : PySem.W.Frag} {mg : Str → Option Value} {base : Heap}
/-! ### may_hold_steps -/
def spMay (K : PySem.W.Frag) : Sp := fun xs H Q _ => ∃ (a : Addr) (ys : List V), xs = [.ref a] ∧ (SqL K H a ys ∨ SqT K H a ys) ∧ ys.length ≤ 1000 ∧ ∀ H', Same H H' → Q (.bl true) H'
theorem scMay : FnScope ["value"] ["value"] (defScope sMayHold) := ⟨rfl, rfl, rfl, by decide +kernel, rfl, by decide +kernel, by decide +kernel⟩
theorem has_may (D : Def K mg "may_hold_steps" sMayHold) (B : Blt mg) (C : Cons K w mg) : Has P w K mg base "may_hold_steps" 1 ["value"] [] (spMay K) := by
  obtain ⟨tm, hM⟩ := C.ms
  refine has_of D scMay (fun _ _ _ _ _ _ us hl => match us, hl with | [_], _ => rfl) (fun xs H Q E h => ?_) (fun f cv A out s H xs Q E hr h => ?_)
  · obtain ⟨a, ys, rfl, _⟩ := h
    rfl
  · obtain ⟨a, ys, rfl, hS, hl, k⟩ := h
    refine ⟨_, pss_one (ps_ret (pe_and (pe_callB call_isiT (by rfl) B.isi (by decide +kernel) (pa_cons (pv 0) (pa_cons (pe_tup (pa_cons (pe_bltn (v := .ty "list") (by rfl) B.lst (by decide +kernel) rfl) (pa_cons (pe_bltn (v := .ty "tuple") (by rfl) B.tup (by decide +kernel) rfl) pa_nil))) pa_nil)))
      (pe_one (pe_cmpR op_le (pe_callB call_len_seq (by rfl) B.len PySem.boot_len (pa_cons (pv 0) pa_nil)) (pe_glob (v := .int 1000) rfl hM ⟨_, rfl⟩) (nomark _))))), ?_⟩
    refine ⟨_, rfl, (by show 2 ≤ sizeLine; decide), fun t ht => ?_⟩
    have s1 : Same H (upd H t (.tup [.ty "list", .ty "tuple"])) := Same.new ht
    have p1 : (ys.length : Int) ≤ 1000 := by omega
    have ty : ∃ T, TyX K (upd H t (.tup [.ty "list", .ty "tuple"])) (.ref a) T ∧ PySem.W.kitAny K T [.type "list", .type "tuple"] = some true := by
      rcases hS with q | q
      · exact ⟨_, ty_lst (Same.seq s1 q), kitAny_cons (b := true) (kit_ty (by decide +kernel)) (fun z => (by cases z)) (fun _ => rfl)⟩
      · exact ⟨_, ty_tup (Same.tup s1 q), kitAny_cons (b := false) (kit_ty (by decide +kernel)) (fun _ => kitAny_cons (b := true) (kit_ty (by decide +kernel)) (fun z => (by cases z)) (fun _ => rfl)) (fun z => (by cases z))⟩
    obtain ⟨T, ty1, ty2⟩ := ty
    refine ⟨_, t, _, T, _, true, rfl, upd_same, .cons (.ty _) (.cons (.ty _) .nil), ty1, ty2, true, rfl, iteT ?_⟩
    refine ⟨_, rfl, a, ys, rfl, hS.imp (Same.seq s1) (Same.tup s1), _, 1000, rfl, rfl, ?_⟩
    show Q (V.bl (decide ((ys.length : Int) ≤ 1000))) _
    rw [decide_eq_true p1]
    exact k _ s1
/-! ### check_steps -/
def spChkSteps (K : PySem.W.Frag) : Sp := fun xs H Q _ => ∃ (a : Addr) (ys : List V) (ss : List Stp), xs = [.ref a] ∧ (SqL K H a ys ∨ SqT K H a ys) ∧ ys.length ≤ 1000 ∧ StepsV K H ys ss ∧ (∀ s ∈ ss, Item s.2) ∧ ∀ H', Same H H' → Q .non H'
theorem scChk : FnScope ["steps", "index", "step"] ["steps"] (defScope sChkSteps) := ⟨rfl, rfl, rfl, by decide +kernel, rfl, by decide +kernel, by decide +kernel⟩
theorem walk_enumT {K : PySem.W.Frag} {a : Addr} {xs : List V} : Walk (ItE K a) xs.length (fun H => SqT K H a xs) (YPair (fun i => some (.int (i : Nat))) (fun i => xs[i]?)) := by
  refine ⟨fun i _ hi q => ⟨xs, xs[i], q, by simp [hi]⟩, fun _ q => ⟨xs, q, Nat.le_refl _⟩, fun i H v H2 _ q y => ?_⟩
  obtain ⟨T, x, h1, h2, h3, h4⟩ := y
  exact ⟨T, .int (i : Nat), x, h1, h2, h3, rfl, h4 xs q⟩
theorem has_chkSteps (D : Def K mg "check_steps" sChkSteps) (GM : Has P w K mg base "may_hold_steps" 1 ["value"] [] (spMay K)) (GS : Has P w K mg base "is_step" 2 ["value"] [] (spIsStep K)) (B : Blt mg) : Has P w K mg base "check_steps" 3 ["steps"] [] (spChkSteps K) := by
  refine has_of D scChk (fun _ _ _ _ _ _ us hl => match us, hl with | [_], _ => rfl) (fun xs H Q E h => ?_) (fun f cv A out s H xs Q E hr h => ?_)
  · obtain ⟨a, ys, ss, rfl, _⟩ := h
    rfl
  · obtain ⟨a, ys, ss, rfl, hS, hl, hV, hI, k⟩ := h
    have hr1 : Room 1 _ := hr.mono (by decide)
    have one : ∀ {i : Nat} {y : V} {H2 : Hp}, ys[i]? = some y → Same H H2 → ∃ s, StepV K H2 y s ∧ Item s.2 := by
      intro i y H2 hy s2
      obtain ⟨st, h1, h2⟩ := StepsV.at hV hy
      exact ⟨st, h2.same s2, hI st (List.mem_of_getElem? h1)⟩
    rcases hS with hS | hS
    · refine ⟨_, pss_cons (ps_if (pt_not (pt_val (pe_has GM hr1 (pa_cons (pv 0) pa_nil)))) pss_never pss_nil)
        (pss_one (ps_for PassesOwn.never rfl (pi_enum (by rfl) B.enu (pa_cons (pv 0) pa_nil)) (pg_tup (by rfl) (pgs_cons (pg_name (i := 1) scChk.nd rfl (.inl rfl)) (pgs_cons (pg_name (i := 2) scChk.nd rfl (.inl rfl)) pgs_nil)))
          (pss_one (ps_if (pt_not (pt_val (pe_has GS hr (pa_cons (pv 2) pa_nil)))) pss_never pss_nil)))), ?_⟩
      refine ⟨_, rfl, a, ys, rfl, .inl hS, hl, fun H1 s1 => ⟨true, rfl, iteF ?_⟩⟩
      refine ⟨_, rfl, a, ys, rfl, Same.seq s1 hS, for_it (walk_enum (K := K) (a := a) (xs := ys)) (fun i σ H2 => ∃ y1 y2, σ = [some (.ref a), y1, y2] ∧ Same H H2) ⟨none, none, rfl, s1⟩ (fun i σ H2 _ q => ?_) ?_ ?_⟩
      · obtain ⟨_, _, _, s2⟩ := q
        exact Same.seq s2 hS
      · rintro i x σ H2 H3 hi ⟨y1, y2, rfl, s2⟩ ⟨T, p, y, rfl, nT, rfl, hp, hy⟩
        refine ⟨T, _, rfl, .of upd_same, rfl, _, _, rfl, _, _, rfl, rfl, ?_⟩
        have s3 : Same H (upd H2 T (.tup [p, y])) := Same.free2 s2 (s2.free nT)
        obtain ⟨st, h1, h2⟩ := one hy s3
        exact ⟨_, rfl, y, st, rfl, h1, h2, fun H4 s4 => ⟨true, rfl, iteF ⟨_, _, rfl, s3.trans s4⟩⟩⟩
      · rintro σ H2 ⟨y1, y2, rfl, s2⟩
        exact k H2 s2
    · refine ⟨_, pss_cons (ps_if (pt_not (pt_val (pe_has GM hr1 (pa_cons (pv 0) pa_nil)))) pss_never pss_nil)
        (pss_one (ps_for PassesOwn.never rfl (pi_enumT (by rfl) B.enu (pa_cons (pv 0) pa_nil)) (pg_tup (by rfl) (pgs_cons (pg_name (i := 1) scChk.nd rfl (.inl rfl)) (pgs_cons (pg_name (i := 2) scChk.nd rfl (.inl rfl)) pgs_nil)))
          (pss_one (ps_if (pt_not (pt_val (pe_has GS hr (pa_cons (pv 2) pa_nil)))) pss_never pss_nil)))), ?_⟩
      refine ⟨_, rfl, a, ys, rfl, .inr hS, hl, fun H1 s1 => ⟨true, rfl, iteF ?_⟩⟩
      refine ⟨_, rfl, a, ys, rfl, Same.tup s1 hS, for_it (walk_enumT (K := K) (a := a) (xs := ys)) (fun i σ H2 => ∃ y1 y2, σ = [some (.ref a), y1, y2] ∧ Same H H2) ⟨none, none, rfl, s1⟩ (fun i σ H2 _ q => ?_) ?_ ?_⟩
      · obtain ⟨_, _, _, s2⟩ := q
        exact Same.tup s2 hS
      · rintro i x σ H2 H3 hi ⟨y1, y2, rfl, s2⟩ ⟨T, p, y, rfl, nT, rfl, hp, hy⟩
        refine ⟨T, _, rfl, .of upd_same, rfl, _, _, rfl, _, _, rfl, rfl, ?_⟩
        have s3 : Same H (upd H2 T (.tup [p, y])) := Same.free2 s2 (s2.free nT)
        obtain ⟨st, h1, h2⟩ := one hy s3
        exact ⟨_, rfl, y, st, rfl, h1, h2, fun H4 s4 => ⟨true, rfl, iteF ⟨_, _, rfl, s3.trans s4⟩⟩⟩
      · rintro σ H2 ⟨y1, y2, rfl, s2⟩
        exact k H2 s2
/-! ### check_word, is_limit, check_limit, check_run, is_too_high -/
def spChkWord (K : PySem.W.Frag) : Sp := fun xs H Q _ => ∃ (a : Addr) (zs : List Str), xs = [.ref a] ∧ SqT K H a (zs.map V.str) ∧ zs.length ≤ 5000 ∧ (∀ z ∈ zs, Item z) ∧ ∀ H', Same H H' → Q .non H'
theorem scCw : FnScope ["word"] ["word"] (defScope sChkWord) := ⟨rfl, rfl, rfl, by decide +kernel, rfl, by decide +kernel, by decide +kernel⟩
theorem has_chkWord (D : Def K mg "check_word" sChkWord) (G : Has P w K mg base "is_word" 2 ["value"] [] (spIsWord K)) : Has P w K mg base "check_word" 3 ["word"] [] (spChkWord K) := by
  refine has_of D scCw (fun _ _ _ _ _ _ us hl => match us, hl with | [_], _ => rfl) (fun xs H Q E h => ?_) (fun f cv A out s H xs Q E hr h => ?_)
  · obtain ⟨a, zs, rfl, _⟩ := h
    rfl
  · obtain ⟨a, zs, rfl, hT, hz, hI, k⟩ := h
    refine ⟨_, pss_one (ps_if (pt_not (pt_val (pe_has G hr (pa_cons (pv 0) pa_nil)))) pss_never pss_nil), ?_⟩
    exact ⟨_, rfl, a, zs, rfl, hT, hz, hI, fun H1 s1 => ⟨true, rfl, iteF (k H1 s1)⟩⟩
end
end SE
namespace SE
open PySem PySem.Spec PyProof.Rows L2
/-- a def with keyword-only defaults alone -/
def DefK (K : PySem.W.Frag) (mg : Str → Option Value) (x : Str) (st : Stmt) (kws : List (Str × V)) : Prop := ∃ f fd, Fun K x x st f fd ∧ FunD K x x (defArgs st) (defBody st) (defScope st) [] kws f fd ∧ mg x = some (.ref f)
end SE
namespace SE
open PySem PySem.Spec PyProof.Rows L2
/-! ### limits -/
abbrev Lim := Option Nat
def limV : Lim → V
  | none => .non
  | some n => .int (n : Int)
def high : Lim → Nat → Bool
  | none, _ => false
  | some m, h => decide (m < h)
def LimOk (l : Lim) : Prop := ∀ n, l = some n → n ≤ 1000
def stepL (l : Lim) (s : Stp) (zs : List Str) : Option (List Str) := if (s.1 && high l (zs.length + 1)) = true then none else stepM s zs
def goL (l : Lim) : Nat → List Stp → List Str → Option Nat × List Str
  | _, [], zs => (none, zs)
  | i, s :: ss, zs => match stepL l s zs with
    | none => (some i, zs)
    | some ws => goL l (i + 1) ss ws
def followL (l : Lim) (ss : List Stp) (zs : List Str) : Option Int × List Str := if high l zs.length = true then (some (-1), zs) else ((goL l 0 ss zs).1.map fun (i : Nat) => (i : Int), (goL l 0 ss zs).2)
def runL (l : Lim) (ss : List Stp) (zs : List Str) : Option (List Str) := match (followL l ss zs).1 with
  | none => some (followL l ss zs).2
  | some _ => none
def stagesG (l : Lim) : List Stp → List Str → List (List Str)
  | [], _ => []
  | s :: ss, zs => match stepL l s zs with
    | none => []
    | some ws => ws :: stagesG l ss ws
def stagesL (l : Lim) (ss : List Stp) (zs : List Str) : List (List Str) := if high l zs.length = true then [] else zs :: stagesG l ss zs
def idxV : Option Int → V
  | none => .non
  | some i => .int i
theorem stepL_sub {l : Lim} {s : Stp} {zs ws : List Str} (h : stepL l s zs = some ws) : stepM s zs = some ws := by
  unfold stepL at h
  split at h
  · cases h
  · exact h
section
variable {P : Program} {w : World} {K : PySem.W.Frag} {mg : Str → Option Value} {base : Heap}
/-! ### is_whole, is_limit, check_limit, check_run, is_too_high -/
def spWhole : Sp := fun xs H Q _ => ∃ n : Int, xs = [.int n] ∧ Q (.bl true) H
theorem scWhL : FnScope ["value"] ["value"] (defScope sIsWhole) := ⟨rfl, rfl, rfl, by decide +kernel, rfl, by decide +kernel, by decide +kernel⟩
theorem has_whole (D : Def K mg "is_whole" sIsWhole) (B : Blt mg) (mi : mg "int" = none) (mb : mg "bool" = none) : Has P w K mg base "is_whole" 1 ["value"] [] spWhole := by
  refine has_of D scWhL (fun _ _ _ _ _ _ us hl => match us, hl with | [_], _ => rfl) (fun xs H Q E h => ?_) (fun f cv A out s H xs Q E hr h => ?_)
  · obtain ⟨n, rfl, _⟩ := h
    rfl
  · obtain ⟨n, rfl, k⟩ := h
    refine ⟨_, pss_one (ps_ret (pe_and (pe_callB call_isi (by rfl) B.isi (by decide +kernel) (pa_cons (pv 0) (pa_cons (pe_bltn (v := .ty "int") (by rfl) mi (by decide +kernel) rfl) pa_nil)))
      (pe_one (pe_not (pe_callB call_isi (by rfl) B.isi (by decide +kernel) (pa_cons (pv 0) (pa_cons (pe_bltn (v := .ty "bool") (by rfl) mb (by decide +kernel) rfl) pa_nil))))))), ?_⟩
    refine ⟨_, rfl, _, .ty "int", .type "int", .type "int", true, rfl, .ty _, .base (.int n), kit_ty (by decide +kernel), true, rfl, iteT ?_⟩
    exact ⟨_, rfl, _, .ty "bool", .type "int", .type "bool", false, rfl, .ty _, .base (.int n), kit_ty (by decide +kernel), false, rfl, k⟩
def spBet : Sp := fun xs H Q _ => ∃ v lo hi : Int, xs = [.int v, .int lo, .int hi] ∧ lo ≤ v ∧ v ≤ hi ∧ Q (.bl true) H
theorem scBetL : FnScope ["value", "least", "most"] ["value", "least", "most"] (defScope sIsBetween) := ⟨rfl, rfl, rfl, by decide +kernel, rfl, by decide +kernel, by decide +kernel⟩
theorem has_bet (D : Def K mg "is_between" sIsBetween) (G : Has P w K mg base "is_whole" 1 ["value"] [] spWhole) : Has P w K mg base "is_between" 2 ["value", "least", "most"] [] spBet := by
  refine has_of D scBetL (fun _ _ _ _ _ _ us hl => match us, hl with | [_, _, _], _ => rfl) (fun xs H Q E h => ?_) (fun f cv A out s H xs Q E hr h => ?_)
  · obtain ⟨v, lo, hi, rfl, _⟩ := h
    rfl
  · obtain ⟨v, lo, hi, rfl, h1, h2, k⟩ := h
    refine ⟨_, pss_one (ps_ret (pe_and (pe_has G hr (pa_cons (pv 0) pa_nil)) (pe_one (pe_chain op_le op_le (pv 1) (pv 0) (pv 2))))), ?_⟩
    refine ⟨_, rfl, v, rfl, true, rfl, iteT ⟨_, rfl, _, rfl, lo, v, rfl, rfl, true, congrArg V.bl (decide_eq_true h1), iteT ⟨_, rfl, v, hi, rfl, rfl, ?_⟩⟩⟩
    show Q (V.bl (decide (v ≤ hi))) H
    rw [decide_eq_true h2]
    exact k
def spLim : Sp := fun xs H Q _ => ∃ l : Lim, xs = [limV l] ∧ LimOk l ∧ Q (.bl true) H
def spLim2 : Sp := fun xs H Q _ => ∃ l : Lim, xs = [limV l] ∧ LimOk l ∧ Q .non H
theorem scIlL : FnScope ["value"] ["value"] (defScope sIsLimit) := ⟨rfl, rfl, rfl, by decide +kernel, rfl, by decide +kernel, by decide +kernel⟩
theorem has_lim (D : Def K mg "is_limit" sIsLimit) (G : Has P w K mg base "is_between" 2 ["value", "least", "most"] [] spBet) (hM : ∃ t, mg "MOST_LIMIT" = some (.int 1000 t)) : Has P w K mg base "is_limit" 3 ["value"] [] spLim := by
  obtain ⟨tm, hM⟩ := hM
  refine has_of D scIlL (fun _ _ _ _ _ _ us hl => match us, hl with | [_], _ => rfl) (fun xs H Q E h => ?_) (fun f cv A out s H xs Q E hr h => ?_)
  · obtain ⟨l, rfl, _⟩ := h
    rfl
  · obtain ⟨l, rfl, hl, k⟩ := h
    refine ⟨_, pss_one (ps_ret (pe_or (pe_cmpR op_isN (pv 0) pe_non (nomark _)) (pe_one (pe_has G hr (pa_cons (pv 0) (pa_cons pe_int (pa_cons (pe_glob (v := .int 1000) rfl hM ⟨_, rfl⟩) pa_nil))))))), ?_⟩
    cases l with
    | none => exact ⟨_, rfl, rfl, true, rfl, iteT k⟩
    | some n =>
      have h1 := hl n rfl
      exact ⟨_, rfl, rfl, false, rfl, iteF ⟨_, rfl, (n : Int), 0, 1000, rfl, by omega, by omega, k⟩⟩
theorem scClL : FnScope ["limit"] ["limit"] (defScope sChkLimit) := ⟨rfl, rfl, rfl, by decide +kernel, rfl, by decide +kernel, by decide +kernel⟩
theorem has_chkLim (D : Def K mg "check_limit" sChkLimit) (G : Has P w K mg base "is_limit" 3 ["value"] [] spLim) : Has P w K mg base "check_limit" 4 ["limit"] [] spLim2 := by
  refine has_of D scClL (fun _ _ _ _ _ _ us hl => match us, hl with | [_], _ => rfl) (fun xs H Q E h => ?_) (fun f cv A out s H xs Q E hr h => ?_)
  · obtain ⟨l, rfl, _⟩ := h
    rfl
  · obtain ⟨l, rfl, hl, k⟩ := h
    refine ⟨_, pss_one (ps_if (pt_not (pt_val (pe_has G hr (pa_cons (pv 0) pa_nil)))) pss_never pss_nil), ?_⟩
    exact ⟨_, rfl, l, rfl, hl, true, rfl, iteF k⟩
/-- valid arguments of a run -/
structure Args3 (K : PySem.W.Frag) (H : Hp) (a q : Addr) (ys : List V) (ss : List Stp) (zs : List Str) : Prop where
  l : SqL K H a ys
  n : ys.length ≤ 1000
  v : StepsV K H ys ss
  i : ∀ s ∈ ss, Item s.2
  t : SqT K H q (zs.map V.str)
  m : zs.length ≤ 3000
  z : ∀ z ∈ zs, Item z
theorem Args3.same {H H' : Hp} {a q : Addr} {ys : List V} {ss : List Stp} {zs : List Str} (h : Args3 K H a q ys ss zs) (e : Same H H') : Args3 K H' a q ys ss zs := ⟨Same.seq e h.l, h.n, h.v.same e, h.i, Same.tup e h.t, h.m, h.z⟩
def spHighL : Sp := fun xs H Q _ => ∃ (n : Nat) (l : Lim), xs = [.int (n : Int), limV l] ∧ Q (.bl (high l n)) H
theorem scHiL : FnScope ["height", "limit"] ["height", "limit"] (defScope sTooHigh) := ⟨rfl, rfl, rfl, by decide +kernel, rfl, by decide +kernel, by decide +kernel⟩
theorem has_highL (D : Def K mg "is_too_high" sTooHigh) : Has P w K mg base "is_too_high" 1 ["height", "limit"] [] spHighL := by
  refine has_of D scHiL (fun _ _ _ _ _ _ us hl => match us, hl with | [_, _], _ => rfl) (fun xs H Q E h => ?_) (fun f cv A out s H xs Q E hr h => ?_)
  · obtain ⟨n, l, rfl, _⟩ := h
    rfl
  · obtain ⟨n, l, rfl, k⟩ := h
    refine ⟨_, pss_one (ps_ret (pe_and (pe_cmpR op_notN (pv 1) pe_non (nomark _)) (pe_one (pe_cmpR op_gt (pv 0) (pv 1) (nomark _))))), ?_⟩
    cases l with
    | none => exact ⟨_, rfl, rfl, false, rfl, iteF k⟩
    | some m =>
      refine ⟨_, rfl, rfl, true, rfl, iteT ⟨_, rfl, _, rfl, (n : Int), (m : Int), rfl, rfl, ?_⟩⟩
      have e : high (some m) n = decide ((m : Int) < (n : Int)) := by
        show decide (m < n) = _
        by_cases c : m < n
        · rw [decide_eq_true c, decide_eq_true (by omega)]
        · rw [decide_eq_false c, decide_eq_false (by omega)]
      rw [e] at k
      exact k
end
end SE
/-! (x,) * n for n up to 5000. -/
namespace SE
open PySem PySem.Spec PyProof.Rows L2
def rRepB (K : PySem.W.Frag) : R2 := fun x y H Q => ∃ (l : Addr) (k : Int) (v : V), x = .ref l ∧ y = .int k ∧ SqT K H l [v] ∧ 2 ≤ k ∧ k ≤ 5000 ∧ ∀ p, H p = none → Q (.ref p) (upd H p (.tup (List.replicate k.toNat v)))
theorem op_repB {X : Cx} : OpR X (binaryOp .Mult) (rRepB X.K) := by
  intro pins s σ H x y a u Q I rx ry h
  obtain ⟨l, k, v, rfl, rfl, hT, h1, h2, q⟩ := h
  cases rx
  obtain ⟨t, rfl⟩ := ry
  obtain ⟨its, r, ⟨⟨cls, dd, data, sl⟩, ho, hc, n, hd⟩, hs⟩ := I.tuple hT
  simp only at hc hd
  subst hc hd
  obtain ⟨w, rfl⟩ : ∃ w, its = [w] := by
    cases r with
    | cons r1 r2 =>
      cases r2
      exact ⟨_, rfl⟩
  have sz : (([w] : List Value).toArray.size : Int) * k = k := by
    show ((1 : Nat) : Int) * k = k
    omega
  have rep : ∀ {α : Type} (z : α), (List.replicate k.toNat [z]).flatten = List.replicate k.toNat z := fun z => List.flatten_replicate_singleton
  have big : k.toNat ≤ sizeLine := by
    rw [sizeLine_eq]
    omega
  refine wpAny_binaryOp_repeat_ref (T := "tuple") (U := "int") (by decide) ⟨_, ho, rfl⟩ (fun s2 => typeIs_int s2 k t) noFill_tuple_mul F.fills_int_mul F.slot_int_rmul repeat_tuple F.slot_int_index.lookup ?_
  refine call_meets F.slot_int_rmul (typeIs_int s k t) F.entry_int_rmul (F.args_int_rmul_2 _ _) (int_rmul_tuple k t l _ n dd sl) ⟨ho, rfl, ⟨_, ho, rfl⟩, ?_⟩
  refine call_meets F.slot_tuple_mul ⟨_, ho, rfl⟩ F.entry_tuple_mul (F.args_tuple_mul_2 _ _) (tuple_mulW l _ n dd sl k t ?_ ?_ ?_ ?_ ?_ ?_) ⟨ho, ?_⟩
  · rw [decide_eq_false (by omega), decide_eq_false (by omega)]
    rfl
  · show (false || k == 1) = false
    rw [Bool.false_or]
    exact beq_eq_false_iff_ne.mpr (by omega)
  · show (decide (k ≤ 0) || false) = false
    rw [Bool.or_false]
    exact decide_eq_false (by omega)
  · rw [sz]
    omega
  · rw [sz]
    unfold Builtin.Tuple.tupleTooMany
    rw [sizeLine_eq]
    exact decide_eq_false (by omega)
  · rw [size_rep, List.size_toArray, rep, List.length_replicate]
    exact big
  · rw [size_rep, rep]
    refine ⟨.ref s.heap.objs.size, _, I.laid (t' := s.toks) (o := .tup (List.replicate k.toNat v)) (fun b ob e => Heap.get?_push_of_some _ e) (Nat.le_refl _) ?_, rfl, q _ (I.hok.fresh (Nat.le_refl _))⟩
    refine ⟨by rw [List.length_replicate]; exact big, _, ?_, IsTup.new _ _⟩
    have z := r.rep k.toNat
    rw [rep, rep] at z
    exact z
end SE
/-! Tuples: t * n, t + u, t[a:b] whichever object comes out; len(set(t)) of texts. -/
namespace SE
open PySem PySem.Spec PyProof.Rows L2
section
variable {X : Cx}
theorem tmul_one (l : Addr) (w : Value) (n : Nat) (dd : Option Addr) (sl : Array (Option Value)) (u : Tok) :
    Meets (Builtin.«tuple.__mul__» ⟨[.ref l, .int 1 u], []⟩) (fun _ R s => s.heap.get? l = some { cls := .type "tuple", dict := dd, data := .seq #[w] n, slots := sl } ∧ R (.ok (.ret (Value.ref l))) s) :=
  .of_wp fun prog wd A R s h => by
    obtain ⟨hp, g, d, tk, os⟩ := s
    obtain ⟨hl, h⟩ := h
    have f1 := AutoSeq1.idx_int
    wp_walk using AutoSeq1.wpAny_loadPart' hl
    exact ⟨_, rfl, h⟩
theorem tmul_none (l : Addr) (w : Value) (n : Nat) (dd : Option Addr) (sl : Array (Option Value)) (k : Int) (u : Tok) (h0 : -1000000 ≤ k) (h1 : k ≤ 0) :
    Meets (Builtin.«tuple.__mul__» ⟨[.ref l, .int k u], []⟩) (fun _ R s => s.heap.get? l = some { cls := .type "tuple", dict := dd, data := .seq #[w] n, slots := sl } ∧
      R (.ok (.ret (Value.ref s.heap.objs.size))) { s with heap := s.heap.push { cls := .type "tuple", data := .seq #[] } }) :=
  .of_wp fun prog wd A R s h => by
    obtain ⟨hp, g, d, tk, os⟩ := s
    obtain ⟨hl, h⟩ := h
    have f1 := AutoSeq1.idx_int
    have c0 : (decide (k < -(2 ^ 63)) || decide (k ≥ 2 ^ 63)) = false := by
      rw [decide_eq_false (by omega), decide_eq_false (by omega)]
      rfl
    have c1 : ((#[w] : Array Value).isEmpty || k == 1) = false := by
      show (false || k == 1) = false
      rw [Bool.false_or]
      exact beq_eq_false_iff_ne.mpr (by omega)
    have c2 : (decide (k ≤ 0) || (#[w] : Array Value).isEmpty) = true := by
      rw [decide_eq_true h1]
      rfl
    wp_walk using AutoSeq1.wpAny_loadPart' hl
    repeat (first
      | (refine wpAny_ite_false (decide_eq_false (by rw [c0]; exact Bool.false_ne_true)) ?_; wp_walk using AutoSeq1.wpAny_loadPart' hl)
      | (refine wpAny_ite_false (decide_eq_false (by rw [c1]; exact Bool.false_ne_true)) ?_; wp_walk using AutoSeq1.wpAny_loadPart' hl)
      | (refine wpAny_ite_true (decide_eq_true (by rw [c2])) ?_; wp_walk using AutoSeq1.wpAny_loadPart' hl))
    exact ⟨_, rfl, h⟩
/-- (x,) * k, any k -/
def rRepS (K : PySem.W.Frag) : R2 := fun x y H Q => ∃ (l : Addr) (k : Int) (v : V), x = .ref l ∧ y = .int k ∧ SqT K H l [v] ∧ -1000000 ≤ k ∧ k ≤ 5000 ∧ ∀ (p : Addr) (H' : Hp), Same H H' → SqT K H' p (List.replicate k.toNat v) → Q (.ref p) H'
theorem op_repS : OpR X (binaryOp .Mult) (rRepS X.K) := by
  intro pins s σ H x y a u Q I rx ry h
  obtain ⟨l, k, v, rfl, rfl, hT, h1, h2, q⟩ := h
  by_cases c : 2 ≤ k
  · exact op_repB pins s σ H _ _ a u Q I rx ry ⟨l, k, v, rfl, rfl, hT, c, h2, fun p hp => q p _ (Same.new hp) (.of upd_same)⟩
  cases rx
  obtain ⟨t, rfl⟩ := ry
  obtain ⟨its, r, ⟨⟨cls, dd, data, sl⟩, ho, hc, n, hd⟩, hs⟩ := I.tuple hT
  simp only at hc hd
  subst hc hd
  obtain ⟨w, rfl⟩ : ∃ w, its = [w] := by
    cases r with
    | cons r1 r2 =>
      cases r2
      exact ⟨_, rfl⟩
  refine wpAny_binaryOp_repeat_ref (T := "tuple") (U := "int") (by decide) ⟨_, ho, rfl⟩ (fun s2 => typeIs_int s2 k t) noFill_tuple_mul F.fills_int_mul F.slot_int_rmul repeat_tuple F.slot_int_index.lookup ?_
  refine call_meets F.slot_int_rmul (typeIs_int s k t) F.entry_int_rmul (F.args_int_rmul_2 _ _) (int_rmul_tuple k t l _ n dd sl) ⟨ho, rfl, ⟨_, ho, rfl⟩, ?_⟩
  by_cases c1 : k = 1
  · subst c1
    refine call_meets F.slot_tuple_mul ⟨_, ho, rfl⟩ F.entry_tuple_mul (F.args_tuple_mul_2 _ _) (tmul_one l w n dd sl t) ⟨ho, ?_⟩
    exact ⟨.ref l, H, I, rfl, q l H (Same.refl H) hT⟩
  · have k0 : k ≤ 0 := by omega
    refine call_meets F.slot_tuple_mul ⟨_, ho, rfl⟩ F.entry_tuple_mul (F.args_tuple_mul_2 _ _) (tmul_none l w n dd sl k t h1 k0) ⟨ho, ?_⟩
    refine ⟨.ref s.heap.objs.size, _, I.laid (t' := s.toks) (o := .tup []) (fun b ob e => Heap.get?_push_of_some _ e) (Nat.le_refl _) ?_, rfl, q _ _ (Same.new (I.hok.fresh (Nat.le_refl _))) ?_⟩
    · exact ⟨Nat.zero_le _, [], .nil, IsTup.new _ _⟩
    · rw [show k.toNat = 0 by omega]
      exact .of upd_same
/-- t + u -/
def rCatS (K : PySem.W.Frag) : R2 := fun x y H Q => ∃ (a b : Addr) (xs ys : List V), x = .ref a ∧ y = .ref b ∧ SqT K H a xs ∧ SqT K H b ys ∧ xs.length + ys.length ≤ sizeLine ∧ ∀ (p : Addr) (H' : Hp), Same H H' → SqT K H' p (xs ++ ys) → Q (.ref p) H'
theorem op_catS : OpR X (binaryOp .Add) (rCatS X.K) := by
  intro pins s σ H x y v u Q I rx ry h
  obtain ⟨a, b, xs, ys, rfl, rfl, ha, hb, hz, q⟩ := h
  refine op_catA pins s σ H _ _ v u Q I rx ry ⟨a, b, xs, ys, rfl, rfl, ha, hb, hz, fun e => ?_, fun _ e => ?_, fun _ _ p hp => q p _ (Same.new hp) (.of upd_same)⟩
  · subst e
    exact q b H (Same.refl H) hb
  · subst e
    exact q a H (Same.refl H) (by rw [List.append_nil]; exact ha)
/-- t[lo:hi] -/
def rSlS (K : PySem.W.Frag) : V → Option Int → Option Int → Hp → VK → Prop := fun x lo hi H Q => ∃ (a : Addr) (xs : List V), x = .ref a ∧ SqT K H a xs ∧ ∀ (p : Addr) (H' : Hp), Same H H' → SqT K H' p (cutV xs lo hi) → Q (.ref p) H'
theorem sl_tupS : SlR X (rSlS X.K) := by
  intro pins s σ H x v vl vu lo hi sl Q I rx hs pl pu h
  obtain ⟨a, xs, rfl, hx, q⟩ := h
  refine sl_tupA pins s σ H _ v vl vu lo hi sl Q I rx hs pl pu ⟨a, xs, rfl, hx, fun e => q a H (Same.refl H) ?_, fun _ p hp => q p _ (Same.new hp) (.of upd_same)⟩
  have e2 : cutV xs lo hi = xs := by
    unfold cutV
    rw [e.1, e.2, List.drop_zero, Nat.sub_zero, List.take_length]
  rw [e2]
  exact hx
end
end SE
/-! A for in a generator's body; a generator def called with keywords. -/
namespace SE
open PySem PySem.Spec PyProof.Rows L2 GenW
section
variable {X : Cx}
def tGFor (wi : TI) (g : TG) (tb : TGn) : TGn := fun D ys σ H => wi σ H fun J H1 => ∃ W : Nat → Nat → List V → L2.St → Hp → Prop, (∃ m, W 0 m ys σ H1) ∧ ∀ i m ys σ H, W i m ys σ H →
  (J.stop i H ∧ D.nx ys σ H) ∨ (J.go i H ∧ ∃ N : List V → L2.St → Hp → Prop, (∀ zs σ2 H2, N zs σ2 H2 → ∃ j, j < m ∧ W (i + 1) j zs σ2 H2) ∧ ∀ x H2, J.yld i H x H2 → g x σ H2 fun σ3 H3 => tb { D with nx := N, ct := N, bk := D.nx } ys σ3 H3)
theorem gs_for {tg iter : Expr} {body : List Stmt} {pos : Pos} {wi : TI} {g : TG} {tb : TGn} (hp : PassesOwn (model X.prog X.w) X.A X.env X.xe) (hc : X.calm = true) (hi : PI X tg iter wi) (hg : PG X tg g) (hb : GSs X body tb)
    (hs : ∀ x, foldedSetIterable iter X.env x = pure x := by intro _; rfl) : GS X (.For tg iter body [] pos) (tGFor wi g tb) := by
  constructor
  intro A S ip R n ys s₀ c fs K J gd lv s σ H D gc hn k hI ht
  obtain ⟨acc, cc, r, I⟩ := hI
  rw [exec_For]
  refine seg_bind_wrap (wpAny_standAt ?_)
  refine seg_bind_wrap ?_
  rw [gc.over]
  refine wpAny_mono (hi.run _ s σ H _ I ht) (fun v s1 h1 => ?_) fun x s2 hx => k.exc n s₀ x s2 hx
  refine seg_bind_wrap (wpAny_of_eq (hs v) ?_)
  refine seg_bind_wrap (wpAny_standAt ?_)
  refine seg_bind_wrap (wpAny_holding ?_)
  rw [gc.over]
  refine wpAny_mono h1 (fun itv s2 h2 => ?_) fun x s3 hx => k.exc n s₀ x s3 hx
  obtain ⟨it, fp, tn, Jt, H2, e2, I2, T, st2, f2, W, ⟨m0, w0⟩, turn⟩ := h2
  subst e2
  refine seg_call fun p => ?_
  have gl := fun (kk : Result → Sem PySem.Fin) => gc_loop (X := X) (k := kk) (c' := .forLoop tg (.ref it) body [] X.env) (l := lv []) (kp := []) (p := p) gc rfl rfl
  have apart : ∀ b ∈ fp, b ≠ S := fun b hb z => by
    obtain ⟨_, _, _, _, _, q⟩ := f2 b hb
    exact q (S, lstObj acc cc) (List.mem_append_right _ List.mem_cons_self) z.symm
  have fpok : ∀ {acc2 : Array Value} {c2 : Nat} {H3 : Hp}, (∀ b ∈ fp, H3 b = none) → ∀ b ∈ fp, FpOk X ((S, lstObj acc2 c2) :: ip) H3 b := by
    intro acc2 c2 H3 hn3 b hb
    obtain ⟨_, a2, a3, a4, a5, a6⟩ := f2 b hb
    refine ⟨hn3 b hb, a2, a3, a4, a5, fun q hq => ?_⟩
    rcases List.mem_append.mp hq with z | z
    · exact a6 q (List.mem_append_left _ z)
    · rcases List.mem_cons.mp z with y | y
      · rw [y]
        exact Ne.symm (apart b hb)
      · exact a6 q (List.mem_append_right _ (List.mem_cons_of_mem _ y))
  have loop : ∀ (m n i : Nat) (ys : List V) (s₀ s : Shared) (σ : L2.St) (H : Hp), n + ys.length = sizeLine → W i m ys σ H → GI X S ip ys σ H s → tn i s.heap → (∀ b ∈ fp, H b = none) →
      Seg (model X.prog X.w) A R (GY X S) n s₀ (.forLoop tg (.ref it) body [] X.env) ((model X.prog X.w).den (.forLoop tg (.ref it) body [] X.env))
        (.ret (fun r => ((match r with | .ok f => (.pure f : Sem Flow) | .error e => .raise e).onRaise (cameBack X.env)).wrap K J gd lv) none (gd false) (lv []) c p [] :: fs) s := by
    intro m
    induction m using Nat.strongRecOn with
    | ind m ih =>
      intro n i ys s₀ s σ H hn w hI st fr
      have ee : ∀ (n : Nat) (s₀ : Shared) (x : Value) (s4 : Shared), X.xe x s4 → Seg (model X.prog X.w) A R (GY X S) n s₀ (.forLoop tg (.ref it) body [] X.env)
          ((do noteFrame x X.env; theTreesLotGoes x : Sem Unit).bind fun _ => .raise x)
          (.ret (fun r => ((match r with | .ok f => (.pure f : Sem Flow) | .error e => .raise e).onRaise (cameBack X.env)).wrap K J gd lv) none (gd false) (lv []) c p [] :: fs) s4 := fun n s₀ x s4 hx => by
        rw [Sem.bind_eq_wrap]
        refine seg_wrap ?_
        rw [(gl _).over]
        refine wpAny_bind (wpAny_mono (hp x s4 hx) (fun _ s5 hcb => wpAny_theTreesLotGoes ?_) fun y s5 hcb => ?_)
        · exact seg_leaf (.error x) (seg_cameBack gc k hcb)
        · exact seg_leaf (.error y) (seg_cameBack gc k hcb)
      show Seg _ A R _ n s₀ _ ((forTurn tg (.ref it) body [] X.env).onRaise (fun x => do noteFrame x X.env; theTreesLotGoes x)) _ s
      unfold forTurn
      rw [Sem.onRaise_eq_wrap]
      refine seg_bind_wrap (wpAny_standAt ?_)
      refine seg_bind_wrap ?_
      rw [(gl _).over]
      obtain ⟨acc3, c3, r3, I3⟩ := hI
      rcases turn i m ys σ H w with ⟨stop, qn⟩ | ⟨go, N, hN, step⟩
      · refine wpAny_onRaise (wpAny_mono (T.done X rfl rfl rfl hc i _ s σ H X.xe I3 (fpok fr) st stop) (fun rr s4 hh => ?_) fun x s4 hx => wpAny_standAt (ee n s₀ x s4 hx))
        obtain ⟨hr, I4⟩ := hh
        subst hr
        refine seg_again rfl ?_
        show Seg _ A R _ n s₀ _ (do return Fin.done (← (execs [] X.env).onRaise (fun x => do noteFrame x X.env; theTreesLotGoes x))) _ s4
        exact seg_leaf (.ok .next) (k.ok n ys s₀ s4 .next hn ⟨σ, H, ⟨acc3, c3, r3, I4⟩, qn⟩)
      · refine wpAny_onRaise (wpAny_mono (T.item X rfl rfl rfl hc i _ s σ H X.xe I3 (fpok fr) st go) (fun rr s4 hh => ?_) fun x s4 hx => wpAny_standAt (ee n s₀ x s4 hx))
        obtain ⟨u, hr, h4⟩ := hh
        subst hr
        refine seg_bind_wrap ?_
        rw [(gl _).over]
        refine wpAny_mono h4 (fun _ s5 hh => ?_) fun x s5 hx => ee n s₀ x s5 hx
        obtain ⟨x, H5, I5, r5, y5, st5, fr5⟩ := hh
        have I6 := I5.pinned (fpok fr5) (T.obj _ _ st5)
        refine seg_bind_wrap ?_
        rw [(gl _).over]
        refine wpAny_mono (hg.run _ s5 σ H5 x u _ I6 r5 (step x H5 y5)) (fun _ s6 hh => ?_) fun x s6 hx => ee n s₀ x s6 hx
        obtain ⟨σ6, H6, I7, q6⟩ := hh
        have gb : GC X S (ip ++ pinsAt fp s5.heap) A (.forLoop tg (.ref it) body [] X.env) (.ret (fun r => ((match r with | .ok f => (.pure f : Sem Flow) | .error e => .raise e).onRaise (cameBack X.env)).wrap K J gd lv) none (gd false) (lv []) c p [] :: fs) id := by
          have q := gl (fun r => ((match r with | .ok f => (.pure f : Sem Flow) | .error e => .raise e).onRaise (cameBack X.env)).wrap K J gd lv)
          refine ⟨q.pn, fun z hz => ?_, q.apart, q.over, q.split, q.guard, q.gd⟩
          rcases List.mem_append.mp hz with y | y
          · exact q.ip z y
          · exact apart z.1 (of_pinsAt y).1
        rw [Sem.bind_eq_wrap', Sem.wrap_wrap]
        refine hb.run A S (ip ++ pinsAt fp s5.heap) R n ys s₀ _ _ _ _ id id s6 σ6 H6 { D with nx := N, ct := N, bk := D.nx } gb hn ⟨fun n2 zs s7 s8 f hn2 hs8 => ?_, fun n2 s7 x s8 hx => ee n2 s7 x s8 hx⟩ ⟨acc3, c3, r3, I7⟩ q6
        have again : ∀ {σ8 : L2.St} {H8 : Hp}, GI X S (ip ++ pinsAt fp s5.heap) zs σ8 H8 s8 → N zs σ8 H8 → Seg (model X.prog X.w) A R (GY X S) n2 s7 (.forLoop tg (.ref it) body [] X.env) ((model X.prog X.w).den (.forLoop tg (.ref it) body [] X.env))
            (.ret (fun r => ((match r with | .ok f => (.pure f : Sem Flow) | .error e => .raise e).onRaise (cameBack X.env)).wrap K J gd lv) none (gd false) (lv []) c p [] :: fs) s8 := by
          intro σ8 H8 G8 n8
          obtain ⟨j, hj, w8⟩ := hN zs σ8 H8 n8
          obtain ⟨acc8, c8, r8, I8⟩ := G8
          have pin8 : ∀ b ∈ fp, ∀ o, s5.heap.get? b = some o → s8.heap.get? b = some o ∧ H8 b = none := fun b hb o e => by
            have q := I8.pin (b, o) (List.mem_append_right _ (List.mem_cons_of_mem _ (List.mem_append_right _ (mem_pinsAt hb e))))
            exact ⟨q.1, q.2.1⟩
          refine ih j hj n2 (i + 1) zs s7 s8 σ8 H8 hn2 w8 ⟨acc8, c8, r8, I8.pins_of fun q hq => I8.pin q (List.mem_append_right _ ?_)⟩ (T.keep _ _ _ st5 fun b hb o e => (pin8 b hb o e).1) fun b hb => ?_
          · rcases List.mem_cons.mp hq with y | y
            · rw [y]
              exact List.mem_cons_self
            · exact List.mem_cons_of_mem _ (List.mem_append_left _ y)
          · obtain ⟨o, e, _⟩ := T.obj _ _ st5 b hb
            exact (pin8 b hb o e).2
        have thin : ∀ {σ8 : L2.St} {H8 : Hp}, GI X S (ip ++ pinsAt fp s5.heap) zs σ8 H8 s8 → GI X S ip zs σ8 H8 s8 := by
          intro σ8 H8 G8
          obtain ⟨acc8, c8, r8, I8⟩ := G8
          refine ⟨acc8, c8, r8, I8.pins_of fun q hq => I8.pin q (List.mem_append_right _ ?_)⟩
          rcases List.mem_cons.mp hq with y | y
          · rw [y]
            exact List.mem_cons_self
          · exact List.mem_cons_of_mem _ (List.mem_append_left _ y)
        cases f with
        | next =>
          obtain ⟨σ8, H8, G8, n8⟩ := hs8
          exact seg_again rfl (again G8 n8)
        | cont =>
          obtain ⟨σ8, H8, G8, n8⟩ := hs8
          exact seg_again rfl (again G8 n8)
        | brk =>
          obtain ⟨σ8, H8, G8, n8⟩ := hs8
          exact seg_leaf (.ok .next) (k.ok n2 zs s7 s8 .next hn2 ⟨σ8, H8, thin G8, n8⟩)
        | ret v =>
          obtain ⟨x8, σ8, H8, G8, r8, n8⟩ := hs8
          exact seg_leaf (.ok (.ret v)) (k.ok n2 zs s7 s8 (.ret v) hn2 ⟨x8, σ8, H8, thin G8, r8, n8⟩)
  exact loop m0 n 0 ys s₀ s2 σ H2 hn w0 ⟨acc, cc, r, I2⟩ st2 fun b hb => (f2 b hb).1
end
end SE
/-! Calls by keywords. -/
namespace SE
open PySem PySem.Spec PyProof.Rows L2 GenW
section
variable {K : PySem.W.Frag} {x qual : Str} {params : Arguments} {body : List Stmt} {scope : Scope} {kws : List (Str × V)} {f : Addr} {fd : FuncData} {ps : List Str}
/-- keyword-only defaults alone; ms: those that lack -/
theorem kb_some (F : FunD K x qual params body scope [] kws f fd) (n : Nat) (ks : List Str) (ms : List (Str × V)) (g : {α : Type} → List α → List α → List α → List α) (hk : kws ≠ []) (hms : ∀ q ∈ ms, q ∈ kws)
    (hrel : ∀ {vs mz zs : List V} {us mv ws : List Value}, Vals vs us → Vals mz mv → Vals zs ws → Vals (g vs mz zs) (g us mv ws))
    (h : ∀ (D : Addr) (doc pm : Value) (an : Option Addr) (cv ct : Value) (us mv ws : List Value), us.length = n → mv.length = ms.length → ws.length = ks.length →
      KwChain D ((ms.map (·.1)).zip mv) (bindArgs (PySem.W.fnOf x qual params body scope .none (.ref D) doc pm an cv ct) ⟨us, ks.zip ws⟩) (ps.zip (g us mv ws))) :
    ∃ mv : List Value, KBn K fd ps n ks (fun us ws => g us mv ws) (fun vs zs => g vs (ms.map (·.2)) zs) := by
  obtain ⟨oc, od, dV, kV, doc, pm, an, cv, ct, osl, rfl, look, hc, hD, hK⟩ := F.ex
  rcases hD with ⟨_, rfl⟩ | ⟨e, _⟩
  · rcases hK with e | ⟨D, rfl, hq⟩
    · exact absurd e hk
    · obtain ⟨mv, hl, rk, hks⟩ := kwd_vals (ms := ms) fun q hm => hq q (hms q hm)
      exact ⟨mv, fun s us ws X l1 l2 => BindsTo.of_looks fun M => KwChain.looks X hks (h D doc pm an cv ct us mv ws l1 hl l2), fun r1 r2 => hrel r1 rk r2⟩
  · exact absurd rfl e
theorem kb_all {st : Stmt} (F : Fun K x qual st f fd) (n : Nat) (ks : List Str) (g : {α : Type} → List α → List α → List α)
    (hrel : ∀ {vs zs : List V} {us ws : List Value}, Vals vs us → Vals zs ws → Vals (g vs zs) (g us ws))
    (h : ∀ (kV doc pm : Value) (an : Option Addr) (cv ct : Value) (us ws : List Value), us.length = n → ws.length = ks.length → bindArgs (PySem.W.fnOf x qual (defArgs st) (defBody st) (defScope st) .none kV doc pm an cv ct) ⟨us, ks.zip ws⟩ = pure (ps.zip (g us ws))) :
    KBn K fd ps n ks (fun us ws => g us ws) (fun vs zs => g vs zs) := by
  obtain ⟨oc, od, kV, doc, pm, an, cv, ct, osl, rfl, look, hc⟩ := F.ex
  exact ⟨fun s us ws X l1 l2 => .of_eq (h kV doc pm an cv ct us ws l1 l2), fun r1 r2 => hrel r1 r2⟩
end
section
variable {X : Cx} {k n : Nat} {f : Addr} {fd : FuncData} {ps ks : List Str} {sp : Sp} {E : XK} {x : Str} {p pos : Pos} {e : Expr} {es : List Expr} {kws : List Keyword} {t tk : TA} {g : List Value → List Value → List Value} {gV : List V → List V → List V}
/-- f(k = v, ..) -/
theorem pe_kw0 (F : FnOk X.prog X.w X.K X.mg X.base CX0 k f fd ps sp) (hr : Room k X.A) (hg : Gl X x) (hm : X.mg x = some (.ref f)) (hk : PySem.W.keepIn X.K (.ref f) = true) (hb : KBn X.K fd ps 0 ks g gV)
    (hkw : PK X kws tk) (hall : (backToKw pos (keywordEach kws X.env)).all (·.1.isSome) = true := by rfl) (hks : (backToKw pos (keywordEach kws X.env)).filterMap (·.1) = ks := by rfl)
    (hdb : (x == ("__debug__" : Str)) = false := by decide) (hpl : ((backTo pos (starEach [] X.env)).any (·.1) || (backToKw pos (keywordEach kws X.env)).any (·.1.isNone)) = false := by rfl) :
    PE X (.Call (.Name x p) [] kws pos) (tCallN 0 ks.length sp gV E0 tNil tk) := by
  constructor
  intro pins s σ H Q I h
  apply wpAny_Call_Name_kw
  apply ld_glob I hg hm _ hdb
  refine PySem.W.callWith_KW0 (h₀ := X.base) I.ok.mod.kin hk hall (thn (hkw.run pos pins s σ H _ I h) fun ws s2 hh => ?_) hpl
  obtain ⟨zs, H2, I2, rz, l1, l2, q2⟩ := hh
  refine ⟨I2.kIn, ?_⟩
  rw [hks]
  exact run_fnN F hr hb pass0 I2 .nil rz l1 l2 q2
/-! ### generators -/
variable {sg : SpG}
theorem run_gkw {pins : List (Addr × Obj)} {σ : L2.St} {H : Hp} {s : Shared} {us ws : List Value} {vs zs : List V} {cont : List V → Hp → Prop} {E1 : Value → Shared → Prop} (F : GFn X.prog X.w X.K X.mg X.base k f fd ps sg) (hr : Room k X.A) (hb : KBn X.K fd ps n ks g gV)
    (I : Inv X pins σ H s) (r : Vals vs us) (rz : Vals zs ws) (l1 : vs.length = n) (l2 : zs.length = ks.length) (h : sg (gV vs zs) H cont E) :
    wpAny (model X.prog X.w) X.A (call (.ref f) us (ks.zip ws)) (fun u s2 => ∃ H1 sc ex, Inv X pins σ H1 sc ∧ ExOk X pins ex ∧ GMade X.prog X.w k X.stack H1 sc ex cont E u s2) E1 s := by
  have r2 := hb.rel r rz
  refine wpAny_call (codeAny_mono (F.run X.A X.stack s H ⟨us, ks.zip ws⟩ (g us ws) (gV vs zs) cont E hr I.env0 (hb.to s us ws I.kIn (r.length.symm.trans l1) (rz.length.symm.trans l2)) r2 h) fun rr s2 hq => ?_)
  cases rr with
  | error _ => exact hq.elim
  | ok fl =>
    cases fl with
    | ret u => exact ⟨H, s, [], I, .nil, hq⟩
    | next => exact hq.elim
    | brk => exact hq.elim
    | cont => exact hq.elim
def tGenN (n m : Nat) (sg : SpG) (gV : List V → List V → List V) (E : XK) (t tk : TA) : TGen := fun σ H cont => t σ H fun vs H1 => tk σ H1 fun zs H2 => vs.length = n ∧ zs.length = m ∧ sg (gV vs zs) H2 cont E
theorem pgen_kw (F : GFn X.prog X.w X.K X.mg X.base k f fd ps sg) (hr : Room k X.A) (hg : Gl X x) (hm : X.mg x = some (.ref f)) (hk : PySem.W.keepIn X.K (.ref f) = true) (hb : KBn X.K fd ps n ks g gV)
    (ha : PA X (e :: es) t) (hkw : PK X kws tk) (hall : (backToKw pos (keywordEach kws X.env)).all (·.1.isSome) = true := by rfl) (hks : (backToKw pos (keywordEach kws X.env)).filterMap (·.1) = ks := by rfl)
    (hdb : (x == ("__debug__" : Str)) = false := by decide) (he : starEach (e :: es) X.env = (false, eval e X.env) :: starEach es X.env := by rfl)
    (hpl : ((backTo pos (starEach (e :: es) X.env)).any (·.1) || (backToKw pos (keywordEach kws X.env)).any (·.1.isNone)) = false := by rfl) :
    PGen X k (.Call (.Name x p) (e :: es) kws pos) (tGenN n ks.length sg gV E t tk) E := by
  constructor
  intro pins s σ H cont I h
  apply wpAny_Call_Name_kw
  apply ld_glob I hg hm _ hdb
  refine PySem.W.callWith_KW (h₀ := X.base) I.ok.mod.kin hk hall (thn (ha.run pos pins s σ H _ I h) fun us s1 hh => ?_) hpl he
  obtain ⟨vs, H1, I1, r, q⟩ := hh
  refine thn (hkw.run pos pins s1 σ H1 _ I1 q) fun ws s2 hh => ?_
  obtain ⟨zs, H2, I2, rz, l1, l2, q2⟩ := hh
  refine ⟨I2.kIn, ?_⟩
  rw [hks]
  exact run_gkw F hr hb I2 r rz l1 l2 q2
theorem pgen_kw0 (F : GFn X.prog X.w X.K X.mg X.base k f fd ps sg) (hr : Room k X.A) (hg : Gl X x) (hm : X.mg x = some (.ref f)) (hk : PySem.W.keepIn X.K (.ref f) = true) (hb : KBn X.K fd ps 0 ks g gV)
    (hkw : PK X kws tk) (hall : (backToKw pos (keywordEach kws X.env)).all (·.1.isSome) = true := by rfl) (hks : (backToKw pos (keywordEach kws X.env)).filterMap (·.1) = ks := by rfl)
    (hdb : (x == ("__debug__" : Str)) = false := by decide) (hpl : ((backTo pos (starEach [] X.env)).any (·.1) || (backToKw pos (keywordEach kws X.env)).any (·.1.isNone)) = false := by rfl) :
    PGen X k (.Call (.Name x p) [] kws pos) (tGenN 0 ks.length sg gV E tNil tk) E := by
  constructor
  intro pins s σ H cont I h
  apply wpAny_Call_Name_kw
  apply ld_glob I hg hm _ hdb
  refine PySem.W.callWith_KW0 (h₀ := X.base) I.ok.mod.kin hk hall (thn (hkw.run pos pins s σ H _ I h) fun ws s2 hh => ?_) hpl
  obtain ⟨zs, H2, I2, rz, l1, l2, q2⟩ := hh
  refine ⟨I2.kIn, ?_⟩
  rw [hks]
  exact run_gkw F hr hb I2 .nil rz l1 l2 q2
/-- nothing is raised by a generator that raises nothing -/
theorem pass_gen : Passes (CX X.prog X.w) X E0 := by
  intro pins σ H s e s2 I h
  obtain ⟨a, B, H2, cls, d, _, _, _, _, _, _, _, q⟩ := h
  exact q.elim
theorem nostop0 {K : PySem.W.Frag} : NoStop K E0 := fun _ _ _ h => h.elim
end
end SE
namespace SE
open PySem PySem.Spec PyProof.Rows L2
/-! ### rules: a class held by a local name, called; a classmethod called with nothing -/
section
variable {X : Cx} {CX : CXT} {k i : Nat} {f C p g : Addr} {mc : Value} {fd : FuncData} {ps : List Str} {sp : Sp} {dvs : List V} {ds : List Value} {E : XK} {x m : Str} {pn pos apos : Pos} {o e : Expr} {es : List Expr} {ta : TE} {t : TA} {pl : Sem Bool}
def tMakeL (i : Nat) (C : Addr) (sp : Sp) (dvs : List V) (E : XK) (t : TA) : TE := fun σ H Q => σ[i]? = some (some (.ref C)) ∧ tMake C sp dvs E t σ H Q
theorem pe_makeL (M : Mk X.K C f) (F : FnOk X.prog X.w X.K X.mg X.base CX k f fd ps sp) (hr : Room (k + 1) X.A) (hN : X.N[i]? = some x) (hv : Vis X.env.scope x) (hb : Binds X.K fd ps ds) (hd : Vals dvs ds) (hx : Passes CX X E)
    (ha : PA X (e :: es) t) (hdb : (x == ("__debug__" : Str)) = false := by decide) (hcd : (x == ("__classdict__" : Str)) = false := by decide)
    (he : starEach (e :: es) X.env = (false, eval e X.env) :: starEach es X.env := by rfl) (hpl : (backTo pos (starEach es X.env)).any (·.1) = false := by rfl) :
    PE X (.Call (.Name x pn) (e :: es) [] pos) (tMakeL i C sp dvs E t) := by
  constructor
  intro pins s σ H Q I h
  obtain ⟨hs, ht⟩ := h
  refine wpAny_Call_Name_kw (thn ((pe_var (pos := pn) hN hv hdb hcd).run pins s σ H (fun v H1 => v = .ref C ∧ H1 = H) I ⟨.ref C, hs, rfl, rfl⟩) fun u s1 hh => ?_)
  obtain ⟨v, H1, I1, r1, rfl, rfl⟩ := hh
  cases r1
  refine PySem.W.callWith_K (h₀ := X.base) I.ok.mod.kin M.kp (thn (ha.run pos pins s1 σ _ _ I1 ht) fun us s2 hh => ?_) he hpl
  obtain ⟨vs, H2, I2, r, q⟩ := hh
  exact ⟨I2.kIn, run_make M F hr hb hd hx I2 r q⟩
/-- C.m() -/
def tCMeth0 (C : Addr) (sp : Sp) (E : XK) (ta : TE) : TE := fun σ H Q => ta σ H fun x H1 => x = .ref C ∧ sp [.ref C] H1 Q E
theorem pe_cmeth0 (he : PE X o ta) (r : ClX.CRead X.K C mc) (c : ClX.CMet X.K C mc m p g) (F : FnR X.prog X.w X.K X.mg X.base CX k g sp) (hr : Room k X.A) (hx : Passes CX X E)
    (ht : eval (.Call (.Attribute o m apos) [] [] pos) X.env = (do
      let v ← eval o X.env
      standAt apos.atName
      let (f, first) ← holding [v] (getMethod v m pl)
      callWith pos f first (backTo pos (starEach [] X.env)) (backToKw pos (keywordEach [] X.env))) := by rfl) :
    PE X (.Call (.Attribute o m apos) [] [] pos) (tCMeth0 C sp E ta) := by
  constructor
  intro pins s σ H Q I h
  refine PySem.W.methodCall_KW (pl := pl) (thn (he.run pins s σ H _ I h) fun u s1 hh => ?_) ht
  obtain ⟨v, H1, I1, rx, ex, q⟩ := hh
  subst ex
  obtain rfl : u = Value.ref C := rx
  refine ClX.getmethcm_ok I1 r c fun s2 I2 => ?_
  exact PySem.W.callWith_M0 ⟨ClX.pin_at I2, I2.kIn⟩ c.fi (ClX.run_cm (us := []) (vs := []) F hr hx I2 .nil q)
end
end SE
namespace SE
open PySem PySem.Spec PyProof.Rows L2
/-! ### the class Effect -/
abbrev sInit : Stmt := inClass sEffect 0
abbrev sNever : Stmt := inClass sEffect 2
abbrev sPops : Stmt := inClass sEffect 4
abbrev sPushes : Stmt := inClass sEffect 5
abbrev sPeak : Stmt := inClass sEffect 6
abbrev sChange : Stmt := inClass sEffect 7
abbrev sIsNever : Stmt := inClass sEffect 8
def eF (a b c : V) : List (Str × V) := [("needs", a), ("leaves", b), ("highest", c)]
theorem eF_new (a b c : V) : putF "highest" c (putF "leaves" b (putF "needs" a [])) = eF a b c := by
  have h1 : ¬ (("needs" : Str) = "leaves") := by decide +kernel
  have h2 : ¬ (("needs" : Str) = "highest") := by decide +kernel
  have h3 : ¬ (("leaves" : Str) = "highest") := by decide +kernel
  simp only [putF, h1, h2, h3, if_false]
  rfl
theorem eF_two (a b : V) : (putF "leaves" b (putF "needs" a [])).length < 1000 := by
  have h1 : ¬ (("needs" : Str) = "leaves") := by decide +kernel
  simp only [putF, h1, if_false]
  show 2 < 1000
  decide
theorem eF_n (x a b c : V) : putF "needs" x (eF a b c) = eF x b c := by
  unfold eF
  simp only [putF, if_true]
theorem eF_l (x a b c : V) : putF "leaves" x (eF a b c) = eF a x c := by
  have h1 : ¬ (("needs" : Str) = "leaves") := by decide +kernel
  unfold eF
  simp only [putF, h1, if_false, if_true]
theorem eF_h (x a b c : V) : putF "highest" x (eF a b c) = eF a b x := by
  have h2 : ¬ (("needs" : Str) = "highest") := by decide +kernel
  have h3 : ¬ (("leaves" : Str) = "highest") := by decide +kernel
  unfold eF
  simp only [putF, h2, h3, if_false, if_true]
theorem eF_needs (a b c : V) : (eF a b c).lookup ("needs" : Str) = some a := by
  rw [← eF_new, lookup_putF, if_neg (by decide +kernel), lookup_putF, if_neg (by decide +kernel), lookup_putF, if_pos rfl]
theorem eF_leaves (a b c : V) : (eF a b c).lookup ("leaves" : Str) = some b := by
  rw [← eF_new, lookup_putF, if_neg (by decide +kernel), lookup_putF, if_pos rfl]
theorem eF_high (a b c : V) : (eF a b c).lookup ("highest" : Str) = some c := by
  rw [← eF_new, lookup_putF, if_pos rfl]
/-- an effect that is not never -/
structure EffAt (K : PySem.W.Frag) (C : Addr) (H : Hp) (e : Addr) (xs ys : List Str) (p : Int) : Prop where
  ex : ∃ dx u v, H e = some (.ins C dx (eF (.ref u) (.ref v) (.int p))) ∧ SqT K H u (xs.map V.str) ∧ SqT K H v (ys.map V.str)
theorem EffAt.same {K : PySem.W.Frag} {C : Addr} {H H' : Hp} {e : Addr} {xs ys : List Str} {p : Int} (h : EffAt K C H e xs ys p) (s : Same H H') : EffAt K C H' e xs ys p := by
  obtain ⟨dx, u, v, h1, h2, h3⟩ := h.ex
  exact ⟨dx, u, v, s _ _ h1, Same.tup s h2, Same.tup s h3⟩
structure NevAt (C : Addr) (H : Hp) (e : Addr) : Prop where
  ex : ∃ dx, H e = some (.ins C dx (eF .non .non .non))
theorem NevAt.same {C : Addr} {H H' : Hp} {e : Addr} (h : NevAt C H e) (s : Same H H') : NevAt C H' e := by
  obtain ⟨dx, h1⟩ := h.ex
  exact ⟨dx, s _ _ h1⟩
/-- the least peak -/
def lp (xs ys : List Str) : Int := if (ys.length : Int) - (xs.length : Int) > 0 then (ys.length : Int) - (xs.length : Int) else 0
def pkV : Option Int → V
  | none => .non
  | some p => .int p
structure EC (K : PySem.W.Frag) (mg : Str → Option Value) (C : Addr) : Prop where
  cl : Cls K C
  nN : NoAttr K C "needs"
  nL : NoAttr K C "leaves"
  nH : NoAttr K C "highest"
  mgE : mg "Effect" = some (.ref C)
section
variable {P : Program} {w : World} {K : PySem.W.Frag} {mg : Str → Option Value} {base : Heap} {C : Addr}
def spLeast (K : PySem.W.Frag) : Sp := fun vs H Q _ => ∃ (a b : Addr) (xs ys : List Str), vs = [.ref a, .ref b] ∧ SqT K H a (xs.map V.str) ∧ SqT K H b (ys.map V.str) ∧ Q (.int (lp xs ys)) H
theorem scLe : FnScope ["pops", "pushes"] ["pops", "pushes"] (defScope sLeastPeak) := ⟨rfl, rfl, rfl, by decide +kernel, rfl, by decide +kernel, by decide +kernel⟩
theorem has_least (D : Def K mg "least_peak" sLeastPeak) (B : Blt mg) (mx : mg "max" = none) : Has P w K mg base "least_peak" 1 ["pops", "pushes"] [] (spLeast K) := by
  refine has_of D scLe (fun _ _ _ _ _ _ us hl => match us, hl with | [_, _], _ => rfl) (fun xs H Q E h => ?_) (fun f cv A out s H xs Q E hr h => ?_)
  · obtain ⟨a, b, xs, ys, rfl, _⟩ := h
    rfl
  · obtain ⟨a, b, xs, ys, rfl, ha, hb, k⟩ := h
    refine ⟨_, pss_one (ps_ret (pe_callB (call_max2 rfl) (by rfl) mx (by decide +kernel) (pa_cons pe_int (pa_cons (pe_op op_sub (pe_callB call_len_seq (by rfl) B.len PySem.boot_len (pa_cons (pv 1) pa_nil)) (pe_callB call_len_seq (by rfl) B.len PySem.boot_len (pa_cons (pv 0) pa_nil))) pa_nil)))), ?_⟩
    refine ⟨_, rfl, b, _, rfl, .inr hb, _, rfl, a, _, rfl, .inr ha, _, _, rfl, rfl, 0, _, rfl, ?_⟩
    rw [List.length_map, List.length_map]
    exact k
def spInit (K : PySem.W.Frag) (C : Addr) : Sp := fun vs H Q _ => ∃ (x dx a b : Addr) (xs ys : List Str) (pk : Option Int), vs = [.ref x, .ref a, .ref b, pkV pk] ∧ H x = some (.ins C dx []) ∧ SqT K H a (xs.map V.str) ∧ SqT K H b (ys.map V.str) ∧
  xs.length ≤ 5000 ∧ ys.length ≤ 5000 ∧ (∀ z ∈ xs, Item z) ∧ (∀ z ∈ ys, Item z) ∧ (∀ p, pk = some p → lp xs ys ≤ p) ∧
  ∀ H', (∀ b o, H b = some o → b ≠ x → H' b = some o) → H' x = some (.ins C dx (eF (.ref a) (.ref b) (.int (pk.getD (lp xs ys))))) → Q .non H'
abbrev pInit : List Str := ["self", "pops", "pushes", "peak"]
theorem scIn : FnScope ["self", "pops", "pushes", "peak", "least"] pInit (defScope sInit) := ⟨rfl, rfl, rfl, by decide +kernel, rfl, by decide +kernel, by decide +kernel⟩
theorem ok_init {f : Addr} {fd : FuncData} (F : Fun K "__init__" "Effect.__init__" sInit f fd) (T : EC K mg C) (GW : Has P w K mg base "check_word" 3 ["word"] [] (spChkWord K)) (GL : Has P w K mg base "least_peak" 1 ["pops", "pushes"] [] (spLeast K)) (GH : Has P w K mg base "is_whole" 1 ["value"] [] spWhole) :
    FnOk P w K mg base CX0 4 f fd pInit (spInit K C) := by
  refine F.ok scIn (fun vs H Q E h => ?_) (fun cdv A outer s H vs Q E hr h => ?_)
  · obtain ⟨x, dx, a, b, xs, ys, pk, rfl, _⟩ := h
    rfl
  · obtain ⟨x, dx, a, b, xs, ys, pk, rfl, hx, ha, hb, l1, l2, i1, i2, hp, k⟩ := h
    have hr1 : Room 1 _ := hr.mono (by decide)
    refine ⟨_, pss_cons (ps_expr (pe_has GW hr (pa_cons (pv 1) pa_nil))) (pss_cons (ps_expr (pe_has GW hr (pa_cons (pv 2) pa_nil)))
      (pss_cons (ps_set (i := 4) scIn.nd rfl (.inl rfl) (pe_has GL hr1 (pa_cons (pv 1) (pa_cons (pv 2) pa_nil))))
      (pss_cons (ps_if (pt_cut (PW.pt (pw_and (pt_cmpR op_notN (pv 3) pe_non (nomark _)) (pw_and1 (PW.pt (pw_or (pt_not (pt_val (pe_has GH hr1 (pa_cons (pv 3) pa_nil)))) (pw_or1 (pt_cmpR op_lt (pv 3) (pv 4) (nomark _))))))))) pss_never pss_nil)
      (pss_cons (ps_fld (pv 0) (pv 1) rfl) (pss_cons (ps_fld (pv 0) (pv 2) rfl)
      (pss_one (ps_fld (pv 0) (pe_ifExp (pt_cmpR op_isN (pv 3) pe_non (nomark _)) (pv 4) (pv 3)) rfl))))))), ?_⟩
    refine ⟨_, rfl, a, xs, rfl, ha, l1, i1, fun H1 s1 => ⟨_, rfl, b, ys, rfl, Same.tup s1 hb, l2, i2, fun H2 s2 => ?_⟩⟩
    have s12 := s1.trans s2
    refine ⟨_, rfl, _, rfl, a, b, xs, ys, rfl, Same.tup s12 ha, Same.tup s12 hb, ?_⟩
    refine ⟨fun c H3 => c = false ∧ H3 = H2, ?_, ?_⟩
    · cases pk with
      | none => exact ⟨_, rfl, rfl, false, rfl, iteF ⟨rfl, rfl⟩⟩
      | some p =>
        have hq := hp p rfl
        refine ⟨_, rfl, rfl, true, rfl, iteT ⟨_, rfl, p, rfl, true, rfl, iteF ⟨_, rfl, _, rfl, p, lp xs ys, rfl, rfl, _, rfl, ?_, rfl⟩⟩⟩
        exact decide_eq_false (by omega)
    rintro c H3 ⟨rfl, rfl⟩
    refine iteF ?_
    have hx3 := s12 _ _ hx
    have fin : ∀ z : V, z = .int (pk.getD (lp xs ys)) → Q .non (upd (upd (upd H3 x (.ins C dx (putF "needs" (.ref a) []))) x (.ins C dx (putF "leaves" (.ref b) (putF "needs" (.ref a) [])))) x (.ins C dx (putF "highest" z (putF "leaves" (.ref b) (putF "needs" (.ref a) []))))) := by
      intro z ez
      refine k _ (fun c o e ne => ?_) ?_
      · rw [upd_ne ne, upd_ne ne, upd_ne ne]
        exact s12 _ _ e
      · rw [upd_same, eF_new, ez]
    refine ⟨_, rfl, _, rfl, x, C, dx, [], rfl, hx3, T.cl, T.nN, (by show 0 < 1000; decide), _, rfl, _, rfl, x, C, dx, _, rfl, upd_same, T.cl, T.nL, (by show 1 < 1000; decide), ?_⟩
    cases pk with
    | none => exact ⟨_, rfl, rfl, true, rfl, iteT ⟨_, rfl, _, rfl, x, C, dx, _, rfl, upd_same, T.cl, T.nH, eF_two _ _, fin _ rfl⟩⟩
    | some p => exact ⟨_, rfl, rfl, false, rfl, iteF ⟨_, rfl, _, rfl, x, C, dx, _, rfl, upd_same, T.cl, T.nH, eF_two _ _, fin _ rfl⟩⟩
end
end SE
namespace SE
open PySem PySem.Spec PyProof.Rows L2
/-- a property of the class C with its promise -/
def PropHas (P : Program) (w : World) (K : PySem.W.Frag) (mg : Str → Option Value) (base : Heap) (C : Addr) (f : Str) (k : Nat) (sp : Sp) : Prop := ∃ p g fd, PropOf K C f p g ∧ FnOk P w K mg base CX0 k g fd ["self"] sp ∧ Binds K fd ["self"] []
theorem pe_propH {X : Cx} {C : Addr} {f : Str} {k : Nat} {sp : Sp} {e : Expr} {ta : TE} {pos : Pos} (h : PropHas X.prog X.w X.K X.mg X.base C f k sp) (he : PE X e ta) (c : Cls X.K C) (hr : Room (k + 1) X.A)
    (hab : attributeBase e f X.env (eval e X.env) = eval e X.env := by rfl) : PE X (.Attribute e f pos) (tProp C sp [] E0 ta) := by
  obtain ⟨p, g, fd, hp, F, hb⟩ := h
  exact pe_prop he c hp F hr hb .nil pass0 hab
section
variable {P : Program} {w : World} {K : PySem.W.Frag} {mg : Str → Option Value} {base : Heap} {C : Addr}
/-! ### properties -/
/-- of an effect that is not never: its parts -/
def spPops (K : PySem.W.Frag) (C : Addr) : Sp := fun vs H Q _ => ∃ (e : Addr) (xs ys : List Str) (p : Int), vs = [.ref e] ∧ EffAt K C H e xs ys p ∧ ∀ u, SqT K H u (xs.map V.str) → Q (.ref u) H
def spPush (K : PySem.W.Frag) (C : Addr) : Sp := fun vs H Q _ => ∃ (e : Addr) (xs ys : List Str) (p : Int), vs = [.ref e] ∧ EffAt K C H e xs ys p ∧ ∀ u, SqT K H u (ys.map V.str) → Q (.ref u) H
def spIsNev (K : PySem.W.Frag) (C : Addr) : Sp := fun vs H Q _ => ∃ (e : Addr), vs = [.ref e] ∧ ((∃ xs ys p, EffAt K C H e xs ys p ∧ Q (.bl false) H) ∨ (NevAt C H e ∧ Q (.bl true) H))
theorem scPo : FnScope ["self"] ["self"] (defScope sPops) := ⟨rfl, rfl, rfl, by decide +kernel, rfl, by decide +kernel, by decide +kernel⟩
theorem scPu : FnScope ["self"] ["self"] (defScope sPushes) := ⟨rfl, rfl, rfl, by decide +kernel, rfl, by decide +kernel, by decide +kernel⟩
theorem scNv : FnScope ["self"] ["self"] (defScope sIsNever) := ⟨rfl, rfl, rfl, by decide +kernel, rfl, by decide +kernel, by decide +kernel⟩
theorem ok_pops {f : Addr} {fd : FuncData} (F : Fun K "pops" "Effect.pops" sPops f fd) (T : EC K mg C) : FnOk P w K mg base CX0 1 f fd ["self"] (spPops K C) := by
  refine F.ok scPo (fun vs H Q E h => ?_) (fun cdv A outer s H vs Q E hr h => ?_)
  · obtain ⟨e, xs, ys, p, rfl, _⟩ := h
    rfl
  · obtain ⟨e, xs, ys, p, rfl, h, k⟩ := h
    obtain ⟨dx, u, v, h1, h2, h3⟩ := h.ex
    exact ⟨_, pss_one (ps_ret (pe_fld (pv 0) rfl)), _, rfl, e, C, dx, _, _, rfl, h1, T.cl, T.nN, eF_needs _ _ _, k u h2⟩
theorem ok_push {f : Addr} {fd : FuncData} (F : Fun K "pushes" "Effect.pushes" sPushes f fd) (T : EC K mg C) : FnOk P w K mg base CX0 1 f fd ["self"] (spPush K C) := by
  refine F.ok scPu (fun vs H Q E h => ?_) (fun cdv A outer s H vs Q E hr h => ?_)
  · obtain ⟨e, xs, ys, p, rfl, _⟩ := h
    rfl
  · obtain ⟨e, xs, ys, p, rfl, h, k⟩ := h
    obtain ⟨dx, u, v, h1, h2, h3⟩ := h.ex
    exact ⟨_, pss_one (ps_ret (pe_fld (pv 0) rfl)), _, rfl, e, C, dx, _, _, rfl, h1, T.cl, T.nL, eF_leaves _ _ _, k v h3⟩
/-! ### Effect(a, b), Effect.never() -/
/-- the class can be called -/
def Makes (P : Program) (w : World) (K : PySem.W.Frag) (mg : Str → Option Value) (base : Heap) (C : Addr) : Prop := ∃ f fd, Mk K C f ∧ FnOk P w K mg base CX0 4 f fd pInit (spInit K C) ∧ FunD K "__init__" "Effect.__init__" (defArgs sInit) (defBody sInit) (defScope sInit) [] [("peak", .non)] f fd
theorem Makes.two (h : Makes P w K mg base C) : ∃ f fd ds, Mk K C f ∧ FnOk P w K mg base CX0 4 f fd pInit (spInit K C) ∧ Vals [V.non] ds ∧ Binds K fd pInit ds := by
  obtain ⟨f, fd, M, F, FD⟩ := h
  obtain ⟨ds, hd, hb⟩ := FD.binds0 (ps := pInit) 3 (by simp) rfl (fun D doc pm an cv ct us ks h1 h2 => match us, ks, h1, h2 with | [_, _, _], [_], _, _ => ⟨_, _, _, _, _, _, rfl, rfl, rfl⟩)
  exact ⟨f, fd, ds, M, F, hd, hb⟩
/-- what Effect(a, b) asks -/
def tEff2 (K : PySem.W.Frag) (C : Addr) (t : TA) : TE := fun σ H Q => t σ H fun vs H1 => ∃ (a b : Addr) (xs ys : List Str), vs = [.ref a, .ref b] ∧ SqT K H1 a (xs.map V.str) ∧ SqT K H1 b (ys.map V.str) ∧ xs.length ≤ 5000 ∧ ys.length ≤ 5000 ∧ (∀ z ∈ xs, Item z) ∧ (∀ z ∈ ys, Item z) ∧
  ∀ (e : Addr) (H' : Hp), Same H1 H' → H1 e = none → EffAt K C H' e xs ys (lp xs ys) → Q (.ref e) H'
theorem make_imp {vs : List V} {H1 : Hp} {Q : VK} (h : ∃ (a b : Addr) (xs ys : List Str), vs = [.ref a, .ref b] ∧ SqT K H1 a (xs.map V.str) ∧ SqT K H1 b (ys.map V.str) ∧ xs.length ≤ 5000 ∧ ys.length ≤ 5000 ∧ (∀ z ∈ xs, Item z) ∧ (∀ z ∈ ys, Item z) ∧
    ∀ (e : Addr) (H' : Hp), Same H1 H' → H1 e = none → EffAt K C H' e xs ys (lp xs ys) → Q (.ref e) H') : ∀ x dx, H1 x = none → H1 dx = none → dx ≠ x →
    spInit K C (.ref x :: (vs ++ [V.non])) (upd (upd H1 dx (.own x)) x (.ins C dx [])) (fun v H2 => v = .non ∧ Q (.ref x) H2) E0 := by
  intro x dx nx nd ne
  obtain ⟨a, b, xs, ys, rfl, ha, hb, l1, l2, i1, i2, k⟩ := h
  have s0 : Same H1 (upd (upd H1 dx (.own x)) x (.ins C dx [])) := Same.made nx nd fun b o e _ => e
  refine ⟨x, dx, a, b, xs, ys, none, rfl, upd_same, Same.tup s0 ha, Same.tup s0 hb, l1, l2, i1, i2, fun p z => (by cases z), fun H' kp hx => ⟨rfl, ?_⟩⟩
  have s1 : Same H1 H' := fun c o e => kp c o (s0 c o e) (ne_of_none e nx)
  exact k x H' s1 nx ⟨dx, a, b, hx, Same.tup s1 ha, Same.tup s1 hb⟩
theorem pe_eff2 {X : Cx} {p pos : Pos} {e1 e2 : Expr} {t : TA} (M : Makes X.prog X.w X.K X.mg X.base C) (mgE : X.mg "Effect" = some (.ref C)) (hr : Room 5 X.A) (ha : PA X [e1, e2] t) (hg : Gl X "Effect" := by rfl)
    (he : starEach [e1, e2] X.env = (false, eval e1 X.env) :: starEach [e2] X.env := by rfl) (hpl : (backTo pos (starEach [e2] X.env)).any (·.1) = false := by rfl) :
    PE X (.Call (.Name "Effect" p) [e1, e2] [] pos) (tEff2 X.K C t) := by
  obtain ⟨f, fd, ds, Mk1, F, hd, hb⟩ := M.two
  constructor
  intro pins s σ H Q I h
  refine wpAny_Call_Name_kw (ld_glob I hg mgE ?_ (by decide))
  refine PySem.W.callWith_K (h₀ := X.base) I.ok.mod.kin Mk1.kp (thn (ha.run pos pins s σ H _ I h) fun us s1 hh => ?_) he hpl
  obtain ⟨vs, H1, I1, r, q⟩ := hh
  exact ⟨I1.kIn, run_make Mk1 F hr hb hd pass0 I1 r (make_imp q)⟩
/-! ### Effect.never() -/
def spNever (C : Addr) : Sp := fun vs H Q _ => vs = [.ref C] ∧ ∀ (e : Addr) (H' : Hp), Same H H' → NevAt C H' e → Q (.ref e) H'
theorem scNe : FnScope ["cls", "effect"] ["cls"] (defScope sNever) := ⟨rfl, rfl, rfl, by decide +kernel, rfl, by decide +kernel, by decide +kernel⟩
theorem ok_never {g : Addr} {gd : FuncData} (F : Fun K "never" "Effect.never" sNever g gd) (T : EC K mg C) (M : Makes P w K mg base C) : FnOk P w K mg base CX0 6 g gd ["cls"] (spNever C) := by
  obtain ⟨f, fd, ds, Mk1, FI, hd, hb⟩ := M.two
  refine F.ok scNe (fun vs H Q E h => ?_) (fun cdv A outer s H vs Q E hr h => ?_)
  · obtain ⟨rfl, _⟩ := h
    rfl
  · obtain ⟨rfl, k⟩ := h
    refine ⟨_, pss_cons (ps_set (i := 1) scNe.nd rfl (.inl rfl) (pe_makeL (i := 0) Mk1 FI hr rfl (.inl rfl) hb hd pass0 (pa_cons (pe_tup pa_nil) (pa_cons (pe_tup pa_nil) pa_nil))))
      (pss_cons (ps_fld (pv 1) pe_non rfl) (pss_cons (ps_fld (pv 1) pe_non rfl) (pss_cons (ps_fld (pv 1) pe_non rfl) (pss_one (ps_ret (pv 1)))))), ?_⟩
    refine ⟨rfl, Nat.zero_le _, fun t1 h1 => ⟨Nat.zero_le _, fun t2 h2 => ?_⟩⟩
    have n2 : t1 ≠ t2 := ne_of_none upd_same h2
    have s2 : Same H (upd (upd H t1 (.tup [])) t2 (.tup [])) := Same.free2 (Same.new h1) ((Same.new h1).free h2)
    intro y dy ny nd nyd
    have s3 : Same (upd (upd H t1 (.tup [])) t2 (.tup [])) (upd (upd (upd (upd H t1 (.tup [])) t2 (.tup [])) dy (.own y)) y (.ins C dy [])) := Same.made ny nd fun b o z _ => z
    refine ⟨y, dy, t1, t2, [], [], none, rfl, upd_same, Same.tup s3 (.of (by rw [upd_ne n2]; exact upd_same)), Same.tup s3 (.of upd_same), Nat.zero_le _, Nat.zero_le _, fun z m => (by cases m), fun z m => (by cases m), fun p z => (by cases z), fun H' kp e1 => ⟨rfl, ?_⟩⟩
    have s4 : Same H H' := fun c o z => kp c o (s3 _ _ (s2 c o z)) (ne_of_none z (s2.free ny))
    have hne : H y = none := s2.free ny
    refine ⟨_, rfl, y, C, dy, _, rfl, e1, T.cl, T.nN, (by show 3 < 1000; decide), _, rfl, y, C, dy, _, rfl, upd_same, T.cl, T.nL, (by rw [eF_n]; show 3 < 1000; decide), _, rfl, y, C, dy, _, rfl, upd_same, T.cl, T.nH, (by rw [eF_n, eF_l]; show 3 < 1000; decide), _, rfl, ?_⟩
    refine k y _ ?_ ⟨dy, ?_⟩
    · exact Same.free2 (Same.free2 (Same.free2 s4 hne) hne) hne
    · rw [upd_same, eF_n, eF_l, eF_h]
/-- the classmethod -/
def NeverHas (P : Program) (w : World) (K : PySem.W.Frag) (mg : Str → Option Value) (base : Heap) (C : Addr) : Prop := ∃ mc p g, ClX.CRead K C mc ∧ ClX.CMet K C mc "never" p g ∧ FnR P w K mg base CX0 6 g (spNever C)
theorem pe_never0 {X : Cx} {p apos pos : Pos} {pl : Sem Bool} (h : NeverHas X.prog X.w X.K X.mg X.base C) (mgE : X.mg "Effect" = some (.ref C)) (hr : Room 6 X.A) (hg : Gl X "Effect" := by rfl)
    (ht : eval (.Call (.Attribute (.Name "Effect" p) "never" apos) [] [] pos) X.env = (do
      let v ← eval (.Name "Effect" p) X.env
      standAt apos.atName
      let (f, first) ← holding [v] (getMethod v "never" pl)
      callWith pos f first (backTo pos (starEach [] X.env)) (backToKw pos (keywordEach [] X.env))) := by rfl) :
    PE X (.Call (.Attribute (.Name "Effect" p) "never" apos) [] [] pos) (tCMeth0 C (spNever C) E0 (tC (.ref C))) := by
  obtain ⟨mc, q, g, r, c, F⟩ := h
  exact pe_cmeth0 (pl := pl) (pe_glob hg mgE rfl) r c F hr pass0 ht
end
end SE
namespace SE
open PySem PySem.Spec PyProof.Rows L2
section
variable {P : Program} {w : World} {K : PySem.W.Frag} {mg : Str → Option Value} {base : Heap} {C : Addr}
/-! ### Effect(a, b, peak = c) -/
def tEffK (K : PySem.W.Frag) (C : Addr) (t : TA) (tk : TE) : TE := fun σ H Q => t σ H fun vs H1 => tCons tk tNil σ H1 fun zs H2 => ∃ (a b : Addr) (xs ys : List Str) (pk : Option Int), vs = [.ref a, .ref b] ∧ zs = [pkV pk] ∧ SqT K H2 a (xs.map V.str) ∧ SqT K H2 b (ys.map V.str) ∧ xs.length ≤ 5000 ∧ ys.length ≤ 5000 ∧
  (∀ z ∈ xs, Item z) ∧ (∀ z ∈ ys, Item z) ∧ (∀ p, pk = some p → lp xs ys ≤ p) ∧ ∀ (e : Addr) (H' : Hp), Same H2 H' → H2 e = none → EffAt K C H' e xs ys (pk.getD (lp xs ys)) → Q (.ref e) H'
theorem pe_effK {X : Cx} {p pos q1 : Pos} {e1 e2 c : Expr} {t : TA} {tk : TE} (M : Makes X.prog X.w X.K X.mg X.base C) (mgE : X.mg "Effect" = some (.ref C)) (hr : Room 5 X.A) (ha : PA X [e1, e2] t) (hc : PE X c tk) (hg : Gl X "Effect" := by rfl)
    (he : starEach [e1, e2] X.env = (false, eval e1 X.env) :: starEach [e2] X.env := by rfl) (hpl : ((backTo pos (starEach [e1, e2] X.env)).any (·.1) || (backToKw pos (keywordEach [⟨some "peak", c, q1⟩] X.env)).any (·.1.isNone)) = false := by rfl) :
    PE X (.Call (.Name "Effect" p) [e1, e2] [⟨some "peak", c, q1⟩] pos) (tEffK X.K C t tk) := by
  obtain ⟨f, fd, Mk1, F, FD⟩ := M
  obtain ⟨mv, kb⟩ := kb_some (ps := pInit) FD 3 ["peak"] [] (fun us _ ws => us ++ ws) (by simp) (fun q h => (by cases h)) (fun r1 _ r3 => r1.append r3) (fun D doc pm an cv ct us mv ws h1 h2 h3 => match us, mv, ws, h1, h2, h3 with | [_, _, _], [], [_], _, _, _ => rfl)
  constructor
  intro pins s σ H Q I h
  refine wpAny_Call_Name_kw (ld_glob I hg mgE ?_ (by decide))
  refine PySem.W.callWith_KW (h₀ := X.base) I.ok.mod.kin Mk1.kp rfl (thn (ha.run pos pins s σ H _ I h) fun us s1 hh => ?_) hpl he
  obtain ⟨vs, H1, I1, r, q⟩ := hh
  refine thn ((pk_cons (nm := some "peak") (kpos := q1) hc pk_nil).run pos pins s1 σ H1 _ I1 q) fun ws s2 hh => ?_
  obtain ⟨zs, H2, I2, rz, a, b, xs, ys, pk, rfl, rfl, ha2, hb2, l1, l2, i1, i2, hp, k⟩ := hh
  refine ⟨I2.kIn, ?_⟩
  refine run_makeK (ks := ["peak"]) (n := 2) Mk1 F hr kb pass0 I2 r rz rfl rfl ?_
  intro x dx nx nd ne
  have s0 : Same H2 (upd (upd H2 dx (.own x)) x (.ins C dx [])) := Same.made nx nd fun b o e _ => e
  refine ⟨x, dx, a, b, xs, ys, pk, rfl, upd_same, Same.tup s0 ha2, Same.tup s0 hb2, l1, l2, i1, i2, hp, fun H' kp hx => ⟨rfl, ?_⟩⟩
  have s3 : Same H2 H' := fun c o e => kp c o (s0 c o e) (ne_of_none e nx)
  exact k x H' s3 nx ⟨dx, a, b, hx, Same.tup s3 ha2, Same.tup s3 hb2⟩
/-! ### effects as values -/
abbrev Eff := Option (List Str × List Str × Int)
def EffV (K : PySem.W.Frag) (C : Addr) (H : Hp) (e : Addr) : Eff → Prop
  | none => NevAt C H e
  | some (xs, ys, p) => EffAt K C H e xs ys p
theorem EffV.same {H H' : Hp} {e : Addr} : ∀ {o : Eff}, EffV K C H e o → Same H H' → EffV K C H' e o
  | none, h, s => NevAt.same h s
  | some (_, _, _), h, s => EffAt.same h s
theorem EffV.ins {H : Hp} {e : Addr} : ∀ {o : Eff}, EffV K C H e o → ∃ dx fs, H e = some (.ins C dx fs)
  | none, h => by
    obtain ⟨dx, h1⟩ := NevAt.ex h
    exact ⟨dx, _, h1⟩
  | some (_, _, _), h => by
    obtain ⟨dx, u, v, h1, _⟩ := EffAt.ex h
    exact ⟨dx, _, h1⟩
/-! ### peak, nothing -/
def spPeak (K : PySem.W.Frag) (C : Addr) : Sp := fun vs H Q _ => ∃ (e : Addr) (xs ys : List Str) (p : Int), vs = [.ref e] ∧ EffAt K C H e xs ys p ∧ Q (.int p) H
theorem scPk : FnScope ["self"] ["self"] (defScope sPeak) := ⟨rfl, rfl, rfl, by decide +kernel, rfl, by decide +kernel, by decide +kernel⟩
theorem ok_peak {f : Addr} {fd : FuncData} (F : Fun K "peak" "Effect.peak" sPeak f fd) (T : EC K mg C) : FnOk P w K mg base CX0 1 f fd ["self"] (spPeak K C) := by
  refine F.ok scPk (fun vs H Q E h => ?_) (fun cdv A outer s H vs Q E hr h => ?_)
  · obtain ⟨e, xs, ys, p, rfl, _⟩ := h
    rfl
  · obtain ⟨e, xs, ys, p, rfl, h, k⟩ := h
    obtain ⟨dx, u, v, h1, h2, h3⟩ := h.ex
    exact ⟨_, pss_one (ps_ret (pe_fld (pv 0) rfl)), _, rfl, e, C, dx, _, _, rfl, h1, T.cl, T.nH, eF_high _ _ _, k⟩
end
end SE
namespace SE
open PySem PySem.Spec PyProof.Rows L2
/-! ### effects one after the other: the mathematics' side -/
abbrev Prt := List Str × List Str × Int
def comp (A B : Prt) : Option Prt :=
  if A.2.1.take (min A.2.1.length B.1.length) = B.1.take (min A.2.1.length B.1.length) then
    some (A.1 ++ B.1.drop (min A.2.1.length B.1.length), B.2.1 ++ A.2.1.drop (min A.2.1.length B.1.length), if (A.2.1.length : Int) - (A.1.length : Int) + B.2.2 > A.2.2 then (A.2.1.length : Int) - (A.1.length : Int) + B.2.2 else A.2.2)
  else none
def joinF : Prt → List Prt → Eff
  | A, [] => some A
  | A, B :: r => match comp A B with
    | none => none
    | some D => joinF D r
def joinM (ps : List Prt) : Eff := joinF ([], [], 0) ps
def szP (ps : List Prt) : Nat := (ps.map fun B => B.1.length + B.2.1.length).sum
/-- a part that may be joined -/
structure PrtOk (B : Prt) : Prop where
  i1 : ∀ z ∈ B.1, Item z
  i2 : ∀ z ∈ B.2.1, Item z
  h0 : 0 ≤ B.2.2
  h1 : (B.2.1.length : Int) - (B.1.length : Int) ≤ B.2.2
theorem comp_ok {A B D : Prt} (hA : PrtOk A) (hB : PrtOk B) (h : comp A B = some D) : PrtOk D ∧ D.1.length + D.2.1.length ≤ A.1.length + A.2.1.length + (B.1.length + B.2.1.length) := by
  unfold comp at h
  split at h
  · cases h
    have q1 := hA.h0
    have q2 := hA.h1
    have q3 := hB.h1
    refine ⟨⟨fun z m => ?_, fun z m => ?_, ?_, ?_⟩, ?_⟩
    · rcases List.mem_append.mp m with q | q
      · exact hA.i1 z q
      · exact hB.i1 z (List.mem_of_mem_drop q)
    · rcases List.mem_append.mp m with q | q
      · exact hB.i2 z q
      · exact hA.i2 z (List.mem_of_mem_drop q)
    · dsimp only
      split <;> omega
    · dsimp only
      rw [List.length_append, List.length_append, List.length_drop, List.length_drop]
      have m1 := Nat.min_le_left A.2.1.length B.1.length
      have m2 := Nat.min_le_right A.2.1.length B.1.length
      generalize min A.2.1.length B.1.length = m at m1 m2 ⊢
      split <;> omega
    · show (A.1 ++ B.1.drop (min A.2.1.length B.1.length)).length + (B.2.1 ++ A.2.1.drop (min A.2.1.length B.1.length)).length ≤ _
      rw [List.length_append, List.length_append, List.length_drop, List.length_drop]
      omega
  · cases h
theorem PrtOk.lp {D : Prt} (h : PrtOk D) : lp D.1 D.2.1 ≤ D.2.2 := by
  have q1 := h.h0
  have q2 := h.h1
  unfold SE.lp
  split <;> omega
theorem cutF_to {α : Type} (f : α → V) (xs : List α) (j : Nat) : cutV (xs.map f) none (some (j : Int)) = (xs.take j).map f := by
  unfold cutV
  rw [List.length_map]
  have e1 : HT.sIx xs.length 0 none = 0 := rfl
  rw [e1, HT.sIx_nat, List.drop_zero, Nat.sub_zero, ← List.map_take]
  congr 1
  by_cases c : j ≤ xs.length
  · rw [Nat.min_eq_left c]
  · rw [Nat.min_eq_right (by omega), List.take_length, List.take_of_length_le (by omega)]
theorem cutF_from {α : Type} (f : α → V) (xs : List α) (j : Nat) : cutV (xs.map f) (some (j : Int)) none = (xs.drop j).map f := by
  unfold cutV
  rw [List.length_map]
  have e1 : HT.sIx xs.length xs.length none = xs.length := rfl
  rw [e1, HT.sIx_nat, ← List.map_drop, ← List.map_take]
  congr 1
  by_cases c : j ≤ xs.length
  · rw [Nat.min_eq_left c, List.take_of_length_le (by rw [List.length_drop]; exact Nat.le_refl _)]
  · rw [Nat.min_eq_right (by omega), List.drop_of_length_le (Nat.le_refl _), List.drop_of_length_le (by omega), List.take_nil]
theorem min_int (a b : Nat) : (if (b : Int) < (a : Int) then (b : Int) else (a : Int)) = ((min a b : Nat) : Int) := by
  split <;> omega
/-- a part as a tuple -/
def PrtV (K : PySem.W.Frag) (H : Hp) (v : V) (B : Prt) : Prop := ∃ t a b, v = .ref t ∧ SqT K H t [.ref a, .ref b, .int B.2.2] ∧ SqT K H a (B.1.map V.str) ∧ SqT K H b (B.2.1.map V.str)
theorem PrtV.same {K : PySem.W.Frag} {H H' : Hp} {v : V} {B : Prt} (h : PrtV K H v B) (s : Same H H') : PrtV K H' v B := by
  obtain ⟨t, a, b, e, h1, h2, h3⟩ := h
  exact ⟨t, a, b, e, Same.tup s h1, Same.tup s h2, Same.tup s h3⟩
section
variable {P : Program} {w : World} {K : PySem.W.Frag} {mg : Str → Option Value} {base : Heap} {C : Addr}
/-! ### joined -/
def spJoin (K : PySem.W.Frag) (C : Addr) : Sp := fun vs H Q _ => ∃ (a : Addr) (us : List V) (ps : List Prt), vs = [.ref a] ∧ SqL K H a us ∧ Paired (PrtV K H) us ps ∧ (∀ B ∈ ps, PrtOk B) ∧ szP ps ≤ 5000 ∧ ∀ (e : Addr) (H' : Hp), Same H H' → EffV K C H' e (joinM ps) → Q (.ref e) H'
theorem scJo : FnScope ["parts", "pops", "pushes", "peak", "needed", "left", "highest", "shared"] ["parts"] (defScope sJoined) := ⟨rfl, rfl, rfl, by decide +kernel, rfl, by decide +kernel, by decide +kernel⟩
theorem paired_at {α β : Type} {F : α → β → Prop} : ∀ {l₁ : List α} {l₂ : List β} {i : Nat} {x : α}, Paired F l₁ l₂ → l₁[i]? = some x → ∃ y, l₂[i]? = some y ∧ F x y
  | _, _, _, _, .nil, h => by simp at h
  | _, _, 0, _, .cons r _, h => ⟨_, rfl, by cases h; exact r⟩
  | _, _, i + 1, _, .cons _ t, h => by
    obtain ⟨y, h1, h2⟩ := paired_at t (i := i) h
    exact ⟨y, h1, h2⟩
theorem paired_len {α β : Type} {F : α → β → Prop} : ∀ {l₁ : List α} {l₂ : List β}, Paired F l₁ l₂ → l₁.length = l₂.length
  | _, _, .nil => rfl
  | _, _, .cons _ t => congrArg Nat.succ (paired_len t)
theorem has_join (D : Def K mg "joined" sJoined) (T : EC K mg C) (M : Makes P w K mg base C) (GN : NeverHas P w K mg base C) (B : Blt mg) (mx : mg "max" = none) (mn : mg "min" = none) : Has P w K mg base "joined" 7 ["parts"] [] (spJoin K C) := by
  refine has_of D scJo (fun _ _ _ _ _ _ us hl => match us, hl with | [_], _ => rfl) (fun xs H Q E h => ?_) (fun f cv A out s H xs Q E hr h => ?_)
  · obtain ⟨a, us, ps, rfl, _⟩ := h
    rfl
  · obtain ⟨a, us, ps, rfl, hS, hV, hO, hz, k⟩ := h
    have hr5 : Room 5 _ := hr.mono (by decide)
    refine ⟨_, pss_cons (ps_asg (pe_tup (pa_cons (pe_tup pa_nil) (pa_cons (pe_tup pa_nil) (pa_cons pe_int pa_nil)))) (pg_tup (by rfl) (pgs_cons (pg_name (i := 1) scJo.nd rfl (.inl rfl)) (pgs_cons (pg_name (i := 2) scJo.nd rfl (.inl rfl)) (pgs_cons (pg_name (i := 3) scJo.nd rfl (.inl rfl)) pgs_nil)))))
      (pss_cons (ps_for PassesOwn.never rfl (pi_list (pv 0)) (pg_tup (by rfl) (pgs_cons (pg_name (i := 4) scJo.nd rfl (.inl rfl)) (pgs_cons (pg_name (i := 5) scJo.nd rfl (.inl rfl)) (pgs_cons (pg_name (i := 6) scJo.nd rfl (.inl rfl)) pgs_nil))))
        (pss_cons (ps_set (i := 7) scJo.nd rfl (.inl rfl) (pe_callB (call_min2 rfl) (by rfl) mn (by decide +kernel) (pa_cons (pe_callB call_len_seq (by rfl) B.len PySem.boot_len (pa_cons (pv 2) pa_nil)) (pa_cons (pe_callB call_len_seq (by rfl) B.len PySem.boot_len (pa_cons (pv 4) pa_nil)) pa_nil))))
        (pss_cons (ps_if (pt_cut (pt_cmpR (op_neD hr.units) (pe_slice sl_tupS (pv 2) po_none (po_some (pv 7))) (pe_slice sl_tupS (pv 4) po_none (po_some (pv 7))) (nomark _))) (pss_one (ps_ret (pe_never0 GN T.mgE hr))) pss_nil)
        (pss_cons (ps_set (i := 3) scJo.nd rfl (.inl rfl) (pe_callB (call_max2 rfl) (by rfl) mx (by decide +kernel) (pa_cons (pv 3) (pa_cons (pe_op op_add (pe_op op_sub (pe_callB call_len_seq (by rfl) B.len PySem.boot_len (pa_cons (pv 2) pa_nil)) (pe_callB call_len_seq (by rfl) B.len PySem.boot_len (pa_cons (pv 1) pa_nil))) (pv 6)) pa_nil))))
        (pss_cons (ps_set (i := 1) scJo.nd rfl (.inl rfl) (pe_op op_catS (pv 1) (pe_slice sl_tupS (pv 4) (po_some (pv 7)) po_none)))
        (pss_one (ps_set (i := 2) scJo.nd rfl (.inl rfl) (pe_op op_catS (pv 5) (pe_slice sl_tupS (pv 2) (po_some (pv 7)) po_none)))))))))
      (pss_one (ps_ret (pe_effK M T.mgE hr5 (pa_cons (pv 1) (pa_cons (pv 2) pa_nil)) (pv 3))))), ?_⟩
    refine ⟨Nat.zero_le _, fun t1 ht1 => ⟨Nat.zero_le _, fun t2 ht2 => ?_⟩⟩
    have n12 : t1 ≠ t2 := ne_of_none upd_same ht2
    have s0 : Same H (upd (upd H t1 (.tup [])) t2 (.tup [])) := Same.free2 (Same.new ht1) ((Same.new ht1).free ht2)
    have shp : ∀ {zs : List Str}, (∀ z ∈ zs, Item z) → SeqAt.shaped (.tuple (zs.map PyData.str)) = true := fun {zs} q => (nice_tuple (nice_strs q)).shaped (by decide)
    refine ⟨(by show 3 ≤ sizeLine; decide), fun t3 ht3 => ⟨t3, _, rfl, .of upd_same, rfl, _, _, rfl, _, _, rfl, _, _, rfl, rfl, ?_⟩⟩
    have s00 := Same.new (o := .tup [.ref t1, .ref t2, .int 0]) ht3
    generalize upd (upd (upd H t1 (.tup [])) t2 (.tup [])) t3 (.tup [.ref t1, .ref t2, .int 0]) = H1 at s00 ⊢
    have w1 : SqT K H1 t1 (([] : List Str).map V.str) := Same.tup s00 (.of (by rw [upd_ne n12]; exact upd_same))
    have w2 : SqT K H1 t2 (([] : List Str).map V.str) := Same.tup s00 (.of upd_same)
    replace s0 := s0.trans s00
    refine ⟨_, rfl, a, rfl, ⟨_, Same.seq s0 hS⟩, for_list (K := K) (a := a) (xs := us) (fun i σ H2 => ∃ (u v : Addr) (A : Prt) (y4 y5 y6 y7 : Option V), σ = [some (.ref a), some (.ref u), some (.ref v), some (.int A.2.2), y4, y5, y6, y7] ∧ Same H H2 ∧ SqT K H2 u (A.1.map V.str) ∧ SqT K H2 v (A.2.1.map V.str) ∧ PrtOk A ∧ joinM ps = joinF A (ps.drop i) ∧ A.1.length + A.2.1.length + szP (ps.drop i) ≤ 5000)
      ⟨t1, t2, ([], [], 0), none, none, none, none, rfl, s0, w1, w2, ⟨fun z m => (by cases m), fun z m => (by cases m), Int.le_refl _, Int.le_refl _⟩, rfl, by rw [List.drop_zero]; show 0 + 0 + szP ps ≤ 5000; omega⟩ (fun i σ H2 _ q => ?_) ?_ ?_⟩
    · obtain ⟨_, _, _, _, _, _, _, _, s2, _⟩ := q
      exact Same.seq s2 hS
    · rintro i x σ H2 hx ⟨u, v, A, y4, y5, y6, y7, rfl, s2, hu, hv, oA, hj, hsz⟩
      obtain ⟨Bp, hB, hP⟩ := paired_at hV hx
      obtain ⟨t, p1, p2, rfl, q1, q2, q3⟩ := hP.same s2
      have oB := hO Bp (List.mem_of_getElem? hB)
      have hd : ps.drop i = Bp :: ps.drop (i + 1) := by
        obtain ⟨hl, he⟩ := List.getElem?_eq_some_iff.mp hB
        rw [List.drop_eq_getElem_cons hl, he]
      have hsz2 : A.1.length + A.2.1.length + (Bp.1.length + Bp.2.1.length) + szP (ps.drop (i + 1)) ≤ 5000 := by
        rw [hd] at hsz
        have e : szP (Bp :: ps.drop (i + 1)) = Bp.1.length + Bp.2.1.length + szP (ps.drop (i + 1)) := by
          unfold szP
          rw [List.map_cons, List.sum_cons]
        omega
      refine ⟨t, _, rfl, q1, rfl, _, _, rfl, _, _, rfl, _, _, rfl, rfl, ?_⟩
      refine ⟨_, rfl, v, _, rfl, .inr hv, _, rfl, p1, _, rfl, .inr q2, _, _, rfl, ?_⟩
      rw [List.length_map, List.length_map, min_int]
      -- do they fit
      refine ⟨fun b H3 => b = !decide (A.2.1.take (min A.2.1.length Bp.1.length) = Bp.1.take (min A.2.1.length Bp.1.length)) ∧ Same H2 H3, ?_, ?_⟩
      · refine ⟨_, rfl, _, rfl, _, rfl, v, _, rfl, hv, fun c1 H3 s3 hc1 => ⟨_, rfl, _, rfl, _, rfl, p1, _, rfl, Same.tup s3 q2, fun c2 H4 s4 hc2 => ?_⟩⟩
        rw [cutF_to] at hc1 hc2
        refine ⟨.tuple ((A.2.1.take (min A.2.1.length Bp.1.length)).map .str), .tuple ((Bp.1.take (min A.2.1.length Bp.1.length)).map .str), .tup (Same.tup s4 hc1) (dp_strs _), .tup hc2 (dp_strs _), shp (fun z m => oA.i2 z (List.mem_of_mem_take m)), shp (fun z m => oB.i1 z (List.mem_of_mem_take m)), _, rfl, ?_, s3.trans s4⟩
        rw [eqv_tupS]
      rintro b H3 ⟨rfl, s3⟩
      have s23 := s2.trans s3
      by_cases c : A.2.1.take (min A.2.1.length Bp.1.length) = Bp.1.take (min A.2.1.length Bp.1.length)
      rotate_left
      · rw [decide_eq_false c]
        refine iteT ⟨rfl, rfl, fun e H4 s4 he => k e H4 (s23.trans s4) ?_⟩
        have ej : joinM ps = none := by
          rw [hj, hd]
          unfold joinF comp
          rw [if_neg c]
        rw [ej]
        exact he
      rw [decide_eq_true c]
      refine iteF ?_
      refine ⟨_, rfl, _, rfl, v, _, rfl, .inr (Same.tup s3 hv), _, rfl, u, _, rfl, .inr (Same.tup s3 hu), _, _, rfl, rfl, _, rfl, _, _, rfl, rfl, _, _, rfl, ?_⟩
      rw [List.length_map, List.length_map]
      refine ⟨_, rfl, _, rfl, _, rfl, _, rfl, p1, _, rfl, Same.tup s3 q2, fun c1 H4 s4 hc1 => ?_⟩
      rw [cutF_from] at hc1
      refine ⟨u, c1, _, _, rfl, rfl, Same.tup (s3.trans s4) hu, hc1, ?_, fun u2 H5 s5 hu2 => ?_⟩
      · rw [List.length_map, List.length_map, List.length_drop, sizeLine_eq]
        omega
      have s35 := (s3.trans s4).trans s5
      refine ⟨_, rfl, _, rfl, _, rfl, _, rfl, v, _, rfl, Same.tup s35 hv, fun c2 H6 s6 hc2 => ?_⟩
      rw [cutF_from] at hc2
      refine ⟨p2, c2, _, _, rfl, rfl, Same.tup (s35.trans s6) q3, hc2, ?_, fun v2 H7 s7 hv2 => ?_⟩
      · rw [List.length_map, List.length_map, List.length_drop, sizeLine_eq]
        omega
      obtain ⟨Dp, hD⟩ : ∃ Dp, comp A Bp = some Dp := by
        unfold comp
        rw [if_pos c]
        exact ⟨_, rfl⟩
      have oD := comp_ok oA oB hD
      have e1 : Dp.1 = A.1 ++ Bp.1.drop (min A.2.1.length Bp.1.length) ∧ Dp.2.1 = Bp.2.1 ++ A.2.1.drop (min A.2.1.length Bp.1.length) ∧ Dp.2.2 = if (A.2.1.length : Int) - (A.1.length : Int) + Bp.2.2 > A.2.2 then (A.2.1.length : Int) - (A.1.length : Int) + Bp.2.2 else A.2.2 := by
        unfold comp at hD
        rw [if_pos c] at hD
        cases hD
        exact ⟨rfl, rfl, rfl⟩
      rw [← List.map_append, ← e1.1] at hu2
      rw [← List.map_append, ← e1.2.1] at hv2
      refine ⟨u2, v2, Dp, some (.ref p1), some (.ref p2), some (.int Bp.2.2), some (.int ((min A.2.1.length Bp.1.length : Nat) : Int)), ?_, s2.trans ((s35.trans s6).trans s7), Same.tup (s6.trans s7) hu2, hv2, oD.1, ?_, ?_⟩
      · rw [e1.2.2]
        rfl
      · rw [hj, hd]
        conv => lhs; unfold joinF
        rw [hD]
      · have := oD.2
        omega
    · rintro σ H2 ⟨u, v, A, y4, y5, y6, y7, rfl, s2, hu, hv, oA, hj, hsz⟩
      rw [paired_len hV, List.drop_length] at hj
      refine ⟨_, rfl, _, rfl, _, rfl, u, v, A.1, A.2.1, some A.2.2, rfl, rfl, hu, hv, by omega, by omega, oA.i1, oA.i2, fun p z => ?_, fun e H3 s3 _ he => ?_⟩
      · cases z
        exact oA.lp
      · refine k e H3 (s2.trans s3) ?_
        rw [hj]
        exact he
end
end SE
namespace SE
open PySem PySem.Spec PyProof.Rows L2
/-! ### effect_of -/
def partM (s : Stp) : Prt := if s.1 = true then ([], [s.2], 1) else ([s.2], [], 0)
def effM (ss : List Stp) : Eff := joinM (ss.map partM)
theorem partM_ok {s : Stp} (h : Item s.2) : PrtOk (partM s) := by
  unfold partM
  split
  · exact ⟨fun z m => (by cases m), fun z m => (by rw [List.mem_singleton.mp m]; exact h), (by show (0 : Int) ≤ 1; decide), (by show ((1 : Nat) : Int) - ((0 : Nat) : Int) ≤ 1; decide)⟩
  · exact ⟨fun z m => (by rw [List.mem_singleton.mp m]; exact h), fun z m => (by cases m), (by show (0 : Int) ≤ 0; decide), (by show ((0 : Nat) : Int) - ((1 : Nat) : Int) ≤ 0; decide)⟩
theorem szP_steps : ∀ ss : List Stp, szP (ss.map partM) = ss.length
  | [] => rfl
  | s :: ss => by
    have ih := szP_steps ss
    unfold szP at ih ⊢
    rw [List.map_cons, List.map_cons, List.sum_cons, ih, List.length_cons]
    unfold partM
    split
    · show 0 + 1 + ss.length = _
      omega
    · show 1 + 0 + ss.length = _
      omega
theorem tup_updL {K : PySem.W.Frag} {H : Hp} {D t : Addr} {xs us : List V} {o : HO} (hD : H D = some (.lst us)) (h : SqT K H t xs) : SqT K (upd H D o) t xs := by
  rcases h with (h | ⟨p, h⟩) | h
  · exact .inl (.inl (by rw [upd_ne (ne_of h hD (by intro z; cases z))]; exact h))
  · exact .inl (.inr ⟨p, by rw [upd_ne (ne_of h hD (by intro z; cases z))]; exact h⟩)
  · exact .inr h
theorem PrtV.updL {K : PySem.W.Frag} {H : Hp} {D : Addr} {us : List V} {v : V} {B : Prt} {o : HO} (hD : H D = some (.lst us)) (h : PrtV K H v B) : PrtV K (upd H D o) v B := by
  obtain ⟨t, a, b, e, h1, h2, h3⟩ := h
  exact ⟨t, a, b, e, tup_updL hD h1, tup_updL hD h2, tup_updL hD h3⟩
theorem Paired.snoc2 {α β : Type} {F : α → β → Prop} : ∀ {l₁ : List α} {l₂ : List β} {x : α} {y : β}, Paired F l₁ l₂ → F x y → Paired F (l₁ ++ [x]) (l₂ ++ [y])
  | _, _, _, _, .nil, h => .cons h .nil
  | _, _, _, _, .cons r t, h => .cons r (Paired.snoc2 t h)
section
variable {P : Program} {w : World} {K : PySem.W.Frag} {mg : Str → Option Value} {base : Heap} {C : Addr}
def spPart (K : PySem.W.Frag) : Sp := fun vs H Q _ => ∃ (v : V) (s : Stp), vs = [v] ∧ StepV K H v s ∧ ∀ (u : V) (H' : Hp), Same H H' → PrtV K H' u (partM s) → Q u H'
theorem scPt : FnScope ["step", "action", "item"] ["step"] (defScope sPartsOfStep) := ⟨rfl, rfl, rfl, by decide +kernel, rfl, by decide +kernel, by decide +kernel⟩
theorem has_part (D : Def K mg "parts_of_step" sPartsOfStep) : Has P w K mg base "parts_of_step" 1 ["step"] [] (spPart K) := by
  refine has_of D scPt (fun _ _ _ _ _ _ us hl => match us, hl with | [_], _ => rfl) (fun xs H Q E h => ?_) (fun f cv A out s H xs Q E hr h => ?_)
  · obtain ⟨v, st, rfl, _⟩ := h
    rfl
  · obtain ⟨v, st, rfl, ⟨t, rfl, hT⟩, k⟩ := h
    refine ⟨_, pss_cons (ps_asg (pv 0) (pg_tup (by rfl) (pgs_cons (pg_name (i := 1) scPt.nd rfl (.inl rfl)) (pgs_cons (pg_name (i := 2) scPt.nd rfl (.inl rfl)) pgs_nil))))
      (pss_one (ps_ret (pe_ifExp (pt_cmpR op_eq (pv 1) pe_str (nomark _)) (pe_tup (pa_cons (pe_tup pa_nil) (pa_cons (pe_tup (pa_cons (pv 2) pa_nil)) (pa_cons pe_int pa_nil)))) (pe_tup (pa_cons (pe_tup (pa_cons (pv 2) pa_nil)) (pa_cons (pe_tup pa_nil) (pa_cons pe_int pa_nil))))))), ?_⟩
    refine ⟨_, rfl, t, _, rfl, hT, rfl, _, _, rfl, _, _, rfl, rfl, ?_⟩
    obtain ⟨b, z⟩ := st
    cases b with
    | true =>
      refine ⟨_, rfl, rfl, true, congrArg V.bl (decide_eq_true (show V.str (act true) = V.str "push" from rfl)), iteT ?_⟩
      refine ⟨Nat.zero_le _, fun a ha => ⟨_, rfl, (by show 1 ≤ sizeLine; decide), fun c hc => ⟨(by show 3 ≤ sizeLine; decide), fun q hq => ?_⟩⟩⟩
      have nac : a ≠ c := ne_of_none upd_same hc
      have naq : a ≠ q := ne_of_none (by rw [upd_ne nac]; exact upd_same) hq
      have ncq : c ≠ q := ne_of_none upd_same hq
      refine k (.ref q) _ ?_ ⟨q, a, c, rfl, .of upd_same, .of ?_, .of ?_⟩
      · exact Same.free2 (Same.free2 (Same.new ha) ((Same.new ha).free hc)) ((Same.free2 (Same.new ha) ((Same.new ha).free hc)).free hq)
      · rw [upd_ne naq, upd_ne nac]
        exact upd_same
      · rw [upd_ne ncq]
        exact upd_same
    | false =>
      refine ⟨_, rfl, rfl, false, congrArg V.bl (decide_eq_false (fun y => absurd (V.str.inj (show V.str (act false) = V.str "push" from y)) (by decide +kernel))), iteF ?_⟩
      refine ⟨_, rfl, (by show 1 ≤ sizeLine; decide), fun a ha => ⟨Nat.zero_le _, fun c hc => ⟨(by show 3 ≤ sizeLine; decide), fun q hq => ?_⟩⟩⟩
      have nac : a ≠ c := ne_of_none upd_same hc
      have naq : a ≠ q := ne_of_none (by rw [upd_ne nac]; exact upd_same) hq
      have ncq : c ≠ q := ne_of_none upd_same hq
      refine k (.ref q) _ ?_ ⟨q, a, c, rfl, .of upd_same, .of ?_, .of ?_⟩
      · exact Same.free2 (Same.free2 (Same.new ha) ((Same.new ha).free hc)) ((Same.free2 (Same.new ha) ((Same.new ha).free hc)).free hq)
      · rw [upd_ne naq, upd_ne nac]
        exact upd_same
      · rw [upd_ne ncq]
        exact upd_same
def spEffOf (K : PySem.W.Frag) (C : Addr) : Sp := fun vs H Q _ => ∃ (a : Addr) (ys : List V) (ss : List Stp), vs = [.ref a] ∧ SqL K H a ys ∧ ys.length ≤ 1000 ∧ StepsV K H ys ss ∧ (∀ s ∈ ss, Item s.2) ∧ ∀ (e : Addr) (H' : Hp), Same H H' → EffV K C H' e (effM ss) → Q (.ref e) H'
theorem scEo : FnScope ["steps", "step"] ["steps"] (defScope sEffectOf) := ⟨rfl, rfl, rfl, by decide +kernel, rfl, by decide +kernel, by decide +kernel⟩
theorem has_effOf (D : Def K mg "effect_of" sEffectOf) (GC : Has P w K mg base "check_steps" 3 ["steps"] [] (spChkSteps K)) (GP : Has P w K mg base "parts_of_step" 1 ["step"] [] (spPart K)) (GJ : Has P w K mg base "joined" 7 ["parts"] [] (spJoin K C)) :
    Has P w K mg base "effect_of" 8 ["steps"] [] (spEffOf K C) := by
  refine has_of D scEo (fun _ _ _ _ _ _ us hl => match us, hl with | [_], _ => rfl) (fun xs H Q E h => ?_) (fun f cv A out s H xs Q E hr h => ?_)
  · obtain ⟨a, ys, ss, rfl, _⟩ := h
    rfl
  · obtain ⟨a, ys, ss, rfl, hS, hl, hV, hI, k⟩ := h
    have hr1 : Room 1 _ := hr.mono (by decide)
    have hr3 : Room 3 _ := hr.mono (by decide)
    have hln : ys.length = ss.length := hV.length
    refine ⟨_, pss_cons (ps_expr (pe_has GC hr3 (pa_cons (pv 0) pa_nil))) (pss_one (ps_ret (pe_has GJ hr (pa_cons
      (pe_lc (own := [("step", 1)]) (g := gName 1) (tt := tYes) (te := tCall (spPart K) [] E0 (tCons (tVar 1) tNil)) rfl scEo.nd (pi_list (pv 0)) (blkOk_by (own := [("step", 1)]) (N := ["steps", "step"]) (sc := defScope sEffectOf) (by decide +kernel))
        (fun _ _ _ _ _ => pg_name (i := 1) scEo.nd rfl (.inl rfl)) (fun _ _ _ _ _ => pts_nil) (fun _ _ _ _ _ => pe_has GP hr1 (pa_cons (pv 1) pa_nil))) pa_nil)))), ?_⟩
    refine ⟨_, rfl, a, ys, ss, rfl, .inl hS, hl, hV, hI, fun H1 s1 => ?_⟩
    refine ⟨_, rfl, a, rfl, ⟨_, Same.seq s1 hS⟩, fun D hD => lc_list (K := K) (a := a) (xs := ys) (fun j H2 => ∃ us, H2 D = some (.lst us) ∧ Paired (PrtV K H2) us ((ss.take j).map partM) ∧ Same H1 H2) ⟨[], upd_same, .nil, Same.new hD⟩ (fun j H2 _ q => ?_) ?_ ?_⟩
    · obtain ⟨_, _, _, s2⟩ := q
      exact Same.seq (s1.trans s2) hS
    · rintro j x H2 hx ⟨us, hu, hP, s2⟩
      obtain ⟨st, h1, h2⟩ := StepsV.at hV hx
      refine ⟨rfl, yes_in ⟨_, rfl, x, st, rfl, h2.same (s1.trans s2), fun u H3 s3 hp => ⟨us, s3 _ _ hu, ?_, us ++ [u], upd_same, ?_, ?_⟩⟩⟩
      · have l2 := paired_len hP
        rw [List.length_map, List.length_take] at l2
        rw [sizeLine_eq]
        omega
      · have e1 : (ss.take (j + 1)).map partM = (ss.take j).map partM ++ [partM st] := by
          rw [List.take_add_one, h1, List.map_append]
          rfl
        rw [e1]
        have hu3 := s3 _ _ hu
        exact Paired.snoc2 (Paired.mapP hP fun v B q => (q.same s3).updL hu3) (hp.updL hu3)
      · exact Same.free2 (s2.trans s3) hD
    · rintro H2 ⟨us, hu, hP, s2⟩
      rw [hln, List.take_length] at hP
      refine ⟨D, us, ss.map partM, rfl, .of hu, hP, fun Bp m => ?_, ?_, fun e H3 s3 he => k e H3 ((s1.trans s2).trans s3) he⟩
      · obtain ⟨st, ms, rfl⟩ := List.mem_map.mp m
        exact partM_ok (hI st ms)
      · rw [szP_steps]
        omega
end
end SE
/-! == and != by an own __eq__, whatever it answers; repr by an own __repr__. -/
namespace SE
open PySem PySem.Spec PyProof.Rows L2
section
variable {prog : Program} {w : World} {A : Around} {E : Value → Shared → Prop} {s : Shared} {K : PySem.W.Frag} {x y C f : Addr} {ox oy : Obj} {od oe : Option Obj} {Q : Value → Shared → Prop}
/-- a special method that is a built-in's slot -/
theorem bound_slot {M : Model} {name : Str} {id : String} {args : List Value} {R : Option Value → Shared → Prop} (X : K.In s.heap) (I : PySem.W.InstAt s.heap x ox C od) (hs : PySem.W.findIn K (.ref C) name = some (some (.builtin id)))
    (hb : ∀ v, bindSpecial (.builtin id) v = pure (.builtin id, [v])) (h : wpAny M A (call (.builtin id) (.ref x :: args)) (fun v => R (some v)) E s) : wpAny M A (callSpecialIfBound? (.ref x) name args) R E s := by
  simp only [callSpecialIfBound?, bindSpecialIfBound?]
  refine wpAny_holding (wpAny_bind (wpAny_bind (wpAny_bind (I.type.here ((PySem.W.looks_findIn X hs).here (wpAny_bind (wpAny_askSetting (wpAny_ite ?_))))))))
  have last : wpAny M A (call (.builtin id) ([.ref x] ++ args) >>= fun v => pure (some v)) R E s := wpAny_bind (wpAny_mono h (fun v s2 z => wpAny_pure z) fun _ _ z => z)
  split
  · exact wpAny_bind ((PySem.W.Looks.of_pure (hb _)).here (wpAny_pure (by exact last)))
  · exact wpAny_tryCatch (wpAny_bind ((PySem.W.Looks.of_pure (hb _)).here (wpAny_pure (by exact last))))
open Builtin in
theorem ne_call {v : Value} (hu : A.in1.units < cLine) (X : K.In s.heap) (I : PySem.W.InstAt s.heap x ox C od) (hm : PySem.W.mroIn K C (.type "object") = some true) (hs : PySem.W.findIn K (.ref C) "__eq__" = some (some (.ref f))) (hf : PySem.W.isFn K (.ref f) = true)
    (h : wpAny (model prog w) A.in1 (call (.ref f) [.ref x, v]) (fun r s2 => ∃ b, r = .bool b ∧ Q (.bool (!b)) s2) E s) : wpAny (model prog w) A (call (.builtin "object.__ne__") [.ref x, v]) Q E s := by
  refine wpAny_call (codeAny_call_builtin PySem.F.cmp_object.ne.plain PySem.F.cmpEntry_ne (PySem.W.check_slot PySem.F.cmpKind_ne PySem.F.cmpSplit_ne (I.type.andThen (PySem.W.looks_mroIn X hm)) (PySem.F.cmpArgs_ne _ _) ?_))
  unfold Builtin.«object.__ne__»
  refine wpAny_bind (m := slotArgs "__ne__" 1 _) (wpAny_pure ?_)
  refine wpAny_bind (m := cRoomFor _ _) (wpAny_cRoomFor hu ?_)
  refine wpAny_bind (m := callSpecialIfBound? (.ref x) (Str.ofString "__eq__") _) (PySem.W.ifBound_K X I hs hf (wpAny_mono h (fun r s2 z => ?_) fun _ _ z => z))
  obtain ⟨b, rfl, q⟩ := z
  exact wpAny_bind (wpAny_truthy_bool (wpAny_pure q))
theorem ne_inst (hu : A.units + 1 < cLine) (X : K.In s.heap) (I : PySem.W.InstAt s.heap x ox C od) (J : PySem.W.InstAt s.heap y oy C oe) (hm : PySem.W.mroIn K C (.type "object") = some true)
    (hn : PySem.W.findIn K (.ref C) "__ne__" = some (some (.builtin "object.__ne__"))) (hs : PySem.W.findIn K (.ref C) "__eq__" = some (some (.ref f))) (hf : PySem.W.isFn K (.ref f) = true)
    (h : wpAny (model prog w) A.in1 (call (.ref f) [.ref x, .ref y]) (fun r s2 => ∃ b, r = .bool b ∧ Q (.bool (!b)) s2) E s) : wpAny (model prog w) A (richCompare .NotEq (.ref x) (.ref y)) Q E s := by
  have one : wpAny (model prog w) A (tryCompare (.ref x) (cmpInfo .NotEq).2.1 (.ref y)) (fun r s2 => ∃ v, r = some v ∧ Q v s2) E s := by
    unfold tryCompare
    refine wpAny_bind (bound_slot X I hn PySem.F.cmp_object.ne.bind (ne_call hu X I hm hs hf (wpAny_mono h (fun v s2 z => ?_) fun _ _ z => z)))
    obtain ⟨b, rfl, q⟩ := z
    exact ⟨b, rfl, wpAny_pure ⟨_, rfl, q⟩⟩
  unfold richCompare
  simp only [oneThing_ref]
  refine wpAny_holding (wpAny_bind (wpAny_cRoomFor (Nat.lt_of_succ_lt hu) (wpAny_bind (I.type.here (wpAny_bind (J.type.here ?_))))))
  rw [show (Value.ref C != Value.ref C) = false by simp]
  simp only [Bool.false_eq_true, if_false]
  refine wpAny_bind (wpAny_pure ?_)
  simp only [Bool.false_eq_true, if_false]
  refine wpAny_bind (wpAny_mono one (fun r s2 z => ?_) fun _ _ z => z)
  obtain ⟨v, rfl, q⟩ := z
  exact wpAny_pure q
end
/-! ### the rules -/
/-- what an own == promises -/
def spEqB (R : Addr → Addr → Bool → Hp → Prop) : Sp := fun vs H Q _ => ∃ (a b : Addr) (c : Bool), vs = [.ref a, .ref b] ∧ R a b c H ∧ ∀ H', Same H H' → Q (.bl c) H'
def rCmp (C : Addr) (R : Addr → Addr → Bool → Hp → Prop) (neg : Bool) : R2 := fun x y H Q => ∃ (a b : Addr) (c : Bool) (dx dy : Addr) (fs gs : List (Str × V)), x = .ref a ∧ y = .ref b ∧ H a = some (.ins C dx fs) ∧ H b = some (.ins C dy gs) ∧ R a b c H ∧ ∀ H', Same H H' → Q (.bl (c != neg)) H'
section
variable {X : Cx} {n : Nat} {C f : Addr} {fd : FuncData} {ps : List Str} {R : Addr → Addr → Bool → Hp → Prop}
theorem op_eqE (F : FnOk X.prog X.w X.K X.mg X.base CX0 n f fd ps (spEqB R)) (hs : PySem.W.findIn X.K (.ref C) "__eq__" = some (some (.ref f))) (hf : PySem.W.isFn X.K (.ref f) = true) (hb : Binds X.K fd ps []) (hr : Room n X.A) : OpR X (compareOp .Eq) (rCmp C R false) := by
  intro pins s σ H x y u v Q I rx ry hq
  obtain ⟨a, b, c, dx, dy, fs, gs, rfl, rfl, ha, hb2, hR, k⟩ := hq
  cases rx
  cases ry
  obtain ⟨mA, J, _⟩ := ins_get I.hok ha
  obtain ⟨mB, J2, _⟩ := ins_get I.hok hb2
  obtain ⟨od, J, _⟩ := J.look
  obtain ⟨oe, J2, _⟩ := J2.look
  obtain ⟨m, hF⟩ := I.fr
  show wpAny (model X.prog X.w) X.A (richCompare .Eq (.ref a) (.ref b)) (EP X pins σ Q) X.xe s
  refine PySem.W.cmp_K (op := .Eq) (tb := .ref C) hr.units0 hF I.ok.mod.kin J J2.type (by simp [PySem.W.notFirst]) hs hf ?_
  have hsp : spEqB R [.ref a, .ref b] H (fun z H' => z = .bl c ∧ Same H H') (fun _ _ _ => False) := ⟨a, b, c, rfl, hR, fun H' e => ⟨rfl, e⟩⟩
  have hl := F.len _ _ _ _ hsp
  refine wpAny_call (codeAny_mono (F.run X.A X.stack s H ⟨[.ref a, .ref b], []⟩ [.ref a, .ref b] [.ref a, .ref b] _ _ hr I.env0 (by simpa using hb s [.ref a, .ref b] I.kIn (by simpa using hl)) (.cons rfl (.cons rfl .nil)) hsp) fun r s2 hq => ?_)
  cases r with
  | error e => exact hq.elim
  | ok fl =>
    cases fl with
    | ret z =>
      obtain ⟨y, H2, I2, rz, ez, ex⟩ := I.after hq
      subst ez
      cases rz
      refine ⟨.bl c, H2, I2, rfl, ?_⟩
      have q := k H2 ex
      rw [show (c != false) = c by cases c <;> rfl] at q
      exact q
    | next => exact hq.elim
    | brk => exact hq.elim
    | cont => exact hq.elim
theorem op_neE (F : FnOk X.prog X.w X.K X.mg X.base CX0 n f fd ps (spEqB R)) (hs : PySem.W.findIn X.K (.ref C) "__eq__" = some (some (.ref f))) (hf : PySem.W.isFn X.K (.ref f) = true) (hb : Binds X.K fd ps []) (hm : PySem.W.mroIn X.K C (.type "object") = some true)
    (hn : PySem.W.findIn X.K (.ref C) "__ne__" = some (some (.builtin "object.__ne__"))) (hr : Room (n + 1) X.A) : OpR X (compareOp .NotEq) (rCmp C R true) := by
  intro pins s σ H x y u v Q I rx ry hq
  obtain ⟨a, b, c, dx, dy, fs, gs, rfl, rfl, ha, hb2, hR, k⟩ := hq
  cases rx
  cases ry
  obtain ⟨mA, J, _⟩ := ins_get I.hok ha
  obtain ⟨mB, J2, _⟩ := ins_get I.hok hb2
  obtain ⟨od, J, _⟩ := J.look
  obtain ⟨oe, J2, _⟩ := J2.look
  show wpAny (model X.prog X.w) X.A (richCompare .NotEq (.ref a) (.ref b)) (EP X pins σ Q) X.xe s
  refine ne_inst (by have := hr.in1.units0; exact this) I.kIn J J2 hm hn hs hf ?_
  have hsp : spEqB R [.ref a, .ref b] H (fun z H' => z = .bl c ∧ Same H H') (fun _ _ _ => False) := ⟨a, b, c, rfl, hR, fun H' e => ⟨rfl, e⟩⟩
  have hl := F.len _ _ _ _ hsp
  refine wpAny_call (codeAny_mono (F.run X.A.in1 X.stack s H ⟨[.ref a, .ref b], []⟩ [.ref a, .ref b] [.ref a, .ref b] _ _ hr.in1 I.env0.in1 (by simpa using hb s [.ref a, .ref b] I.kIn (by simpa using hl)) (.cons rfl (.cons rfl .nil)) hsp) fun r s2 hq => ?_)
  cases r with
  | error e => exact hq.elim
  | ok fl =>
    cases fl with
    | ret z =>
      obtain ⟨y, H2, I2, rz, ez, ex⟩ := I.after hq
      subst ez
      cases rz
      refine ⟨c, rfl, .bl (!c), H2, I2, rfl, ?_⟩
      have q := k H2 ex
      rw [show (c != true) = !c by cases c <;> rfl] at q
      exact q
    | next => exact hq.elim
    | brk => exact hq.elim
    | cont => exact hq.elim
/-- repr(o), an own __repr__ -/
theorem call_reprE {sp : Sp} (F : GOk X.prog X.w X.K X.mg X.base n f fd ["self"] sp) (hs : PySem.W.findIn X.K (.ref C) "__repr__" = some (some (.ref f))) (hf : PySem.W.isFn X.K (.ref f) = true) (hb : Binds X.K fd ["self"] []) (hgu : X.A.guards = some []) (hr : Room (n + 1) X.A) :
    CallR X (.builtin "repr") (fun xs H Q => ∃ (a dx : Addr) (fs : List (Str × V)), xs = [.ref a] ∧ H a = some (.ins C dx fs) ∧ sp [.ref a] H (fun v H' => ∃ z, v = .str z ∧ Q (.str z) H') (fun _ _ _ => False)) := by
  intro pins s σ H xs us Q I r h
  obtain ⟨a, dx, fs, rfl, ha, hsp⟩ := h
  cases r with
  | cons r1 r2 =>
    cases r2
    cases r1
    obtain ⟨mA, J, _⟩ := ins_get I.hok ha
    obtain ⟨od, J, _⟩ := J.look
    obtain ⟨m, hF⟩ := I.fr
    refine PySem.W.repr_K hr.in1.units0 hF I.ok.mod.kin J hs hf ?_
    refine wpAny_call (codeAny_mono (F.run X.A.in1 X.stack s H ⟨[.ref a], []⟩ [.ref a] [.ref a] _ _ hgu hr.in1 I.env0.in1 (by simpa using hb s [.ref a] I.kIn rfl) (.cons rfl .nil) hsp) fun r s2 hq => ?_)
    cases r with
    | error e => exact hq.elim
    | ok fl =>
      cases fl with
      | ret z =>
        obtain ⟨y, H2, I2, rz, t, ez, q⟩ := I.after hq
        subst ez
        obtain ⟨tk, rfl⟩ := rz
        exact ⟨.str t, H2, I2, ⟨_, rfl⟩, q⟩
      | next => exact hq.elim
      | brk => exact hq.elim
      | cont => exact hq.elim
/-- {x!r}, x plain data -/
def tFmtT (K : PySem.W.Frag) (te : TE) : TE := fun σ H Q => te σ H fun x H1 => ∃ (a : Addr) (d : PyData), x = .ref a ∧ Dp K H1 x d ∧ d.showable = true ∧ d.hasDict = false ∧ d.depth ≤ 20 ∧ d.shown.length ≤ sizeLine ∧ Q (.str d.shown) H1
theorem pe_fmtT {e : Expr} {te : TE} {pos : Pos} (hgu : X.A.guards = some []) (hu : X.A.units + 64 < cLine) (he : PE X e te) : PE X (.FormattedValue e 114 none pos) (tFmtT X.K te) := by
  constructor
  intro pins s σ H Q I h
  refine wpAny_FormattedValue_repr (thn (he.run pins s σ H _ I h) fun v s1 hv => ?_)
  obtain ⟨x, H1, I1, r1, a, d, rfl, hd, hs, hn, hdep, hz, q⟩ := hv
  cases r1
  obtain ⟨as, rd⟩ := Dp.reads I1 d (.ref a) (.ref a) hd rfl
  refine pyReprObj_of_reads rd hs (PyData.noDict_hsm hn) hgu (by omega) (fun _ _ z => z) (fun h2 u tk keep => ?_) hz
  have I2 := I1.kept (t' := tk) keep
  exact wpAny_formatField_str ⟨.str d.shown, H1, I2, ⟨u, rfl⟩, q⟩ ⟨.str d.shown, H1, I2.tok _, ⟨_, rfl⟩, q⟩ hz
end
theorem Nice.shownLe {k B : Nat} {d : PyData} (h : Nice k B d) : d.shown.length ≤ 15 * B + 13 := by
  have q := PyData.shown_le 13 (by decide) d (PyData.leavesShort_of_canLay0 13 d h.lay h.ish)
  have := h.wt
  omega
end SE
namespace SE
open PySem PySem.Spec PyProof.Rows L2
abbrev sEq : Stmt := inClass sEffect 13
abbrev sRepr : Stmt := inClass sEffect 14
/-- what isinstance asks of the class -/
structure EI (K : PySem.W.Frag) (C : Addr) : Prop where
  ha : PySem.W.findIn K (.ref C) "__class__" = some (some (.builtin "object.__class__"))
  hn : PySem.W.specialIn K (.builtin "object.__class__") "__get__" = some (some (.builtin "getset_descriptor.__get__"))
  ht : PySem.W.takesIn K (.builtin "object.__class__") = some true
  hm : PySem.W.mroIn K C (.type "object") = some true
  ki : PySem.W.kitOne K (.ref C) (.ref C) = some true
/-- the parts of an effect as data -/
def dN : Eff → PyData
  | none => .none
  | some (xs, _, _) => .tuple (xs.map .str)
def dL : Eff → PyData
  | none => .none
  | some (_, ys, _) => .tuple (ys.map .str)
def dH : Eff → PyData
  | none => .none
  | some (_, _, p) => .int p
/-- an effect whose words are of items -/
def EffOk : Eff → Prop
  | none => True
  | some (xs, ys, p) => (∀ z ∈ xs, Item z) ∧ (∀ z ∈ ys, Item z) ∧ xs.length ≤ 1000 ∧ ys.length ≤ 1000 ∧ 0 ≤ p ∧ p ≤ 100000
theorem eff_eqv (a b : Eff) : (PyData.eqv (dN a) (dN b) && (PyData.eqv (dL a) (dL b) && PyData.eqv (dH a) (dH b))) = decide (a = b) := by
  cases a with
  | none =>
    cases b with
    | none => simp [dN, dL, dH, PyData.eqv]
    | some b =>
      obtain ⟨x, y, p⟩ := b
      simp [dN, dL, dH, PyData.eqv]
  | some a =>
    obtain ⟨x, y, p⟩ := a
    cases b with
    | none => simp [dN, dL, dH, PyData.eqv]
    | some b =>
      obtain ⟨x2, y2, p2⟩ := b
      show (PyData.eqv (.tuple (x.map .str)) (.tuple (x2.map .str)) && (PyData.eqv (.tuple (y.map .str)) (.tuple (y2.map .str)) && PyData.eqv (.int p) (.int p2))) = _
      rw [eqv_tupS, eqv_tupS]
      have e : PyData.eqv (.int p) (.int p2) = decide (p = p2) := by
        unfold PyData.eqv
        by_cases c : p = p2
        · subst c
          simp
        · simp [c]
      rw [e]
      by_cases c1 : x = x2 <;> by_cases c2 : y = y2 <;> by_cases c3 : p = p2 <;> simp [c1, c2, c3]
def shownE : Eff → Str
  | none => "Effect.never()"
  | some (xs, ys, p) => Str.empty ++ "Effect(" ++ (PyData.tuple (xs.map .str)).shown ++ ", " ++ (PyData.tuple (ys.map .str)).shown ++ ", peak=" ++ toString p ++ ")"
section
variable {P : Program} {w : World} {K : PySem.W.Frag} {mg : Str → Option Value} {base : Heap} {C : Addr}
theorem EffV.dp {H : Hp} {e : Addr} : ∀ {o : Eff}, EffV K C H e o → ∃ dx u v p, H e = some (.ins C dx (eF u v p)) ∧ Dp K H u (dN o) ∧ Dp K H v (dL o) ∧ Dp K H p (dH o)
  | none, h => by
    obtain ⟨dx, h1⟩ := NevAt.ex h
    exact ⟨dx, _, _, _, h1, .non, .non, .non⟩
  | some (_, _, _), h => by
    obtain ⟨dx, u, v, h1, h2, h3⟩ := EffAt.ex h
    exact ⟨dx, _, _, _, h1, .tup h2 (dp_strs _), .tup h3 (dp_strs _), .int _⟩
theorem EffOk.shaped : ∀ {o : Eff}, EffOk o → SeqAt.shaped (dN o) = true ∧ SeqAt.shaped (dL o) = true ∧ SeqAt.shaped (dH o) = true
  | none, _ => ⟨rfl, rfl, rfl⟩
  | some (_, _, _), h => ⟨(nice_tuple (nice_strs h.1)).shaped (by decide), (nice_tuple (nice_strs h.2.1)).shaped (by decide), rfl⟩
/-! ### __eq__ -/
def rEff (K : PySem.W.Frag) (C : Addr) (a b : Addr) (c : Bool) (H : Hp) : Prop := ∃ o1 o2, EffV K C H a o1 ∧ EffV K C H b o2 ∧ EffOk o1 ∧ EffOk o2 ∧ c = decide (o1 = o2)
theorem scEq : FnScope ["self", "other"] ["self", "other"] (defScope sEq) := ⟨rfl, rfl, rfl, by decide +kernel, rfl, by decide +kernel, by decide +kernel⟩
theorem ok_eq {f : Addr} {fd : FuncData} (F : Fun K "__eq__" "Effect.__eq__" sEq f fd) (T : EC K mg C) (TI : EI K C) (B : Blt mg) : FnOk P w K mg base CX0 1 f fd ["self", "other"] (spEqB (rEff K C)) := by
  refine F.ok scEq (fun vs H Q E h => ?_) (fun cdv A outer s H vs Q E hr h => ?_)
  · obtain ⟨a, b, c, rfl, _⟩ := h
    rfl
  · obtain ⟨a, b, c, rfl, ⟨o1, o2, h1, h2, k1, k2, rfl⟩, k⟩ := h
    obtain ⟨dx, u, v, p, i1, d1, d2, d3⟩ := h1.dp
    obtain ⟨dy, u2, v2, p2, i2, g1, g2, g3⟩ := h2.dp
    obtain ⟨s1, s2, s3⟩ := k1.shaped
    obtain ⟨t1, t2, t3⟩ := k2.shaped
    refine ⟨_, pss_one (ps_ret (pe_and (pe_callB call_isi (by rfl) B.isi (by decide +kernel) (pa_cons (pv 1) (pa_cons (pe_glob (v := .ref C) rfl T.mgE rfl) pa_nil)))
      (pe_and (pe_cmpR (op_eqD hr.units) (pe_fld (pv 0) rfl) (pe_fld (pv 1) rfl) (nomark _)) (pe_and (pe_cmpR (op_eqD hr.units) (pe_fld (pv 0) rfl) (pe_fld (pv 1) rfl) (nomark _)) (pe_one (pe_cmpR (op_eqD hr.units) (pe_fld (pv 0) rfl) (pe_fld (pv 1) rfl) (nomark _))))))), ?_⟩
    have fin := k H (Same.refl H)
    rw [← eff_eqv] at fin
    refine ⟨_, rfl, _, .ref C, .ref C, .ref C, true, rfl, .own C, .base (.ins i2 T.cl TI.ha TI.hn TI.ht TI.hm), TI.ki, true, rfl, iteT ?_⟩
    refine ⟨_, rfl, a, C, dx, _, _, rfl, i1, T.cl, T.nN, eF_needs _ _ _, _, rfl, b, C, dy, _, _, rfl, i2, T.cl, T.nN, eF_needs _ _ _, dN o1, dN o2, d1, g1, s1, t1, _, rfl, ?_⟩
    cases e1 : PyData.eqv (dN o1) (dN o2) with
    | false =>
      rw [e1, Bool.false_and] at fin
      exact iteF fin
    | true =>
      rw [e1, Bool.true_and] at fin
      refine iteT ⟨_, rfl, a, C, dx, _, _, rfl, i1, T.cl, T.nL, eF_leaves _ _ _, _, rfl, b, C, dy, _, _, rfl, i2, T.cl, T.nL, eF_leaves _ _ _, dL o1, dL o2, d2, g2, s2, t2, _, rfl, ?_⟩
      cases e2 : PyData.eqv (dL o1) (dL o2) with
      | false =>
        rw [e2, Bool.false_and] at fin
        exact iteF fin
      | true =>
        rw [e2, Bool.true_and] at fin
        exact iteT ⟨_, rfl, a, C, dx, _, _, rfl, i1, T.cl, T.nH, eF_high _ _ _, _, rfl, b, C, dy, _, _, rfl, i2, T.cl, T.nH, eF_high _ _ _, dH o1, dH o2, d3, g3, s3, t3, fin⟩
/-! ### __repr__ -/
def spRepr (K : PySem.W.Frag) (C : Addr) : Sp := fun vs H Q _ => ∃ (e : Addr) (o : Eff), vs = [.ref e] ∧ EffV K C H e o ∧ EffOk o ∧ Q (.str (shownE o)) H
theorem scRp : FnScope ["self"] ["self"] (defScope sRepr) := ⟨rfl, rfl, rfl, by decide +kernel, rfl, by decide +kernel, by decide +kernel⟩
theorem ok_repr {f : Addr} {fd : FuncData} (F : Fun K "__repr__" "Effect.__repr__" sRepr f fd) (T : EC K mg C) : GOk P w K mg base 1 f fd ["self"] (spRepr K C) := by
  obtain ⟨oc, od, kV, doc, pm, an, cv, ct, osl, rfl, look, hcode⟩ := F.ex
  refine gok_of look hcode scRp (fun vs H Q E h => ?_) (fun A out s H vs Q E hgu hr h => ?_)
  · obtain ⟨e, o, rfl, _⟩ := h
    rfl
  · obtain ⟨e, o, rfl, h, ok, k⟩ := h
    have body : ∃ t, PSs (cxOf CX0 P w K mg base ["self"] "Effect.__repr__" (defScope sRepr) f cv A out s H E).nox (defBody sRepr) t ∧ t { nx := fun _ H2 => Q .non H2, rt := Q } (start ["self"] [.ref e]) H := by
      refine ⟨_, pss_cons (ps_if (pt_cmpR op_isN (pe_fld (pv 0) rfl) pe_non (nomark _)) (pss_one (ps_ret pe_str)) pss_nil)
        (pss_one (ps_ret (pe_joined (.cons pe_str (.cons (pe_fmtT hgu hr.units (pe_fld (pv 0) rfl)) (.cons pe_str (.cons (pe_fmtT hgu hr.units (pe_fld (pv 0) rfl)) (.cons pe_str (.cons (pe_fmtR (pe_fld (pv 0) rfl)) (.cons pe_str .nil)))))))))), ?_⟩
      cases o with
      | none =>
        obtain ⟨dx, h1⟩ := NevAt.ex h
        exact ⟨_, rfl, e, C, dx, _, _, rfl, h1, T.cl, T.nN, eF_needs _ _ _, rfl, true, rfl, iteT k⟩
      | some o =>
        obtain ⟨xs, ys, p⟩ := o
        obtain ⟨dx, u, v, h1, h2, h3⟩ := EffAt.ex h
        obtain ⟨i1, i2, l1, l2, p0, p1⟩ := ok
        have n1 := nice_tuple (nice_strs i1)
        have n2 := nice_tuple (nice_strs i2)
        have z1 := n1.shownLe
        have z2 := n2.shownLe
        rw [List.length_map] at z1 z2
        have tl : (toString p : Str).length ≤ 13 := by
          have := PyData.shown_int_le (i := p) (by omega)
          exact this
        have big : ∀ m : Nat, m ≤ 400000 → m ≤ sizeLine := fun m hm => by
          rw [sizeLine_eq]
          omega
        have w0 : (Str.empty : Str).length = 0 := by decide +kernel
        have w1 : ("Effect(" : Str).length = 7 := by decide +kernel
        have w2 : (", " : Str).length = 2 := by decide +kernel
        have w3 : (", peak=" : Str).length = 7 := by decide +kernel
        have w4 : (")" : Str).length = 1 := by decide +kernel
        have lg : p.natAbs.log2 < 1920 := PySem.Flt.log2_lt_of (by decide) (Nat.lt_of_lt_of_le (show p.natAbs < 2 ^ 17 by show _ < 131072; omega) (Nat.pow_le_pow_right (by decide) (by decide)))
        refine ⟨_, rfl, e, C, dx, _, _, rfl, h1, T.cl, T.nN, eF_needs _ _ _, rfl, false, rfl, iteF ?_⟩
        refine ⟨_, rfl, big _ ?_, _, rfl, e, C, dx, _, _, rfl, h1, T.cl, T.nN, eF_needs _ _ _, u, _, rfl, .tup h2 (dp_strs xs), n1.sh, n1.nd, Nat.le_trans n1.dep (by decide), big _ (by omega), _, rfl, big _ ?_, _, rfl, big _ ?_, _, rfl, e, C, dx, _, _, rfl, h1, T.cl, T.nL, eF_leaves _ _ _, v, _, rfl, .tup h3 (dp_strs ys), n2.sh, n2.nd, Nat.le_trans n2.dep (by decide), big _ (by omega), _, rfl, big _ ?_, _, rfl, big _ ?_, _, rfl, e, C, dx, _, _, rfl, h1, T.cl, T.nH, eF_high _ _ _, .inr ⟨p, rfl, lg, _, rfl, big _ ?_, _, rfl, big _ ?_, k⟩⟩
        all_goals (simp only [len_add, w0, w1, w2, w3, w4]; omega)
    obtain ⟨t, a, b⟩ := body
    exact ⟨t, a.nox, b⟩
end
end SE
namespace SE
open PySem PySem.Spec PyProof.Rows L2
/-! ### the effect of a repeated sequence -/
def cw : List Str → List Str → Option (List Str × List Str)
  | [], R => some (R, [])
  | a :: P, [] => some ([], a :: P)
  | a :: P, b :: R => if a = b then cw P R else none
def mx (a b : Int) : Int := if b > a then b else a
def hg (A : Prt) : Int := (A.2.1.length : Int) - (A.1.length : Int)
theorem cw_nil (P : List Str) : cw P [] = some ([], P) := by
  cases P <;> rfl
theorem cw_eq : ∀ P R : List Str, cw P R = if P.take (min P.length R.length) = R.take (min P.length R.length) then some (R.drop (min P.length R.length), P.drop (min P.length R.length)) else none
  | [], R => by simp [cw]
  | a :: P, [] => by simp [cw]
  | a :: P, b :: R => by
    have ih := cw_eq P R
    unfold cw
    have e : min (a :: P).length (b :: R).length = min P.length R.length + 1 := by
      rw [List.length_cons, List.length_cons]
      omega
    rw [e, List.take_succ_cons, List.take_succ_cons, List.drop_succ_cons, List.drop_succ_cons]
    by_cases c : a = b
    · subst c
      rw [if_pos rfl, ih]
      simp
    · rw [if_neg c, if_neg (fun z => c (List.cons.inj z).1)]
theorem comp_cw (A B : Prt) : comp A B = (cw A.2.1 B.1).map fun z => (A.1 ++ z.1, B.2.1 ++ z.2, mx A.2.2 (hg A + B.2.2)) := by
  unfold comp
  rw [cw_eq]
  split
  · rfl
  · rfl
theorem assoc1 (A E : Prt) (s : Stp) : ((comp A (partM s)).bind fun D => comp D E) = (comp (partM s) E).bind (comp A) := by
  obtain ⟨x, y, p⟩ := A
  obtain ⟨u, v, q⟩ := E
  obtain ⟨b, z⟩ := s
  cases b with
  | true =>
    have e1 : partM (true, z) = ([], [z], 1) := rfl
    rw [e1]
    simp only [comp_cw, cw_nil, Option.map_some, Option.bind_some]
    cases u with
    | nil =>
      simp only [comp_cw, cw_nil, Option.map_some, Option.bind_some, hg, List.append_nil, List.nil_append]
      refine congrArg some (Prod.ext rfl (Prod.ext (by simp) ?_))
      simp only [List.length_append, List.length_cons, List.length_nil, mx]
      grind
    | cons t r =>
      simp only [cw]
      by_cases c : z = t
      · subst c
        simp only [List.cons_append, List.nil_append, cw, if_true, Option.map_some, Option.bind_some, List.append_nil, comp_cw]
        cases cw y r with
        | none => rfl
        | some g =>
          simp only [Option.map_some, hg]
          refine congrArg some (Prod.ext rfl (Prod.ext rfl ?_))
          simp only [List.length_append, List.length_cons, List.length_nil, mx]
          grind
      · simp [cw, c]
  | false =>
    have e1 : partM (false, z) = ([z], [], 0) := rfl
    rw [e1]
    simp only [comp_cw, cw, Option.map_some, Option.bind_some, List.append_nil]
    cases y with
    | nil =>
      simp only [cw, Option.map_some, Option.bind_some, hg, List.append_nil]
      refine congrArg some (Prod.ext (by simp) (Prod.ext (by simp) ?_))
      simp only [List.length_append, List.length_cons, List.length_nil, mx]
      grind
    | cons t r =>
      simp only [List.cons_append, List.nil_append, cw, cw_nil]
      by_cases c : t = z
      · subst c
        simp only [if_true, Option.map_some, Option.bind_some, List.append_nil, List.nil_append]
        cases cw r u with
        | none => rfl
        | some g =>
          simp only [Option.map_some, hg]
          refine congrArg some (Prod.ext rfl (Prod.ext rfl ?_))
          simp only [List.length_append, List.length_cons, List.length_nil, mx]
          grind
      · simp [c]
theorem joinF_cons (A B : Prt) (r : List Prt) : joinF A (B :: r) = (comp A B).bind fun D => joinF D r := by
  rw [joinF]
  cases comp A B <;> rfl
theorem comp_one (s : Stp) : comp ([], [], 0) (partM s) = some (partM s) := by
  obtain ⟨b, z⟩ := s
  cases b <;> simp [comp_cw, partM, cw, hg, mx]
theorem cw_len : ∀ (P R : List Str) (z : List Str × List Str), cw P R = some z → (z.2.length : Int) - z.1.length = P.length - R.length
  | [], R, z, h => by
    cases h
    show ((0 : Nat) : Int) - R.length = ((0 : Nat) : Int) - R.length
    rfl
  | a :: P, [], z, h => by
    cases h
    rfl
  | a :: P, b :: R, z, h => by
    unfold cw at h
    split at h
    · have ih := cw_len P R z h
      rw [List.length_cons, List.length_cons]
      omega
    · cases h
theorem hg_comp {A B D : Prt} (h : comp A B = some D) : hg D = hg A + hg B := by
  rw [comp_cw] at h
  cases e : cw A.2.1 B.1 with
  | none =>
    rw [e] at h
    cases h
  | some z =>
    rw [e] at h
    cases h
    have := cw_len _ _ _ e
    unfold hg
    simp only [List.length_append]
    omega
theorem pk_comp {A B D : Prt} (h : comp A B = some D) : D.2.2 = mx A.2.2 (hg A + B.2.2) := by
  rw [comp_cw] at h
  cases e : cw A.2.1 B.1 with
  | none =>
    rw [e] at h
    cases h
  | some z =>
    rw [e] at h
    cases h
    rfl
theorem hgp (s : Stp) : hg (partM s) ≤ (partM s).2.2 ∧ 0 ≤ (partM s).2.2 ∧ (partM s).2.2 ≤ 1 := by
  obtain ⟨b, z⟩ := s
  cases b
  · exact ⟨(by show ((0 : Nat) : Int) - ((1 : Nat) : Int) ≤ 0; decide), (by show (0 : Int) ≤ 0; decide), (by show (0 : Int) ≤ 1; decide)⟩
  · exact ⟨(by show ((1 : Nat) : Int) - ((0 : Nat) : Int) ≤ 1; decide), (by show (0 : Int) ≤ 1; decide), (by show (1 : Int) ≤ 1; decide)⟩
theorem joinF_eff : ∀ (ss : List Stp) (A : Prt), hg A ≤ A.2.2 → joinF A (ss.map partM) = (effM ss).bind (comp A)
  | [], A, h => by
    obtain ⟨x, y, p⟩ := A
    show some (x, y, p) = comp (x, y, p) ([], [], 0)
    rw [comp_cw, cw_nil]
    simp only [Option.map_some, List.append_nil, List.nil_append]
    refine congrArg some (Prod.ext rfl (Prod.ext rfl ?_))
    have h' : hg (x, y, p) ≤ p := h
    simp only [mx]
    split <;> omega
  | s :: ss, A, h => by
    have ih := joinF_eff ss
    rw [List.map_cons, joinF_cons]
    have hs := hgp s
    have e : effM (s :: ss) = (effM ss).bind (comp (partM s)) := by
      rw [← ih _ hs.1]
      unfold effM joinM
      rw [List.map_cons, joinF_cons, comp_one, Option.bind_some]
    rw [e]
    have e2 : ((comp A (partM s)).bind fun D => joinF D (ss.map partM)) = (comp A (partM s)).bind fun D => (effM ss).bind (comp D) := by
      cases q : comp A (partM s) with
      | none => rfl
      | some D =>
        rw [Option.bind_some, Option.bind_some]
        refine ih D ?_
        rw [hg_comp q, pk_comp q]
        unfold mx
        split <;> omega
    rw [e2]
    cases effM ss with
    | none =>
      simp only [Option.bind_none]
      cases comp A (partM s) <;> rfl
    | some E => exact assoc1 A E s
theorem joinF_app : ∀ (ps qs : List Prt) (A : Prt), joinF A (ps ++ qs) = (joinF A ps).bind fun D => joinF D qs
  | [], qs, A => rfl
  | B :: ps, qs, A => by
    rw [List.cons_append, joinF_cons, joinF_cons]
    cases comp A B with
    | none => rfl
    | some D =>
      rw [Option.bind_some, Option.bind_some]
      exact joinF_app ps qs D
/-- what the effect of a sequence keeps to -/
theorem joinF_ok : ∀ (ss : List Stp) (A D : Prt), PrtOk A → (∀ s ∈ ss, Item s.2) → joinF A (ss.map partM) = some D → PrtOk D ∧ D.1.length + D.2.1.length ≤ A.1.length + A.2.1.length + ss.length ∧ D.2.2 ≤ A.2.2 + ss.length
  | [], A, D, h, _, e => by
    cases e
    refine ⟨h, by simp, by simp⟩
  | s :: ss, A, D, h, hI, e => by
    rw [List.map_cons, joinF_cons] at e
    cases q : comp A (partM s) with
    | none =>
      rw [q] at e
      cases e
    | some B =>
      rw [q, Option.bind_some] at e
      have ok := comp_ok h (partM_ok (hI s List.mem_cons_self)) q
      have ih := joinF_ok ss B D ok.1 (fun z m => hI z (List.mem_cons_of_mem _ m)) e
      have pk := pk_comp q
      have hs := hgp s
      have l1 : (partM s).1.length + (partM s).2.1.length = 1 := by
        unfold partM
        split <;> rfl
      have hh : hg A ≤ A.2.2 := h.h1
      refine ⟨ih.1, ?_, ?_⟩
      · rw [List.length_cons]
        omega
      · have i3 := ih.2.2
        rw [pk] at i3
        have : mx A.2.2 (hg A + (partM s).2.2) ≤ A.2.2 + 1 := by
          unfold mx
          split <;> omega
        rw [List.length_cons]
        omega
theorem effM_ok {ss : List Stp} {D : Prt} (hI : ∀ s ∈ ss, Item s.2) (h : effM ss = some D) : PrtOk D ∧ D.1.length + D.2.1.length ≤ ss.length ∧ D.2.2 ≤ ss.length := by
  have q := joinF_ok ss ([], [], 0) D ⟨fun z m => (by cases m), fun z m => (by cases m), Int.le_refl _, Int.le_refl _⟩ hI h
  refine ⟨q.1, ?_, ?_⟩
  · have := q.2.1
    simpa using this
  · have := q.2.2
    simpa using this
theorem effM_app {ss tt : List Stp} (hI : ∀ s ∈ ss, Item s.2) : effM (ss ++ tt) = (effM ss).bind fun A => (effM tt).bind (comp A) := by
  unfold effM joinM
  rw [List.map_append, joinF_app]
  cases q : joinF ([], [], 0) (ss.map partM) with
  | none => rfl
  | some A =>
    rw [Option.bind_some, Option.bind_some]
    exact joinF_eff tt A (effM_ok hI q).1.h1
theorem cw_self_left : ∀ (w r : List Str), cw w (w ++ r) = some (r, [])
  | [], r => rfl
  | a :: w, r => by
    rw [List.cons_append, cw, if_pos rfl]
    exact cw_self_left w r
theorem cw_self_right : ∀ (w r : List Str), cw (w ++ r) w = some ([], r)
  | [], r => cw_nil r
  | a :: w, r => by
    rw [List.cons_append, cw, if_pos rfl]
    exact cw_self_right w r
theorem effM_EffOk {ss : List Stp} (hI : ∀ s ∈ ss, Item s.2) (hl : ss.length ≤ 1000) : EffOk (effM ss) := by
  cases h : effM ss with
  | none => exact trivial
  | some o =>
    obtain ⟨x, y, p⟩ := o
    obtain ⟨a, b, c⟩ := effM_ok hI h
    have b' : x.length + y.length ≤ ss.length := b
    have c' : p ≤ ss.length := c
    exact ⟨a.i1, a.i2, by omega, by omega, a.h0, by omega⟩
end SE
namespace SE
open PySem PySem.Spec PyProof.Rows L2
/-! ### named steps, and their parts by name -/
abbrev NSt := Bool × Str × Str
def NStV (K : PySem.W.Frag) (H : Hp) (v : V) (s : NSt) : Prop := ∃ t, v = .ref t ∧ SqT K H t [.str (act s.1), .str s.2.1, .str s.2.2]
abbrev NSV (K : PySem.W.Frag) (H : Hp) : List V → List NSt → Prop := Paired (NStV K H)
structure NOk (s : NSt) : Prop where
  n : Item s.2.1
  i : Item s.2.2
theorem NStV.same {K : PySem.W.Frag} {H H' : Hp} {v : V} {s : NSt} (h : NStV K H v s) (e : Same H H') : NStV K H' v s := by
  obtain ⟨t, q, z⟩ := h
  exact ⟨t, q, Same.tup e z⟩
theorem nsv_same {K : PySem.W.Frag} {H H' : Hp} {vs : List V} {ss : List NSt} (h : NSV K H vs ss) (e : Same H H') : NSV K H' vs ss := Paired.mapP h fun _ _ q => q.same e
abbrev Prts := List (Str × List Stp)
def addP (ps : Prts) (n : Str) (s : Stp) : Prts := if ps.any (fun p => decide (p.1 = n)) = true then ps.map (fun p => if p.1 = n then (p.1, p.2 ++ [s]) else p) else ps ++ [(n, [s])]
def prtM (ss : List NSt) : Prts := ss.foldl (fun ps s => addP ps s.2.1 (s.1, s.2.2)) []
theorem prtM_snoc (ss : List NSt) (s : NSt) : prtM (ss ++ [s]) = addP (prtM ss) s.2.1 (s.1, s.2.2) := by
  unfold prtM
  rw [List.foldl_append]
  rfl
theorem prtM_take {ss : List NSt} {j : Nat} {s : NSt} (h : ss[j]? = some s) : prtM (ss.take (j + 1)) = addP (prtM (ss.take j)) s.2.1 (s.1, s.2.2) := by
  rw [List.take_add_one, h]
  exact prtM_snoc _ _
/-- names that differ, names and items as they may be, few enough -/
structure PrOk (ps : Prts) (m : Nat) : Prop where
  nd : (ps.map (·.1)).Nodup
  ok : ∀ p ∈ ps, Item p.1 ∧ (∀ s ∈ p.2, Item s.2) ∧ p.2.length ≤ m
  len : ps.length ≤ m
theorem addP_fst (ps : Prts) (n : Str) (s : Stp) : (addP ps n s).map (·.1) = if ps.any (fun p => decide (p.1 = n)) = true then ps.map (·.1) else ps.map (·.1) ++ [n] := by
  unfold addP
  split
  · rw [List.map_map]
    refine List.map_congr_left fun p _ => ?_
    show (if p.1 = n then (p.1, p.2 ++ [s]) else p).1 = p.1
    split <;> rfl
  · rw [List.map_append]
    rfl
theorem addP_ok {ps : Prts} {m : Nat} {n : Str} {s : Stp} (h : PrOk ps m) (hn : Item n) (hs : Item s.2) : PrOk (addP ps n s) (m + 1) := by
  refine ⟨?_, fun p mp => ?_, ?_⟩
  · rw [addP_fst]
    split
    · exact h.nd
    · rename_i c
      rw [List.nodup_append]
      refine ⟨h.nd, by simp, fun x mx y my e => c ?_⟩
      rw [List.mem_singleton.mp my] at e
      obtain ⟨p, mp, ep⟩ := List.mem_map.mp mx
      exact List.any_eq_true.mpr ⟨p, mp, decide_eq_true (by rw [ep, e])⟩
  · unfold addP at mp
    split at mp
    · obtain ⟨q, mq, rfl⟩ := List.mem_map.mp mp
      obtain ⟨a, b, c⟩ := h.ok q mq
      split
      · refine ⟨a, fun x mx => ?_, by rw [List.length_append, List.length_singleton]; omega⟩
        rcases List.mem_append.mp mx with z | z
        · exact b x z
        · rw [List.mem_singleton.mp z]; exact hs
      · exact ⟨a, b, by omega⟩
    · rcases List.mem_append.mp mp with z | z
      · obtain ⟨a, b, c⟩ := h.ok p z
        exact ⟨a, b, by omega⟩
      · rw [List.mem_singleton.mp z]
        refine ⟨hn, fun x mx => ?_, by show 1 ≤ m + 1; omega⟩
        rw [List.mem_singleton.mp mx]; exact hs
  · unfold addP
    have := h.len
    split
    · rw [List.length_map]; omega
    · rw [List.length_append, List.length_singleton]; omega
theorem prtM_ok : ∀ {ss : List NSt} (j : Nat), (∀ s ∈ ss, NOk s) → PrOk (prtM (ss.take j)) j
  | _, 0, _ => ⟨by simp [prtM], fun p m => by simp [prtM] at m, by simp [prtM]⟩
  | ss, j + 1, h => by
    have ih := prtM_ok (ss := ss) j h
    cases e : ss[j]? with
    | none =>
      have le := List.getElem?_eq_none_iff.mp e
      rw [List.take_of_length_le (by omega)]
      rw [List.take_of_length_le le] at ih
      exact ⟨ih.nd, fun p m => ⟨(ih.ok p m).1, (ih.ok p m).2.1, by have := (ih.ok p m).2.2; omega⟩, by have := ih.len; omega⟩
    | some s =>
      rw [prtM_take e]
      have q := h s (List.mem_of_getElem? e)
      exact addP_ok ih q.n q.i
/-! ### a dict of lists of steps -/
abbrev Ent := Str × Addr × List Stp
def kvsE (es : List Ent) : List (Key × V) := es.map fun e => (Sum.inr e.1, V.ref e.2.1)
def pE (es : List Ent) : Prts := es.map fun e => (e.1, e.2.2)
def LsE (H : Hp) (es : List Ent) : Prop := ∀ e ∈ es, ∃ us, H e.2.1 = some (.lst us) ∧ StepsH H us e.2.2
theorem stepsH_sm {H H' : Hp} {xs : List V} {ss : List Stp} (h : StepsH H xs ss) (s : Same H H') : StepsH H' xs ss := Paired.mapP h fun _ _ q => by
  obtain ⟨t, e, z⟩ := q
  exact ⟨t, e, s _ _ z⟩
theorem LsE.same {H H' : Hp} {es : List Ent} (h : LsE H es) (s : Same H H') : LsE H' es := fun e m => by
  obtain ⟨us, a, b⟩ := h e m
  exact ⟨us, s _ _ a, stepsH_sm b s⟩
theorem valE (es : List Ent) (n : Str) : valV (kvsE es) (Sum.inr n) = (es.find? fun e => decide (e.1 = n)).map fun e => V.ref e.2.1 := by
  induction es with
  | nil => rfl
  | cons e es ih =>
    by_cases c : e.1 = n
    · rw [List.find?_cons_of_pos (by simpa using c)]
      exact valV_pos (show (Sum.inr e.1 : Key) = Sum.inr n by rw [c])
    · rw [List.find?_cons_of_neg (by simpa using c), ← ih]
      exact valV_neg (fun z => c (Sum.inr.inj z))
/-- one more step at an entry that stands -/
def appE (es : List Ent) (n : Str) (s : Stp) : List Ent := es.map fun e => if e.1 = n then (e.1, e.2.1, e.2.2 ++ [s]) else e
theorem appE_kvs (es : List Ent) (n : Str) (s : Stp) : kvsE (appE es n s) = kvsE es := by
  unfold kvsE appE
  rw [List.map_map]
  refine List.map_congr_left fun e _ => ?_
  show ((Sum.inr (if e.1 = n then (e.1, e.2.1, e.2.2 ++ [s]) else e).1 : Key), V.ref (if e.1 = n then (e.1, e.2.1, e.2.2 ++ [s]) else e).2.1) = _
  split <;> rfl
theorem appE_adr (es : List Ent) (n : Str) (s : Stp) : (appE es n s).map (·.2.1) = es.map (·.2.1) := by
  unfold appE
  rw [List.map_map]
  refine List.map_congr_left fun e _ => ?_
  show (if e.1 = n then (e.1, e.2.1, e.2.2 ++ [s]) else e).2.1 = _
  split <;> rfl
theorem appE_p (es : List Ent) (n : Str) (s : Stp) (h : ∃ e ∈ es, e.1 = n) : pE (appE es n s) = addP (pE es) n s := by
  have a : (pE es).any (fun p => decide (p.1 = n)) = true := by
    obtain ⟨e, m, q⟩ := h
    exact List.any_eq_true.mpr ⟨_, List.mem_map.mpr ⟨e, m, rfl⟩, decide_eq_true q⟩
  unfold addP
  rw [if_pos a]
  unfold pE appE
  rw [List.map_map, List.map_map]
  refine List.map_congr_left fun e _ => ?_
  show ((if e.1 = n then (e.1, e.2.1, e.2.2 ++ [s]) else e).1, (if e.1 = n then (e.1, e.2.1, e.2.2 ++ [s]) else e).2.2) = if e.1 = n then (e.1, e.2.2 ++ [s]) else (e.1, e.2.2)
  split <;> rfl
theorem newE_p (es : List Ent) (n : Str) (s : Stp) (L : Addr) (h : ∀ e ∈ es, e.1 ≠ n) : pE (es ++ [(n, L, [s])]) = addP (pE es) n s := by
  have a : ¬ (pE es).any (fun p => decide (p.1 = n)) = true := fun q => by
    obtain ⟨p, m, q⟩ := List.any_eq_true.mp q
    obtain ⟨e, me, rfl⟩ := List.mem_map.mp m
    exact h e me (of_decide_eq_true q)
  unfold addP
  rw [if_neg a]
  unfold pE
  rw [List.map_append]
  rfl
theorem newE_kvs (es : List Ent) (n : Str) (s : Stp) (L : Addr) (h : ∀ e ∈ es, e.1 ≠ n) : putK (kvsE es) (Sum.inr n) (.ref L) = kvsE (es ++ [(n, L, [s])]) := by
  unfold putK
  rw [if_neg]
  · unfold kvsE
    rw [List.map_append]
    rfl
  · intro q
    obtain ⟨p, m, q⟩ := List.any_eq_true.mp q
    obtain ⟨e, me, rfl⟩ := List.mem_map.mp m
    exact h e me (Sum.inr.inj (of_decide_eq_true q))
theorem find_name {es : List Ent} {n : Str} {e : Ent} (h : es.find? (fun e => decide (e.1 = n)) = some e) : e ∈ es ∧ e.1 = n := ⟨List.mem_of_find?_eq_some h, by
  have := List.find?_some (p := fun e : Ent => decide (e.1 = n)) h
  simpa using this⟩
theorem find_no {es : List Ent} {n : Str} (h : es.find? (fun e => decide (e.1 = n)) = none) : ∀ e ∈ es, e.1 ≠ n := fun e m q => by
  have := List.find?_eq_none.mp h e m
  exact this (decide_eq_true q)
section
variable {P : Program} {w : World} {K : PySem.W.Frag} {mg : Str → Option Value} {base : Heap}
/-! ### is_named_step, check_named_steps -/
def spIsN (K : PySem.W.Frag) : Sp := fun xs H Q _ => ∃ (v : V) (s : NSt), xs = [v] ∧ NStV K H v s ∧ NOk s ∧ ∀ H', Same H H' → Q (.bl true) H'
theorem scIn' : FnScope ["value", "action", "name", "item"] ["value"] (defScope sIsNamedStep) := ⟨rfl, rfl, rfl, by decide +kernel, rfl, by decide +kernel, by decide +kernel⟩
theorem has_isN (D : Def K mg "is_named_step" sIsNamedStep) (GI : Has P w K mg base "is_item" 1 ["value"] [] spIsItem) (GS : Has P w K mg base "is_step" 2 ["value"] [] (spIsStep K)) (B : Blt mg) : Has P w K mg base "is_named_step" 3 ["value"] [] (spIsN K) := by
  refine has_of D scIn' (fun _ _ _ _ _ _ us hl => match us, hl with | [_], _ => rfl) (fun xs H Q E h => ?_) (fun f cv A out s H xs Q E hr h => ?_)
  · obtain ⟨v, s, rfl, _⟩ := h
    rfl
  · obtain ⟨v, s, rfl, ⟨t, rfl, hT⟩, ok, k⟩ := h
    have hr1 : Room 1 _ := hr.mono (by decide)
    refine ⟨_, pss_cons (ps_if (PW.pt (pw_or (pt_not (pt_val (pe_callB call_isi (by rfl) B.isi (by decide +kernel) (pa_cons (pv 0) (pa_cons (pe_bltn (v := .ty "tuple") (by rfl) B.tup (by decide +kernel) rfl) pa_nil)))))
        (pw_or1 (pt_cmpR op_ne (pe_callB call_len_seq (by rfl) B.len PySem.boot_len (pa_cons (pv 0) pa_nil)) pe_int (nomark _))))) (pss_one (ps_ret pe_bl)) pss_nil)
      (pss_cons (ps_asg (pv 0) (pg_tup (by rfl) (pgs_cons (pg_name (i := 1) scIn'.nd rfl (.inl rfl)) (pgs_cons (pg_name (i := 2) scIn'.nd rfl (.inl rfl)) (pgs_cons (pg_name (i := 3) scIn'.nd rfl (.inl rfl)) pgs_nil)))))
      (pss_one (ps_ret (pe_and (pe_has GI hr1 (pa_cons (pv 2) pa_nil)) (pe_one (pe_has GS hr (pa_cons (pe_tup (pa_cons (pv 1) (pa_cons (pv 3) pa_nil))) pa_nil))))))), ?_⟩
    refine ⟨_, rfl, _, .ty "tuple", .type "tuple", .type "tuple", true, rfl, .ty _, ty_tup hT, kit_ty (by decide +kernel), true, rfl, iteF ?_⟩
    refine ⟨_, rfl, t, _, rfl, .inr hT, rfl, _, rfl, iteF ?_⟩
    refine ⟨_, rfl, t, _, rfl, hT, rfl, _, _, rfl, _, _, rfl, _, _, rfl, rfl, ?_⟩
    refine ⟨_, rfl, s.2.1, rfl, ok.n, fun H1 s1 => ⟨true, rfl, iteT ⟨_, rfl, _, rfl, (by show 2 ≤ sizeLine; decide), fun u hu => ⟨.ref u, (s.1, s.2.2), rfl, ⟨u, rfl, .of upd_same⟩, ok.i, fun H2 s2 => k H2 ((s1.trans (Same.new hu)).trans s2)⟩⟩⟩⟩
def spChkN (K : PySem.W.Frag) : Sp := fun xs H Q _ => ∃ (a : Addr) (ys : List V) (ss : List NSt), xs = [.ref a] ∧ (SqL K H a ys ∨ SqT K H a ys) ∧ ys.length ≤ 1000 ∧ NSV K H ys ss ∧ (∀ s ∈ ss, NOk s) ∧ ∀ H', Same H H' → Q .non H'
theorem scCn : FnScope ["steps", "index", "step"] ["steps"] (defScope sCheckNamedSteps) := ⟨rfl, rfl, rfl, by decide +kernel, rfl, by decide +kernel, by decide +kernel⟩
theorem has_chkN (D : Def K mg "check_named_steps" sCheckNamedSteps) (GM : Has P w K mg base "may_hold_steps" 1 ["value"] [] (spMay K)) (GS : Has P w K mg base "is_named_step" 3 ["value"] [] (spIsN K)) (B : Blt mg) : Has P w K mg base "check_named_steps" 4 ["steps"] [] (spChkN K) := by
  refine has_of D scCn (fun _ _ _ _ _ _ us hl => match us, hl with | [_], _ => rfl) (fun xs H Q E h => ?_) (fun f cv A out s H xs Q E hr h => ?_)
  · obtain ⟨a, ys, ss, rfl, _⟩ := h
    rfl
  · obtain ⟨a, ys, ss, rfl, hS, hl, hV, hI, k⟩ := h
    have hr1 : Room 1 _ := hr.mono (by decide)
    have one : ∀ {i : Nat} {y : V} {H2 : Hp}, ys[i]? = some y → Same H H2 → ∃ s, NStV K H2 y s ∧ NOk s := by
      intro i y H2 hy s2
      obtain ⟨st, h1, h2⟩ := paired_at hV hy
      exact ⟨st, h2.same s2, hI st (List.mem_of_getElem? h1)⟩
    rcases hS with hS | hS
    · refine ⟨_, pss_cons (ps_if (pt_not (pt_val (pe_has GM hr1 (pa_cons (pv 0) pa_nil)))) pss_never pss_nil)
        (pss_one (ps_for PassesOwn.never rfl (pi_enum (by rfl) B.enu (pa_cons (pv 0) pa_nil)) (pg_tup (by rfl) (pgs_cons (pg_name (i := 1) scCn.nd rfl (.inl rfl)) (pgs_cons (pg_name (i := 2) scCn.nd rfl (.inl rfl)) pgs_nil)))
          (pss_one (ps_if (pt_not (pt_val (pe_has GS hr (pa_cons (pv 2) pa_nil)))) pss_never pss_nil)))), ?_⟩
      refine ⟨_, rfl, a, ys, rfl, .inl hS, hl, fun H1 s1 => ⟨true, rfl, iteF ?_⟩⟩
      refine ⟨_, rfl, a, ys, rfl, Same.seq s1 hS, for_it (walk_enum (K := K) (a := a) (xs := ys)) (fun i σ H2 => ∃ y1 y2, σ = [some (.ref a), y1, y2] ∧ Same H H2) ⟨none, none, rfl, s1⟩ (fun i σ H2 _ q => ?_) ?_ ?_⟩
      · obtain ⟨_, _, _, s2⟩ := q
        exact Same.seq s2 hS
      · rintro i x σ H2 H3 hi ⟨y1, y2, rfl, s2⟩ ⟨T, p, y, rfl, nT, rfl, hp, hy⟩
        refine ⟨T, _, rfl, .of upd_same, rfl, _, _, rfl, _, _, rfl, rfl, ?_⟩
        have s3 : Same H (upd H2 T (.tup [p, y])) := Same.free2 s2 (s2.free nT)
        obtain ⟨st, h1, h2⟩ := one hy s3
        exact ⟨_, rfl, y, st, rfl, h1, h2, fun H4 s4 => ⟨true, rfl, iteF ⟨_, _, rfl, s3.trans s4⟩⟩⟩
      · rintro σ H2 ⟨y1, y2, rfl, s2⟩
        exact k H2 s2
    · refine ⟨_, pss_cons (ps_if (pt_not (pt_val (pe_has GM hr1 (pa_cons (pv 0) pa_nil)))) pss_never pss_nil)
        (pss_one (ps_for PassesOwn.never rfl (pi_enumT (by rfl) B.enu (pa_cons (pv 0) pa_nil)) (pg_tup (by rfl) (pgs_cons (pg_name (i := 1) scCn.nd rfl (.inl rfl)) (pgs_cons (pg_name (i := 2) scCn.nd rfl (.inl rfl)) pgs_nil)))
          (pss_one (ps_if (pt_not (pt_val (pe_has GS hr (pa_cons (pv 2) pa_nil)))) pss_never pss_nil)))), ?_⟩
      refine ⟨_, rfl, a, ys, rfl, .inr hS, hl, fun H1 s1 => ⟨true, rfl, iteF ?_⟩⟩
      refine ⟨_, rfl, a, ys, rfl, Same.tup s1 hS, for_it (walk_enumT (K := K) (a := a) (xs := ys)) (fun i σ H2 => ∃ y1 y2, σ = [some (.ref a), y1, y2] ∧ Same H H2) ⟨none, none, rfl, s1⟩ (fun i σ H2 _ q => ?_) ?_ ?_⟩
      · obtain ⟨_, _, _, s2⟩ := q
        exact Same.tup s2 hS
      · rintro i x σ H2 H3 hi ⟨y1, y2, rfl, s2⟩ ⟨T, p, y, rfl, nT, rfl, hp, hy⟩
        refine ⟨T, _, rfl, .of upd_same, rfl, _, _, rfl, _, _, rfl, rfl, ?_⟩
        have s3 : Same H (upd H2 T (.tup [p, y])) := Same.free2 s2 (s2.free nT)
        obtain ⟨st, h1, h2⟩ := one hy s3
        exact ⟨_, rfl, y, st, rfl, h1, h2, fun H4 s4 => ⟨true, rfl, iteF ⟨_, _, rfl, s3.trans s4⟩⟩⟩
      · rintro σ H2 ⟨y1, y2, rfl, s2⟩
        exact k H2 s2
end
end SE
namespace SE
open PySem PySem.Spec PyProof.Rows L2
/-! ### heaps without some objects -/
def hid (S : List Addr) (H : Hp) : Hp := fun b => if b ∈ S then none else H b
theorem hid_ne {S : List Addr} {b : Addr} {H : Hp} (h : b ∉ S) : hid S H b = H b := if_neg h
theorem hid_out (S : List Addr) (H : Hp) : Same (hid S H) H := fun b o h => by
  unfold hid at h
  by_cases c : b ∈ S
  · rw [if_pos c] at h
    cases h
  · rw [if_neg c] at h
    exact h
theorem hid_map {S T : List Addr} {H H' : Hp} (h : ∀ b o, b ∉ S → H b = some o → b ∉ T ∧ H' b = some o) : Same (hid S H) (hid T H') := fun b o q => by
  unfold hid at q
  by_cases c : b ∈ S
  · rw [if_pos c] at q
    cases q
  · rw [if_neg c] at q
    obtain ⟨h1, h2⟩ := h b o c q
    rw [hid_ne h1]
    exact h2
theorem hid_of {S : List Addr} {H H' : Hp} (h : Same H H') : Same (hid S H) (hid S H') := hid_map fun b o c q => ⟨c, h b o q⟩
theorem hid_but {S : List Addr} {p : Addr} {H H' : Hp} (h : But p H H') (hp : p ∈ S) : Same (hid S H) (hid S H') := hid_map fun b o c q => ⟨c, h b o (fun e => c (e ▸ hp)) q⟩
theorem hid_upd {S : List Addr} {D : Addr} {H : Hp} {o : HO} (hD : D ∈ S) : Same (hid S H) (hid S (upd H D o)) := hid_map fun b u c q => ⟨c, by
  have e : b ≠ D := fun e => c (by rw [e]; exact hD)
  rw [upd_ne e]
  exact q⟩
/-- what H does not know may be hidden too -/
theorem hid_free {S : List Addr} {D : Addr} {H : Hp} (hD : H D = none) : Same (hid S H) (hid (D :: S) H) := hid_map fun b o c q => ⟨fun m => by
  rcases List.mem_cons.mp m with e | m
  · rw [e, hD] at q
    cases q
  · exact c m, q⟩
theorem hid_less {S : List Addr} {D : Addr} {H : Hp} : Same (hid (D :: S) H) (hid S H) := hid_map fun b o c q => ⟨fun m => c (List.mem_cons_of_mem _ m), q⟩
theorem Same.but3 {H H3 H4 : Hp} {p : Addr} (s : Same H H3) (hp : H p = none) (b : But p H3 H4) : Same H H4 := fun c o e => b c o (ne_of_none e hp) (s c o e)
theorem SqT.same3 {K : PySem.W.Frag} {H H' : Hp} {u p : Addr} {xs : List V} (h : SqT K H u xs) (hp : Pool H p) (b : But p H H') : SqT K H' u xs := by
  rcases h with (h | ⟨o, h⟩) | h
  · exact .inl (.inl (b _ _ (fun e => by obtain ⟨m, s, q, _⟩ := hp.ex; rw [e, q] at h; cases h) h))
  · exact .inl (.inr ⟨o, b _ _ (fun e => by obtain ⟨m, s, q, _⟩ := hp.ex; rw [e, q] at h; cases h) h⟩)
  · exact .inr h
theorem ixN_nat {n j : Nat} (h : j < n) : ixN n (j : Int) = some j := by
  unfold ixN
  rw [if_pos (by omega), if_pos (by omega), Int.toNat_natCast]
def LstAll (S : List Addr) (H : Hp) : Prop := ∀ b ∈ S, ∃ us, H b = some (.lst us)
theorem LstAll.nil {H : Hp} : LstAll [] H := fun _ m => by cases m
theorem LstAll.cons {S : List Addr} {D : Addr} {us : List V} {H : Hp} (h : LstAll S H) (hD : H D = some (.lst us)) : LstAll (D :: S) H := fun b m => by
  rcases List.mem_cons.mp m with e | m
  · exact ⟨us, e ▸ hD⟩
  · exact h b m
theorem LstAll.pool {H : Hp} {p : Addr} (h : Pool H p) : LstAll [p] H := by
  obtain ⟨m, s, e, _⟩ := h.ex
  exact LstAll.nil.cons e
theorem hid_at {S : List Addr} {H : Hp} {b : Addr} {o : HO} (h : LstAll S H) (hb : H b = some o) (n : ∀ us, o ≠ .lst us) : hid S H b = some o := by
  rw [hid_ne fun m => ?_]
  · exact hb
  · obtain ⟨us, e⟩ := h b m
    rw [e] at hb
    cases hb
    exact n us rfl
theorem hid_tup {K : PySem.W.Frag} {S : List Addr} {H : Hp} {a : Addr} {xs : List V} (h : LstAll S H) (ha : SqT K H a xs) : SqT K (hid S H) a xs := by
  rcases ha with (h1 | ⟨o, h1⟩) | h1
  · exact .inl (.inl (hid_at h h1 fun us e => by cases e))
  · exact .inl (.inr ⟨o, hid_at h h1 fun us e => by cases e⟩)
  · exact .inr h1
theorem hid_steps {S : List Addr} {H : Hp} {us : List V} {ss : List Stp} (h : LstAll S H) (hs : StepsH H us ss) : StepsH (hid S H) us ss := Paired.mapP hs fun _ _ q => by
  obtain ⟨t, e, z⟩ := q
  exact ⟨t, e, hid_at h z fun us e => by cases e⟩
section
variable {K : PySem.W.Frag} {C : Addr} {S : List Addr} {H : Hp}
theorem hid_eff {e : Addr} (h : LstAll S H) : ∀ {o : Eff}, EffV K C H e o → EffV K C (hid S H) e o
  | none, q => by
    obtain ⟨dx, h1⟩ := NevAt.ex q
    exact ⟨dx, hid_at h h1 fun us e => by cases e⟩
  | some (_, _, _), q => by
    obtain ⟨dx, u, v, h1, h2, h3⟩ := EffAt.ex q
    exact ⟨dx, u, v, hid_at h h1 fun us e => (by cases e), hid_tup h h2, hid_tup h h3⟩
end
end SE
namespace SE
open PySem PySem.Spec PyProof.Rows L2
abbrev NStH (H : Hp) : List V → List NSt → Prop := Paired fun v s => ∃ t, v = .ref t ∧ H t = some (.tup [.str (act s.1), .str s.2.1, .str s.2.2])
theorem NStH.v {K : PySem.W.Frag} {H : Hp} {xs : List V} {ss : List NSt} (h : NStH H xs ss) : NSV K H xs ss := Paired.mapP h fun _ _ q => by
  obtain ⟨t, e, z⟩ := q
  exact ⟨t, e, .of z⟩
theorem nsth_same {H H' : Hp} {xs : List V} {ss : List NSt} (h : NStH H xs ss) (s : Same H H') : NStH H' xs ss := Paired.mapP h fun _ _ q => by
  obtain ⟨t, e, z⟩ := q
  exact ⟨t, e, s _ _ z⟩
theorem act_len (b : Bool) : (act b).length ≤ 4 := by cases b <;> decide +kernel
end SE
namespace SE
open PySem PySem.Spec PyProof.Rows L2
theorem effM_app2 (ss ts : List Stp) : effM (ss ++ ts) = (effM ss).bind fun D => joinF D (ts.map partM) := by
  unfold effM joinM
  rw [List.map_append, joinF_app]
theorem effM_snoc (ss : List Stp) (s : Stp) : effM (ss ++ [s]) = (effM ss).bind fun D => comp D (partM s) := by
  rw [effM_app2]
  congr 1
  funext D
  show (match comp D (partM s) with | none => none | some E => some E) = _
  cases comp D (partM s) <;> rfl
theorem effM_none {ss : List Stp} {j : Nat} (h : effM (ss.take j) = none) : effM ss = none := by
  rw [← List.take_append_drop j ss, effM_app2, h]
  rfl
theorem comp_push' (x y : List Str) (p : Int) (z : Str) : comp (x, y, p) (partM (true, z)) = some (x, z :: y, if ((z :: y).length : Int) - (x.length : Int) > p then ((z :: y).length : Int) - (x.length : Int) else p) := by
  have e : ((z :: y).length : Int) - (x.length : Int) = (y.length : Int) - (x.length : Int) + 1 := by
    rw [List.length_cons]
    omega
  rw [e]
  simp [comp, partM]
theorem comp_pop0' (x : List Str) (p : Int) (z : Str) (hp : 0 ≤ p) : comp (x, [], p) (partM (false, z)) = some (x ++ [z], [], if ((0 : Nat) : Int) - ((x ++ [z]).length : Int) > p then ((0 : Nat) : Int) - ((x ++ [z]).length : Int) else p) := by
  have a : ¬ ((0 : Nat) : Int) - ((x ++ [z]).length : Int) > p := by omega
  rw [if_neg a]
  have b : ¬ ((0 : Nat) : Int) - (x.length : Int) + 0 > p := by omega
  have e : comp (x, [], p) (partM (false, z)) = some (x ++ [z], [], if ((0 : Nat) : Int) - (x.length : Int) + 0 > p then ((0 : Nat) : Int) - (x.length : Int) + 0 else p) := by simp [comp, partM]
  rw [e, if_neg b]
theorem comp_pop' (x r : List Str) (p : Int) (t z : Str) (hp : ((t :: r).length : Int) - (x.length : Int) ≤ p) : comp (x, t :: r, p) (partM (false, z)) = if t = z then some (x, r, if (r.length : Int) - (x.length : Int) > p then (r.length : Int) - (x.length : Int) else p) else none := by
  have em : min (t :: r).length [z].length = 1 := by
    rw [List.length_cons, List.length_singleton]
    omega
  rw [List.length_cons] at hp
  have a : ¬ (r.length : Int) - (x.length : Int) > p := by omega
  have b : ¬ ((t :: r).length : Int) - (x.length : Int) + 0 > p := by rw [List.length_cons]; omega
  rw [if_neg a]
  by_cases c : t = z
  · rw [if_pos c]
    have e : comp (x, t :: r, p) (partM (false, z)) = some (x, r, if ((t :: r).length : Int) - (x.length : Int) + 0 > p then ((t :: r).length : Int) - (x.length : Int) + 0 else p) := by simp [comp, partM, em, c]
    rw [e, if_neg b]
  · rw [if_neg c]
    simp [comp, partM, em, c]
section
variable {P : Program} {w : World} {K : PySem.W.Frag} {mg : Str → Option Value} {base : Heap}
/-! ### _law_effect -/
def spLEff (K : PySem.W.Frag) : Sp := fun xs H Q _ => ∃ (a : Addr) (ys : List V) (ss : List Stp), xs = [.ref a] ∧ SqL K H a ys ∧ StepsV K H ys ss ∧ (∀ s ∈ ss, Item s.2) ∧ ss.length ≤ 1000 ∧ (effM ss = none → ∀ H', Same H H' → Q .non H') ∧
  (∀ xs zs p, effM ss = some (xs, zs, p) → ∀ (t u v : Addr) (H' : Hp), Same H H' → H' t = some (.tup [.ref u, .ref v, .int p]) → H' u = some (.tup (xs.map V.str)) → H' v = some (.tup (zs.map V.str)) → Q (.ref t) H')
abbrev nLe : List Str := ["_law_steps_here", "_law_pops", "_law_own", "_law_top", "_law_action", "_law_item"]
theorem scLe' : FnScope nLe ["_law_steps_here"] (defScope sLawEffect) := ⟨rfl, rfl, rfl, by decide +kernel, rfl, by decide +kernel, by decide +kernel⟩
theorem has_leff (D : Def K mg "_law_effect" sLawEffect) (mx : mg "max" = none) (ml : mg "len" = none) (mt : mg "tuple" = none) : Has P w K mg base "_law_effect" 1 ["_law_steps_here"] [] (spLEff K) := by
  refine has_of D scLe' (fun _ _ _ _ _ _ us hl => match us, hl with | [_], _ => rfl) (fun xs H Q E h => ?_) (fun f cv A out s H xs Q E hr h => ?_)
  · obtain ⟨a, ys, ss, rfl, _⟩ := h
    rfl
  · obtain ⟨a, ys, ss, rfl, hS, hV, hI, hl, kN, kS⟩ := h
    have ly : ys.length = ss.length := hV.length
    refine ⟨_, pss_cons (ps_par3 (i := 1) (j := 2) (l := 3) (by rfl) scLe'.nd rfl rfl rfl (by decide) (by decide) (by decide) rfl rfl rfl (pa_cons (pe_lst pa_nil) (pa_cons (pe_lst pa_nil) (pa_cons pe_int pa_nil))) (by rfl))
      (pss_cons (ps_for PassesOwn.never rfl (pi_list (pv 0)) (pg_tup (by rfl) (pgs_cons (pg_name (i := 4) scLe'.nd rfl (.inl rfl)) (pgs_cons (pg_name (i := 5) scLe'.nd rfl (.inl rfl)) pgs_nil)))
        (Evl.pss_cut (ps_if (pt_cmpR op_eq (pv 4) pe_str (nomark _))
          (pss_one (ps_expr (pe_bm PySem.F.plainAttrs_list PySem.F.slot_list_append PySem.F.type_list_append mt_append (pv 2) (pa_cons (pv 5) pa_nil))))
          (pss_one (ps_if (pt_cmpR (op_eqD hr.units) (pv 2) (pe_lst pa_nil) (nomark _))
            (pss_one (ps_expr (pe_bm PySem.F.plainAttrs_list PySem.F.slot_list_append PySem.F.type_list_append mt_append (pv 1) (pa_cons (pv 5) pa_nil))))
            (pss_one (ps_if (pt_cmpR op_ne (pe_bm0 PySem.F.plainAttrs_list PySem.F.slot_list_pop PySem.F.type_list_pop mt_pop (pv 2)) (pv 5) (nomark _)) (pss_one (ps_ret pe_non)) pss_nil)))))
        (pss_one (ps_set (i := 3) scLe'.nd rfl (.inl rfl) (pe_callB (call_max2 rfl) (by rfl) mx (by decide +kernel) (pa_cons (pv 3) (pa_cons (pe_op op_sub (pe_callB call_len_seq (by rfl) ml PySem.boot_len (pa_cons (pv 2) pa_nil)) (pe_callB call_len_seq (by rfl) ml PySem.boot_len (pa_cons (pv 1) pa_nil))) pa_nil)))))))
      (pss_one (ps_ret (pe_tup (pa_cons (pe_callTy call_tuple_of (by rfl) mt (by decide +kernel) (pa_cons (pv 1) pa_nil)) (pa_cons (pe_callTy call_tuple_of (by rfl) mt (by decide +kernel) (pa_cons (pe_revL (pv 2)) pa_nil)) (pa_cons (pv 3) pa_nil))))))), ?_⟩
    refine ⟨(by show 0 ≤ sizeLine; decide), fun L1 h1 => ⟨(by show 0 ≤ sizeLine; decide), fun L2 h2 => ⟨_, _, _, rfl, ?_⟩⟩⟩
    have s1 : Same H (upd H L1 (.lst [])) := Same.new h1
    have s2 : Same (upd H L1 (.lst [])) (upd (upd H L1 (.lst [])) L2 (.lst [])) := Same.new h2
    have ne : L1 ≠ L2 := ne_of_none upd_same h2
    have n2 : H L2 = none := s1.free h2
    refine ⟨_, rfl, a, rfl, ⟨_, Same.seq (s1.trans s2) hS⟩, for_list (K := K) (a := a) (xs := ys) (fun j σ H2 => ∃ (xs zs : List Str) (p : Int) (y4 y5 : Option V), σ = [some (.ref a), some (.ref L1), some (.ref L2), some (.int p), y4, y5] ∧ effM (ss.take j) = some (xs, zs, p) ∧ H2 L1 = some (.lst (xs.map V.str)) ∧ H2 L2 = some (.lst (zs.reverse.map V.str)) ∧ Same H H2) ⟨[], [], 0, _, _, rfl, rfl, s2 _ _ upd_same, upd_same, s1.trans s2⟩ (fun j σ H2 _ q => ?_) ?_ ?_⟩
    · obtain ⟨_, _, _, _, _, _, _, _, _, s3⟩ := q
      exact Same.seq s3 hS
    · rintro j x σ H2 hx ⟨xs, zs, p, y4, y5, rfl, hE, hP, hO, s3⟩
      obtain ⟨⟨b, z⟩, hst, t, rfl, hT⟩ := StepsV.at hV hx
      have iz : Item z := hI (b, z) (List.mem_of_getElem? hst)
      have jl := (List.getElem?_eq_some_iff.mp hx).1
      obtain ⟨pok, pl, pp⟩ := effM_ok (fun s m => hI s (List.mem_of_mem_take m)) hE
      have pl : xs.length + zs.length ≤ (ss.take j).length := pl
      rw [List.length_take] at pl
      have en : effM (ss.take (j + 1)) = comp (xs, zs, p) (partM (b, z)) := by
        rw [List.take_add_one, hst]
        show effM (ss.take j ++ [(b, z)]) = _
        rw [effM_snoc, hE]
        rfl
      refine ⟨t, _, rfl, Same.tup s3 hT, rfl, _, _, rfl, _, _, rfl, rfl, ?_⟩
      refine ⟨fun σ H3 => ∃ (xs' zs' : List Str), σ = [some (.ref a), some (.ref L1), some (.ref L2), some (.int p), some (.str (act b)), some (.str z)] ∧ comp (xs, zs, p) (partM (b, z)) = some (xs', zs', if (zs'.length : Int) - (xs'.length : Int) > p then (zs'.length : Int) - (xs'.length : Int) else p) ∧ H3 L1 = some (.lst (xs'.map V.str)) ∧ H3 L2 = some (.lst (zs'.reverse.map V.str)) ∧ Same H H3, ?_, ?_⟩
      · refine ⟨_, rfl, rfl, _, rfl, ?_⟩
        cases b with
        | true =>
          rw [decide_eq_true (by rfl)]
          refine iteT ⟨.ref L2, rfl, .inl ⟨rfl, _, .of hO⟩, _, rfl, L2, _, _, rfl, rfl, hO, ?_, xs, z :: zs, rfl, comp_push' _ _ _ _, ?_, ?_, Same.free2 s3 n2⟩
          · rw [List.length_map, List.length_reverse, sizeLine_eq]
            omega
          · rw [upd_ne ne]
            exact hP
          · rw [upd_same, List.reverse_cons, List.map_append]
            rfl
        | false =>
          have np : ¬ (act false = Str.ofString "push") := by decide +kernel
          rw [decide_eq_false (fun e => np (V.str.inj e))]
          refine iteF ⟨_, rfl, (by show 0 ≤ sizeLine; decide), fun M hM => ?_⟩
          have sM : Same H2 (upd H2 M (.lst [])) := Same.new hM
          have izs : ∀ y ∈ zs.reverse, Item y := fun y m => pok.i2 y (List.mem_reverse.mp m)
          refine ⟨.list (zs.reverse.map .str), .list (([] : List Str).map .str), .lst (.of (sM _ _ hO)) (dp_strs _), .lst (.of upd_same) .nil, (nice_list (nice_strs izs)).shaped (by decide), rfl, _, rfl, ?_⟩
          rw [eqv_listS]
          have hPM := sM _ _ hP
          have hOM := sM _ _ hO
          cases zs with
          | nil =>
            rw [show decide (([] : List Str).reverse = []) = true from rfl]
            refine iteT ⟨.ref L1, rfl, .inl ⟨rfl, _, .of hPM⟩, _, rfl, L1, _, _, rfl, rfl, hPM, ?_, xs ++ [z], [], rfl, comp_pop0' _ _ _ pok.h0, ?_, ?_, Same.free2 (s3.trans sM) h1⟩
            · rw [List.length_map, sizeLine_eq]
              omega
            · rw [upd_same, List.map_append]
              rfl
            · rw [upd_ne (Ne.symm ne)]
              exact hOM
          | cons y r =>
            rw [decide_eq_false (by simp)]
            have hr' : (y :: r).reverse.map V.str = r.reverse.map V.str ++ [V.str y] := by
              rw [List.reverse_cons, List.map_append]
              rfl
            rw [hr'] at hOM
            refine iteF ⟨.ref L2, rfl, .inl ⟨rfl, _, .of hOM⟩, L2, r.reverse.map V.str ++ [V.str y], .str y, rfl, rfl, hOM, ?_, ?_⟩
            · rw [List.length_append, List.length_singleton, Nat.add_sub_cancel, List.getElem?_append_right (Nat.le_refl _), Nat.sub_self]
              rfl
            · rw [List.dropLast_concat]
              refine ⟨_, rfl, rfl, _, rfl, ?_⟩
              have cp := comp_pop' xs r p y z pok.h1
              by_cases c : y = z
              · rw [decide_eq_true (by rw [c])]
                rw [if_pos c] at cp
                exact iteF ⟨xs, r, rfl, cp, by rw [upd_ne ne]; exact hPM, upd_same, Same.free2 (s3.trans sM) n2⟩
              · rw [decide_eq_false (fun e => c (V.str.inj e))]
                rw [if_neg c] at cp
                exact iteT (kN (effM_none (en.trans cp)) _ (Same.free2 (s3.trans sM) n2))
      · rintro σ H3 ⟨xs', zs', rfl, hc, hP3, hO3, s4⟩
        refine ⟨_, rfl, _, rfl, L2, _, rfl, .inl (.of hO3), _, rfl, L1, _, rfl, .inl (.of hP3), _, _, rfl, rfl, p, _, rfl, xs', zs', _, some (.str (act b)), some (.str z), ?_, en.trans hc, hP3, hO3, s4⟩
        rw [List.length_map, List.length_map, List.length_reverse]
        rfl
    · rintro σ H2 ⟨xs, zs, p, y4, y5, rfl, hE, hP, hO, s3⟩
      rw [ly, List.take_length] at hE
      refine ⟨_, rfl, L1, _, rfl, .inl ⟨.of hP, fun u hu => ?_⟩⟩
      have su : Same H2 (upd H2 u (.tup (xs.map V.str))) := Same.new hu
      refine ⟨_, rfl, L2, _, rfl, .of (su _ _ hO), fun R hR => ?_⟩
      have sR : Same (upd H2 u (.tup (xs.map V.str))) (upd (upd H2 u (.tup (xs.map V.str))) R (.lst (zs.reverse.map V.str).reverse)) := Same.new hR
      refine ⟨R, _, rfl, .inl ⟨.of upd_same, fun v hv => ?_⟩⟩
      have sv := Same.new (o := .tup (zs.reverse.map V.str).reverse) hv
      refine ⟨_, rfl, (by show 3 ≤ sizeLine; decide), fun t ht => ?_⟩
      have st := Same.new (o := .tup [.ref u, .ref v, .int p]) ht
      refine kS xs zs p hE t u v _ ((((s3.trans su).trans sR).trans sv).trans st) upd_same (st _ _ (sv _ _ (sR _ _ upd_same))) ?_
      rw [st _ _ upd_same, ← List.map_reverse, List.reverse_reverse]
end
end SE
namespace SE
open PySem PySem.Spec PyProof.Rows L2
theorem merge_has (B : Addr → Prop) : ∀ (es : List (Str × Addr)) (acc : List (Key × V)) (M : Str → Prop), (∀ n, M n → ∃ b, B b ∧ valV acc (Sum.inr n) = some (.ref b)) → (∀ e ∈ es, B e.2) → ∀ n, (M n ∨ n ∈ es.map (·.1)) → ∃ b, B b ∧ valV (mergeK acc (es.map fun e => ((Sum.inr e.1 : Key), V.ref e.2))) (Sum.inr n) = some (.ref b)
  | [], acc, M, h, _, n, hn => by
    rcases hn with q | q
    · exact h n q
    · cases q
  | e :: es, acc, M, h, hB, n, hn => by
    refine merge_has B es (putK acc (Sum.inr e.1) (.ref e.2)) (fun x => M x ∨ x = e.1) (fun x hx => ?_) (fun x m => hB x (List.mem_cons_of_mem _ m)) n ?_
    · rw [valV_put]
      by_cases c : x = e.1
      · rw [if_pos (by rw [c])]
        exact ⟨e.2, hB e List.mem_cons_self, rfl⟩
      · rw [if_neg (fun q => c (Sum.inr.inj q))]
        rcases hx with q | q
        · exact h x q
        · exact absurd q c
    · rcases hn with q | q
      · exact .inl (.inl q)
      · rw [List.map_cons] at q
        rcases List.mem_cons.mp q with q | q
        · exact .inl (.inr q)
        · exact .inr q
/-- what holds between two turns -/
structure WI (NS : List Str) (H3 : Hp) (p g : Addr) (B : List Addr) (j : Nat) (us : List V) (ss : List NSt) (Hx : Hp) : Prop where
  gp : g ≠ p
  gB : g ∉ B
  pB : p ∉ B
  at_ : Hx g = some (.lst us)
  n : NStH (hid (g :: p :: B) Hx) us ss
  pl : Pool Hx p
  s : Same (hid (g :: p :: B) H3) (hid (g :: p :: B) Hx)
  bs : ∀ b ∈ B, ∃ ws : List Str, Hx b = some (.lst (ws.map V.str)) ∧ (∀ z ∈ ws, Item z) ∧ ws.length ≤ j
  ok : ∀ s ∈ ss, NOk s ∧ s.2.1 ∈ NS
section
variable {NS : List Str} {H3 Hx Hy : Hp} {p g : Addr} {B : List Addr} {j : Nat} {us : List V} {ss : List NSt}
theorem WI.bp (a : WI NS H3 p g B j us ss Hx) {b : Addr} (hb : b ∈ B) : b ≠ p := fun e => a.pB (e ▸ hb)
theorem WI.bg (a : WI NS H3 p g B j us ss Hx) {b : Addr} (hb : b ∈ B) : b ≠ g := fun e => a.gB (e ▸ hb)
theorem WI.new (a : WI NS H3 p g B j us ss Hx) (e : Same Hx Hy) : WI NS H3 p g B j us ss Hy := ⟨a.gp, a.gB, a.pB, e _ _ a.at_, nsth_same a.n (hid_of e), a.pl.same e, a.s.trans (hid_of e), fun b hb => by
  obtain ⟨ws, h1, h2⟩ := a.bs b hb
  exact ⟨ws, e _ _ h1, h2⟩, a.ok⟩
theorem WI.draw (a : WI NS H3 p g B j us ss Hx) (e : But p Hx Hy) (q : Pool Hy p) : WI NS H3 p g B j us ss Hy :=
  have s : Same (hid (g :: p :: B) Hx) (hid (g :: p :: B) Hy) := hid_but e (by simp)
  ⟨a.gp, a.gB, a.pB, e _ _ a.gp a.at_, nsth_same a.n s, q, a.s.trans s, fun b hb => by
  obtain ⟨ws, h1, h2⟩ := a.bs b hb
  exact ⟨ws, e _ _ (a.bp hb) h1, h2⟩, a.ok⟩
theorem WI.pile (a : WI NS H3 p g B j us ss Hx) {b : Addr} (hb : b ∈ B) {ws : List Str} (hI : ∀ z ∈ ws, Item z) (hl : ws.length ≤ j + 1) : WI NS H3 p g B (j + 1) us ss (upd Hx b (.lst (ws.map V.str))) :=
  have s : Same (hid (g :: p :: B) Hx) (hid (g :: p :: B) (upd Hx b (.lst (ws.map V.str)))) := hid_upd (by simp [hb])
  ⟨a.gp, a.gB, a.pB, by rw [upd_ne (Ne.symm (a.bg hb))]; exact a.at_, nsth_same a.n s, a.pl.upd (a.bp hb), a.s.trans s, fun c hc => by
  by_cases e : c = b
  · subst e
    exact ⟨ws, upd_same, hI, hl⟩
  · obtain ⟨vs, h1, h2, h3⟩ := a.bs c hc
    exact ⟨vs, by rw [upd_ne e]; exact h1, h2, by omega⟩, a.ok⟩
theorem WI.up (a : WI NS H3 p g B j us ss Hx) : WI NS H3 p g B (j + 1) us ss Hx := ⟨a.gp, a.gB, a.pB, a.at_, a.n, a.pl, a.s, fun b hb => by
  obtain ⟨ws, h1, h2, h3⟩ := a.bs b hb
  exact ⟨ws, h1, h2, by omega⟩, a.ok⟩
theorem WI.app (a : WI NS H3 p g B j us ss Hx) {t : Addr} {s : NSt} (ht : Hx t = none) (hs : NOk s ∧ s.2.1 ∈ NS) : WI NS H3 p g B j (us ++ [.ref t]) (ss ++ [s]) (upd (upd Hx t (.tup [.str (act s.1), .str s.2.1, .str s.2.2])) g (.lst (us ++ [.ref t]))) := by
  have b := a.new (Same.new (o := .tup [.str (act s.1), .str s.2.1, .str s.2.2]) ht)
  have tg : t ≠ g := Ne.symm (ne_of_none a.at_ ht)
  have tp : t ≠ p := a.pl.free ht
  have tB : t ∉ B := fun m => by
    obtain ⟨ws, h1, _⟩ := a.bs t m
    rw [ht] at h1
    cases h1
  have s0 : Same (hid (g :: p :: B) (upd Hx t (.tup [.str (act s.1), .str s.2.1, .str s.2.2]))) (hid (g :: p :: B) (upd (upd Hx t (.tup [.str (act s.1), .str s.2.1, .str s.2.2])) g (.lst (us ++ [.ref t])))) := hid_upd (by simp)
  refine ⟨a.gp, a.gB, a.pB, upd_same, Paired.snoc2 (nsth_same b.n s0) ⟨t, rfl, ?_⟩, b.pl.upd a.gp, b.s.trans s0, fun c hc => ?_, fun q mq => ?_⟩
  · rw [hid_ne (by simp [tg, tp, tB]), upd_ne tg]
    exact upd_same
  · obtain ⟨ws, h1, h2⟩ := b.bs c hc
    exact ⟨ws, by rw [upd_ne (a.bg hc)]; exact h1, h2⟩
  · rcases List.mem_append.mp mq with z | z
    · exact a.ok q z
    · rw [List.mem_singleton.mp z]
      exact hs
theorem WI.len (a : WI NS H3 p g B j us ss Hx) : us.length = ss.length := Paired.length a.n
/-- what stands outside -/
theorem WI.out (a : WI NS H3 p g B j us ss Hx) {c : Addr} {o : HO} (h : H3 c = some o) (h1 : c ≠ g) (h2 : c ≠ p) (h3 : c ∉ B) : Hx c = some o := hid_out _ _ _ _ (a.s _ _ (by rw [hid_ne (by simp [h1, h2, h3])]; exact h))
end
section
variable {P : Program} {w : World} {K : PySem.W.Frag} {mg : Str → Option Value} {base : Heap}
/-! ### _law_named_well -/
def spNamedN : Sp := fun xs H Q _ => ∃ (p nl il : Addr) (m : Int) (ns zs : List Str), xs = [.ref p, .ref nl, .ref il, .int m] ∧ Pool H p ∧ nl ≠ p ∧ H nl = some (.lst (ns.map V.str)) ∧ ns ≠ [] ∧ ns.length ≤ 100 ∧ (∀ z ∈ ns, Item z) ∧ il ≠ p ∧ H il = some (.lst (zs.map V.str)) ∧ zs ≠ [] ∧ zs.length ≤ 100 ∧ (∀ z ∈ zs, Item z) ∧ 0 ≤ m ∧ m ≤ 100 ∧
  ∀ (t : Addr) (us : List V) (ss : List NSt) (H' : Hp), But p H H' → Pool H' p → H t = none → t ≠ p → H' t = some (.lst us) → NStH H' us ss → (ss.length : Int) ≤ m → (∀ s ∈ ss, NOk s ∧ s.2.1 ∈ ns) → Q (.ref t) H'
abbrev nNw : List Str := ["_law_pool_here", "_law_names", "_law_items_here", "_law_many", "_law_found", "_law_piles", "_law_name_here", "_law_turn", "_law_pile", "_law_item"]
theorem scNw : FnScope nNw ["_law_pool_here", "_law_names", "_law_items_here", "_law_many"] (defScope sLawNamedWell) := ⟨rfl, rfl, rfl, by decide +kernel, rfl, by decide +kernel, by decide +kernel⟩
theorem has_well (D : Def K mg "_law_named_well" sLawNamedWell) (GT : Has P w K mg base "_law_take" 1 ["_law_pool_here", "_law_many"] [] spTake) (ml : mg "len" = none) (md : mg "dict" = none) (mr : mg "range" = none) : Has P w K mg base "_law_named_well" 2 ["_law_pool_here", "_law_names", "_law_items_here", "_law_many"] [] spNamedN := by
  refine has_of D scNw (fun _ _ _ _ _ _ us hl => match us, hl with | [_, _, _, _], _ => rfl) (fun xs H Q E h => ?_) (fun f cv A out s H xs Q E hr h => ?_)
  · obtain ⟨p, nl, il, m, ns, zs, rfl, _⟩ := h
    rfl
  · obtain ⟨p, nl, il, m, ns, zs, rfl, hp, np, hn, nne, n1, nI, lp', hil, zne, z1, zI, m0, m1, k⟩ := h
    have hu := hu_of hr
    have hr1 : Room 1 _ := hr.mono (by decide)
    refine ⟨_, pss_cons (ps_par (i := 4) (j := 5) (by rfl) scNw.nd rfl rfl (by decide) rfl rfl (pa_cons (pe_lst pa_nil) (pa_cons (pe_callTy (call_dictP rfl) (by rfl) md (by decide +kernel) (pa_cons
        (pe_lc (own := [("_law_name_here", 6)]) (g := gName 6) (tt := tYes) (te := tTup (tCons (tVar 6) (tCons (tLst tNil) tNil))) rfl scNw.nd (pi_list (pv 1)) (blkOk_by (own := [("_law_name_here", 6)]) (N := nNw) (sc := defScope sLawNamedWell) (by decide +kernel))
          (fun _ _ _ _ _ => pg_name (i := 6) scNw.nd rfl (.inl rfl)) (fun _ _ _ _ _ => pts_nil) (fun _ _ _ _ _ => pe_tup (pa_cons (pv 6) (pa_cons (pe_lst pa_nil) pa_nil)))) pa_nil)) pa_nil)) (by rfl))
      (pss_cons (ps_for PassesOwn.never rfl (pi_range1 (by rfl) mr (pa_cons (pv 3) pa_nil)) (pg_name (i := 7) scNw.nd rfl (.inl rfl))
        (pss_cons (ps_set (i := 6) scNw.nd rfl (.inl rfl) (pe_ix ix_list (pv 1) (pe_has GT hr1 (pa_cons (pv 0) (pa_cons (pe_callB call_len_seq (by rfl) ml PySem.boot_len (pa_cons (pv 1) pa_nil)) pa_nil))) (fun _ _ => rfl)))
        (pss_cons (ps_set (i := 8) scNw.nd rfl (.inl rfl) (pe_dget hu (pv 5) (pv 6) (fun _ _ => rfl)))
        (pss_one (ps_if (pt_cut (PW.pt (pw_and (pt_cmpR (op_neD hr.units) (pv 8) (pe_lst pa_nil) (nomark _)) (pw_and1 (pt_cmpR op_lt (pe_has GT hr1 (pa_cons (pv 0) (pa_cons pe_int pa_nil))) pe_int (nomark _))))))
          (pss_one (ps_expr (pe_bm PySem.F.plainAttrs_list PySem.F.slot_list_append PySem.F.type_list_append mt_append (pv 4) (pa_cons (pe_tup (pa_cons pe_str (pa_cons (pv 6) (pa_cons (pe_bm0 PySem.F.plainAttrs_list PySem.F.slot_list_pop PySem.F.type_list_pop mt_pop (pv 8)) pa_nil)))) pa_nil))))
          (pss_one (ps_if (pt_cut (PW.pt (pw_and (pt_cmpR (op_eqD hr.units) (pv 8) (pe_lst pa_nil) (nomark _)) (pw_and1 (pt_cmpR op_eq (pe_has GT hr1 (pa_cons (pv 0) (pa_cons pe_int pa_nil))) pe_int (nomark _))))))
            (pss_one (ps_expr (pe_bm PySem.F.plainAttrs_list PySem.F.slot_list_append PySem.F.type_list_append mt_append (pv 4) (pa_cons (pe_tup (pa_cons pe_str (pa_cons (pv 6) (pa_cons (pe_ix ix_list (pv 2) (pe_has GT hr1 (pa_cons (pv 0) (pa_cons (pe_callB call_len_seq (by rfl) ml PySem.boot_len (pa_cons (pv 2) pa_nil)) pa_nil))) (fun _ _ => rfl)) pa_nil)))) pa_nil))))
            (pss_cons (ps_set (i := 9) scNw.nd rfl (.inl rfl) (pe_ix ix_list (pv 2) (pe_has GT hr1 (pa_cons (pv 0) (pa_cons (pe_callB call_len_seq (by rfl) ml PySem.boot_len (pa_cons (pv 2) pa_nil)) pa_nil))) (fun _ _ => rfl)))
            (pss_cons (ps_expr (pe_bm PySem.F.plainAttrs_list PySem.F.slot_list_append PySem.F.type_list_append mt_append (pv 8) (pa_cons (pv 9) pa_nil)))
            (pss_one (ps_expr (pe_bm PySem.F.plainAttrs_list PySem.F.slot_list_append PySem.F.type_list_append mt_append (pv 4) (pa_cons (pe_tup (pa_cons pe_str (pa_cons (pv 6) (pa_cons (pv 9) pa_nil)))) pa_nil)))))))))))))
      (pss_one (ps_ret (pv 4)))), ?_⟩
    refine ⟨(by show 0 ≤ sizeLine; decide), fun g hg => ?_⟩
    have gp : g ≠ p := hp.free hg
    have sg : Same H (upd H g (.lst [])) := Same.new hg
    have hg1 : upd H g (.lst []) g = some (.lst []) := upd_same
    generalize upd H g (.lst []) = H1 at sg hg1
    have hn1 := sg _ _ hn
    refine ⟨_, rfl, nl, rfl, ⟨_, .of hn1⟩, fun LL hLL => lc_list (K := K) (a := nl) (xs := ns.map V.str) (fun j H2 => ∃ (ps : List Addr) (es : List (Str × Addr)), H2 LL = some (.lst (ps.map V.ref)) ∧ Paired (fun (p : Addr) (e : Str × Addr) => (hid [LL] H2) p = some (.tup [.str e.1, .ref e.2])) ps es ∧ es.map (·.1) = ns.take j ∧ (∀ e ∈ es, (hid [LL] H2) e.2 = some (.lst []) ∧ H1 e.2 = none) ∧ Same H1 H2) ⟨[], [], upd_same, .nil, rfl, fun e m => (by cases m), Same.new hLL⟩ (fun j H2 _ q => ?_) ?_ ?_⟩
    · obtain ⟨_, _, _, _, _, _, s2⟩ := q
      exact .of (s2 _ _ hn1)
    · rintro j x H2 hx ⟨ps, es, hL, hP, he, hE, s2⟩
      rw [List.getElem?_map] at hx
      obtain ⟨n, hj, rfl⟩ : ∃ n, ns[j]? = some n ∧ x = V.str n := by
        cases hq : ns[j]? with
        | none =>
          rw [hq] at hx
          cases hx
        | some n =>
          rw [hq] at hx
          cases hx
          exact ⟨n, rfl, rfl⟩
      have jl := (List.getElem?_eq_some_iff.mp hj).1
      refine ⟨rfl, yes_in ⟨_, rfl, (by show 0 ≤ sizeLine; decide), fun b hb => ⟨(by show 2 ≤ sizeLine; decide), fun T hT => ?_⟩⟩⟩
      have sb : Same H2 (upd H2 b (.lst [])) := Same.new hb
      have sT : Same (upd H2 b (.lst [])) (upd (upd H2 b (.lst [])) T (.tup [.str n, .ref b])) := Same.new hT
      have bL : b ≠ LL := Ne.symm (ne_of_none hL hb)
      have TL : T ≠ LL := Ne.symm (ne_of_none (sb _ _ hL) hT)
      have TL' : b ≠ T := ne_of_none upd_same hT
      have hLx := sT _ _ (sb _ _ hL)
      have sx : Same (hid [LL] H2) (hid [LL] (upd (upd (upd H2 b (.lst [])) T (.tup [.str n, .ref b])) LL (.lst (ps.map V.ref ++ [.ref T])))) := (hid_of (sb.trans sT)).trans (hid_upd (by simp))
      refine ⟨_, hLx, ?_, ps ++ [T], es ++ [(n, b)], ?_, ?_, ?_, fun e m => ?_, Same.free2 (s2.trans (sb.trans sT)) hLL⟩
      · have l1 := paired_len hP
        have l2 : es.length = (ns.take j).length := by rw [← he, List.length_map]
        rw [List.length_take] at l2
        rw [List.length_map, sizeLine_eq]
        omega
      · rw [upd_same, List.map_append]
        rfl
      · refine Paired.snoc2 (Paired.mapP hP fun _ _ q => sx _ _ q) ?_
        rw [hid_ne (by simpa using TL), upd_ne TL]
        exact upd_same
      · rw [List.map_append, he, List.take_add_one, hj]
        rfl
      · rcases List.mem_append.mp m with q | q
        · exact ⟨sx _ _ (hE e q).1, (hE e q).2⟩
        · rw [List.mem_singleton.mp q]
          refine ⟨?_, s2.free hb⟩
          show hid [LL] _ b = _
          rw [hid_ne (by simpa using bL), upd_ne bL, upd_ne TL']
          exact upd_same
    rintro H2 ⟨ps, es, hL, hP, he, hE, s2⟩
    rw [List.length_map, List.take_length] at he
    refine ⟨LL, ps, es.map fun e => ((Sum.inr e.1 : Key), V.ref e.2), rfl, .of hL, ?_, fun d hd => ?_⟩
    · clear he hE hL
      induction hP with
      | nil => exact .nil
      | cons h t ih => exact .cons (.of (hid_out _ _ _ _ h)) ih
    refine ⟨_, _, rfl, ?_⟩
    have sd : Same H2 (upd H2 d (.dK (mergeK [] (es.map fun e => ((Sum.inr e.1 : Key), V.ref e.2))))) := Same.new hd
    have val : ∀ n ∈ ns, ∃ b, b ∈ es.map (·.2) ∧ valV (mergeK [] (es.map fun e => ((Sum.inr e.1 : Key), V.ref e.2))) (Sum.inr n) = some (.ref b) := fun n m => merge_has (fun b => b ∈ es.map (·.2)) es [] (fun _ => False) (fun _ q => q.elim) (fun e me => List.mem_map.mpr ⟨e, me, rfl⟩) n (.inr (by rw [he]; exact m))
    have hd3 : upd H2 d (.dK (mergeK [] (es.map fun e => ((Sum.inr e.1 : Key), V.ref e.2)))) d = some (.dK (mergeK [] (es.map fun e => ((Sum.inr e.1 : Key), V.ref e.2)))) := upd_same
    generalize mergeK [] (es.map fun e => ((Sum.inr e.1 : Key), V.ref e.2)) = kvs at sd val hd3
    have s3 : Same H (upd H2 d (.dK kvs)) := (sg.trans s2).trans sd
    have s13 : Same H1 (upd H2 d (.dK kvs)) := s2.trans sd
    have bs0 : ∀ b ∈ es.map (·.2), upd H2 d (.dK kvs) b = some (.lst []) ∧ H1 b = none := fun b m => by
      obtain ⟨e, me, rfl⟩ := List.mem_map.mp m
      exact ⟨sd _ _ (hid_out _ _ _ _ (hE e me).1), (hE e me).2⟩
    generalize upd H2 d (.dK kvs) = H3 at hd3 s3 s13 bs0
    generalize es.map (·.2) = B at val bs0
    have old : ∀ {c : Addr} {o : HO}, H1 c = some o → c ∉ B := fun h m => by
      rw [(bs0 _ m).2] at h
      cases h
    have hp1 : Pool H1 p := hp.same sg
    have hg3 := s13 _ _ hg1
    have gB : g ∉ B := old hg1
    have pB : p ∉ B := by
      obtain ⟨_, _, q, _⟩ := hp1.ex
      exact old q
    have nlg : nl ≠ g := ne_of_none hn hg
    have ilg : il ≠ g := ne_of_none hil hg
    have nB : nl ∉ B := old hn1
    have iB : il ∉ B := old (sg _ _ hil)
    have dg : d ≠ g := fun e => by rw [e, hg3] at hd3; cases hd3
    have dp : d ≠ p := fun e => by
      obtain ⟨_, _, q, _⟩ := (hp.same s3).ex
      rw [e, q] at hd3
      cases hd3
    have dB : d ∉ B := fun m => by
      rw [(bs0 _ m).1] at hd3
      cases hd3
    have w0 : WI ns H3 p g B 0 [] [] H3 := ⟨gp, gB, pB, hg3, .nil, hp.same s3, Same.refl _, fun b hb => ⟨[], (bs0 b hb).1, fun z m => (by cases m), Nat.le_refl _⟩, fun s m => by cases m⟩
    refine ⟨_, rfl, m, rfl, by omega, by omega, for_range (lo := 0) (n := m.toNat) (fun j σ Hx => ∃ (us : List V) (ss : List NSt) (y6 y7 y8 y9 : Option V), σ = [some (.ref p), some (.ref nl), some (.ref il), some (.int m), some (.ref g), some (.ref d), y6, y7, y8, y9] ∧ WI ns H3 p g B j us ss Hx ∧ us.length = j) ⟨[], [], _, _, _, _, rfl, w0, rfl⟩ ?_ ?_⟩
    · rintro j σ Hx hj ⟨us, ss, y6, y7, y8, y9, rfl, wi, lu⟩
      have lns : 0 < ns.length := List.length_pos_iff.mpr nne
      have lzs : 0 < zs.length := List.length_pos_iff.mpr zne
      refine ⟨_, rfl, _, rfl, _, rfl, nl, _, rfl, .inl (.of (wi.out (s3 _ _ hn) nlg np nB)), p, _, rfl, wi.pl, ?_, ?_, fun r H4 b4 p4 r0 r1 => ?_⟩
      · rw [List.length_map]; omega
      · rw [List.length_map]; omega
      rw [List.length_map] at r1
      obtain ⟨n, nm, an⟩ := pick_str r0 r1
      have w4 := wi.draw b4 p4
      obtain ⟨b, hb, hv⟩ := val n nm
      refine ⟨nl, _, r, _, rfl, rfl, .of (w4.out (s3 _ _ hn) nlg np nB), an, _, rfl, _, rfl, d, .ref b, rfl, .inl ⟨kvs, Sum.inr n, .inl (w4.out hd3 dg dp dB), rfl, hv.symm⟩, ?_⟩
      obtain ⟨ws, hw4, iw, lw⟩ := w4.bs b hb
      have bp := w4.bp hb
      have shw : SeqAt.shaped (.list (ws.map PyData.str)) = true := (nice_list (nice_strs iw)).shaped (by decide)
      clear wi b4 p4 r0 r1 an
      -- one step more
      have app : ∀ {c : Bool} {z : Str} {Hy : Hp} {us' : List V} {ss' : List NSt} {y6 y7 y8 y9 : Option V}, WI ns H3 p g B (j + 1) us' ss' Hy → us'.length = j → Item z → ∀ T, Hy T = none → ∃ (us2 : List V) (ss2 : List NSt) (z6 z7 z8 z9 : Option V), [some (.ref p), some (.ref nl), some (.ref il), some (.int m), some (.ref g), some (.ref d), y6, y7, y8, y9] = [some (V.ref p), some (.ref nl), some (.ref il), some (.int m), some (.ref g), some (.ref d), z6, z7, z8, z9] ∧ WI ns H3 p g B (j + 1) us2 ss2 (upd (upd Hy T (.tup [.str (act c), .str n, .str z])) g (.lst (us' ++ [.ref T]))) ∧ us2.length = j + 1 := fun {c z Hy us' ss' y6 y7 y8 y9} w5 l5 iz T hT => ⟨us' ++ [.ref T], ss' ++ [(c, n, z)], y6, y7, y8, y9, rfl, w5.app (s := (c, n, z)) hT ⟨⟨nI n nm, iz⟩, nm⟩, by rw [List.length_append, l5]; rfl⟩
      refine ⟨fun c H5 => (c = true → ws ≠ []) ∧ WI ns H3 p g B j us ss H5 ∧ H5 b = some (.lst (ws.map V.str)), ?_, ?_⟩
      · refine ⟨_, rfl, (by show 0 ≤ sizeLine; decide), fun M hM => ?_⟩
        have sM : Same H4 (upd H4 M (.lst [])) := Same.new hM
        refine ⟨.list (ws.map .str), .list (([] : List Str).map .str), .lst (.of (sM _ _ hw4)) (dp_strs _), .lst (.of upd_same) .nil, shw, rfl, _, rfl, ?_⟩
        rw [eqv_listS]
        have w5 := w4.new sM
        have h5 := sM _ _ hw4
        generalize upd H4 M (.lst []) = H5 at w5 h5
        cases ws with
        | nil => exact iteF ⟨fun q => (by cases q), w5, h5⟩
        | cons z r =>
          refine iteT ⟨_, rfl, p, 5, rfl, w5.pl, by decide, by decide, fun r H6 b6 p6 r0 r1 => ⟨_, _, rfl, rfl, _, rfl, fun _ q => (by cases q), w5.draw b6 p6, b6 _ _ bp h5⟩⟩
      · rintro c H5 ⟨cw, w5, h5⟩
        cases c with
        | true =>
          rcases List.eq_nil_or_concat ws with e | ⟨r, z, e⟩
          · exact absurd e (cw rfl)
          rw [List.concat_eq_append] at e
          subst e
          have iz : Item z := iw z (by simp)
          have h5' : H5 b = some (.lst (r.map V.str ++ [V.str z])) := by
            rw [h5, List.map_append]
            rfl
          refine iteT ⟨.ref g, rfl, .inl ⟨rfl, _, .of w5.at_⟩, _, rfl, .ref b, rfl, .inl ⟨rfl, _, .of h5⟩, b, r.map V.str ++ [V.str z], .str z, rfl, rfl, h5', ?_, ?_⟩
          · rw [List.length_append, List.length_singleton, Nat.add_sub_cancel, List.getElem?_append_right (Nat.le_refl _), Nat.sub_self]
            rfl
          · rw [List.dropLast_concat]
            have w6 := w5.pile hb (ws := r) (fun y m => iw y (by simp [m])) (by rw [List.length_append] at lw; omega)
            refine ⟨(by show 3 ≤ sizeLine; decide), fun T hT => ⟨g, us, _, rfl, rfl, ?_, by rw [lu, sizeLine_eq]; omega, app (c := false) w6 lu iz T hT⟩⟩
            rw [upd_ne (ne_of_none w6.at_ hT)]
            exact w6.at_
        | false =>
          refine iteF ?_
          refine ⟨fun c H6 => WI ns H3 p g B j us ss H6 ∧ H6 b = some (.lst (ws.map V.str)), ?_, ?_⟩
          · refine ⟨_, rfl, (by show 0 ≤ sizeLine; decide), fun M hM => ?_⟩
            have sM : Same H5 (upd H5 M (.lst [])) := Same.new hM
            refine ⟨.list (ws.map .str), .list (([] : List Str).map .str), .lst (.of (sM _ _ h5)) (dp_strs _), .lst (.of upd_same) .nil, shw, rfl, _, rfl, ?_⟩
            rw [eqv_listS]
            have w6 := w5.new sM
            have h6 := sM _ _ h5
            generalize upd H5 M (.lst []) = H6 at w6 h6
            cases ws with
            | cons z r => exact iteF ⟨w6, h6⟩
            | nil => exact iteT ⟨_, rfl, p, 4, rfl, w6.pl, by decide, by decide, fun r H7 b7 p7 r0 r1 => ⟨rfl, _, rfl, w6.draw b7 p7, b7 _ _ bp h6⟩⟩
          · rintro c H6 ⟨w6, h6⟩
            have hi6 := w6.out (s3 _ _ hil) ilg lp' iB
            cases c with
            | true =>
              refine iteT ⟨.ref g, rfl, .inl ⟨rfl, _, .of w6.at_⟩, _, rfl, _, rfl, _, rfl, _, rfl, il, _, rfl, .inl (.of hi6), p, _, rfl, w6.pl, ?_, ?_, fun r H7 b7 p7 r0 r1 => ?_⟩
              · rw [List.length_map]; omega
              · rw [List.length_map]; omega
              rw [List.length_map] at r1
              obtain ⟨z, zm, az⟩ := pick_str r0 r1
              have w7 := w6.draw b7 p7
              refine ⟨il, _, r, _, rfl, rfl, .of (b7 _ _ lp' hi6), az, (by show 3 ≤ sizeLine; decide), fun T hT => ⟨g, us, _, rfl, rfl, ?_, by rw [lu, sizeLine_eq]; omega, app (c := false) w7.up lu (zI z zm) T hT⟩⟩
              rw [upd_ne (ne_of_none w7.at_ hT)]
              exact w7.at_
            | false =>
              refine iteF ⟨_, rfl, _, rfl, _, rfl, il, _, rfl, .inl (.of hi6), p, _, rfl, w6.pl, ?_, ?_, fun r H7 b7 p7 r0 r1 => ?_⟩
              · rw [List.length_map]; omega
              · rw [List.length_map]; omega
              rw [List.length_map] at r1
              obtain ⟨z, zm, az⟩ := pick_str r0 r1
              have w7 := w6.draw b7 p7
              have h7 := b7 _ _ bp h6
              refine ⟨il, _, r, _, rfl, rfl, .of (b7 _ _ lp' hi6), az, .ref b, rfl, .inl ⟨rfl, _, .of h7⟩, _, rfl, b, _, _, rfl, rfl, h7, by rw [List.length_map, sizeLine_eq]; omega, ?_⟩
              have w8 := w7.pile hb (ws := ws ++ [z]) (fun y m => by
                rcases List.mem_append.mp m with q | q
                · exact iw y q
                · rw [List.mem_singleton.mp q]
                  exact zI z zm) (by rw [List.length_append]; simp only [List.length_singleton]; omega)
              rw [List.map_append] at w8
              refine ⟨.ref g, rfl, .inl ⟨rfl, _, .of w8.at_⟩, _, rfl, _, rfl, (by show 3 ≤ sizeLine; decide), fun T hT => ⟨g, us, _, rfl, rfl, ?_, by rw [lu, sizeLine_eq]; omega, app (c := true) w8 lu (zI z zm) T hT⟩⟩
              rw [upd_ne (ne_of_none w8.at_ hT)]
              exact w8.at_
    · rintro σ Hx ⟨us, ss, y6, y7, y8, y9, rfl, wi, lu⟩
      have ls := wi.len
      refine ⟨_, rfl, k g us ss Hx (fun c o cp hc => ?_) wi.pl hg gp wi.at_ (nsth_same wi.n (hid_out _ _)) (by omega) wi.ok⟩
      exact wi.out (s3 _ _ hc) (ne_of_none hc hg) cp (old (sg _ _ hc))
end
end SE
namespace SE
open PySem PySem.Spec PyProof.Rows L2
theorem act_push (b : Bool) : decide (V.str (act b) = V.str "push") = b := by
  cases b
  · exact decide_eq_false (fun e => absurd (V.str.inj e) (by decide +kernel))
  · exact decide_eq_true rfl
theorem stepM_pop (x : Str) (zs : List Str) : stepM (false, x) zs = if zs.take 1 = [x] then some (zs.drop 1) else none := by
  cases zs with
  | nil => rfl
  | cons z r =>
    show (if z = x then some r else none) = if [z] = [x] then some r else none
    by_cases e : z = x
    · rw [if_pos e, if_pos (by rw [e])]
    · rw [if_neg e, if_neg (by intro q; exact e (List.cons.inj q).1)]
section
variable {P : Program} {w : World} {K : PySem.W.Frag} {mg : Str → Option Value} {base : Heap}
/-! ### after_step -/
/-- a stack or None -/
def StkV (K : PySem.W.Frag) (H : Hp) (v : V) : Option (List Str) → Prop
  | none => v = .non
  | some zs => ∃ q, v = .ref q ∧ SqT K H q (zs.map V.str)
theorem StkV.same {H H' : Hp} {v : V} {o : Option (List Str)} (h : StkV K H v o) (e : Same H H') : StkV K H' v o := by
  cases o with
  | none => exact h
  | some zs =>
    obtain ⟨q, rfl, t⟩ := h
    exact ⟨q, rfl, Same.tup e t⟩
def spAfterL (K : PySem.W.Frag) : Sp := fun xs H Q _ => ∃ (v : V) (s : Stp) (q : Addr) (zs : List Str) (l : Lim), xs = [v, .ref q, limV l] ∧ StepV K H v s ∧ Item s.2 ∧ SqT K H q (zs.map V.str) ∧ zs.length ≤ 5000 ∧ (∀ z ∈ zs, Item z) ∧
  ∀ (u : V) (H' : Hp), Same H H' → StkV K H' u (stepL l s zs) → Q u H'
theorem scAfL : FnScope ["step", "stack", "limit", "action", "item"] ["step", "stack", "limit"] (defScope sAfter) := ⟨rfl, rfl, rfl, by decide +kernel, rfl, by decide +kernel, by decide +kernel⟩
theorem has_afterL (D : Def K mg "after_step" sAfter) (G : Has P w K mg base "is_too_high" 1 ["height", "limit"] [] spHighL) (B : Blt mg) : Has P w K mg base "after_step" 2 ["step", "stack", "limit"] [] (spAfterL K) := by
  refine has_of D scAfL (fun _ _ _ _ _ _ us hl => match us, hl with | [_, _, _], _ => rfl) (fun xs H Q E h => ?_) (fun f cv A out s H xs Q E hr h => ?_)
  · obtain ⟨v, st, q, zs, l, rfl, _⟩ := h
    rfl
  · obtain ⟨v, ⟨b, x⟩, q, zs, l, rfl, ⟨t, rfl, hT⟩, ix, hQ, hz, hI, k⟩ := h
    refine ⟨_, pss_cons (ps_asg (pv 0) (pg_tup (by rfl) (pgs_cons (pg_name (i := 3) scAfL.nd rfl (.inl rfl)) (pgs_cons (pg_name (i := 4) scAfL.nd rfl (.inl rfl)) pgs_nil))))
      (pss_cons (ps_if (pt_cmpR op_eq (pv 3) pe_str (nomark _))
        (pss_one (ps_ret (pe_ifExp (pt_val (pe_has G hr (pa_cons (pe_op op_add (pe_callB call_len_seq (by rfl) B.len PySem.boot_len (pa_cons (pv 1) pa_nil)) pe_int) (pa_cons (pv 2) pa_nil)))) pe_non (pe_op op_catA (pe_tup (pa_cons (pv 4) pa_nil)) (pv 1))))) pss_nil)
      (pss_one (ps_ret (pe_ifExp (pt_cmpR (op_eqD hr.units) (pe_slice sl_tupA (pv 1) po_none (po_some pe_int)) (pe_tup (pa_cons (pv 4) pa_nil)) (nomark _)) (pe_slice sl_tupA (pv 1) (po_some pe_int) po_none) pe_non)))), ?_⟩
    refine ⟨_, rfl, t, _, rfl, hT, rfl, _, _, rfl, _, _, rfl, rfl, ?_⟩
    refine ⟨_, rfl, rfl, _, rfl, ?_⟩
    show if decide (V.str (act b) = V.str "push") = true then _ else _
    rw [act_push]
    cases b with
    | true =>
      refine iteT ?_
      refine ⟨_, rfl, q, _, rfl, .inr hQ, _, 1, rfl, rfl, _, rfl, zs.length + 1, l, ?_, high l (zs.length + 1), rfl, ?_⟩
      · show [V.int (((zs.map V.str).length : Int) + 1), limV l] = _
        rw [List.length_map]
        rfl
      cases hh : high l (zs.length + 1) with
      | true =>
        refine iteT (k _ _ (Same.refl H) ?_)
        show StkV K H V.non (if (true && high l (zs.length + 1)) = true then none else _)
        rw [hh]
        rfl
      | false =>
        have st : stepL l (true, x) zs = some (x :: zs) := by
          show (if (true && high l (zs.length + 1)) = true then none else _) = _
          rw [hh]
          rfl
        rw [st] at k
        refine iteF ?_
        refine ⟨_, rfl, (by show 1 ≤ sizeLine; decide), fun a ha => ⟨_, rfl, a, q, [.str x], zs.map V.str, rfl, rfl, .of upd_same, Same.tup (Same.new ha) hQ, ?_, fun e => (by cases e), fun _ e => ?_, fun _ e p hp => ?_⟩⟩
        · rw [List.length_map]
          exact Nat.le_trans (show 1 + zs.length ≤ 5001 by omega) (by decide)
        · have e0 : zs = [] := List.map_eq_nil_iff.mp e
          subst e0
          exact k _ _ (Same.new ha) ⟨a, rfl, .of upd_same⟩
        · exact k _ _ ((Same.new ha).trans (Same.new hp)) ⟨p, rfl, .of upd_same⟩
    | false =>
      have st : stepL l (false, x) zs = stepM (false, x) zs := rfl
      rw [st] at k
      refine iteF ?_
      have e1 : HT.sIx zs.length zs.length (some 1) = min 1 zs.length := HT.sIx_nat zs.length zs.length 1
      have c1 : cutV (zs.map V.str) none (some 1) = (zs.take 1).map V.str := by
        rw [cut_map]
        show ((zs.drop 0).take (HT.sIx zs.length zs.length (some 1) - 0)).map V.str = _
        rw [e1, List.drop_zero, Nat.sub_zero]
        congr 1
        cases zs with
        | nil => rfl
        | cons z r => rw [show min 1 (z :: r).length = 1 by rw [List.length_cons]; omega]
      have c2 : cutV (zs.map V.str) (some 1) none = (zs.drop 1).map V.str := by
        rw [cut_map]
        have e2 : HT.sIx zs.length 0 (some 1) = min 1 zs.length := HT.sIx_nat zs.length 0 1
        rw [e2]
        show ((zs.drop (min 1 zs.length)).take (zs.length - min 1 zs.length)).map V.str = _
        cases zs with
        | nil => rfl
        | cons z r =>
          rw [show min 1 (z :: r).length = 1 by rw [List.length_cons]; omega]
          show ((r.take ((z :: r).length - 1))).map V.str = r.map V.str
          rw [List.length_cons, Nat.add_sub_cancel, List.take_length]
      have sh1 : ∀ {ws : List Str}, (∀ z ∈ ws, z ∈ zs) → SeqAt.shaped (.tuple (ws.map PyData.str)) = true := fun {ws} m => (nice_tuple (nice_strs fun z h => hI z (m z h))).shaped (by decide)
      have shx : SeqAt.shaped (.tuple ([x].map PyData.str)) = true := (nice_tuple (nice_strs (zs := [x]) fun z h => by rw [List.mem_singleton.mp h]; exact ix)).shaped (by decide)
      have go : ∀ (r : Addr) (H1 : Hp), Same H H1 → SqT K H1 r ((zs.take 1).map V.str) → ∀ a, H1 a = none →
          (∃ d e, Dp K (upd H1 a (.tup [.str x])) (.ref r) d ∧ Dp K (upd H1 a (.tup [.str x])) (.ref a) e ∧ SeqAt.shaped d = true ∧ SeqAt.shaped e = true ∧ PyData.eqv d e = decide (zs.take 1 = [x])) := by
        intro r H1 s1 hr1 a ha
        exact ⟨.tuple ((zs.take 1).map .str), .tuple ([x].map .str), .tup (Same.tup (Same.new ha) hr1) (dp_strs _), .tup (.of upd_same) (dp_strs [x]), sh1 (fun z m => List.mem_of_mem_take m), shx, eqv_tupS _ _⟩
      have fin : ∀ (H1 : Hp), Same H H1 → (if decide (zs.take 1 = [x]) = true then (tSl (rSlA K) (tVar 1) (tPart (tC (.int 1))) tNoPart) [some (.ref t), some (.ref q), some (limV l), some (.str (act false)), some (.str x)] H1 Q else (tC V.non) [some (.ref t), some (.ref q), some (limV l), some (.str (act false)), some (.str x)] H1 Q) := by
        intro H1 s1
        by_cases c : zs.take 1 = [x]
        · rw [decide_eq_true c]
          refine iteT ⟨_, rfl, 1, rfl, q, _, rfl, Same.tup s1 hQ, fun w => ?_, fun w p hp => ?_⟩
          · have hk : (HT.sIx (zs.map V.str).length 0 (some 1)) = min 1 (zs.map V.str).length := HT.sIx_nat _ 0 1
            have w1 := w.1
            rw [hk, List.length_map] at w1
            have z0 : zs.length = 0 := by omega
            have z1 : zs = [] := List.eq_nil_of_length_eq_zero z0
            rw [z1] at c
            cases c
          · refine k _ _ (s1.trans (Same.new hp)) ?_
            rw [stepM_pop, if_pos c]
            exact ⟨p, rfl, .of (by rw [upd_same, c2])⟩
        · rw [decide_eq_false c]
          refine iteF (k _ _ s1 ?_)
          rw [stepM_pop, if_neg c]
          rfl
      refine ⟨_, rfl, 1, rfl, q, _, rfl, hQ, fun w => ?_, fun w p hp => ?_⟩
      · have w2 := w.2
        have hk : (HT.sIx (zs.map V.str).length (zs.map V.str).length (some 1)) = min 1 (zs.map V.str).length := HT.sIx_nat _ _ 1
        rw [hk, List.length_map] at w2
        have t1 : zs.take 1 = zs := List.take_of_length_le (by omega)
        refine ⟨_, rfl, (by show 1 ≤ sizeLine; decide), fun a ha => ?_⟩
        obtain ⟨d, e, g1, g2, g3, g4, g5⟩ := go q H (Same.refl H) (by rw [t1]; exact hQ) a ha
        refine ⟨d, e, g1, g2, g3, g4, _, rfl, ?_⟩
        rw [g5]
        exact fin _ (Same.new ha)
      · refine ⟨_, rfl, (by show 1 ≤ sizeLine; decide), fun a ha => ?_⟩
        obtain ⟨d, e, g1, g2, g3, g4, g5⟩ := go p _ (Same.new hp) (.of (by rw [upd_same, c1])) a ha
        refine ⟨d, e, g1, g2, g3, g4, _, rfl, ?_⟩
        rw [g5]
        exact fin _ ((Same.new hp).trans (Same.new ha))
end
end SE
/-! Dicts: a comprehension over any walk; a value that is locked for good. -/
namespace SE
open PySem PySem.Spec PyProof.Rows L2
section
variable {J : It} {n : Nat} {G : Hp → Prop} {Y : Nat → Hp → V → Hp → Prop}
theorem dc_it (w : Walk J n G Y) {g : TG} {tt : TT} {tk tv : TE} {vs : List Nat} {σ : L2.St} {H1 : Hp} {D : Addr} {Qd : Hp → Prop} (Pv : Nat → Hp → Prop) (h0 : Pv 0 (upd H1 D (.dK []))) (hG : ∀ i H, i ≤ n → Pv i H → G H)
    (hs : ∀ i x H H', i < n → Pv i H → Y i H x H' → g x (wipe σ vs) H' fun σ2 H2 => wipe σ2 vs = wipe σ vs ∧ tt σ2 H2 fun b H3 =>
      if b = true then tk σ2 H3 fun y H4 => tv σ2 H4 fun z H5 => ∃ kvs k, y = kV k ∧ H5 D = some (.dK kvs) ∧ kvs.length < sizeLine ∧ Pv (i + 1) (upd H5 D (.dK (putK kvs k z))) else Pv (i + 1) H3) (hd : ∀ H, Pv n H → Qd H) :
    ∃ W : Nat → Nat → Hp → Prop, (∃ m, W 0 m (upd H1 D (.dK []))) ∧ ∀ i m H, W i m H →
      (J.stop i H ∧ Qd H) ∨ (J.go i H ∧ ∃ Nx : Hp → Prop, (∀ H', Nx H' → ∃ m', m' < m ∧ W (i + 1) m' H') ∧ ∀ x H', J.yld i H x H' → g x (wipe σ vs) H' fun σ2 H2 => wipe σ2 vs = wipe σ vs ∧ tt σ2 H2 fun b H3 =>
        if b = true then tk σ2 H3 fun y H4 => tv σ2 H4 fun z H5 => ∃ kvs k, y = kV k ∧ H5 D = some (.dK kvs) ∧ kvs.length < sizeLine ∧ Nx (upd H5 D (.dK (putK kvs k z))) else Nx H3) := by
  refine ⟨fun i m H => m = n - i ∧ i ≤ n ∧ Pv i H, ⟨n, by simp, Nat.zero_le _, h0⟩, ?_⟩
  rintro i m H ⟨rfl, hi, p⟩
  have q := hG i H hi p
  by_cases hlt : i < n
  · exact .inr ⟨w.goes i H hlt q, Pv (i + 1), fun H' p' => ⟨n - (i + 1), by omega, rfl, hlt, p'⟩, fun x H' y => hs i x H H' hlt p (w.yields i H x H' hlt q y)⟩
  · have e : i = n := by omega
    subst e
    exact .inl ⟨w.stops H q, hd H p⟩
end
/-- the value of e, from now on locked -/
def tFrz (te : TE) : TE := fun σ H Q => te σ H fun x H1 => ∃ d u, x = .ref d ∧ H1 d = some u ∧ Mut (some u) ∧ ∀ od, Q x (upd H1 d (.frz od u))
section
variable {X : Cx}
theorem pe_frz {e : Expr} {te : TE} (h : PE X e te) : PE X e (tFrz te) := by
  refine ⟨fun pins s σ H Q I hw => thn (h.run pins s σ H _ I hw) fun v s1 ⟨x, H1, I1, r, d, u, ex, hd, mu, q⟩ => ?_⟩
  obtain ⟨od, I2⟩ := I1.lock hd mu
  exact ⟨x, _, I2, r, q od⟩
end
/-! ### name = {.. for ..} on one line -/
section
variable {X : Cx}
theorem ps_setDc {i : Nat} {y : Str} {yp : Pos} {kx vx tgt itx : Expr} {cs : List Expr} {sco : Scope} {ow : List (Str × Nat)} {dp sp : Pos} {wi : TI} {g : TG} {tt : TT} {tk tv : TE} (calm : X.calm = true) (nod : X.N.Nodup) (hy : X.N[i]? = some y) (loc : X.env.scope.names.lookup y = some .local)
    (sw : swapsWith (.DictComp kx vx [⟨tgt, itx, cs, 0⟩] sco dp) (some (.Name y yp)) sp.line X.env = pure true) (hi : PI X tgt itx wi) (ok : BlkOk X.N X.env.scope sco ow)
    (hg : ∀ (s : Shared) (H : Hp) (U : Addr) (cl : List (Str × Addr)) (fp : List Addr), PG (X.blk s H sco (compEnvC sco cl U X.env) fp) tgt g) (ht : ∀ (s : Shared) (H : Hp) (U : Addr) (cl : List (Str × Addr)) (fp : List Addr), PTs (X.blk s H sco (compEnvC sco cl U X.env) fp) cs tt)
    (hk : ∀ (s : Shared) (H : Hp) (U : Addr) (cl : List (Str × Addr)) (fp : List Addr), PE (X.blk s H sco (compEnvC sco cl U X.env) fp) kx tk)
    (hv : ∀ (s : Shared) (H : Hp) (U : Addr) (cl : List (Str × Addr)) (fp : List Addr), PE (X.blk s H sco (compEnvC sco cl U X.env) fp) vx tv) (fold : ∀ x, foldedSetIterable itx X.env x = pure x := by intro _; rfl) :
    PS X (.Assign [.Name y yp] (.DictComp kx vx [⟨tgt, itx, cs, 0⟩] sco dp) sp) (tAsg (tDc wi g tt tk tv (ow.map (·.2))) (gName i)) := by
  constructor
  intro pins s σ H Dn I q
  rw [exec_Assign_Name_used _ _ _ _ sw]
  refine wpAny_bind (wpAny_standAt (wpAny_bind ?_))
  show wpAny _ X.A (do let _ ← comprehension (.DictComp kx vx [⟨tgt, itx, cs, 0⟩] sco dp) sco X.env (firstIterPos [⟨tgt, itx, cs, 0⟩] dp) newDict false (eval itx X.env) (some (assign (.Name y yp) X.env))) _ _ s
  have q : tDc wi g tt tk tv (ow.map (·.2)) σ H (fun x H1 => gName i x σ H1 Dn.nx) := q
  refine wpAny_bind (thn (dc_core (Qf := fun _ s' => SP X pins Dn .next s') calm nod I hi ok hg ht hk hv fold q fun L U s' m H' J r nm fp => ?_) fun _ s' z => wpAny_pure (wpAny_pure z))
  show wpAny _ _ (assign (.Name y yp) X.env (.ref L)) _ _ _
  obtain ⟨p0, p1, p2, p3, p4, p5⟩ := fp
  refine wpAny_assign_Name (store_ok2 (v := V.ref L) J nod hy (.inl loc) rfl (fun s2 J2 ⟨a, same, wh⟩ => ?_) (.inr loc))
  have ne : U ≠ a := by
    rcases wh with z | z
    · rw [z]; exact p1
    · exact fun e => p4 y a z e.symm
  refine ⟨m, nm.sameBut same ne, fun h3 z3 => ⟨_, H', J2.turned (t' := s2.toks) (fun b o hb e => (z3.2 b hb).trans e) p0 p1 p3 p4 p5, r⟩⟩
theorem swd_true {kx vx : Expr} {gs : List Comprehension} {sco : Scope} {dp yp : Pos} {y : Str} {l : Nat} {env : Env} (fn : env.scope.kind = .function) (loc : env.scope.names.lookup y = some .local) (ln : (yp.line == dp.line) = true)
    (own : (sco.names.any fun (n, k) => n == y && (k == .local || k == .cell)) = false) : swapsWith (.DictComp kx vx gs sco dp) (some (.Name y yp)) l env = pure true := by
  have k1 : env.kindOf y = some .local := loc
  have k2 : env.blockKind = .function := by unfold Env.blockKind; rw [fn]; rfl
  unfold swapsWith
  simp only [k2, k1, own, Expr.pos, ln]
  rfl
end
end SE
namespace SE
open PySem PySem.Spec PyProof.Rows L2
/-! ### stacks by name -/
abbrev Sk := List (Str × List Str)
def EntS (K : PySem.W.Frag) (H : Hp) (kv : Key × V) (p : Str × List Str) : Prop := kv.1 = Sum.inr p.1 ∧ ∃ t, kv.2 = .ref t ∧ SqT K H t (p.2.map V.str)
abbrev SkH (K : PySem.W.Frag) (H : Hp) : List (Key × V) → Sk → Prop := Paired (EntS K H)
theorem skH_same {K : PySem.W.Frag} {H H' : Hp} {kvs : List (Key × V)} {ss : Sk} (h : SkH K H kvs ss) (s : Same H H') : SkH K H' kvs ss := Paired.mapP h fun _ _ q => ⟨q.1, q.2.elim fun t z => ⟨t, z.1, Same.tup s z.2⟩⟩
/-- what is told at D is no tuple: a tuple stays where D changes -/
def NoTup (H : Hp) (D : Addr) : Prop := ∀ xs, H D ≠ some (.tup xs) ∧ ∀ p, H D ≠ some (.frz p (.tup xs))
theorem NoTup.dK {H : Hp} {D : Addr} {kvs : List (Key × V)} (h : H D = some (.dK kvs)) : NoTup H D := fun xs => ⟨fun e => (by rw [h] at e; cases e), fun p e => (by rw [h] at e; cases e)⟩
theorem NoTup.dF {H : Hp} {D : Addr} {od : Obj} {kvs : List (Key × V)} (h : H D = some (.frz od (.dK kvs))) : NoTup H D := fun xs => ⟨fun e => (by rw [h] at e; cases e), fun p e => (by rw [h] at e; cases e)⟩
theorem NoTup.lst {H : Hp} {D : Addr} {us : List V} (h : H D = some (.lst us)) : NoTup H D := fun xs => ⟨fun e => (by rw [h] at e; cases e), fun p e => (by rw [h] at e; cases e)⟩
theorem NoTup.ins {H : Hp} {D C dx : Addr} {fs : List (Str × V)} (h : H D = some (.ins C dx fs)) : NoTup H D := fun xs => ⟨fun e => (by rw [h] at e; cases e), fun p e => (by rw [h] at e; cases e)⟩
theorem sqT_upd {K : PySem.W.Frag} {H : Hp} {D t : Addr} {xs : List V} {o : HO} (n : NoTup H D) (h : SqT K H t xs) : SqT K (upd H D o) t xs := by
  rcases h with (q | ⟨p, q⟩) | q
  · exact .inl (.inl (by rw [upd_ne (fun z => by rw [z] at q; exact (n xs).1 q)]; exact q))
  · exact .inl (.inr ⟨p, by rw [upd_ne (fun z => by rw [z] at q; exact (n xs).2 p q)]; exact q⟩)
  · exact .inr q
theorem skH_upd {K : PySem.W.Frag} {H : Hp} {D : Addr} {o : HO} {kvs : List (Key × V)} {ss : Sk} (n : NoTup H D) (h : SkH K H kvs ss) : SkH K (upd H D o) kvs ss := Paired.mapP h fun _ _ q => ⟨q.1, q.2.elim fun t z => ⟨t, z.1, sqT_upd n z.2⟩⟩
structure SkOk (ss : Sk) (m b : Nat) : Prop where
  nd : (ss.map (·.1)).Nodup
  ok : ∀ p ∈ ss, Item p.1 ∧ (∀ z ∈ p.2, Item z) ∧ p.2.length ≤ b
  len : ss.length ≤ m
theorem SkOk.mono {ss : Sk} {m b m' b' : Nat} (h : SkOk ss m b) (hm : m ≤ m') (hb : b ≤ b') : SkOk ss m' b' := ⟨h.nd, fun p q => ⟨(h.ok p q).1, (h.ok p q).2.1, Nat.le_trans (h.ok p q).2.2 hb⟩, Nat.le_trans h.len hm⟩
def hasS (n : Str) (p : Str × List Str) : Bool := decide (p.1 = n)
def getS (ss : Sk) (n : Str) : List Str := ((ss.find? (hasS n)).map (·.2)).getD []
def putS (ss : Sk) (n : Str) (st : List Str) : Sk := if ss.any (hasS n) = true then ss.map (fun p => if p.1 = n then (p.1, st) else p) else ss ++ [(n, st)]
def cleanS (ss : Sk) : Sk := ss.filter fun p => decide (p.2 ≠ [])
theorem findS_some {ss : Sk} {n : Str} {p : Str × List Str} (h : ss.find? (hasS n) = some p) : p ∈ ss ∧ p.1 = n := ⟨List.mem_of_find?_eq_some h, by simpa [hasS] using List.find?_some h⟩
theorem findS_at {ss : Sk} (nd : (ss.map (·.1)).Nodup) {p : Str × List Str} (m : p ∈ ss) : ss.find? (hasS p.1) = some p := by
  induction ss with
  | nil => cases m
  | cons x r ih =>
    rw [List.map_cons, List.nodup_cons] at nd
    rcases List.mem_cons.mp m with rfl | m'
    · exact List.find?_cons_of_pos (by simp [hasS])
    · rw [List.find?_cons_of_neg]
      · exact ih nd.2 m'
      · intro q
        exact nd.1 (List.mem_map.mpr ⟨p, m', (of_decide_eq_true q).symm⟩)
theorem getS_at {ss : Sk} (nd : (ss.map (·.1)).Nodup) {p : Str × List Str} (m : p ∈ ss) : getS ss p.1 = p.2 := by
  unfold getS
  rw [findS_at nd m]
  rfl
theorem SkOk.get {ss : Sk} {m b : Nat} (h : SkOk ss m b) (n : Str) : (∀ z ∈ getS ss n, Item z) ∧ (getS ss n).length ≤ b := by
  unfold getS
  cases e : ss.find? (hasS n) with
  | none => exact ⟨fun z q => (by cases q), Nat.zero_le _⟩
  | some p => exact (h.ok p (findS_some e).1).2
/-- how a name is looked up -/
theorem skH_val {K : PySem.W.Frag} {H : Hp} {n : Str} : ∀ {kvs : List (Key × V)} {ss : Sk}, SkH K H kvs ss → (ss.find? (hasS n) = none ∧ valV kvs (Sum.inr n) = none) ∨ ∃ p t, ss.find? (hasS n) = some p ∧ valV kvs (Sum.inr n) = some (.ref t) ∧ SqT K H t (p.2.map V.str)
  | _, _, .nil => .inl ⟨rfl, rfl⟩
  | kv :: kvs, p :: ss, .cons a r => by
    obtain ⟨e1, t, e2, q⟩ := a
    by_cases c : p.1 = n
    · exact .inr ⟨p, t, List.find?_cons_of_pos (by simp [hasS, c]), by rw [valV_pos (by rw [e1, c]), e2], q⟩
    · have c1 : ¬ hasS n p = true := fun z => c (of_decide_eq_true z)
      have c2 : ¬ kv.1 = Sum.inr n := fun z => c (Sum.inr.inj (e1.symm.trans z))
      rw [List.find?_cons_of_neg c1, valV_neg c2]
      exact skH_val r
theorem skH_any {K : PySem.W.Frag} {H : Hp} {n : Str} : ∀ {kvs : List (Key × V)} {ss : Sk}, SkH K H kvs ss → (kvs.any fun kv => decide (kv.1 = Sum.inr n)) = ss.any (hasS n)
  | _, _, .nil => rfl
  | kv :: kvs, p :: ss, .cons a r => by
    rw [List.any_cons, List.any_cons, skH_any r]
    congr 1
    rw [a.1]
    show decide ((Sum.inr p.1 : Key) = Sum.inr n) = decide (p.1 = n)
    by_cases c : p.1 = n
    · rw [decide_eq_true c, decide_eq_true (by rw [c])]
    · rw [decide_eq_false c, decide_eq_false (fun q => c (Sum.inr.inj q))]
theorem skH_map {K : PySem.W.Frag} {H : Hp} {n : Str} {t : Addr} {st : List Str} (ht : SqT K H t (st.map V.str)) : ∀ {kvs : List (Key × V)} {ss : Sk}, SkH K H kvs ss → SkH K H (kvs.map fun kv => if kv.1 = Sum.inr n then (kv.1, .ref t) else kv) (ss.map fun p => if p.1 = n then (p.1, st) else p)
  | _, _, .nil => .nil
  | kv :: kvs, p :: ss, .cons a r => by
    refine .cons ?_ (skH_map ht r)
    dsimp only
    by_cases c : p.1 = n
    · rw [if_pos (by rw [a.1, c]), if_pos c]
      exact ⟨a.1, t, rfl, ht⟩
    · rw [if_neg (fun z => c (Sum.inr.inj (a.1.symm.trans z))), if_neg c]
      exact a
theorem paired_snoc {α β : Type} {F : α → β → Prop} : ∀ {l₁ : List α} {l₂ : List β} {x : α} {y : β}, Paired F l₁ l₂ → F x y → Paired F (l₁ ++ [x]) (l₂ ++ [y])
  | _, _, _, _, .nil, h => .cons h .nil
  | _, _, _, _, .cons r t, h => .cons r (paired_snoc t h)
theorem skH_put {K : PySem.W.Frag} {H : Hp} {n : Str} {t : Addr} {st : List Str} {kvs : List (Key × V)} {ss : Sk} (h : SkH K H kvs ss) (ht : SqT K H t (st.map V.str)) : SkH K H (putK kvs (Sum.inr n) (.ref t)) (putS ss n st) := by
  unfold putK putS
  rw [skH_any h]
  split
  · exact skH_map ht h
  · exact paired_snoc h ⟨rfl, t, rfl, ht⟩
theorem putS_fst (ss : Sk) (n : Str) (st : List Str) : (putS ss n st).map (·.1) = if ss.any (hasS n) = true then ss.map (·.1) else ss.map (·.1) ++ [n] := by
  unfold putS
  split
  · rw [List.map_map]
    refine List.map_congr_left fun p _ => ?_
    show (if p.1 = n then (p.1, st) else p).1 = p.1
    split <;> rfl
  · rw [List.map_append]
    rfl
theorem putS_ok {ss : Sk} {m b c : Nat} {n : Str} {st : List Str} (h : SkOk ss m b) (hn : Item n) (hs : ∀ z ∈ st, Item z) (hl : st.length ≤ c) (hb : b ≤ c) : SkOk (putS ss n st) (m + 1) c := by
  refine ⟨?_, fun p mp => ?_, ?_⟩
  · rw [putS_fst]
    split
    · exact h.nd
    · rename_i q
      rw [List.nodup_append]
      refine ⟨h.nd, by simp, fun x mx y my e => q ?_⟩
      rw [List.mem_singleton.mp my] at e
      obtain ⟨p, mp, ep⟩ := List.mem_map.mp mx
      exact List.any_eq_true.mpr ⟨p, mp, decide_eq_true (by rw [ep, e])⟩
  · unfold putS at mp
    split at mp
    · obtain ⟨q, mq, rfl⟩ := List.mem_map.mp mp
      obtain ⟨a, d, e⟩ := h.ok q mq
      split
      · exact ⟨a, hs, hl⟩
      · exact ⟨a, d, by omega⟩
    · rcases List.mem_append.mp mp with z | z
      · obtain ⟨a, d, e⟩ := h.ok p z
        exact ⟨a, d, by omega⟩
      · rw [List.mem_singleton.mp z]
        exact ⟨hn, hs, hl⟩
  · have := h.len
    unfold putS
    split
    · rw [List.length_map]; omega
    · rw [List.length_append, List.length_singleton]; omega
theorem cleanS_ok {ss : Sk} {m b : Nat} (h : SkOk ss m b) : SkOk (cleanS ss) m b :=
  ⟨(List.filter_sublist.map _).nodup h.nd, fun p q => h.ok p (List.mem_filter.mp q).1, Nat.le_trans (List.length_filter_le _ _) h.len⟩
theorem clean_take {ss : Sk} {j : Nat} {p : Str × List Str} (h : ss[j]? = some p) : cleanS (ss.take (j + 1)) = if p.2 = [] then cleanS (ss.take j) else cleanS (ss.take j) ++ [p] := by
  unfold cleanS
  rw [List.take_add_one, h, List.filter_append]
  by_cases c : p.2 = []
  · rw [if_pos c, Option.toList_some, List.filter_cons, if_neg (by simp [c]), List.filter_nil, List.append_nil]
  · rw [if_neg c, Option.toList_some, List.filter_cons, if_pos (by simp [c]), List.filter_nil]
theorem skH_new {K : PySem.W.Frag} {H : Hp} {n : Str} {v : V} {kvs : List (Key × V)} {ss : Sk} (h : SkH K H kvs ss) (nn : n ∉ ss.map (·.1)) : putK kvs (Sum.inr n) v = kvs ++ [(Sum.inr n, v)] := by
  unfold putK
  rw [skH_any h, if_neg]
  intro q
  obtain ⟨p, mp, e⟩ := List.any_eq_true.mp q
  exact nn (List.mem_map.mpr ⟨p, mp, of_decide_eq_true e⟩)
theorem sk_fresh {ss : Sk} {j : Nat} {p : Str × List Str} (nd : (ss.map (·.1)).Nodup) (h : ss[j]? = some p) : p.1 ∉ (cleanS (ss.take j)).map (·.1) := by
  intro m
  obtain ⟨q, mq, e⟩ := List.mem_map.mp m
  obtain ⟨i, hi⟩ := List.getElem?_of_mem (List.mem_filter.mp mq).1
  have il := (List.getElem?_eq_some_iff.mp hi).1
  rw [List.length_take] at il
  rw [List.getElem?_take_of_lt (by omega)] at hi
  have h1 : (ss.map (·.1))[i]? = some p.1 := by rw [List.getElem?_map, hi]; exact congrArg some e
  have h2 : (ss.map (·.1))[j]? = some p.1 := by rw [List.getElem?_map, h]; rfl
  obtain ⟨a1, _⟩ := List.getElem?_eq_some_iff.mp h1
  have := (List.getElem?_inj a1 nd).mp (h1.trans h2.symm)
  omega
theorem valV_of {kvs : List (Key × V)} {j : Nat} {k : Key} {v : V} (h : kvs[j]? = some (k, v)) (nd : (kvs.map (·.1)).Nodup) : valV kvs k = some v := by
  induction kvs generalizing j with
  | nil => cases h
  | cons x r ih =>
    rw [List.map_cons, List.nodup_cons] at nd
    cases j with
    | zero =>
      cases h
      exact valV_pos rfl
    | succ j =>
      have m : (k, v) ∈ r := List.mem_of_getElem? (i := j) h
      rw [valV_neg (fun e => nd.1 (List.mem_map.mpr ⟨_, m, e.symm⟩))]
      exact ih h nd.2
theorem sF_nd {K : PySem.W.Frag} {H : Hp} : ∀ {kvs : List (Key × V)} {ss : Sk}, SkH K H kvs ss → (ss.map (·.1)).Nodup → (kvs.map (·.1)).Nodup
  | _, _, h, nd => by
    have e : ∀ {kvs : List (Key × V)} {ss : Sk}, SkH K H kvs ss → kvs.map (·.1) = (ss.map (·.1)).map Sum.inr := by
      intro kvs ss h
      induction h with
      | nil => rfl
      | cons a r ih =>
        rw [List.map_cons, List.map_cons, List.map_cons, ih, a.1]
    rw [e h]
    exact nd.map _ (fun a b n z => n (Sum.inr.inj z))
theorem room_u {k : Nat} {A : Around} (hr : Room k A) : A.units + 1 < cLine := by
  have := hr.un
  omega
theorem mutK {kvs : List (Key × V)} : Mut (some (.dK kvs)) := trivial
/-- a dict that was locked and is as before -/
theorem Same.back {H H1 H2 : Hp} {d : Addr} {o x : HO} (hd : H d = some o) (h1 : H1 = upd H d x) (s : Same H1 H2) : Same H (upd H2 d o) := fun b u e => by
  by_cases c : b = d
  · subst c
    rw [hd] at e
    cases e
    exact upd_same
  · rw [upd_ne c]
    exact s _ _ (by rw [h1, upd_ne c]; exact e)
section
variable {P : Program} {w : World} {K : PySem.W.Frag} {mg : Str → Option Value} {base : Heap}
/-! ### without_empty -/
def spWe (K : PySem.W.Frag) : Sp := fun xs H Q _ => ∃ (d : Addr) (kvs : List (Key × V)) (ss : Sk) (m b : Nat), xs = [.ref d] ∧ H d = some (.dK kvs) ∧ SkH K H kvs ss ∧ SkOk ss m b ∧ m ≤ 100000 ∧
  ∀ (e : Addr) (kvs2 : List (Key × V)) (H' : Hp), Same H H' → H e = none → H' e = some (.dK kvs2) → SkH K H' kvs2 (cleanS ss) → Q (.ref e) H'
abbrev nWe : List Str := ["stacks", "name"]
theorem scWe : FnScope nWe ["stacks"] (defScope sWithoutEmpty) := ⟨rfl, rfl, rfl, by decide +kernel, rfl, by decide +kernel, by decide +kernel⟩
theorem has_we (D : Def K mg "without_empty" sWithoutEmpty) : Has P w K mg base "without_empty" 1 ["stacks"] [] (spWe K) := by
  refine has_of D scWe (fun _ _ _ _ _ _ us hl => match us, hl with | [_], _ => rfl) (fun xs H Q E h => ?_) (fun f cv A out s H xs Q E hr h => ?_)
  · obtain ⟨d, kvs, ss, m, b, rfl, _⟩ := h
    rfl
  · obtain ⟨d, kvs, ss, m, b, rfl, hd, hS, ok, hm, k⟩ := h
    have hu := room_u hr
    refine ⟨_, pss_one (ps_ret (pe_lock (pe_dc (own := [("name", 1)]) (g := gName 1) (tt := tTest (tOp (rNeD K) (tDGet (tVar 0) (tVar 1)) (tTup tNil))) (tk := tVar 1) (tv := tDGet (tVar 0) (tVar 1)) rfl scWe.nd (pi_keys (pv 0)) (blkOk_by (own := [("name", 1)]) (N := nWe) (sc := defScope sWithoutEmpty) (by decide +kernel))
        (fun _ _ _ _ _ => pg_name (i := 1) scWe.nd rfl (.inl rfl)) (fun _ _ _ _ _ => pts_one (pt_cmpR (op_neD hr.units) (pe_dget hu (pv 0) (pv 1) (fun _ _ => rfl)) (pe_tup pa_nil) (nomark _))) (fun _ _ _ _ _ => pv 1) (fun _ _ _ _ _ => pe_dget hu (pv 0) (pv 1) (fun _ _ => rfl))))), ?_⟩
    refine ⟨d, .dK kvs, hd, mutK, fun od => ?_⟩
    have hF : upd H d (.frz od (.dK kvs)) d = some (.frz od (.dK kvs)) := upd_same
    have sF : SkH K (upd H d (.frz od (.dK kvs))) kvs ss := skH_upd (.dK hd) hS
    generalize eF : upd H d (.frz od (.dK kvs)) = HF at hF sF
    refine ⟨_, rfl, d, od, rfl, .inl ⟨kvs, hF, fun DD hDD => dc_it walk_keys (fun j H2 => ∃ kvs2, H2 DD = some (.dK kvs2) ∧ SkH K H2 kvs2 (cleanS (ss.take j)) ∧ Same HF H2) ⟨[], upd_same, .nil, Same.new hDD⟩ (fun j H2 _ q => ?_) ?_ ?_⟩⟩
    · obtain ⟨_, _, _, s2⟩ := q
      exact s2 _ _ hF
    · rintro j x H2 H3 hj ⟨kvs2, h2, hP, s2⟩ ⟨rfl, k', v', hkv, rfl⟩
      obtain ⟨p, hp, e1, t, e2, hT⟩ := paired_at sF hkv
      have e1 : k' = Sum.inr p.1 := e1
      have e2 : v' = .ref t := e2
      subst e1 e2
      have pm := List.mem_of_getElem? hp
      obtain ⟨q1, q2, q3⟩ := ok.ok p pm
      have g : ∀ {H4 : Hp}, Same HF H4 → DGet H4 d (.str p.1) (some (.ref t)) := fun {H4} s4 => by
        refine .inl ⟨kvs, Sum.inr p.1, .inr ⟨od, s4 _ _ hF⟩, rfl, ?_⟩
        rcases skH_val (n := p.1) sF with ⟨z, _⟩ | ⟨p2, t2, z1, z2, _⟩
        · rw [findS_at ok.nd pm] at z
          cases z
        · have hv : valV kvs (Sum.inr p.1) = some (.ref t) := valV_of hkv (sF_nd sF ok.nd)
          exact hv.symm
      refine ⟨rfl, _, rfl, _, rfl, d, _, rfl, g s2, by show 0 ≤ sizeLine; decide, fun U hU => ?_⟩
      have sU : Same H3 (upd H3 U (.tup [])) := Same.new hU
      refine ⟨.tuple (p.2.map .str), .tuple (([] : List Str).map .str), .tup (Same.tup (s2.trans sU) hT) (dp_strs _), .tup (.of upd_same) .nil, (nice_tuple (nice_strs q2)).shaped (by decide), rfl, _, rfl, ?_⟩
      rw [eqv_tupS, clean_take hp]
      have s3 := s2.trans sU
      by_cases c : p.2 = []
      · rw [if_pos c, decide_eq_true c]
        exact iteF ⟨kvs2, sU _ _ h2, skH_same hP sU, s3⟩
      · rw [if_neg c, decide_eq_false c]
        refine iteT ⟨_, rfl, _, rfl, _, rfl, d, _, rfl, g s3, kvs2, Sum.inr p.1, rfl, sU _ _ h2, ?_, ?_⟩
        · have l1 := paired_len hP
          have l2 : (cleanS (ss.take j)).length ≤ (ss.take j).length := List.length_filter_le _ _
          rw [List.length_take] at l2
          have := ok.len
          rw [sizeLine_eq]
          omega
        · rw [skH_new hP (sk_fresh ok.nd hp)]
          exact ⟨_, upd_same, paired_snoc (skH_upd (.dK (sU _ _ h2)) (skH_same hP sU)) ⟨rfl, t, rfl, sqT_upd (.dK (sU _ _ h2)) (Same.tup s3 hT)⟩, Same.free2 s3 hDD⟩
    · rintro H2 ⟨kvs2, h2, hP, s2⟩
      have lk : kvs.length = ss.length := paired_len hS
      rw [lk, List.take_length] at hP
      have hF2 := s2 _ _ hF
      have dD : DD ≠ d := fun q => by rw [q, hF2] at h2; cases h2
      refine ⟨hF2, k DD kvs2 _ (Same.back hd eF.symm s2) ?_ (by rw [upd_ne dD]; exact h2) (skH_upd (.dF hF2) hP)⟩
      rw [← eF] at hDD
      by_cases c : DD = d
      · exact absurd c dD
      · rwa [upd_ne c] at hDD
end
end SE
namespace SE
open PySem PySem.Spec PyProof.Rows L2
section
variable {P : Program} {w : World} {K : PySem.W.Frag} {mg : Str → Option Value} {base : Heap}
/-! ### are_stacks, check_stacks, check_heights: valid dicts -/
/-- a dict of stacks by name -/
def SkD (K : PySem.W.Frag) (H : Hp) (d : Addr) (ss : Sk) : Prop := ∃ kvs, H d = some (.dK kvs) ∧ SkH K H kvs ss
theorem SkD.same {H H' : Hp} {d : Addr} {ss : Sk} (h : SkD K H d ss) (s : Same H H') : SkD K H' d ss := by
  obtain ⟨kvs, a, b⟩ := h
  exact ⟨kvs, s _ _ a, skH_same b s⟩
def spAre (K : PySem.W.Frag) : Sp := fun xs H Q _ => ∃ (d : Addr) (ss : Sk) (m b : Nat), xs = [.ref d] ∧ SkD K H d ss ∧ SkOk ss m b ∧ m ≤ 100000 ∧ b ≤ 5000 ∧ ∀ H', Same H H' → Q (.bl true) H'
abbrev nAr : List Str := ["value", "name", "stack"]
theorem scAr : FnScope nAr ["value"] (defScope sAreStacks) := ⟨rfl, rfl, rfl, by decide +kernel, rfl, by decide +kernel, by decide +kernel⟩
theorem has_are (D : Def K mg "are_stacks" sAreStacks) (GI : Has P w K mg base "is_item" 1 ["value"] [] spIsItem) (GW : Has P w K mg base "is_word" 2 ["value"] [] (spIsWord K)) (B : Blt mg) (md : mg "dict" = none) : Has P w K mg base "are_stacks" 3 ["value"] [] (spAre K) := by
  refine has_of D scAr (fun _ _ _ _ _ _ us hl => match us, hl with | [_], _ => rfl) (fun xs H Q E h => ?_) (fun f cv A out s H xs Q E hr h => ?_)
  · obtain ⟨d, ss, m, b, rfl, _⟩ := h
    rfl
  · obtain ⟨d, ss, m, b, rfl, ⟨kvs, hd, hS⟩, ok, hm, hb, k⟩ := h
    have hr1 : Room 1 _ := hr.mono (by decide)
    refine ⟨_, pss_cons (ps_if (pt_not (pt_val (pe_callB call_isi (by rfl) B.isi (by decide +kernel) (pa_cons (pv 0) (pa_cons (pe_bltn (v := .ty "dict") (by rfl) md (by decide +kernel) rfl) pa_nil))))) (pss_one (ps_ret pe_bl)) pss_nil)
      (pss_one (ps_ret (pe_callB (cr_all rfl) (by rfl) B.all (by decide +kernel) (pa_cons
        (pe_lock (pe_lc (own := [("name", 1), ("stack", 2)]) (g := gTup K 2 (gCons (gName 1) (gCons (gName 2) gNil))) (tt := tYes) (te := tAndV (tCall spIsItem [] E0 (tCons (tVar 1) tNil)) (tCall (spIsWord K) [] E0 (tCons (tVar 2) tNil))) rfl scAr.nd (pi_items (pv 0)) (blkOk_by (own := [("name", 1), ("stack", 2)]) (N := nAr) (sc := defScope sAreStacks) (by decide +kernel))
          (fun _ _ _ _ _ => pg_tup (by rfl) (pgs_cons (pg_name (i := 1) scAr.nd rfl (.inl rfl)) (pgs_cons (pg_name (i := 2) scAr.nd rfl (.inl rfl)) pgs_nil))) (fun _ _ _ _ _ => pts_nil) (fun _ _ _ _ _ => pe_and (pe_has GI hr1 (pa_cons (pv 1) pa_nil)) (pe_one (pe_has GW hr (pa_cons (pv 2) pa_nil)))))) pa_nil)))), ?_⟩
    refine ⟨_, rfl, _, .ty "dict", .type "dict", .type "dict", true, rfl, .ty _, .base (.dK hd), kit_ty (by decide +kernel), true, rfl, iteF ?_⟩
    refine ⟨d, .dK kvs, hd, mutK, fun od => ?_⟩
    have hF : upd H d (.frz od (.dK kvs)) d = some (.frz od (.dK kvs)) := upd_same
    have sF : SkH K (upd H d (.frz od (.dK kvs))) kvs ss := skH_upd (.dK hd) hS
    generalize eF : upd H d (.frz od (.dK kvs)) = HF at hF sF
    refine ⟨_, rfl, d, od, kvs, rfl, hF, fun DD hDD => lc_it walk_items (fun j H2 => H2 DD = some (.lst ((List.replicate j true).map V.bl)) ∧ Same HF H2) ⟨upd_same, Same.new hDD⟩ (fun j H2 _ q => q.2 _ _ hF) ?_ ?_⟩
    · rintro j x H2 H3 hj ⟨h2, s2⟩ ⟨T, pk, pv', rfl, nT, rfl, hk, hv⟩
      obtain ⟨kv, hkv⟩ : ∃ kv, kvs[j]? = some kv := ⟨_, List.getElem?_eq_getElem hj⟩
      dsimp only at hk hv
      rw [hkv] at hk hv
      obtain ⟨p, hp, e1, t, e2, hT⟩ := paired_at sF hkv
      have ek : pk = V.str p.1 := by
        have z : some (kV kv.1) = some pk := hk
        rw [e1] at z
        exact (Option.some.inj z).symm
      have ev : pv' = V.ref t := by
        have z : some kv.2 = some pv' := hv
        rw [e2] at z
        exact (Option.some.inj z).symm
      subst ek ev
      obtain ⟨q1, q2, q3⟩ := ok.ok p (List.mem_of_getElem? hp)
      have sT : Same H2 (upd H2 T (.tup [.str p.1, .ref t])) := Same.new nT
      refine ⟨T, _, rfl, .of upd_same, rfl, _, _, rfl, _, _, rfl, rfl, rfl, yes_in ⟨_, rfl, p.1, rfl, q1, fun H4 s4 => ⟨true, rfl, iteT ?_⟩⟩⟩
      refine ⟨_, rfl, t, p.2, rfl, Same.tup (s2.trans (sT.trans s4)) hT, by omega, q2, fun H5 s5 => ?_⟩
      have s25 := (sT.trans s4).trans s5
      refine ⟨_, s25 _ _ h2, ?_, by rw [upd_same, bl_snoc], Same.free2 (s2.trans s25) hDD⟩
      have jl := (List.getElem?_eq_some_iff.mp hp).1
      have := ok.len
      rw [List.length_map, List.length_replicate, sizeLine_eq]
      omega
    · rintro H2 ⟨h2, s2⟩
      have hF2 := s2 _ _ hF
      have dD : DD ≠ d := fun q => by rw [q, hF2] at h2; cases h2
      refine ⟨hF2, DD, _, rfl, .of (by rw [upd_ne dD]; exact h2), ?_⟩
      rw [all_true]
      exact k _ (Same.back hd eF.symm s2)
def spCkS (K : PySem.W.Frag) : Sp := fun xs H Q _ => ∃ (d : Addr) (ss : Sk) (m b : Nat), xs = [.ref d] ∧ SkD K H d ss ∧ SkOk ss m b ∧ m ≤ 100000 ∧ b ≤ 5000 ∧ ∀ H', Same H H' → Q .non H'
theorem scCkS : FnScope ["stacks"] ["stacks"] (defScope sCheckStacks) := ⟨rfl, rfl, rfl, by decide +kernel, rfl, by decide +kernel, by decide +kernel⟩
theorem has_cks (D : Def K mg "check_stacks" sCheckStacks) (G : Has P w K mg base "are_stacks" 3 ["value"] [] (spAre K)) : Has P w K mg base "check_stacks" 4 ["stacks"] [] (spCkS K) := by
  refine has_of D scCkS (fun _ _ _ _ _ _ us hl => match us, hl with | [_], _ => rfl) (fun xs H Q E h => ?_) (fun f cv A out s H xs Q E hr h => ?_)
  · obtain ⟨d, ss, m, b, rfl, _⟩ := h
    rfl
  · obtain ⟨d, ss, m, b, rfl, h1, h2, h3, h4, k⟩ := h
    refine ⟨_, pss_one (ps_if (pt_not (pt_val (pe_has G hr (pa_cons (pv 0) pa_nil)))) pss_never pss_nil), ?_⟩
    exact ⟨_, rfl, d, ss, m, b, rfl, h1, h2, h3, h4, fun H' s' => ⟨true, rfl, iteF (k _ s')⟩⟩
def spCkH (K : PySem.W.Frag) : Sp := fun xs H Q _ => ∃ (d : Addr) (ss : Sk) (m b : Nat) (l : Lim), xs = [.ref d, limV l] ∧ SkD K H d ss ∧ SkOk ss m b ∧ m ≤ 100000 ∧ (∀ p ∈ ss, high l p.2.length = false) ∧ ∀ H', Same H H' → Q .non H'
abbrev nCh : List Str := ["stacks", "limit", "stack"]
theorem scCkH : FnScope nCh ["stacks", "limit"] (defScope sCheckHeights) := ⟨rfl, rfl, rfl, by decide +kernel, rfl, by decide +kernel, by decide +kernel⟩
theorem has_ckh (D : Def K mg "check_heights" sCheckHeights) (G : Has P w K mg base "is_too_high" 1 ["height", "limit"] [] spHighL) (B : Blt mg) (ma : mg "any" = none) : Has P w K mg base "check_heights" 2 ["stacks", "limit"] [] (spCkH K) := by
  refine has_of D scCkH (fun _ _ _ _ _ _ us hl => match us, hl with | [_, _], _ => rfl) (fun xs H Q E h => ?_) (fun f cv A out s H xs Q E hr h => ?_)
  · obtain ⟨d, ss, m, b, l, rfl, _⟩ := h
    rfl
  · obtain ⟨d, ss, m, b, l, rfl, ⟨kvs, hd, hS⟩, ok, hm, hh, k⟩ := h
    refine ⟨_, pss_one (ps_if (pt_val (pe_callB (cr_any rfl) (by rfl) ma (by decide +kernel) (pa_cons
        (pe_lock (pe_lc (own := [("stack", 2)]) (g := gName 2) (tt := tYes) (te := tCall spHighL [] E0 (tCons (tCB (Evl.rLenS K) (tCons (tVar 2) tNil)) (tCons (tVar 1) tNil))) rfl scCkH.nd (pi_values (pv 0)) (blkOk_by (own := [("stack", 2)]) (N := nCh) (sc := defScope sCheckHeights) (by decide +kernel))
          (fun _ _ _ _ _ => pg_name (i := 2) scCkH.nd rfl (.inl rfl)) (fun _ _ _ _ _ => pts_nil) (fun _ _ _ _ _ => pe_has G hr (pa_cons (pe_callB call_len_seq (by rfl) B.len PySem.boot_len (pa_cons (pv 2) pa_nil)) (pa_cons (pv 1) pa_nil))))) pa_nil))) pss_never pss_nil), ?_⟩
    refine ⟨d, .dK kvs, hd, mutK, fun od => ?_⟩
    have hF : upd H d (.frz od (.dK kvs)) d = some (.frz od (.dK kvs)) := upd_same
    have sF : SkH K (upd H d (.frz od (.dK kvs))) kvs ss := skH_upd (.dK hd) hS
    generalize eF : upd H d (.frz od (.dK kvs)) = HF at hF sF
    refine ⟨_, rfl, d, od, kvs, rfl, hF, fun DD hDD => lc_it walk_values (fun j H2 => H2 DD = some (.lst ((List.replicate j false).map V.bl)) ∧ Same HF H2) ⟨upd_same, Same.new hDD⟩ (fun j H2 _ q => q.2 _ _ hF) ?_ ?_⟩
    · rintro j x H2 H3 hj ⟨h2, s2⟩ ⟨eH, k', hkv⟩
      rw [eH]
      obtain ⟨p, hp, e1, t, e2, hT⟩ := paired_at sF hkv
      have e2 : x = .ref t := e2
      subst e2
      have hh' := hh p (List.mem_of_getElem? hp)
      refine ⟨rfl, yes_in ⟨_, rfl, t, _, rfl, .inr (Same.tup s2 hT), _, rfl, p.2.length, l, ?_, ?_⟩⟩
      · rw [List.length_map]
        rfl
      rw [hh']
      refine ⟨_, h2, ?_, ?_, Same.free2 s2 hDD⟩
      · have jl := (List.getElem?_eq_some_iff.mp hp).1
        have := ok.len
        rw [List.length_map, List.length_replicate, sizeLine_eq]
        omega
      · rw [upd_same, List.replicate_succ', List.map_append]
        rfl
    · rintro H2 ⟨h2, s2⟩
      have hF2 := s2 _ _ hF
      have dD : DD ≠ d := fun q => by rw [q, hF2] at h2; cases h2
      refine ⟨hF2, DD, _, rfl, .of (by rw [upd_ne dD]; exact h2), ?_⟩
      have e : ∀ n, (List.replicate n false).any id = false := fun n => by
        rw [List.any_eq_false]
        intro x mx
        rw [(List.mem_replicate.mp mx).2]
        simp
      rw [e]
      exact ⟨false, rfl, iteF (k _ (Same.back hd eF.symm s2))⟩
end
end SE
namespace SE
open PySem PySem.Spec PyProof.Rows L2
/-! ### a session -/
abbrev sSInit : Stmt := inClass sSession 0
abbrev sSStack : Stmt := inClass sSession 1
abbrev sSNames : Stmt := inClass sSession 2
abbrev sSPush : Stmt := inClass sSession 3
abbrev sSPop : Stmt := inClass sSession 4
abbrev sSPerform : Stmt := inClass sSession 5
abbrev sSAddDeed : Stmt := inClass sSession 7
def sF (f h d : V) : List (Str × V) := [("filled", f), ("highest_allowed", h), ("deeds", d)]
/-- a dict of stacks that is locked for good -/
def SkF (K : PySem.W.Frag) (H : Hp) (d : Addr) (ss : Sk) : Prop := ∃ od kvs, H d = some (.frz od (.dK kvs)) ∧ SkH K H kvs ss
theorem SkF.same {K : PySem.W.Frag} {H H' : Hp} {d : Addr} {ss : Sk} (h : SkF K H d ss) (s : Same H H') : SkF K H' d ss := by
  obtain ⟨od, kvs, a, b⟩ := h
  exact ⟨od, kvs, s _ _ a, skH_same b s⟩
abbrev Deed := List NSt × Sk × Lim
def DeedV (K : PySem.W.Frag) (H : Hp) (v : V) (e : Deed) : Prop := ∃ t a d us oa, v = .ref t ∧ H t = some (.tup [.ref a, .ref d, limV e.2.2]) ∧ H a = some (.frz oa (.lst us)) ∧ NSV K H us e.1 ∧ SkF K H d e.2.1
theorem DeedV.same {K : PySem.W.Frag} {H H' : Hp} {v : V} {e : Deed} (h : DeedV K H v e) (s : Same H H') : DeedV K H' v e := by
  obtain ⟨t, a, d, us, oa, h1, h2, h3, h4, h5⟩ := h
  exact ⟨t, a, d, us, oa, h1, s _ _ h2, s _ _ h3, nsv_same h4 s, h5.same s⟩
abbrev DeedsV (K : PySem.W.Frag) (H : Hp) : List V → List Deed → Prop := Paired (DeedV K H)
theorem deeds_same {K : PySem.W.Frag} {H H' : Hp} {us : List V} {ds : List Deed} (h : DeedsV K H us ds) (s : Same H H') : DeedsV K H' us ds := Paired.mapP h fun _ _ q => q.same s
/-- what stands at D may change: it is no tuple and nothing locked -/
def Loose (H : Hp) (D : Addr) : Prop := (∀ xs, H D ≠ some (.tup xs)) ∧ ∀ p u, H D ≠ some (.frz p u)
theorem Loose.dK {H : Hp} {D : Addr} {kvs : List (Key × V)} (h : H D = some (.dK kvs)) : Loose H D := ⟨fun xs e => (by rw [h] at e; cases e), fun p u e => (by rw [h] at e; cases e)⟩
theorem Loose.lst {H : Hp} {D : Addr} {us : List V} (h : H D = some (.lst us)) : Loose H D := ⟨fun xs e => (by rw [h] at e; cases e), fun p u e => (by rw [h] at e; cases e)⟩
theorem Loose.ins {H : Hp} {D C dx : Addr} {fs : List (Str × V)} (h : H D = some (.ins C dx fs)) : Loose H D := ⟨fun xs e => (by rw [h] at e; cases e), fun p u e => (by rw [h] at e; cases e)⟩
theorem Loose.nt {H : Hp} {D : Addr} (h : Loose H D) : NoTup H D := fun xs => ⟨h.1 xs, fun p => h.2 p _⟩
theorem SkF.upd {K : PySem.W.Frag} {H : Hp} {d D : Addr} {ss : Sk} {o : HO} (n : Loose H D) (h : SkF K H d ss) : SkF K (upd H D o) d ss := by
  obtain ⟨od, kvs, a, b⟩ := h
  exact ⟨od, kvs, by rw [upd_ne (fun e => by rw [e] at a; exact n.2 _ _ a)]; exact a, skH_upd n.nt b⟩
theorem nsv_upd {K : PySem.W.Frag} {H : Hp} {D : Addr} {us : List V} {ns : List NSt} {o : HO} (n : NoTup H D) (h : NSV K H us ns) : NSV K (upd H D o) us ns := Paired.mapP h fun _ _ q => by
  obtain ⟨t, e, z⟩ := q
  exact ⟨t, e, sqT_upd n z⟩
theorem DeedV.upd {K : PySem.W.Frag} {H : Hp} {D : Addr} {v : V} {e : Deed} {o : HO} (n : Loose H D) (h : DeedV K H v e) : DeedV K (upd H D o) v e := by
  obtain ⟨t, a, d, us, oa, h1, h2, h3, h4, h5⟩ := h
  exact ⟨t, a, d, us, oa, h1, by rw [upd_ne (fun e => by rw [e] at h2; exact n.1 _ h2)]; exact h2, by rw [upd_ne (fun e => by rw [e] at h3; exact n.2 _ _ h3)]; exact h3, nsv_upd n.nt h4, h5.upd n⟩
theorem deeds_upd {K : PySem.W.Frag} {H : Hp} {D : Addr} {us : List V} {ds : List Deed} {o : HO} (n : Loose H D) (h : DeedsV K H us ds) : DeedsV K (upd H D o) us ds := Paired.mapP h fun _ _ q => q.upd n
/-- the class Session -/
structure SCl (K : PySem.W.Frag) (C : Addr) : Prop where
  cl : Cls K C
  nF : NoAttr K C "filled"
  nH : NoAttr K C "highest_allowed"
  nD : NoAttr K C "deeds"
/-- what a recorder holds beside -/
def xF : Option Addr → List (Str × V)
  | none => []
  | some D => [("failed", .ref D)]
abbrev Cn := List (Str × Nat)
def cnK (ct : Cn) : List (Key × V) := ct.map fun p => (Sum.inr p.1, .int (p.2 : Nat))
def RecH (x : Option Addr) (ct : Cn) (H : Hp) : Prop := match x with
  | none => True
  | some D => H D = some (.dK (cnK ct))
def ownS (o L : Addr) (x : Option Addr) : List Addr := o :: L :: x.toList
theorem xF_put1 (x : Option Addr) (f h d v : V) : putF "filled" v (sF f h d ++ xF x) = sF v h d ++ xF x := rfl
theorem xF_put2 (x : Option Addr) (f h d v : V) : putF "highest_allowed" v (sF f h d ++ xF x) = sF f v d ++ xF x := rfl
theorem xF_put3 (x : Option Addr) (f h d v : V) : putF "deeds" v (sF f h d ++ xF x) = sF f h v ++ xF x := rfl
theorem xF_len (x : Option Addr) (f h d : V) : (sF f h d ++ xF x).length < 1000 := by
  cases x
  · show 3 < 1000; decide
  · show 4 < 1000; decide
/-- o: the session, L: the list of its deeds, x: the dict of its failures, if it counts them; all else that it holds is locked or a tuple -/
structure SesX (K : PySem.W.Frag) (C : Addr) (x : Option Addr) (ct : Cn) (H : Hp) (o L : Addr) (ss : Sk) (l : Lim) (ds : List Deed) : Prop where
  ex : ∃ dx F us, H o = some (.ins C dx (sF (.ref F) (limV l) (.ref L) ++ xF x)) ∧ H L = some (.lst us) ∧ SkF K H F ss ∧ DeedsV K H us ds ∧ RecH x ct H
section
variable {K : PySem.W.Frag} {C : Addr} {x : Option Addr} {ct : Cn} {H H' : Hp} {o L : Addr} {ss : Sk} {l : Lim} {ds : List Deed}
theorem RecH.same {x : Option Addr} (h : RecH x ct H) (s : Same H H') : RecH x ct H' := by
  cases x with
  | none => exact trivial
  | some D => exact s _ _ h
theorem SesX.same (h : SesX K C x ct H o L ss l ds) (s : Same H H') : SesX K C x ct H' o L ss l ds := by
  obtain ⟨dx, F, us, h1, h2, h3, h4, h5⟩ := h.ex
  exact ⟨dx, F, us, s _ _ h1, s _ _ h2, h3.same s, deeds_same h4 s, h5.same s⟩
theorem SesX.ne (h : SesX K C x ct H o L ss l ds) : o ≠ L := fun e => by
  obtain ⟨dx, F, us, h1, h2, _⟩ := h.ex
  rw [e, h2] at h1
  cases h1
theorem SesX.neD {D : Addr} (h : SesX K C (some D) ct H o L ss l ds) : D ≠ o ∧ D ≠ L := by
  obtain ⟨dx, F, us, h1, h2, _, _, h5⟩ := h.ex
  have h5 : H D = some (.dK (cnK ct)) := h5
  exact ⟨fun e => (by rw [e, h1] at h5; cases h5), fun e => (by rw [e, h2] at h5; cases h5)⟩
theorem SesX.loose (h : SesX K C x ct H o L ss l ds) : ∀ b ∈ ownS o L x, Loose H b := fun b m => by
  obtain ⟨dx, F, us, h1, h2, _, _, h5⟩ := h.ex
  rcases List.mem_cons.mp m with e | m
  · rw [e]; exact .ins h1
  rcases List.mem_cons.mp m with e | m
  · rw [e]; exact .lst h2
  · cases x with
    | none => cases m
    | some D => rw [List.mem_singleton.mp m]; exact .dK h5
theorem SesX.has (h : SesX K C x ct H o L ss l ds) : ∀ b ∈ ownS o L x, H b ≠ none := fun b m => by
  obtain ⟨dx, F, us, h1, h2, _, _, h5⟩ := h.ex
  rcases List.mem_cons.mp m with e | m
  · rw [e, h1]; exact fun z => nomatch z
  rcases List.mem_cons.mp m with e | m
  · rw [e, h2]; exact fun z => nomatch z
  · cases x with
    | none => cases m
    | some D =>
      have h5 : H D = some (.dK (cnK ct)) := h5
      rw [List.mem_singleton.mp m, h5]
      exact fun z => nomatch z
/-- what changes where nothing is a tuple or locked -/
def Keep (S : List Addr) (H H' : Hp) : Prop := (∀ b ∈ S, Loose H b) ∧ ∀ b u, b ∉ S → H b = some u → H' b = some u
theorem Keep.tup {S : List Addr} (h : Keep S H H') {t : Addr} {xs : List V} (q : SqT K H t xs) : SqT K H' t xs := by
  rcases q with (q | ⟨p, q⟩) | q
  · exact .inl (.inl (h.2 _ _ (fun m => (h.1 _ m).1 _ q) q))
  · exact .inl (.inr ⟨p, h.2 _ _ (fun m => (h.1 _ m).2 _ _ q) q⟩)
  · exact .inr q
theorem Keep.sk {S : List Addr} (h : Keep S H H') {kvs : List (Key × V)} {ss : Sk} (q : SkH K H kvs ss) : SkH K H' kvs ss := Paired.mapP q fun _ _ q => ⟨q.1, q.2.elim fun t z => ⟨t, z.1, h.tup z.2⟩⟩
theorem Keep.skF {S : List Addr} (h : Keep S H H') {d : Addr} {ss : Sk} (q : SkF K H d ss) : SkF K H' d ss := by
  obtain ⟨od, kvs, a, b⟩ := q
  exact ⟨od, kvs, h.2 _ _ (fun m => (h.1 _ m).2 _ _ a) a, h.sk b⟩
theorem Keep.nsv {S : List Addr} (h : Keep S H H') {us : List V} {ns : List NSt} (q : NSV K H us ns) : NSV K H' us ns := Paired.mapP q fun _ _ q => by
  obtain ⟨t, e, z⟩ := q
  exact ⟨t, e, h.tup z⟩
theorem Keep.deeds {S : List Addr} (h : Keep S H H') {us : List V} {ds : List Deed} (q : DeedsV K H us ds) : DeedsV K H' us ds := Paired.mapP q fun _ _ q => by
  obtain ⟨t, a, d, us, oa, h1, h2, h3, h4, h5⟩ := q
  exact ⟨t, a, d, us, oa, h1, h.2 _ _ (fun m => (h.1 _ m).1 _ h2) h2, h.2 _ _ (fun m => (h.1 _ m).2 _ _ h3) h3, h.nsv h4, h.skF h5⟩
theorem Keep.of {S : List Addr} (hl : ∀ b ∈ S, Loose H b) (s : Same (hid S H) (hid S H')) : Keep S H H' := ⟨hl, fun b u n q => hid_out _ _ _ _ (s _ _ (by rw [hid_ne n]; exact q))⟩
theorem Keep.hid {S : List Addr} (h : Keep S H H') : Same (hid S H) (hid S H') := hid_map fun b u n q => ⟨n, h.2 b u n q⟩
theorem Keep.trans {S : List Addr} {H2 : Hp} (a : Keep S H H') (b : Keep S H' H2) : Keep S H H2 := ⟨a.1, fun c u n q => b.2 c u n (a.2 c u n q)⟩
theorem Keep.same {S : List Addr} (hl : ∀ b ∈ S, Loose H b) (s : Same H H') : Keep S H H' := ⟨hl, fun b u _ q => s b u q⟩
theorem SesX.keep {S : List Addr} (h : SesX K C x ct H o L ss l ds) (k : Keep S H H') (n : ∀ b ∈ ownS o L x, b ∉ S) : SesX K C x ct H' o L ss l ds := by
  obtain ⟨dx, F, us, h1, h2, h3, h4, h5⟩ := h.ex
  refine ⟨dx, F, us, k.2 _ _ (n o List.mem_cons_self) h1, k.2 _ _ (n L (List.mem_cons_of_mem _ List.mem_cons_self)) h2, k.skF h3, k.deeds h4, ?_⟩
  cases x with
  | none => exact trivial
  | some D => exact k.2 _ _ (n D (by simp [ownS])) h5
end
/-- what one step does to the stacks -/
def perfS (l : Lim) : List NSt → Sk → Option Sk
  | [], ss => some ss
  | s :: r, ss => match stepL l (s.1, s.2.2) (getS ss s.2.1) with
    | none => none
    | some st => perfS l r (putS ss s.2.1 st)
section
variable {P : Program} {w : World} {K : PySem.W.Frag} {mg : Str → Option Value} {base : Heap} {C : Addr}
def MethHas (P : Program) (w : World) (K : PySem.W.Frag) (mg : Str → Option Value) (base : Heap) (C : Addr) (m : Str) (k : Nat) (ps : List Str) (sp : Sp) : Prop := ∃ f fd, Meth K C m f ∧ FnOk P w K mg base CX0 k f fd ps sp ∧ Binds K fd ps []
theorem pe_mH0 {X : Cx} {C : Addr} {m : Str} {k : Nat} {ps : List Str} {sp : Sp} {o : Expr} {ta : TE} {apos pos : Pos} {pl : Sem Bool} (h : MethHas X.prog X.w X.K X.mg X.base C m k ps sp) (he : PE X o ta) (c : Cls X.K C) (hr : Room k X.A)
    (ht : eval (.Call (.Attribute o m apos) [] [] pos) X.env = (do
      let ov ← eval o X.env
      standAt apos.atName
      let (f, first) ← holding [ov] (getMethod ov m pl)
      callWith pos f first (backTo pos (starEach [] X.env)) (backToKw pos (keywordEach [] X.env))) := by rfl) : PE X (.Call (.Attribute o m apos) [] [] pos) (tMeth C m sp [] E0 ta tNil) := by
  obtain ⟨f, fd, hm, F, hb⟩ := h
  exact pe_meth0 (pl := pl) he c hm F hr hb .nil pass0 ht
theorem pe_mH1 {X : Cx} {C : Addr} {m : Str} {k : Nat} {ps : List Str} {sp : Sp} {o e : Expr} {es : List Expr} {ta : TE} {t : TA} {apos pos : Pos} {pl : Sem Bool} (h : MethHas X.prog X.w X.K X.mg X.base C m k ps sp) (he : PE X o ta) (c : Cls X.K C) (hr : Room k X.A) (ha : PA X (e :: es) t)
    (hst : starEach (e :: es) X.env = (false, eval e X.env) :: starEach es X.env := by rfl) (hpl : (backTo pos (starEach es X.env)).any (·.1) = false := by rfl)
    (ht : eval (.Call (.Attribute o m apos) (e :: es) [] pos) X.env = (do
      let ov ← eval o X.env
      standAt apos.atName
      let (f, first) ← holding [ov] (getMethod ov m pl)
      callWith pos f first (backTo pos (starEach (e :: es) X.env)) (backToKw pos (keywordEach [] X.env))) := by rfl) : PE X (.Call (.Attribute o m apos) (e :: es) [] pos) (tMeth C m sp [] E0 ta t) := by
  obtain ⟨f, fd, hm, F, hb⟩ := h
  exact pe_meth (pl := pl) he c hm F hr hb .nil pass0 ha hst hpl ht
theorem sX_none {x : Option Addr} {f h d : V} {m : Str} (h1 : (m == ("filled" : Str)) = false) (h2 : (m == ("highest_allowed" : Str)) = false) (h3 : (m == ("deeds" : Str)) = false) (h4 : (m == ("failed" : Str)) = false) : (sF f h d ++ xF x).lookup m = none := by
  cases x <;> (unfold sF xF; simp [List.lookup, h1, h2, h3, h4])
/-! ### add_deed -/
def spAd (K : PySem.W.Frag) (C : Addr) (x : Option Addr) : Sp := fun vs H Q _ => ∃ (o L a d : Addr) (ct : Cn) (ss ss2 : Sk) (l l2 : Lim) (ds : List Deed) (us : List V) (ns : List NSt) (oa : Obj), vs = [.ref o, .ref a, .ref d, limV l2] ∧ SesX K C x ct H o L ss l ds ∧ H a = some (.frz oa (.lst us)) ∧ NSV K H us ns ∧ SkF K H d ss2 ∧ ds.length ≤ 100000 ∧
  ∀ H', Keep (ownS o L x) H H' → SesX K C x ct H' o L ss2 l2 (ds ++ [(ns, ss, l)]) → Q .non H'
theorem scAd : FnScope ["self", "steps", "stacks", "limit"] ["self", "steps", "stacks", "limit"] (defScope sSAddDeed) := ⟨rfl, rfl, rfl, by decide +kernel, rfl, by decide +kernel, by decide +kernel⟩
theorem ok_ad {f : Addr} {fd : FuncData} {x : Option Addr} (F : Fun K "add_deed" "Session.add_deed" sSAddDeed f fd) (T : SCl K C) : FnOk P w K mg base CX0 1 f fd ["self", "steps", "stacks", "limit"] (spAd K C x) := by
  refine F.ok scAd (fun vs H Q E h => ?_) (fun cdv A outer s H vs Q E hr h => ?_)
  · obtain ⟨o, L, a, d, ct, ss, ss2, l, l2, ds, us, ns, oa, rfl, _⟩ := h
    rfl
  · obtain ⟨o, L, a, d, ct, ss, ss2, l, l2, ds, us, ns, oa, rfl, hses, ha, hn, hd, hl, k⟩ := h
    have oL := hses.ne
    have hlo := hses.loose
    obtain ⟨dx, F, ws, h1, h2, h3, h4, h5⟩ := hses.ex
    refine ⟨_, pss_cons (ps_expr (pe_bm PySem.F.plainAttrs_list PySem.F.slot_list_append PySem.F.type_list_append mt_append (pe_fld (pv 0) rfl) (pa_cons (pe_tup (pa_cons (pv 1) (pa_cons (pe_fld (pv 0) rfl) (pa_cons (pe_fld (pv 0) rfl) pa_nil)))) pa_nil)))
      (pss_cons (ps_fld (pv 0) (pv 2) rfl) (pss_one (ps_fld (pv 0) (pv 3) rfl))), ?_⟩
    have lw := paired_len h4
    refine ⟨_, rfl, o, C, dx, _, _, rfl, h1, T.cl, T.nD, rfl, .inl ⟨rfl, _, .of h2⟩, _, rfl, _, rfl, o, C, dx, _, _, rfl, h1, T.cl, T.nF, rfl, _, rfl, o, C, dx, _, _, rfl, h1, T.cl, T.nH, rfl, by show 3 ≤ sizeLine; decide, fun t ht => ?_⟩
    have sT : Same H (upd H t (.tup [.ref a, .ref F, limV l])) := Same.new ht
    have hT : upd H t (.tup [.ref a, .ref F, limV l]) t = some (.tup [.ref a, .ref F, limV l]) := upd_same
    generalize upd H t (.tup [.ref a, .ref F, limV l]) = H1 at sT hT ⊢
    refine ⟨L, ws, .ref t, rfl, rfl, sT _ _ h2, by rw [sizeLine_eq]; omega, ?_⟩
    have h1' := sT _ _ h1
    have h2' := sT _ _ h2
    have v1 : DeedsV K H1 (ws ++ [.ref t]) (ds ++ [(ns, ss, l)]) := paired_snoc (deeds_same h4 sT) ⟨t, a, F, us, oa, rfl, hT, sT _ _ ha, nsv_same hn sT, h3.same sT⟩
    have w1 := hd.same sT
    have x1 := h5.same sT
    have kT : Keep (ownS o L x) H H1 := Keep.same hlo sT
    have lo1 : ∀ b ∈ ownS o L x, Loose H1 b := (SesX.mk ⟨dx, F, ws, h1', h2', h3.same sT, deeds_same h4 sT, x1⟩ : SesX K C x ct H1 o L ss l ds).loose
    have hx : ∀ D, x = some D → D ≠ o ∧ D ≠ L := fun D e => by subst e; exact hses.neD
    refine ⟨_, rfl, _, rfl, o, C, dx, _, rfl, (by rw [upd_ne oL]; exact h1'), T.cl, T.nF, xF_len _ _ _ _, ?_⟩
    rw [xF_put1]
    refine ⟨_, rfl, _, rfl, o, C, dx, _, rfl, upd_same, T.cl, T.nH, xF_len _ _ _ _, ?_⟩
    rw [xF_put2]
    have kk : Keep (ownS o L x) H1 (upd (upd (upd H1 L (.lst (ws ++ [.ref t]))) o (.ins C dx (sF (.ref d) (limV l) (.ref L) ++ xF x))) o (.ins C dx (sF (.ref d) (limV l2) (.ref L) ++ xF x))) := ⟨lo1, fun b u n q => by
      have n1 : b ≠ o := fun e => n (by rw [e]; exact List.mem_cons_self)
      have n2 : b ≠ L := fun e => n (by rw [e]; exact List.mem_cons_of_mem _ List.mem_cons_self)
      rw [upd_ne n1, upd_ne n1, upd_ne n2]
      exact q⟩
    refine k _ (kT.trans kk) ⟨dx, d, ws ++ [.ref t], upd_same, by rw [upd_ne (Ne.symm oL), upd_ne (Ne.symm oL)]; exact upd_same, kk.skF w1, kk.deeds v1, ?_⟩
    cases x with
    | none => exact trivial
    | some D =>
      obtain ⟨d1, d2⟩ := hx D rfl
      show upd _ _ _ D = _
      rw [upd_ne d1, upd_ne d1, upd_ne d2]
      exact x1
end
end SE
/-! Exceptions of own classes below ValueError, each with one field. -/
namespace SE
open PySem PySem.Spec PyProof.Rows L2
section
variable {P : Program} {w : World} {K : PySem.W.Frag} {mg : Str → Option Value} {base : Heap}
/-- a def that may raise keeps the promise sp -/
def HasX (P : Program) (w : World) (K : PySem.W.Frag) (mg : Str → Option Value) (base : Heap) (x : Str) (k : Nat) (ps : List Str) (dvs : List V) (sp : Sp) : Prop :=
  ∃ f fd ds, FnOk P w K mg base (L2.CX P w) k f fd ps sp ∧ mg x = some (.ref f) ∧ PySem.W.keepIn K (.ref f) = true ∧ Binds K fd ps ds ∧ Vals dvs ds ∧ ∃ st, Fun K x x st f fd
abbrev BxX (P : Program) (w : World) (K : PySem.W.Frag) (mg : Str → Option Value) (base : Heap) (N : List Str) (x : Str) (st : Stmt) (f : Addr) (cv : Value) (A : Around) (out : List Env) (s : Shared) (H : Hp) (E : XK) : Cx :=
  cxOf (L2.CX P w) P w K mg base N x (defScope st) f cv A out s H E
theorem hasX_of {x : Str} {st : Stmt} {N ps : List Str} {k : Nat} {sp : Sp} (D : Def K mg x st) (S : FnScope N ps (defScope st))
    (hb : ∀ (kV doc pm : Value) (an : Option Addr) (cv ct : Value) (us : List Value), us.length = ps.length → bindArgs (PySem.W.fnOf x x (defArgs st) (defBody st) (defScope st) .none kV doc pm an cv ct) ⟨us, []⟩ = pure (ps.zip us))
    (len : ∀ xs H Q E, sp xs H Q E → xs.length = ps.length)
    (hbd : ∀ (f : Addr) (cv : Value) (A : Around) (out : List Env) (s : Shared) (H : Hp) (xs : List V) (Q : VK) (E : XK), Room k (A.deeper (envOfC x (defScope st) s.heap.objs.size f cv)) → sp xs H Q E →
      ∃ t, PSs (BxX P w K mg base N x st f cv A out s H E) (defBody st) t ∧ t { nx := fun _ H2 => Q .non H2, rt := Q } (start N xs) H) : HasX P w K mg base x (k + 1) ps [] sp := by
  obtain ⟨f, fd, F, hm⟩ := D
  exact ⟨f, fd, [], F.okX S len fun cv A out s H xs Q E hr h => hbd f cv A out s H xs Q E hr h, hm, F.kp, F.binds hb, .nil, st, F⟩
/-- what stands in a def that may raise: its own way out -/
theorem tkX {N : List Str} {x : Str} {st : Stmt} {f : Addr} {cv : Value} {A : Around} {out : List Env} {s : Shared} {H : Hp} {E : XK} : Takes (BxX P w K mg base N x st f cv A out s H E) (fun cls d _ H => E cls d H) := takes_of rfl rfl rfl rfl
end
section
variable {X : Cx} {k : Nat} {ps : List Str} {sp : Sp} {x : Str} {p pos : Pos} {e : Expr} {es : List Expr} {t : TA} {dvs : List V} {E : XK} {W : WX}
/-- a call whose exceptions leave the def that calls -/
theorem pe_hasX (h : HasX X.prog X.w X.K X.mg X.base x k ps dvs sp) (hr : Room k X.A) (tk : Takes X (fun cls d _ H => E cls d H)) (ha : PA X (e :: es) t) (hg : Gl X x := by rfl) (hdb : (x == ("__debug__" : Str)) = false := by decide)
    (he : starEach (e :: es) X.env = (false, eval e X.env) :: starEach es X.env := by rfl) (hpl : (backTo pos (starEach es X.env)).any (·.1) = false := by rfl) : PE X (.Call (.Name x p) (e :: es) [] pos) (tCall sp dvs E t) := by
  obtain ⟨f, fd, ds, F, hm, hk, hb, hd, _⟩ := h
  exact pe_call F hr hg hm hk hb hd (passes_call tk fun _ _ _ _ z => z) ha hdb he hpl
/-- a call within a try -/
theorem pe_hasS (h : HasX X.prog X.w X.K X.mg X.base x k ps [] sp) (hr : Room k X.A) (tk : Takes X W) (ha : PA X (e :: es) t) (hg : Gl X x := by rfl) (hdb : (x == ("__debug__" : Str)) = false := by decide)
    (he : starEach (e :: es) X.env = (false, eval e X.env) :: starEach es X.env := by rfl) (hpl : (backTo pos (starEach es X.env)).any (·.1) = false := by rfl) : PE X (.Call (.Name x p) (e :: es) [] pos) (tCallS sp (WE W) t) := by
  obtain ⟨f, fd, ds, F, hm, hk, hb, hd, _⟩ := h
  cases hd
  exact pe_callS F hr hg hm hk hb (fun σ => passAt tk σ) ha hdb he hpl
end
/-! ### a class of exceptions -/
def spXI (K : PySem.W.Frag) (C : Addr) (f : Str) : Sp := fun xs H Q _ => ∃ (a : Addr) (v : V), xs = [.ref a, v] ∧ H a = some (exo a C none) ∧ ∀ dx, H dx = none → dx ≠ a → Q .non (upd (upd H dx (exd dx [(f, v)])) a (exo a C (some dx)))
/-- what the written part says of the class at C, whose __init__ sets the field f -/
structure XcC (P : Program) (w : World) (K : PySem.W.Frag) (mg : Str → Option Value) (base : Heap) (x f : Str) (C : Addr) : Prop where
  oex : OexC K C
  gC : mg x = some (.ref C)
  init : ∃ fI fd, PySem.W.findIn K (.ref C) "__init__" = some (some (.ref fI)) ∧ PySem.W.typeIn K (.ref fI) = some (.type "function") ∧ FnOk P w K mg base CX0 1 fI fd ["self", f] (spXI K C f) ∧ Binds K fd ["self", f] []
  xf : XfC K C
  noF : PySem.W.findIn K (.ref C) f = some none
  ha : PySem.W.findIn K (.ref C) "__class__" = some (some (.builtin "object.__class__"))
  hn : PySem.W.specialIn K (.builtin "object.__class__") "__get__" = some (some (.builtin "getset_descriptor.__get__"))
  ht : PySem.W.takesIn K (.builtin "object.__class__") = some true
  hm : PySem.W.mroIn K C (.type "object") = some true
  te : PySem.W.exmOne K (.ref C) (.ref C) = some true
/-- __init__ -/
theorem init_ok {P : Program} {w : World} {K : PySem.W.Frag} {mg : Str → Option Value} {base : Heap} {q f : Str} {C : Addr} {st : Stmt} {fI : Addr} {fd : FuncData} {p1 p2 p3 p4 : Pos} (F : Fun K "__init__" q st fI fd) (S : FnScope ["self", f] ["self", f] (defScope st)) (T : OexC K C) (noF : PySem.W.findIn K (.ref C) f = some none)
    (hb : defBody st = [.Assign [.Attribute (.Name "self" p1) f p2] (.Name f p3) p4])
    (v0 : Vis (defScope st) "self") (v1 : Vis (defScope st) f) (hdb : (f == ("__debug__" : Str)) = false) (hcd : (f == ("__classdict__" : Str)) = false) : FnOk P w K mg base CX0 1 fI fd ["self", f] (spXI K C f) := by
  refine F.ok S (fun xs H Q E h => ?_) (fun cv A out s H xs Q E hr h => ?_)
  · obtain ⟨a, v, rfl, _⟩ := h
    rfl
  · obtain ⟨a, v, rfl, ha, k⟩ := h
    rw [hb]
    refine ⟨_, pss_one (ps_ost (pe_var (i := 0) rfl v0) (pe_var (i := 1) rfl v1 (hd := hdb) (hcd := hcd))), ?_⟩
    exact ⟨_, rfl, _, rfl, a, C, rfl, T, noF, .inl ⟨ha, fun dx nd ne => k dx nd ne⟩⟩
section
variable {X : Cx} {C : Addr} {x f : Str}
theorem mk_heap {H1 : Hp} {a d C : Addr} {f : Str} {v : V} (na : H1 a = none) (nd : d ≠ a) : upd (del (upd (upd (upd H1 a (exo a C none)) d (exd d [(f, v)])) a (exo a C (some d))) a) d (.xd [(f, v)]) = upd H1 d (.xd [(f, v)]) := by
  funext b
  by_cases e : b = d
  · subst e
    rw [upd_same, upd_same]
  · rw [upd_ne e, upd_ne e]
    by_cases e2 : b = a
    · subst e2
      rw [del_same, na]
    · rw [del_ne e2, upd_ne e2, upd_ne e, upd_ne e2]
theorem mk_red {K : PySem.W.Frag} {H1 : Hp} {v : V} {Q : XK} (h : ∀ d, H1 d = none → Q (.ref C) (some d) (upd H1 d (.xd [(f, v)]))) :
    ([v] : List V).length ≤ 1000 ∧ ∀ a, H1 a = none → spXI K C f (.ref a :: ([v] ++ [])) (upd H1 a (exo a C none))
      (fun u H2 => u = .non ∧ ∃ (d : Addr) (fs : List (Str × V)), H2 a = some (exo a C (some d)) ∧ H2 d = some (exd d fs) ∧ H1 d = none ∧ Q (.ref C) (some d) (upd (del H2 a) d (.xd fs))) (fun _ _ _ => False) := by
  refine ⟨(by decide : 1 ≤ 1000), fun a na => ⟨a, v, rfl, upd_same, fun d nd ne => ⟨rfl, d, [(f, v)], upd_same, ?_, ?_, ?_⟩⟩⟩
  · rw [upd_ne ne]
    exact upd_same
  · rw [upd_ne ne] at nd
    exact nd
  · rw [mk_heap na ne]
    rw [upd_ne ne] at nd
    exact h d nd
/-- C(e): behind the argument mk_red -/
theorem pmk_x {e : Expr} {ta : TA} {p pos : Pos} (T : XcC X.prog X.w X.K X.mg X.base x f C) (hr : Room 2 X.A) (ha : PA X [e] ta) (hg : Gl X x := by rfl)
    (hdb : (x == ("__debug__" : Str)) = false := by decide) (he : starEach (e :: []) X.env = (false, eval e X.env) :: starEach [] X.env := by rfl) (hpl : (backTo pos (starEach [] X.env)).any (·.1) = false := by rfl) :
    PMk X (.Call (.Name x p) [e] [] pos) (tMkO C (spXI X.K C f) [] ta) := by
  obtain ⟨fI, fd, i1, i2, i3, i4⟩ := T.init
  exact pmk_oex (CX := CX0) T.oex i1 i2 i3 hr i4 .nil pass0 hg T.gC ha hdb he hpl
theorem ps_raiseX {W : WX} {e : Expr} {ta : TA} {p pos pos2 : Pos} (hc : X.calm = true) (T : XcC X.prog X.w X.K X.mg X.base x f C) (hr : Room 2 X.A) (tk : Takes X W) (ha : PA X [e] ta) (hg : Gl X x := by rfl)
    (hdb : (x == ("__debug__" : Str)) = false := by decide) (he : starEach (e :: []) X.env = (false, eval e X.env) :: starEach [] X.env := by rfl) (hpl : (backTo pos (starEach [] X.env)).any (·.1) = false := by rfl) :
    PS X (.Raise (some (.Call (.Name x p) [e] [] pos)) none pos2) (fun _ σ H => tMkO C (spXI X.K C f) [] ta σ H fun cls d H' => W cls d σ H') := ps_raise hc tk (pmk_x T hr ha hg hdb he hpl)
/-- isinstance(e, c), e the exception that the suite holds -/
def rIsX (K : PySem.W.Frag) (C a : Addr) (cls : Value) (d : Option Addr) : List V → Hp → VK → Prop := fun xs H Q => ∃ (c : V) (cv : Value) (b : Bool) (dd : Addr) (fs : List (Str × V)), xs = [.ref a, c] ∧ cls = .ref C ∧ (∀ u, RelV c u → u = cv) ∧ PySem.W.kitOne K (.ref C) cv = some b ∧ d = some dd ∧ H dd = some (.xd fs) ∧ Q (.bl b) H
theorem call_isX {a : Addr} {oe : Obj} {cls : Value} {d : Option Addr} {pn : List (Addr × Obj)} (T : XcC X.prog X.w X.K X.mg X.base x f C) (hz : Zc cls d oe) (hf : ∃ vs, oe.data = .fields vs) : CallR (X.suite a ((a, oe) :: pn)) (.builtin "isinstance") (rIsX X.K C a cls d) := by
  intro pins s σ H xs us Q I r h
  obtain ⟨c, cv, b, dd, fs, rfl, rfl, hcv, e, rfl, hH, q⟩ := h
  cases r with
  | cons rx rr =>
    cases rr with
    | cons rt rr =>
      cases rr
      cases rx
      have ec := hcv _ rt
      subst ec
      obtain ⟨hget, _⟩ := I.pin (a, oe) (List.mem_append.mpr (.inl List.mem_cons_self))
      obtain ⟨vs, hv⟩ := hf
      have hx : ObjOk X.prog X.w H s.heap dd (.xd fs) := I.hok dd _ hH
      obtain ⟨mA, hns, hr⟩ := hx
      obtain ⟨od, ho, hl⟩ := lookIn_ns hns
      have J : PySem.W.InstAt s.heap a oe C (some od) := ⟨hget, hz.1, by unfold PySem.W.notCls; rw [hv] <;> rfl, by rw [hz.2]; exact ho⟩
      have hcl : (PySem.W.clsIn X.K C).isSome = true := by
        obtain ⟨cd, hc, _⟩ := PySem.W.any_some T.xf.hdC
        rw [hc]
        rfl
      exact PySem.W.kia_one (PySem.W.kitx_exc hcl T.xf.ga T.xf.gg T.xf.exC T.ha T.hn T.ht T.hm) I.kIn J e (fun z => nomatch z) fun tk => ⟨.bl b, H, I.kept (t' := tk) fun _ _ z => z, rfl, q⟩
end
end SE
/-! Classes and methods called by keyword where exceptions may come, also within a try. -/
namespace SE
open PySem PySem.Spec PyProof.Rows L2
section
variable {X : Cx} {CT : CXT} {k n : Nat} {f C : Addr} {fd : FuncData} {ps ks : List Str} {sp : Sp} {x m : Str} {p pos apos : Pos} {e o : Expr} {es : List Expr} {kws : List Keyword} {te : TE} {t tk : TA} {ex : L2.St → XK}
  {g : List Value → List Value → List Value} {gV : List V → List V → List V}
/-- a def called with some arguments by keyword; ex σ is what is wished of its exceptions -/
theorem run_kwS {pins : List (Addr × Obj)} {σ : L2.St} {H : Hp} {s : Shared} {Q : VK} {us ws : List Value} {vs zs : List V} (F : FnOk X.prog X.w X.K X.mg X.base CT k f fd ps sp) (room : Room k X.A) (bd : KBn X.K fd ps n ks g gV)
    (out : PassesAt CT X σ (ex σ)) (I : Inv X pins σ H s) (r1 : Vals vs us) (r2 : Vals zs ws) (l1 : vs.length = n) (l2 : zs.length = ks.length) (h : sp (gV vs zs) H Q (ex σ)) :
    wpAny (model X.prog X.w) X.A (call (.ref f) us (ks.zip ws)) (EP X pins σ Q) X.xe s := by
  have to := bd.to s us ws I.kIn (r1.length.symm.trans l1) (r2.length.symm.trans l2)
  have run := F.run X.A X.stack s H ⟨us, ks.zip ws⟩ (g us ws) (gV vs zs) Q (ex σ) room I.env0 to (bd.rel r1 r2) h
  refine wpAny_call (codeAny_mono run fun res s2 done => ?_)
  match res, done with
  | .error ev, done => exact out pins H s ev s2 I done
  | .ok (.ret u), done => exact I.after done
  | .ok .next, done => exact done.elim
  | .ok .brk, done => exact done.elim
  | .ok .cont, done => exact done.elim
/-- a class called with some arguments by keyword -/
theorem run_mkS {pins : List (Addr × Obj)} {σ : L2.St} {H : Hp} {s : Shared} {Q : VK} {us ws : List Value} {vs zs : List V} (M : Mk X.K C f) (F : FnOk X.prog X.w X.K X.mg X.base CT k f fd ps sp) (room : Room (k + 1) X.A) (bd : KBn X.K fd ps (n + 1) ks g gV)
    (out : PassesAt CT X σ (ex σ)) (I : Inv X pins σ H s) (r1 : Vals vs us) (r2 : Vals zs ws) (l1 : vs.length = n) (l2 : zs.length = ks.length)
    (h : ∀ b db, H b = none → H db = none → db ≠ b → sp (gV (.ref b :: vs) zs) (upd (upd H db (.own b)) b (.ins C db [])) (fun v H2 => v = .non ∧ Q (.ref b) H2) (ex σ)) :
    wpAny (model X.prog X.w) X.A (call (.ref C) us (ks.zip ws)) (EP X pins σ Q) X.xe s := by
  have new := h (s.heap.objs.size + 1) s.heap.objs.size (I.hok.fresh (Nat.le_succ _)) (I.hok.fresh (Nat.le_refl _)) (Nat.ne_of_lt (Nat.lt_succ_self _))
  have made := Inv.made (C := C) I
  have rs : Vals (V.ref (s.heap.objs.size + 1) :: vs) (Value.ref (s.heap.objs.size + 1) :: us) := .cons rfl r1
  have len : (Value.ref (s.heap.objs.size + 1) :: us).length = n + 1 := congrArg (· + 1) (r1.length.symm.trans l1)
  have to := bd.to _ (Value.ref (s.heap.objs.size + 1) :: us) ws made.kIn len (r2.length.symm.trans l2)
  have run := F.run _ X.stack _ _ ⟨Value.ref (s.heap.objs.size + 1) :: us, ks.zip ws⟩ (g (Value.ref (s.heap.objs.size + 1) :: us) ws) _ _ (ex σ) (room.make C us (ks.zip ws)) (made.env0.make C us (ks.zip ws)) to (bd.rel rs r2) new
  refine wpAny_call (make_map (f := f) I.kIn M.makes M.init (beq_iff_eq.mp M.fn) (codeAny_mono run fun res s2 done => ?_))
  match res, done with
  | .error ev, done => exact out pins _ _ ev s2 made done
  | .ok (.ret u), done =>
    obtain ⟨v, H2, I2, rel, ev, q⟩ := made.after done
    subst ev
    exact ⟨rel, V.ref (s.heap.objs.size + 1), H2, I2, rfl, q⟩
  | .ok .next, done => exact done.elim
  | .ok .brk, done => exact done.elim
  | .ok .cont, done => exact done.elim
/-- C(e, .., k = v, ..) -/
def tMkS (C : Addr) (n m : Nat) (sp : Sp) (gV : List V → List V → List V) (ex : L2.St → XK) (t tk : TA) : TE := fun σ H Q => t σ H fun vs H1 => tk σ H1 fun zs H2 => vs.length = n ∧ zs.length = m ∧
  ∀ b db, H2 b = none → H2 db = none → db ≠ b → sp (gV (.ref b :: vs) zs) (upd (upd H2 db (.own b)) b (.ins C db [])) (fun v H3 => v = .non ∧ Q (.ref b) H3) (ex σ)
theorem pe_mkS (M : Mk X.K C f) (F : FnOk X.prog X.w X.K X.mg X.base CT k f fd ps sp) (room : Room (k + 1) X.A) (hm : X.mg x = some (.ref C)) (bd : KBn X.K fd ps (n + 1) ks g gV) (out : ∀ σ, PassesAt CT X σ (ex σ)) (ha : PA X (e :: es) t) (hk : PK X kws tk)
    (hks : (backToKw pos (keywordEach kws X.env)).filterMap (·.1) = ks := by rfl) (hall : (backToKw pos (keywordEach kws X.env)).all (·.1.isSome) = true := by rfl) (hg : Gl X x := by rfl) (hd : (x == ("__debug__" : Str)) = false := by decide)
    (he : starEach (e :: es) X.env = (false, eval e X.env) :: starEach es X.env := by rfl) (hpl : ((backTo pos (starEach (e :: es) X.env)).any (·.1) || (backToKw pos (keywordEach kws X.env)).any (·.1.isNone)) = false := by rfl) :
    PE X (.Call (.Name x p) (e :: es) kws pos) (tMkS C n ks.length sp gV ex t tk) := by
  constructor
  intro pins s σ H Q I w
  refine wpAny_Call_Name_kw (ld_glob I hg hm ?_ hd)
  refine PySem.W.callWith_KW (h₀ := X.base) I.ok.mod.kin M.kp hall (thn (ha.run pos pins s σ H _ I w) fun us s1 z => ?_) hpl he
  obtain ⟨vs, H1, I1, r1, w1⟩ := z
  refine thn (hk.run pos pins s1 σ H1 _ I1 w1) fun ws s2 z => ?_
  obtain ⟨zs, H2, I2, r2, l1, l2, w2⟩ := z
  rw [hks]
  exact ⟨I2.kIn, run_mkS M F room bd (out σ) I2 r1 r2 l1 l2 w2⟩
/-- o.m(e, .., k = v, ..) -/
def tMethS (C : Addr) (m : Str) (n j : Nat) (sp : Sp) (gV : List V → List V → List V) (ex : L2.St → XK) (te : TE) (t tk : TA) : TE := fun σ H Q => te σ H fun y H1 => ∃ b db fs, y = .ref b ∧ H1 b = some (.ins C db fs) ∧ fs.lookup m = none ∧
  t σ H1 fun vs H2 => tk σ H2 fun zs H3 => vs.length = n ∧ zs.length = j ∧ sp (gV (.ref b :: vs) zs) H3 Q (ex σ)
theorem pe_methS {pl : Sem Bool} (ho : PE X o te) (c : Cls X.K C) (hm : Meth X.K C m f) (F : FnOk X.prog X.w X.K X.mg X.base CT k f fd ps sp) (room : Room k X.A) (bd : KBn X.K fd ps (n + 1) ks g gV) (out : ∀ σ, PassesAt CT X σ (ex σ)) (ha : PA X (e :: es) t) (hk : PK X kws tk)
    (hks : (backToKw pos (keywordEach kws X.env)).filterMap (·.1) = ks := by rfl) (hall : (backToKw pos (keywordEach kws X.env)).all (·.1.isSome) = true := by rfl)
    (he : starEach (e :: es) X.env = (false, eval e X.env) :: starEach es X.env := by rfl) (hpl : ((backTo pos (starEach (e :: es) X.env)).any (·.1) || (backToKw pos (keywordEach kws X.env)).any (·.1.isNone)) = false := by rfl)
    (hev : eval (.Call (.Attribute o m apos) (e :: es) kws pos) X.env = (do
      let ov ← eval o X.env
      standAt apos.atName
      let (f, first) ← holding [ov] (getMethod ov m pl)
      callWith pos f first (backTo pos (starEach (e :: es) X.env)) (backToKw pos (keywordEach kws X.env))) := by rfl) :
    PE X (.Call (.Attribute o m apos) (e :: es) kws pos) (tMethS C m n ks.length sp gV ex te t tk) := by
  constructor
  intro pins s σ H Q I w
  refine PySem.W.methodCall_KW (pl := pl) (thn (ho.run pins s σ H _ I w) fun u s1 z => ?_) hev
  obtain ⟨y, H1, I1, ry, b, db, fs, ey, hb, lk, w1⟩ := z
  subst ey
  obtain rfl : u = Value.ref b := ry
  refine getmeth_ok I1 hb c hm lk ?_
  refine PySem.W.callWith_KW (first := [.ref b]) (h₀ := X.base) I.ok.mod.kin hm.kp hall (thn (ha.run pos pins s1 σ H1 _ I1 w1) fun us s2 z => ?_) hpl he
  obtain ⟨vs, H2, I2, r1, w2⟩ := z
  refine thn (hk.run pos pins s2 σ H2 _ I2 w2) fun ws s3 z => ?_
  obtain ⟨zs, H3, I3, r2, l1, l2, w3⟩ := z
  rw [hks]
  exact ⟨I3.kIn, run_kwS (n := n + 1) (us := .ref b :: us) (vs := .ref b :: vs) F room bd (out σ) I3 (.cons rfl r1) r2 (congrArg (· + 1) l1) l2 w3⟩
/-! ### a static method of a class -/
/-- C.m is a staticmethod: its record at p, its def at f -/
structure SMet (K : PySem.W.Frag) (C : Addr) (mc : Value) (m : Str) (p f : Addr) : Prop where
  at_ : PySem.W.findCls K (.ref C) mc m = some (.get (.builtin "staticmethod.__get__") (.ref p) .none (.ref C))
  rc : ∃ rest, PySem.W.recIn K p "staticmethod" = some (.ref f :: rest)
  kp : PySem.W.keepIn K (.ref f) = true
/-- a def by its promise on positional values, exceptions as ex σ wishes -/
theorem run_rS {pins : List (Addr × Obj)} {σ : L2.St} {H : Hp} {s : Shared} {Q : VK} {us : List Value} {vs : List V} (F : FnR X.prog X.w X.K X.mg X.base CT k f sp) (room : Room k X.A) (out : PassesAt CT X σ (ex σ)) (I : Inv X pins σ H s) (r : Vals vs us) (h : sp vs H Q (ex σ)) :
    wpAny (model X.prog X.w) X.A (call (.ref f) us) (EP X pins σ Q) X.xe s := by
  refine wpAny_call (codeAny_mono (F X.A X.stack s H us vs Q (ex σ) room I.env0 r h) fun res s2 done => ?_)
  match res, done with
  | .error ev, done => exact out pins H s ev s2 I done
  | .ok (.ret u), done => exact I.after done
  | .ok .next, done => exact done.elim
  | .ok .brk, done => exact done.elim
  | .ok .cont, done => exact done.elim
/-- C.m(e, ..) of a staticmethod -/
def tSMeth (C : Addr) (sp : Sp) (ex : L2.St → XK) (te : TE) (t : TA) : TE := fun σ H Q => te σ H fun y H1 => y = .ref C ∧ t σ H1 fun vs H2 => sp vs H2 Q (ex σ)
theorem pe_smeth {pl : Sem Bool} {mc : Value} {q : Addr} (ho : PE X o te) (rd : ClX.CRead X.K C mc) (c : SMet X.K C mc m q f) (F : FnR X.prog X.w X.K X.mg X.base CT k f sp) (room : Room k X.A) (out : ∀ σ, PassesAt CT X σ (ex σ)) (ha : PA X (e :: es) t)
    (he : starEach (e :: es) X.env = (false, eval e X.env) :: starEach es X.env := by rfl) (hpl : (backTo pos (starEach es X.env)).any (·.1) = false := by rfl)
    (hev : eval (.Call (.Attribute o m apos) (e :: es) [] pos) X.env = (do
      let ov ← eval o X.env
      standAt apos.atName
      let (f, first) ← holding [ov] (getMethod ov m pl)
      callWith pos f first (backTo pos (starEach (e :: es) X.env)) (backToKw pos (keywordEach [] X.env))) := by rfl) :
    PE X (.Call (.Attribute o m apos) (e :: es) [] pos) (tSMeth C sp ex te t) := by
  constructor
  intro pins s σ H Q I w
  refine PySem.W.methodCall_KW (pl := pl) (thn (ho.run pins s σ H _ I w) fun u s1 z => ?_) hev
  obtain ⟨y, H1, I1, ry, ey, w1⟩ := z
  subst ey
  obtain rfl : u = Value.ref C := ry
  obtain ⟨rest, rec⟩ := c.rc
  refine PySem.W.method_cls I1.kIn rd.ga (PySem.W.cls_bind I1.kIn rd.rd c.at_ ?_)
  refine wpAny_call (PySem.W.sm_get (s := { s1 with toks := s1.toks + 1 }) I1.kIn rec (PySem.W.handed_on rfl ?_))
  have I2 : Inv X pins σ H1 { s1 with toks := s1.toks + 1 } := I1.tok _
  refine PySem.W.callWith_K (first := []) (h₀ := X.base) I.ok.mod.kin c.kp (thn (ha.run pos pins _ σ H1 _ I2 w1) fun us s3 z => ?_) he hpl
  obtain ⟨vs, H3, I3, r3, w3⟩ := z
  exact ⟨I3.kIn, run_rS F room (out σ) I3 r3 w3⟩
end
end SE
/-! Exceptions of own classes as values, below any built-in class, made by position or by keyword. -/
namespace PySem
namespace XV
open PySem.W PySem.Calls PyProof.Rows PySem.HandSPX
open Builtin Builtin.ObjectAttr
/-- what lies behind an own class: the maker and the built-in classes -/
structure Tail (newId : String) (bm : List Value) : Prop where
  maker : ∃ B initId bmB, ExcBaseFacts B newId initId bmB ∧ bm.contains (.type B) = true
  nA : bm.contains (.type "AttributeError") = false
  nN : bm.contains (.type "NameError") = false
  ob : bm.contains (.type "object") = true
  ps : ∀ self : Value, refuseLoop self "__setattr__" bm = pure ()
section
variable {M : Model} {A : Around} {E : Value → Shared → Prop} {h : Heap} {g : Array GenState} {d : Drawn} {t : Nat} {os : OsState}
variable {nm q : Str} {C N : Addr} {bs bm bmB : List Value} {hdct : Bool} {sn : List Str} {sub : List Value} {ab : Bool} {col : Option Bool} {dd : Option Addr} {k0 k1 k2 k3 k5 : Option Value} {B newId initId : String}
theorem chk_new (F : ExcBaseFacts B newId initId bmB) (hB : bm.contains (.type B) = true) {rest : List Value} {kw : List (Str × Value)} {Q : Unit → Shared → Prop}
    (hC : h.get? C = some (excClassObj nm q C N bs bm hdct sn sub ab col dd k0 k1 k2 k3 k5 newId)) (hq : Q () ⟨h, g, d, t, os⟩) : wpAny M A (checkBuiltinCall newId ⟨.ref C :: rest, kw⟩) Q E ⟨h, g, d, t, os⟩ := by
  have hcont : (Value.ref C :: bm).contains (.type B) = true := by rw [List.contains_cons, hB, Bool.or_true]
  have hstar := F.noStar
  simp only [checkBuiltinCall, F.newKind, F.newSplit, F.newRow]
  repeat (first | refine wpAny_loadPart_at hC ?_ | (refine wpAny_isSubtype_exc hC ?_; rw [hcont]) | refine wpAny_staticBase_exc hC ?_ | refine wpAny_madeBy_exc hC ?_ | simp only [bne_self_eq_false, Bool.false_eq_true, if_false] | wp_step)
  exact hq
theorem typ_call (hC : h.get? C = some (excClassObj nm q C N bs bm hdct sn sub ab col dd k0 k1 k2 k3 k5 newId)) : W.Looks M h (isInstance (.ref C) (.type "type")) true := by
  have L : W.Looks M h (typeOf (.ref C)) (.type "type") := (W.Looks.ld hC).andThen .now
  exact L.andThen (W.Looks.of_pure tc_sub)
theorem chk_call {rest : List Value} {kw : List (Str × Value)} {Q : Unit → Shared → Prop} (hC : h.get? C = some (excClassObj nm q C N bs bm hdct sn sub ab col dd k0 k1 k2 k3 k5 newId))
    (hq : Q () ⟨h, g, d, t, os⟩) : wpAny M A (checkBuiltinCall "type.__call__" ⟨.ref C :: rest, kw⟩) Q E ⟨h, g, d, t, os⟩ :=
  @W.check_slot M _ _ ⟨h, g, d, t, os⟩ "type.__call__" "type" "__call__" (.ref C) rest kw _ tc_kind tc_split (typ_call hC) (tc_args _ _ _) hq
end
section
variable {prog : Program} {w : World} {A : Around} {E : Value → Shared → Prop} {R : Result → Shared → Prop} {h : Heap} {g : Array GenState} {d : Drawn} {t : Nat} {os : OsState}
variable {nm q : Str} {C N : Addr} {bs bm : List Value} {hdct : Bool} {sn : List Str} {sub : List Value} {ab : Bool} {col : Option Bool} {dd : Option Addr} {k0 k1 k2 k3 k5 : Option Value} {newId : String}
theorem new_ex (T : Tail newId bm) {rest : List Value} {kw : List (Str × Value)} (hC : h.get? C = some (excClassObj nm q C N bs bm hdct sn sub ab col dd k0 k1 k2 k3 k5 newId))
    (hq : R (.ok (.ret (.ref (h.objs.size + 1)))) ⟨(h.push (W.kdv_tup rest)).push (excO C h.objs.size), g, d, t, os⟩) (hrest : rest.length ≤ sizeLine) :
    codeAny (model prog w) A (.builtin newId ⟨.ref C :: rest, kw⟩) R ⟨h, g, d, t, os⟩ := by
  obtain ⟨B, initId, bmB, F, hB⟩ := T.maker
  have hends := F.ends
  have hcB : (Value.ref C :: bm).contains (.type B) = true := by rw [List.contains_cons, hB, Bool.or_true]
  have hcA : (Value.ref C :: bm).contains (.type "AttributeError") = false := by rw [List.contains_cons, T.nA]; rfl
  have hcN : (Value.ref C :: bm).contains (.type "NameError") = false := by rw [List.contains_cons, T.nN]; rfl
  refine codeAny_builtinAt F.entry ?_
  unfold Builtin.«BaseException.__new__»
  refine wpAt_bind ?_
  show wpAt _ _ _ (stack >>= _) _ _ _
  refine wpAt_bind (wpAt_stack fun p below => wpAt_of_wpAny ?_)
  wp_walk
  refine wpAt_of_wpAny ?_
  rw [F.owner]
  repeat (first | with_reducible refine wpAny_madeHere_exc F.canon hC ?_ | with_reducible refine wpAny_loadPart_at hC ?_ | (with_reducible refine wpAny_isSubtype_exc hC ?_; first | rw [hcB] | rw [hcA] | rw [hcN]) | wp_step)
  show R _ _
  rw [Heap.size_push]
  exact hq
theorem tcall (T : Tail newId bm) {rest : List Value} {kw : List (Str × Value)} {fI : Addr} {Q : Fin → Shared → Prop} (hC : h.get? C = some (excClassObj nm q C N bs bm hdct sn sub ab col dd k0 k1 k2 k3 k5 newId))
    (hi : W.Looks (model prog w) h (typeLookup (.ref C) "__init__") (some (.ref fI))) (hb : ∀ self, W.Looks (model prog w) h (bindSpecial (.ref fI) self) (.ref fI, [self])) (hrest : rest.length ≤ sizeLine)
    (hq : codeAny (model prog w) A (.call (.ref fI) ⟨.ref (h.objs.size + 1) :: rest, kw⟩)
      (fun r s' => match r with | .ok (.ret v) => v = .none ∧ Q (.done (.ret (.ref (h.objs.size + 1)))) s' | .ok _ => False | .error e => E e s')
      ⟨(h.push (W.kdv_tup rest)).push (excO C h.objs.size), g, d, t, os⟩) :
    wpAny (model prog w) A (Builtin.«type.__call__» ⟨.ref C :: rest, kw⟩) Q E ⟨h, g, d, t, os⟩ := by
  obtain ⟨B, initId, bmB, F, hB⟩ := T.maker
  repeat (first | with_reducible refine wpAny_loadPart_at hC ?_ | with_reducible refine wpAny_madeBy_exc hC ?_ | wp_step)
  refine codeAny_call_builtin_code (Code.quiet_builtin _ F.quiet) (chk_new F hB hC ?_)
  refine new_ex T hC ?_ hrest
  show wpAny _ _ _ _ _ _
  have k : ∀ b o, h.get? b = some o → ((h.push (W.kdv_tup rest)).push (excO C h.objs.size)).get? b = some o := fun b o e => Heap.get?_push_of_some _ (Heap.get?_push_of_some _ e)
  have hC₁ := k _ _ hC
  have hget : ((h.push (W.kdv_tup rest)).push (excO C h.objs.size)).get? (h.objs.size + 1) = some (excO C h.objs.size) := by heap_get
  have hcC : (Value.ref C :: bm).contains (.ref C) = true := by simp
  have i1 := hi.keeps k
  have b1 := (hb (.ref (h.objs.size + 1))).keeps k
  unfold isInstance
  repeat (first | with_reducible refine wpAny_loadPart_at hget ?_ | (with_reducible refine wpAny_isSubtype_exc hC₁ ?_; rw [hcC]) | wp_step)
  show wpAny _ _ (typeLookup (.ref C) _) _ _ _
  refine i1.at ?_
  refine wpAny_holding (wpAny_bind (b1.at ?_))
  refine wpAny_bind (wpAny_call (codeAny_mono hq fun r s' z => ?_))
  rcases r with e | (v | _ | _ | _) <;> first | exact z | exact z.elim | skip
  obtain ⟨rfl, z⟩ := z
  first
    | exact wpAny_pure (wpAny_pure z)
    | (wp_walk; exact z)
theorem call_ex (T : Tail newId bm) {rest : List Value} {kw : List (Str × Value)} {fI : Addr} (hC : h.get? C = some (excClassObj nm q C N bs bm hdct sn sub ab col dd k0 k1 k2 k3 k5 newId))
    (hi : W.Looks (model prog w) h (typeLookup (.ref C) "__init__") (some (.ref fI))) (hb : ∀ self, W.Looks (model prog w) h (bindSpecial (.ref fI) self) (.ref fI, [self])) (hrest : rest.length ≤ sizeLine)
    (hq : codeAny (model prog w) (A.under (.builtin "type.__call__" ⟨.ref C :: rest, kw⟩)) (.call (.ref fI) ⟨.ref (h.objs.size + 1) :: rest, kw⟩) (W.InitBack (h.objs.size + 1) R)
      ⟨(h.push (W.kdv_tup rest)).push (excO C h.objs.size), g, d, t, os⟩) :
    codeAny (model prog w) A (.call (.ref C) ⟨rest, kw⟩) R ⟨h, g, d, t, os⟩ := by
  have f1 := tc_lookup
  have f2 := tc_bind (.ref C)
  have hTy : (⟨h, g, d, t, os⟩ : Shared).TypeIs (.ref C) "type" := ⟨_, hC, rfl⟩
  refine codeAny_of_tree ?_
  show wpAny _ _ (callAny (.ref C) _) _ _ _
  repeat (any_goals (first | assumption | with_reducible refine wpAny_loadPart_at hC ?_ | wp_step))
  refine ⟨rfl, ?_⟩
  refine codeAny_call_builtin_at (Code.quiet_builtin _ (by decide +kernel)) entry_typeCall (chk_call hC (tcall T hC hi hb hrest ?_))
  refine codeAny_mono hq fun r s' z => ?_
  rcases r with e | (v | _ | _ | _) <;> exact z
/-- self.name = v, the first one -/
theorem put_ex {K : W.Frag} {name : Str} {tk : Tok} {v : Value} {x C : Addr} {fv : Array Value} {cd : ClassData}
    (X : K.In h) (hx : h.get? x = some { cls := .ref C, data := .fields fv }) (hcd : W.clsIn K C = some cd) (ne : cd.mro.isEmpty = false) (hob : cd.mro.contains (.type "object") = true) (pass : ∀ self : Value, refuseLoop self "__setattr__" cd.mro = pure ()) (hh : cd.hasDict = true) (ha : W.findIn K (.ref C) name = some none)
    (hq : ∀ h' tk' dx, (∀ b o, b ≠ x → h.get? b = some o → h'.get? b = some o) → h.objs.size ≤ dx → dx ≠ x → h'.get? x = some { cls := .ref C, dict := some dx, data := .fields fv } →
      h'.Ns1 dx (fun y => if y = name then some v else none) → R (.ok (.ret .none)) ⟨h', g, d, tk', os⟩) :
    codeAny (model prog w) A (.call (.builtin "object.__setattr__") ⟨[.ref x, .str name tk, v], []⟩) R ⟨h, g, d, t, os⟩ := by
  have I : W.InstAt h x { cls := .ref C, data := .fields fv } C none := ⟨hx, rfl, rfl, trivial⟩
  have SF := F.store_object
  have hxs : x ≠ h.objs.size := Nat.ne_of_lt (Heap.lt_size hx)
  have sub : W.Looks (model prog w) h (isInstance (.ref x) (.type "object")) true := I.type.andThen (W.looks_mroIn X (by unfold W.mroIn; rw [hcd, Option.bind_some, if_neg (by rw [ne]; decide), hob]))
  refine codeAny_call_builtin SF.slot.plain SF.entry (@W.check_slot (model prog w) _ _ ⟨h, g, d, t, os⟩ "object.__setattr__" "object" "__setattr__" (.ref x) [.str name tk, v] [] _ SF.kind SF.split sub (SF.args (.ref x) (.str name tk) v) ?_)
  have hmr : W.Looks (model prog w) h (mroOf (.ref C)) cd.mro := (W.looks_clsIn X hcd).andThen .now
  have L3 : W.Looks (model prog w) h (storeTaker? none) none := .now
  have hcls : W.Looks (model prog w) h (classData C) cd := W.looks_clsIn X hcd
  rw [W.osa_eq, refuse_eq]
  refine wpAny_bind (wpAny_bind (I.type.at (wpAny_bind (hmr.at ?_))))
  rw [pass]
  refine wpAny_pure (wpAny_bind (I.type.at (wpAny_bind ((W.looks_findIn X ha).at (wpAny_bind (L3.at ?_))))))
  show wpAny _ _ (storeInOwnDict (.ref x) (.ref C) (.str name tk) name v false) _ _ _
  obtain ⟨nm, bs, mro, ns, qn, hd, sn, sb, ab, col, del⟩ := cd
  dsimp only at hh
  subst hh
  unfold storeInOwnDict ownDictForStores
  repeat (first | with_reducible refine store_in_new ?_ ?_ | with_reducible refine wpAny_loadPart_at hx ?_ | with_reducible refine hcls.at ?_ | wp_step)
  · exact ⟨_, #[], _, (Heap.get?_update_ne _ _ _ _ hxs.symm).trans (Heap.get?_push_at rfl rfl), rfl, fun e he => absurd he (by simp), fun _ => rfl⟩
  · intro h' tk' hn' hs
    have hx₁ : (h.push { cls := .type "dict", data := .dict #[] }).get? x = some { cls := .ref C, data := .fields fv } := Heap.get?_push_of_some _ hx
    refine hq h' tk' h.objs.size (fun b o hb ho => ?_) (Nat.le_refl _) hxs.symm ?_ hn'
    · exact (hs.2 b (Nat.ne_of_lt (Heap.lt_size ho))).trans ((Heap.get?_update_ne _ _ _ _ hb).trans (Heap.get?_push_of_some _ ho))
    · exact (hs.2 x hxs).trans (Heap.get?_update_self _ hx₁ rfl)
end
end XV
end PySem

namespace SE
open PySem PySem.Spec PyProof.Rows L2
/-- what the written part says of a class of exceptions -/
structure OexV (K : PySem.W.Frag) (C : Addr) : Prop where
  cls : ∃ nm q N bs bm sn sub ab col dd k0 k1 k2 k3 k5 newId, K.lookup C = some (excClassObj nm q C N bs bm true sn sub ab col dd k0 k1 k2 k3 k5 newId) ∧ XV.Tail newId bm
  sa : PySem.W.findIn K (.ref C) "__setattr__" = some (some (.builtin "object.__setattr__"))
  kC : PySem.W.keepIn K (.ref C) = true
theorem tail_VE {bm : List Value} (h : PySem.HandSPX.refsVE bm = true) : XV.Tail "ValueError.__new__" bm :=
  ⟨⟨_, _, _, F.excBase_ValueError, by rw [PySem.HandSPX.refsVE_contains _ _ h]; decide +kernel⟩, by rw [PySem.HandSPX.refsVE_contains _ _ h]; decide +kernel, by rw [PySem.HandSPX.refsVE_contains _ _ h]; decide +kernel,
    by rw [PySem.HandSPX.refsVE_contains _ _ h]; decide +kernel, fun self => PySem.HandSPX.refsVE_pass self _ h⟩
theorem tail_LE : XV.Tail "LookupError.__new__" [.type "LookupError", .type "Exception", .type "BaseException", .type "object"] := ⟨⟨_, _, _, F.excBase_LookupError, by decide +kernel⟩, by decide +kernel, by decide +kernel, by decide +kernel, fun self => F.store_LookupError.passes self⟩
theorem tail_RE : XV.Tail "RuntimeError.__new__" [.type "RuntimeError", .type "Exception", .type "BaseException", .type "object"] := ⟨⟨_, _, _, F.excBase_RuntimeError, by decide +kernel⟩, by decide +kernel, by decide +kernel, by decide +kernel, fun self => F.store_RuntimeError.passes self⟩
theorem tail_OE : XV.Tail "OverflowError.__new__" [.type "OverflowError", .type "ArithmeticError", .type "Exception", .type "BaseException", .type "object"] := ⟨⟨_, _, _, F.excBase_OverflowError, by decide +kernel⟩, by decide +kernel, by decide +kernel, by decide +kernel, fun self => F.store_OverflowError.passes self⟩
theorem tail_KE : XV.Tail "LookupError.__new__" [.type "KeyError", .type "LookupError", .type "Exception", .type "BaseException", .type "object"] := ⟨⟨_, _, _, F.excBase_LookupError, by decide +kernel⟩, by decide +kernel, by decide +kernel, by decide +kernel, fun self => by kernel_rfl⟩
section
variable {X : Cx} {pins : List (Addr × Obj)} {σ : L2.St} {H : Hp} {s : Shared} {a C dx : Addr} {f : Str} {y : V} {u : Value} {fs : List (Str × V)} {Q : Unit → Shared → Prop} {E : Value → Shared → Prop} {A : Around}
theorem ost_newV (T : OexV X.K C) (I : Inv X pins σ H s) (e : H a = some (exo a C none)) (hno : PySem.W.findIn X.K (.ref C) f = some none) (ry : RelV y u)
    (h : ∀ dx s', H dx = none → dx ≠ a → Inv X pins σ (upd (upd H dx (exd dx [(f, y)])) a (exo a C (some dx))) s' → Q () s') : wpAny (model X.prog X.w) A (setAttr (.ref a) f u) Q E s := by
  obtain ⟨nm, q, N, bs, bm, sn, sub, ab, col, dd, k0, k1, k2, k3, k5, newId, hC, hT⟩ := T.cls
  have hcl : PySem.W.clsIn X.K C = some { name := nm, bases := bs, mro := .ref C :: bm, ns := N, qualname := q, hasDict := true, slotNames := sn, subclasses := sub, abstract := ab, collection := col, hasDel := false } := by unfold PySem.W.clsIn; rw [hC] <;> rfl
  obtain ⟨t1, ho⟩ := exo_at I.hok e
  obtain ⟨hp, g, d, t, os⟩ := s
  refine PySem.W.set_plain I.kIn (ox := { cls := .ref C, dict := none, data := .fields #[.ref t1, .none, .none, .none, .bool false, .none] }) (od := none) ⟨ho, rfl, rfl, trivial⟩ T.sa ?_
  refine PySem.XV.put_ex I.kIn ho hcl rfl (by show List.contains (Value.ref C :: bm) _ = true; rw [List.contains_cons, hT.ob, Bool.or_true]) (fun self => by rw [refuseLoop_ref]; exact hT.ps self) rfl hno (fun h' tk' dx k dn dne hx hn => ?_)
  have hnd : H dx = none := I.hok.fresh dn
  have nd : ∀ {b : Addr} {o : Obj}, hp.get? b = some o → b ≠ dx := fun {b o} q => Nat.ne_of_lt (Nat.lt_of_lt_of_le (Heap.lt_size q) dn)
  have na : ∀ {b : Addr}, H b = none → b ≠ a := fun {b} n z => by
    rw [z, e] at n
    cases n
  have Un1 : Un X.fs [] H (upd (upd H dx (exd dx [(f, y)])) a (exo a C (some dx))) hp h' := {
    keep := fun b o q n _ _ => k b o (na n) q
    slot := fun b o q n _ _ => ⟨o.slots, k b o (na n) q⟩
    free := fun b o q n _ => by rw [upd_ne (na n), upd_ne (nd q)]; exact n
    there := fun b o q _ => by
      by_cases hb : b = a
      · exact ⟨_, by rw [hb]; exact hx⟩
      · exact ⟨o, k b o hb q⟩
    tups := fun b xs q => by rw [upd_ne (at_ne e q exo_tup), upd_ne (ne_of_none q hnd)]; exact q
    frzs := fun b o v q => by rw [upd_ne (at_ne e q exo_frz), upd_ne (ne_of_none q hnd)]; exact q
    tbls := fun b ps q => ⟨#[], by rw [upd_ne (at_ne e q exo_tbl), upd_ne (ne_of_none q hnd), q]; simp⟩ }
  refine h dx _ hnd dne (I.un (t' := tk') Un1 fun b o q => ?_)
  by_cases hb : b = a
  · subst hb
    rw [upd_same] at q
    cases q
    exact exo_ok hx
  · rw [upd_ne hb] at q
    by_cases hd : b = dx
    · subst hd
      rw [upd_same] at q
      cases q
      exact exd_ok hn (relO_put (fs := []) ry fun g => True.intro)
    · rw [upd_ne hd] at q
      exact (I.hok b o q).stay (fun c v hc z => k c v (by
          rcases hc with hc | hc
          · rw [hc]
            exact hb
          · exact at_ne e hc exo_own) z)
        (fun c hc => by rw [upd_ne (at_ne e hc exo_own), upd_ne (ne_of_none hc hnd)]; exact hc) (fun c xs hc => by rw [upd_ne (at_ne e hc exo_tup), upd_ne (ne_of_none hc hnd)]; exact hc)
def tOstV (K : PySem.W.Frag) (f : Str) (to te : TE) : TS := fun D σ H => te σ H fun y H1 => to σ H1 fun x H2 => ∃ a C : Addr, x = .ref a ∧ OexV K C ∧ PySem.W.findIn K (.ref C) f = some none ∧
  H2 a = some (exo a C none) ∧ ∀ dx, H2 dx = none → dx ≠ a → D.nx σ (upd (upd H2 dx (exd dx [(f, y)])) a (exo a C (some dx)))
theorem ps_ostV {o e : Expr} {to te : TE} {p' pos : Pos} (ho : PE X o to) (he : PE X e te) (hs : swapsWith e (some (.Attribute o f p')) pos.line X.env = pure false := by rfl) : PS X (.Assign [.Attribute o f p'] e pos) (tOstV X.K f to te) := by
  refine ⟨fun pins s σ H D I h => ?_⟩
  refine plainObj_wpAny_Assign_Attribute (thn (he.run pins s σ H _ I h) fun v s1 ⟨y, H1, I1, r1, q1⟩ => thn (ho.run pins s1 σ H1 _ I1 q1) fun u s2 ⟨x, H2, I2, r2, a, C, ex, T, hno, ea, q⟩ => ?_) hs
  subst ex
  obtain rfl : u = Value.ref a := r2
  exact ost_newV T I2 ea hno r1 fun dx s' n ne J => ⟨σ, _, J, q dx n ne⟩
end
theorem init_okV {P : Program} {w : World} {K : PySem.W.Frag} {mg : Str → Option Value} {base : Heap} {q f : Str} {C : Addr} {st : Stmt} {fI : Addr} {fd : FuncData} {p1 p2 p3 p4 : Pos} (F : Fun K "__init__" q st fI fd) (S : FnScope ["self", f] ["self", f] (defScope st)) (T : OexV K C) (noF : PySem.W.findIn K (.ref C) f = some none)
    (hb : defBody st = [.Assign [.Attribute (.Name "self" p1) f p2] (.Name f p3) p4])
    (v0 : Vis (defScope st) "self") (v1 : Vis (defScope st) f) (hdb : (f == ("__debug__" : Str)) = false) (hcd : (f == ("__classdict__" : Str)) = false) : FnOk P w K mg base CX0 1 fI fd ["self", f] (spXI K C f) := by
  refine F.ok S (fun xs H Q E h => ?_) (fun cv A out s H xs Q E hr h => ?_)
  · obtain ⟨a, v, rfl, _⟩ := h
    rfl
  · obtain ⟨a, v, rfl, ha, k⟩ := h
    rw [hb]
    refine ⟨_, pss_one (ps_ostV (pe_var (i := 0) rfl v0) (pe_var (i := 1) rfl v1 (hd := hdb) (hcd := hcd))), ?_⟩
    exact ⟨_, rfl, _, rfl, a, C, rfl, T, noF, ha, fun dx nd ne => k dx nd ne⟩
/-- the class x at C stands under its name; its __init__ (q) sets f; bm: what its mro holds behind it -/
structure XvC (P : Program) (w : World) (K : PySem.W.Frag) (mg : Str → Option Value) (base : Heap) (x q f : Str) (C : Addr) (bm : List Value) : Prop where
  oex : OexV K C
  gC : mg x = some (.ref C)
  init : ∃ (fI : Addr) (fd : FuncData) (st : Stmt), PySem.W.findIn K (.ref C) "__init__" = some (some (.ref fI)) ∧ PySem.W.typeIn K (.ref fI) = some (.type "function") ∧ FnOk P w K mg base CX0 1 fI fd ["self", f] (spXI K C f) ∧ (∃ g, KBn K fd ["self", f] 2 [] g (fun vs _ => vs)) ∧ (∃ g, KBn K fd ["self", f] 1 [f] g (fun vs zs => vs ++ zs)) ∧ Fun K "__init__" q st fI fd
  xf : XfC K C
  noF : PySem.W.findIn K (.ref C) f = some none
  ha : PySem.W.findIn K (.ref C) "__class__" = some (some (.builtin "object.__class__"))
  mr : ∃ cd, PySem.W.clsIn K C = some cd ∧ cd.mro = .ref C :: bm
  tC : PySem.W.typeIn K (.ref C) = some (.type "type")
theorem sub_mr {K : PySem.W.Frag} {C : Addr} {bm : List Value} (h : ∃ cd, PySem.W.clsIn K C = some cd ∧ cd.mro = .ref C :: bm) (b : Value) : PySem.W.subIn K (.ref C) b = some ((Value.ref C :: bm).contains b) := by
  obtain ⟨cd, h1, h2⟩ := h
  show PySem.W.mroIn K C b = _
  unfold PySem.W.mroIn
  rw [h1, Option.bind_some, h2]
  rfl
theorem xv_mk {P : Program} {w : World} {K : PySem.W.Frag} {mg : Str → Option Value} {base : Heap} {x q f : Str} {C : Addr} {st : Stmt} {fI : Addr} {fd : FuncData} {p1 p2 p3 p4 : Pos} {nm qn : Str} {N : Addr} {bs bm : List Value} {sn : List Str} {sub : List Value} {ab : Bool} {col : Option Bool} {dd : Option Addr} {k0 k1 k2 k3 k5 : Option Value} {newId : String}
    (gC : mg x = some (.ref C)) (xl : K.lookup C = some (excClassObj nm qn C N bs bm true sn sub ab col dd k0 k1 k2 k3 k5 newId)) (T : XV.Tail newId bm) (hB : bm.contains (.type "BaseException") = true)
    (sa : PySem.W.findIn K (.ref C) "__setattr__" = some (some (.builtin "object.__setattr__"))) (ga : PySem.W.findIn K (.ref C) "__getattribute__" = some (some (.builtin "BaseException.__getattribute__"))) (gg : PySem.W.findIn K (.ref C) "__getattr__" = some none)
    (nf : PySem.W.findIn K (.ref C) f = some none) (ii : PySem.W.findIn K (.ref C) "__init__" = some (some (.ref fI))) (ti : PySem.W.typeIn K (.ref fI) = some (.type "function")) (kC : PySem.W.keepIn K (.ref C) = true) (cc : PySem.W.findIn K (.ref C) "__class__" = some (some (.builtin "object.__class__")))
    (F : Fun K "__init__" q st fI fd) (S : FnScope ["self", f] ["self", f] (defScope st)) (hb : defBody st = [.Assign [.Attribute (.Name "self" p1) f p2] (.Name f p3) p4])
    (v0 : Vis (defScope st) "self") (v1 : Vis (defScope st) f) (hdb : (f == ("__debug__" : Str)) = false) (hcd : (f == ("__classdict__" : Str)) = false)
    (b1 : ∀ (kV doc pm : Value) (an : Option Addr) (cv ct : Value) (us ws : List Value), us.length = 2 → ws.length = ([] : List Str).length → bindArgs (PySem.W.fnOf "__init__" q (defArgs st) (defBody st) (defScope st) .none kV doc pm an cv ct) ⟨us, ([] : List Str).zip ws⟩ = pure (([("self" : Str), f] : List Str).zip us))
    (b2 : ∀ (kV doc pm : Value) (an : Option Addr) (cv ct : Value) (us ws : List Value), us.length = 1 → ws.length = [f].length → bindArgs (PySem.W.fnOf "__init__" q (defArgs st) (defBody st) (defScope st) .none kV doc pm an cv ct) ⟨us, [f].zip ws⟩ = pure (([("self" : Str), f] : List Str).zip (us ++ ws))) :
    XvC P w K mg base x q f C bm := by
  have hcl : PySem.W.clsIn K C = some { name := nm, bases := bs, mro := .ref C :: bm, ns := N, qualname := qn, hasDict := true, slotNames := sn, subclasses := sub, abstract := ab, collection := col, hasDel := false } := by unfold PySem.W.clsIn; rw [xl] <;> rfl
  have mr : ∃ cd, PySem.W.clsIn K C = some cd ∧ cd.mro = .ref C :: bm := ⟨_, hcl, rfl⟩
  have oe : OexV K C := ⟨⟨_, _, _, _, _, _, _, _, _, _, _, _, _, _, _, _, xl, T⟩, sa, kC⟩
  have hd : PySem.W.hasDictIn K C = true := by
    unfold PySem.W.hasDictIn
    rw [hcl]
    rfl
  refine ⟨oe, gC, ⟨fI, fd, st, ii, ti, init_okV F S oe nf hb v0 v1 hdb hcd, ⟨_, kb_all F 2 [] (fun us _ => us) (fun r _ => r) b1⟩, ⟨_, kb_all F 1 [f] (fun us ws => us ++ ws) (fun r z => r.append z) b2⟩, F⟩,
    ⟨ga, gg, ?_, hd⟩, nf, cc, mr, ?_⟩
  · rw [sub_mr mr, List.contains_cons, hB, Bool.or_true]
  · show (K.lookup C).map (·.cls) = _
    rw [xl]
    rfl
theorem XvC.ne {P : Program} {w : World} {K : PySem.W.Frag} {mg : Str → Option Value} {base : Heap} {x x2 q q2 f f2 : Str} {C C2 : Addr} {bm bm2 : List Value} (h : XvC P w K mg base x q f C bm) (h2 : XvC P w K mg base x2 q2 f2 C2 bm2) (hq : q ≠ q2) : C ≠ C2 := fun e => by
  subst e
  obtain ⟨fI, fd, st, i1, _, _, _, _, F⟩ := h.init
  obtain ⟨fI2, fd2, st2, i2, _, _, _, _, F2⟩ := h2.init
  rw [i1] at i2
  cases i2
  obtain ⟨_, _, _, _, _, _, _, _, _, _, l1, _⟩ := F.ex
  obtain ⟨_, _, _, _, _, _, _, _, _, _, l2, _⟩ := F2.ex
  obtain ⟨oc, od, kV, doc, pm, an, cv, ct, osl, e1, l1, _⟩ := F.ex
  obtain ⟨oc2, od2, kV2, doc2, pm2, an2, cv2, ct2, osl2, e2, l2, _⟩ := F2.ex
  rw [l1] at l2
  cases e1
  cases e2
  have := Option.some.inj l2
  injection this with _ _ z _
  injection z with z
  injection z with _ z
  exact hq z
/-- an exception of the class at C whose field f is v -/
def ExH (H : Hp) (C : Addr) (f : Str) (v : V) (a : Addr) : Prop := ∃ d, H a = some (exo a C (some d)) ∧ H d = some (exd d [(f, v)])
theorem ExH.same {H H' : Hp} {C : Addr} {f : Str} {v : V} {a : Addr} (s : Same H H') (h : ExH H C f v a) : ExH H' C f v a := by
  obtain ⟨d, h1, h2⟩ := h
  exact ⟨d, s _ _ h1, s _ _ h2⟩
section
variable {X : Cx} {pins : List (Addr × Obj)} {σ : L2.St} {H : Hp} {s : Shared} {C fI : Addr} {fd : FuncData} {f x : Str} {g : List Value → List Value → List Value} {gV : List V → List V → List V} {Q : VK} {n : Nat} {ks : List Str}
theorem run_mkV {us ws : List Value} {vs zs : List V} (T : OexV X.K C) (iC : PySem.W.findIn X.K (.ref C) "__init__" = some (some (.ref fI))) (tI : PySem.W.typeIn X.K (.ref fI) = some (.type "function"))
    (F : FnOk X.prog X.w X.K X.mg X.base CX0 1 fI fd ["self", f] (spXI X.K C f)) (room : Room 2 X.A) (bd : KBn X.K fd ["self", f] (n + 1) ks g gV) (I : Inv X pins σ H s) (r1 : Vals vs us) (r2 : Vals zs ws) (l1 : vs.length = n) (l2 : zs.length = ks.length) (hz : n ≤ 1000)
    (h : ∀ a, H a = none → spXI X.K C f (gV (.ref a :: vs) zs) (upd H a (exo a C none)) (fun v H2 => v = .non ∧ Q (.ref a) H2) E0) :
    wpAny (model X.prog X.w) X.A (call (.ref C) us (ks.zip ws)) (EP X pins σ Q) X.xe s := by
  obtain ⟨nm, q, N, bs, bm, sn, sub, ab, col, dd, k0, k1, k2, k3, k5, newId, hC, hT⟩ := T.cls
  obtain ⟨hp, gg, dr, tk, os⟩ := s
  have hsz : hp.objs.size ≤ hp.objs.size + 1 := Nat.le_succ _
  have hn : H (hp.objs.size + 1) = none := I.hok.fresh hsz
  have hq := h (hp.objs.size + 1) hn
  have kk : ∀ b o, hp.get? b = some o → ((hp.push (PySem.W.kdv_tup us)).push (PySem.HandSPX.excO C hp.objs.size)).get? b = some o := fun b o e => Heap.get?_push_of_some _ (Heap.get?_push_of_some _ e)
  have hget : ((hp.push (PySem.W.kdv_tup us)).push (PySem.HandSPX.excO C hp.objs.size)).get? (hp.objs.size + 1) = some (PySem.HandSPX.excO C hp.objs.size) := by heap_get
  have made : Inv X pins σ (upd H (hp.objs.size + 1) (exo (hp.objs.size + 1) C none)) ⟨(hp.push (PySem.W.kdv_tup us)).push (PySem.HandSPX.excO C hp.objs.size), gg, dr, tk, os⟩ :=
    I.laid (t' := tk) (a := hp.objs.size + 1) (o := exo (hp.objs.size + 1) C none) (h' := (hp.push (PySem.W.kdv_tup us)).push (PySem.HandSPX.excO C hp.objs.size)) kk hsz (exo_ok hget)
  have rs : Vals (V.ref (hp.objs.size + 1) :: vs) (Value.ref (hp.objs.size + 1) :: us) := .cons rfl r1
  have len : (Value.ref (hp.objs.size + 1) :: us).length = n + 1 := congrArg (· + 1) (r1.length.symm.trans l1)
  have to := bd.to _ (Value.ref (hp.objs.size + 1) :: us) ws made.kIn len (r2.length.symm.trans l2)
  have run := F.run _ X.stack _ _ ⟨Value.ref (hp.objs.size + 1) :: us, ks.zip ws⟩ (g (Value.ref (hp.objs.size + 1) :: us) ws) _ _ E0 (room.make C us (ks.zip ws)) (made.env0.make C us (ks.zip ws)) to (bd.rel rs r2) hq
  have hus : us.length ≤ sizeLine := by
    rw [← r1.length, l1, sizeLine_eq]
    omega
  refine wpAny_call (PySem.XV.call_ex hT (I.kIn _ _ hC) (PySem.W.looks_findIn I.kIn iC) (fun self => PySem.W.bind_fn I.kIn self tI) hus (codeAny_mono run fun res s2 done => ?_))
  match res, done with
  | .error ev, done => exact done.elim
  | .ok (.ret u), done =>
    obtain ⟨v, H2, I2, rel, ev, q⟩ := made.after done
    subst ev
    exact ⟨rel, V.ref (hp.objs.size + 1), H2, I2, rfl, q⟩
  | .ok .next, done => exact done.elim
  | .ok .brk, done => exact done.elim
  | .ok .cont, done => exact done.elim
/-- C(e), C(f = e): a new exception -/
def tMkV (C : Addr) (f : Str) (ta : TA) : TE := fun σ H Q => ta σ H fun vs H1 => ∃ v, vs = [v] ∧ ∀ a H2, H1 a = none → Same H1 H2 → ExH H2 C f v a → Q (.ref a) H2
theorem mk_sp {H1 : Hp} {a : Addr} {v : V} {Q : VK} (na : H1 a = none) (h : ∀ a H2, H1 a = none → Same H1 H2 → ExH H2 C f v a → Q (.ref a) H2) :
    spXI X.K C f [.ref a, v] (upd H1 a (exo a C none)) (fun v H2 => v = .non ∧ Q (.ref a) H2) E0 := by
  refine ⟨a, v, rfl, upd_same, fun dx nd ne => ⟨rfl, h a _ na (fun b o z => ?_) ⟨dx, upd_same, ?_⟩⟩⟩
  · rw [upd_ne ne] at nd
    have e1 : b ≠ a := fun e => by rw [e, na] at z; cases z
    have e2 : b ≠ dx := fun e => by rw [e, nd] at z; cases z
    rw [upd_ne e1, upd_ne e2, upd_ne e1]
    exact z
  · rw [upd_ne ne]
    exact upd_same
theorem pe_mkV1 {q0 : Str} {bm : List Value} {e : Expr} {ta : TA} {p pos : Pos} (T : XvC X.prog X.w X.K X.mg X.base x q0 f C bm) (room : Room 2 X.A) (ha : PA X [e] ta) (hg : Gl X x := by rfl)
    (hdb : (x == ("__debug__" : Str)) = false := by decide) (he : starEach (e :: []) X.env = (false, eval e X.env) :: starEach [] X.env := by rfl) (hpl : (backTo pos (starEach [] X.env)).any (·.1) = false := by rfl) :
    PE X (.Call (.Name x p) [e] [] pos) (tMkV C f ta) := by
  refine ⟨fun pins s σ H Q I w => ?_⟩
  obtain ⟨fI, fd, _, iC, tI, F, ⟨g, b1⟩, _⟩ := T.init
  refine wpAny_Call_Name_kw (ld_glob I hg T.gC ?_ hdb)
  refine PySem.W.callWith_K (h₀ := X.base) I.ok.mod.kin T.oex.kC (thn (ha.run pos pins s σ H _ I w) fun us s1 z => ?_) he hpl
  obtain ⟨vs, H1, I1, r1, v, ev, q⟩ := z
  subst ev
  exact ⟨I1.kIn, run_mkV (n := 1) (ks := []) (ws := []) (zs := []) T.oex iC tI F room b1 I1 r1 .nil rfl rfl (by omega) fun a na => mk_sp na q⟩
theorem pe_mkV2 {q0 : Str} {bm : List Value} {kws : List Keyword} {tk : TA} {p pos : Pos} (T : XvC X.prog X.w X.K X.mg X.base x q0 f C bm) (room : Room 2 X.A) (hkw : PK X kws tk) (hg : Gl X x := by rfl)
    (hks : (backToKw pos (keywordEach kws X.env)).filterMap (·.1) = [f] := by rfl) (hall : (backToKw pos (keywordEach kws X.env)).all (·.1.isSome) = true := by rfl)
    (hdb : (x == ("__debug__" : Str)) = false := by decide) (hpl : ((backTo pos (starEach [] X.env)).any (·.1) || (backToKw pos (keywordEach kws X.env)).any (·.1.isNone)) = false := by rfl) :
    PE X (.Call (.Name x p) [] kws pos) (tMkV C f tk) := by
  refine ⟨fun pins s σ H Q I w => ?_⟩
  obtain ⟨fI, fd, _, iC, tI, F, _, ⟨g, b2⟩, _⟩ := T.init
  apply wpAny_Call_Name_kw
  apply ld_glob I hg T.gC _ hdb
  refine PySem.W.callWith_KW0 (h₀ := X.base) I.ok.mod.kin T.oex.kC hall (thn (hkw.run pos pins s σ H _ I w) fun ws s2 hh => ?_) hpl
  obtain ⟨zs, H2, I2, rz, v, ev, q⟩ := hh
  subst ev
  refine ⟨I2.kIn, ?_⟩
  rw [hks]
  exact run_mkV (n := 0) (ks := [f]) (us := []) (vs := []) T.oex iC tI F room b2 I2 .nil rz rfl rfl (by omega) fun a na => mk_sp na q
/-- e.f -/
def tFldV (K : PySem.W.Frag) (n : Str) (te : TE) : TE := fun σ H Q => te σ H fun x H1 => ∃ a C v, x = .ref a ∧ XfC K C ∧ PySem.W.findIn K (.ref C) n = some none ∧ ExH H1 C n v a ∧ Q v H1
theorem inst_of {a C d : Addr} {n : Str} {v : V} (I : Inv X pins σ H s) (ea : H a = some (exo a C (some d))) (ed : H d = some (exd d [(n, v)])) :
    ∃ (oe od : Obj) (mA : Str → Option Value), PySem.W.InstAt s.heap a oe C (some od) ∧ (∀ y, PySem.W.lookIn y od = some (mA y)) ∧ ∀ g, RelO ([(n, v)].lookup g) (mA g) := by
  obtain ⟨t1, ho⟩ := exo_at I.hok ea
  obtain ⟨mA, hns, rel⟩ := exd_at I.hok ed
  obtain ⟨od, hd, hl⟩ := lookIn_ns hns
  exact ⟨_, od, mA, ⟨ho, rfl, rfl, hd⟩, hl, rel⟩
theorem pe_fldV {e : Expr} {te : TE} {pos : Pos} {n : Str} (he : PE X e te) (hb : attributeBase e n X.env (eval e X.env) = eval e X.env := by rfl) : PE X (.Attribute e n pos) (tFldV X.K n te) := by
  refine ⟨fun pins s σ H Q I h => ?_⟩
  refine attr_of hb (thn (he.run pins s σ H _ I h) fun u s1 hh => ?_)
  obtain ⟨x, H1, I1, rx, a, C, v, ex, T, hno, ⟨d, ea, ed⟩, q⟩ := hh
  subst ex
  obtain rfl : u = Value.ref a := rx
  obtain ⟨oe, od, mA, J, hl, hr⟩ := inst_of I1 ea ed
  have l : [(n, v)].lookup n = some v := by simp
  obtain ⟨u, hu, ru⟩ := RelO.some_of (v := v) (o := mA n) (by rw [← l]; exact hr n)
  exact HandSPX.exc_get I1.kIn J T.ga T.gg T.exC (PySem.W.findObj_own T.hdC hno rfl (by rw [hl, hu])) (handed_of ru) ⟨v, H1, I1.tok _, ru, q⟩
/-- isinstance(e, c) -/
def rIsV (K : PySem.W.Frag) : List V → Hp → VK → Prop := fun xs H Q => ∃ (a C : Addr) (n : Str) (v c : V) (cv : Value) (b : Bool), xs = [.ref a, c] ∧ ExH H C n v a ∧ XfC K C ∧ PySem.W.findIn K (.ref C) "__class__" = some (some (.builtin "object.__class__")) ∧
  PySem.W.specialIn K (.builtin "object.__class__") "__get__" = some (some (.builtin "getset_descriptor.__get__")) ∧ PySem.W.takesIn K (.builtin "object.__class__") = some true ∧ PySem.W.mroIn K C (.type "object") = some true ∧
  (∀ u, RelV c u → u = cv) ∧ PySem.W.kitOne K (.ref C) cv = some b ∧ Q (.bl b) H
theorem call_isV : CallR X (.builtin "isinstance") (rIsV X.K) := by
  intro pins s σ H xs us Q I r h
  obtain ⟨a, C, n, v, c, cv, b, rfl, ⟨d, ea, ed⟩, T, h1, h2, h3, h4, hcv, e, q⟩ := h
  cases r with
  | cons rx rr =>
    cases rr with
    | cons rt rr =>
      cases rr
      cases rx
      have ec := hcv _ rt
      subst ec
      obtain ⟨oe, od, mA, J, hl, hr⟩ := inst_of I ea ed
      have hcl : (PySem.W.clsIn X.K C).isSome = true := by
        obtain ⟨cd, hc, _⟩ := PySem.W.any_some T.hdC
        rw [hc]
        rfl
      exact PySem.W.kia_one (PySem.W.kitx_exc hcl T.ga T.gg T.exC h1 h2 h3 h4) I.kIn J e (fun z => nomatch z) fun tk => ⟨.bl b, H, I.kept (t' := tk) fun _ _ z => z, rfl, q⟩
end
end SE
/-! Raising exceptions of own classes below any built-in class; methods that may raise. -/
namespace SE
open PySem PySem.Spec PyProof.Rows L2
section
variable {X : Cx} {C : Addr} {x q0 f : Str} {bm : List Value}
/-- C(e), to be raised -/
theorem pmk_xv {e : Expr} {ta : TA} {p pos : Pos} (T : XvC X.prog X.w X.K X.mg X.base x q0 f C bm) (hr : Room 2 X.A) (ha : PA X [e] ta) (hg : Gl X x := by rfl)
    (hdb : (x == ("__debug__" : Str)) = false := by decide) (he : starEach (e :: []) X.env = (false, eval e X.env) :: starEach [] X.env := by rfl) (hpl : (backTo pos (starEach [] X.env)).any (·.1) = false := by rfl) :
    PMk X (.Call (.Name x p) [e] [] pos) (tMkO C (spXI X.K C f) [] ta) := by
  intro pins s σ H Q I h
  obtain ⟨fI, fd, _, iC, tI, F1, ⟨g, bd⟩, _⟩ := T.init
  obtain ⟨nm, q, N, bs, bm', sn, sub, ab, col, dd, k0, k1, k2, k3, k5, newId, hC, hT⟩ := T.oex.cls
  refine wpAny_Call_Name_kw (ld_glob I hg T.gC ?_ hdb)
  refine PySem.W.callWith_K (h₀ := X.base) I.ok.mod.kin T.oex.kC (thn (ha.run pos pins s σ H _ I h) fun us s1 ⟨vs, H1, I1, r1, hz, q1⟩ => ⟨I1.kIn, ?_⟩) he hpl
  show wpAny _ _ (call (.ref C) us) _ _ _
  obtain ⟨hp, gg, dr, tk, os⟩ := s1
  have hsz : hp.objs.size ≤ hp.objs.size + 1 := Nat.le_succ _
  have hn : H1 (hp.objs.size + 1) = none := I1.hok.fresh hsz
  have hq := q1 (hp.objs.size + 1) hn
  rw [List.append_nil] at hq
  have l1 : vs.length = 1 := by
    obtain ⟨a, v, e, _⟩ := hq
    have := congrArg List.length e
    simp at this
    exact this
  have kk : ∀ b o, hp.get? b = some o → ((hp.push (PySem.W.kdv_tup us)).push (PySem.HandSPX.excO C hp.objs.size)).get? b = some o := fun b o e => Heap.get?_push_of_some _ (Heap.get?_push_of_some _ e)
  have hget : ((hp.push (PySem.W.kdv_tup us)).push (PySem.HandSPX.excO C hp.objs.size)).get? (hp.objs.size + 1) = some (PySem.HandSPX.excO C hp.objs.size) := by heap_get
  have I2 : Inv X pins σ (upd H1 (hp.objs.size + 1) (exo (hp.objs.size + 1) C none)) ⟨(hp.push (PySem.W.kdv_tup us)).push (PySem.HandSPX.excO C hp.objs.size), gg, dr, tk, os⟩ :=
    I1.laid (t' := tk) (a := hp.objs.size + 1) (o := exo (hp.objs.size + 1) C none) (h' := (hp.push (PySem.W.kdv_tup us)).push (PySem.HandSPX.excO C hp.objs.size)) kk hsz (exo_ok hget)
  have r2 : Vals (V.ref (hp.objs.size + 1) :: vs) (Value.ref (hp.objs.size + 1) :: us) := .cons rfl r1
  have hus : us.length ≤ sizeLine := by
    rw [← Paired.length r1, sizeLine_eq]
    omega
  have to := bd.to _ (Value.ref (hp.objs.size + 1) :: us) [] I2.kIn (congrArg (· + 1) (r1.length.symm.trans l1)) rfl
  have run := F1.run _ X.stack _ _ ⟨Value.ref (hp.objs.size + 1) :: us, ([] : List Str).zip []⟩ (g (Value.ref (hp.objs.size + 1) :: us) []) _ _ E0 (hr.make C us (([] : List Str).zip [])) (I2.env0.make C us (([] : List Str).zip [])) to (bd.rel r2 .nil) hq
  refine wpAny_call (PySem.XV.call_ex hT (I1.kIn _ _ hC) (PySem.W.looks_findIn I1.kIn iC) (fun self => PySem.W.bind_fn I1.kIn self tI) hus (codeAny_mono run fun res s2 done => ?_))
  match res, done with
  | .error ev, done => exact done.elim
  | .ok (.ret u), done =>
    obtain ⟨v, H2, os2, bare2, un2, hok2, rv, ev, d, fs, ea, ed, hd1, q2⟩ := done
    subst ev
    obtain ⟨h2, g2, d2, t2, os'⟩ := s2
    exact ⟨rv, mk_end (raises_own T.xf.exC T.tC) I1 hsz kk un2 hok2 os2 bare2 ea ed hd1 q2⟩
  | .ok .next, done => exact done.elim
  | .ok .brk, done => exact done.elim
  | .ok .cont, done => exact done.elim
theorem ps_raiseV {W : WX} {e : Expr} {ta : TA} {p pos pos2 : Pos} (hc : X.calm = true) (T : XvC X.prog X.w X.K X.mg X.base x q0 f C bm) (hr : Room 2 X.A) (tk : Takes X W) (ha : PA X [e] ta) (hg : Gl X x := by rfl)
    (hdb : (x == ("__debug__" : Str)) = false := by decide) (he : starEach (e :: []) X.env = (false, eval e X.env) :: starEach [] X.env := by rfl) (hpl : (backTo pos (starEach [] X.env)).any (·.1) = false := by rfl) :
    PS X (.Raise (some (.Call (.Name x p) [e] [] pos)) none pos2) (fun _ σ H => tMkO C (spXI X.K C f) [] ta σ H fun cls d H' => W cls d σ H') := ps_raise hc tk (pmk_xv T hr ha hg hdb he hpl)
end
/-- a method that may raise -/
def MethHasX (P : Program) (w : World) (K : PySem.W.Frag) (mg : Str → Option Value) (base : Heap) (C : Addr) (m : Str) (k : Nat) (ps : List Str) (sp : Sp) : Prop := ∃ f fd, Meth K C m f ∧ FnOk P w K mg base (L2.CX P w) k f fd ps sp ∧ Binds K fd ps []
def tMethX (C : Addr) (m : Str) (sp : Sp) (ex : L2.St → XK) (ta : TE) (t : TA) : TE := fun σ H Q => ta σ H fun x H1 => ∃ a dx fs, x = .ref a ∧ H1 a = some (.ins C dx fs) ∧ fs.lookup m = none ∧
  t σ H1 fun vs H2 => sp (x :: vs) H2 Q (ex σ)
section
variable {X : Cx} {C : Addr} {m : Str} {k : Nat} {ps : List Str} {sp : Sp} {o e : Expr} {es : List Expr} {ta : TE} {t : TA} {ex : L2.St → XK} {apos pos : Pos} {pl : Sem Bool}
/-- o.m(e, ..), its exceptions as ex wishes: WE W in a try, fun _ => E in a def that may raise -/
theorem pe_mX (h : MethHasX X.prog X.w X.K X.mg X.base C m k ps sp) (out : ∀ σ, PassesAt (L2.CX X.prog X.w) X σ (ex σ)) (he : PE X o ta) (c : Cls X.K C) (hr : Room k X.A) (ha : PA X (e :: es) t)
    (hst : starEach (e :: es) X.env = (false, eval e X.env) :: starEach es X.env := by rfl) (hpl : (backTo pos (starEach es X.env)).any (·.1) = false := by rfl)
    (ht : eval (.Call (.Attribute o m apos) (e :: es) [] pos) X.env = (do
      let ov ← eval o X.env
      standAt apos.atName
      let (f, first) ← holding [ov] (getMethod ov m pl)
      callWith pos f first (backTo pos (starEach (e :: es) X.env)) (backToKw pos (keywordEach [] X.env))) := by rfl) : PE X (.Call (.Attribute o m apos) (e :: es) [] pos) (tMethX C m sp ex ta t) := by
  obtain ⟨f, fd, hm, F, hb⟩ := h
  refine ⟨fun pins s σ H Q I h => ?_⟩
  refine PySem.W.methodCall_KW (pl := pl) (thn (he.run pins s σ H _ I h) fun u s1 ⟨x, H1, I1, rx, a, dx, fs, ex, ea, l, q⟩ => ?_) ht
  subst ex
  obtain rfl : u = Value.ref a := rx
  refine getmeth_ok I1 ea c hm l ?_
  refine PySem.W.callWith_K (first := [.ref a]) (h₀ := X.base) I.ok.mod.kin hm.kp (thn (ha.run pos pins s1 σ H1 _ I1 q) fun us s2 ⟨vs, H2, I2, r, q2⟩ => ⟨I2.kIn, ?_⟩) hst hpl
  exact run_fnS (us := .ref a :: us) (vs := .ref a :: vs) F hr hb (out σ) I2 (.cons rfl r) q2
/-- o.m() -/
theorem pe_mX0 (h : MethHasX X.prog X.w X.K X.mg X.base C m k ps sp) (out : ∀ σ, PassesAt (L2.CX X.prog X.w) X σ (ex σ)) (he : PE X o ta) (c : Cls X.K C) (hr : Room k X.A)
    (ht : eval (.Call (.Attribute o m apos) [] [] pos) X.env = (do
      let ov ← eval o X.env
      standAt apos.atName
      let (f, first) ← holding [ov] (getMethod ov m pl)
      callWith pos f first (backTo pos (starEach [] X.env)) (backToKw pos (keywordEach [] X.env))) := by rfl) : PE X (.Call (.Attribute o m apos) [] [] pos) (tMethX C m sp ex ta tNil) := by
  obtain ⟨f, fd, hm, F, hb⟩ := h
  refine ⟨fun pins s σ H Q I h => ?_⟩
  refine PySem.W.methodCall_KW (pl := pl) (thn (he.run pins s σ H _ I h) fun u s1 ⟨x, H1, I1, rx, a, dx, fs, ex, ea, l, q⟩ => ?_) ht
  subst ex
  obtain rfl : u = Value.ref a := rx
  refine getmeth_ok I1 ea c hm l ?_
  exact PySem.W.callWith_K0 (first := [.ref a]) I1.kIn hm.kp (run_fnS (us := [.ref a]) (vs := [.ref a]) F hr hb (out σ) I1 (.cons rfl .nil) q)
end
end SE
namespace SE
open PySem PySem.Spec PyProof.Rows L2
theorem pi_or {X : Cx} {tg e : Expr} {t1 t2 : TI} (h1 : PI X tg e t1) (h2 : PI X tg e t2) : PI X tg e (fun σ H R => t1 σ H R ∨ t2 σ H R) := ⟨fun pins s σ H R I h => h.elim (h1.run pins s σ H R I) (h2.run pins s σ H R I)⟩
theorem stk_some {K : PySem.W.Frag} {H : Hp} {u : V} {st : List Str} (h : StkV K H u (some st)) : ∃ q, u = .ref q ∧ SqT K H q (st.map V.str) := h
/-- how often a step on a stack has failed -/
def cntC (n : Str) (ct : Cn) : Nat := ((ct.find? fun p => decide (p.1 = n)).map (·.2)).getD 0
def bumpC (n : Str) (ct : Cn) : Cn := if ct.any (fun p => decide (p.1 = n)) = true then ct.map (fun p => if p.1 = n then (p.1, p.2 + 1) else p) else ct ++ [(n, 1)]
def bumpX (x : Option Addr) (n : Str) (ct : Cn) : Cn := match x with
  | none => ct
  | some _ => bumpC n ct
theorem perfS_app (l : Lim) : ∀ (a b : List NSt) (ss : Sk), perfS l (a ++ b) ss = (perfS l a ss).bind (perfS l b)
  | [], b, ss => rfl
  | s :: a, b, ss => by
    show (match stepL l (s.1, s.2.2) (getS ss s.2.1) with | none => none | some st => perfS l (a ++ b) (putS ss s.2.1 st)) = (match stepL l (s.1, s.2.2) (getS ss s.2.1) with | none => none | some st => perfS l a (putS ss s.2.1 st)).bind (perfS l b)
    cases stepL l (s.1, s.2.2) (getS ss s.2.1) with
    | none => rfl
    | some st => exact perfS_app l a b _
section
variable {P : Program} {w : World} {K : PySem.W.Frag} {mg : Str → Option Value} {base : Heap} {C : Addr}
/-! ### note_failure of a plain session -/
abbrev sSNote : Stmt := inClass sSession 6
def spNf (K : PySem.W.Frag) (C : Addr) (x : Option Addr) : Sp := fun vs H Q _ => ∃ (o L : Addr) (n : Str) (ct : Cn) (ss : Sk) (l : Lim) (ds : List Deed), vs = [.ref o, .str n] ∧ SesX K C x ct H o L ss l ds ∧ Item n ∧ ct.length ≤ 100000 ∧
  ∀ H', Keep (ownS o L x) H H' → SesX K C x (bumpX x n ct) H' o L ss l ds → Q .non H'
theorem scNf : FnScope ["self", "name"] ["self", "name"] (defScope sSNote) := ⟨rfl, rfl, rfl, by decide +kernel, rfl, by decide +kernel, by decide +kernel⟩
theorem ok_nf {f : Addr} {fd : FuncData} (F : Fun K "note_failure" "Session.note_failure" sSNote f fd) : FnOk P w K mg base CX0 1 f fd ["self", "name"] (spNf K C none) := by
  refine F.ok scNf (fun vs H Q E h => ?_) (fun cdv A outer s H vs Q E hr h => ?_)
  · obtain ⟨o, L, n, ct, ss, l, ds, rfl, _⟩ := h
    rfl
  · obtain ⟨o, L, n, ct, ss, l, ds, rfl, h, _, _, k⟩ := h
    exact ⟨_, pss_one ps_pass, k H (Keep.same h.loose (Same.refl H)) h⟩
/-! ### perform, which may fail -/
theorem scPf : FnScope ["self", "steps", "after", "index", "action", "name", "item", "stack"] ["self", "steps"] (defScope sSPerform) := ⟨rfl, rfl, rfl, by decide +kernel, rfl, by decide +kernel, by decide +kernel⟩
def spPf (K : PySem.W.Frag) (C CE : Addr) (x : Option Addr) : Sp := fun vs H Q E => ∃ (o L a : Addr) (ct : Cn) (ss : Sk) (l : Lim) (ds : List Deed) (us : List V) (ns : List NSt) (m b : Nat), vs = [.ref o, .ref a] ∧ SesX K C x ct H o L ss l ds ∧ (SqL K H a us ∨ SqT K H a us) ∧ us.length ≤ 1000 ∧ NSV K H us ns ∧ (∀ s ∈ ns, NOk s) ∧
  SkOk ss m b ∧ m ≤ 90000 ∧ b ≤ 4000 ∧ ds.length ≤ 100000 ∧ ct.length ≤ 100000 ∧ (∀ ss2, perfS l ns ss = some ss2 → ∀ H', Keep (ownS o L x) H H' → SesX K C x ct H' o L (cleanS ss2) l (ds ++ [(ns, ss, l)]) → Q .non H') ∧
  (∀ (j : Nat) (s : NSt) (sj : Sk), ns[j]? = some s → perfS l (ns.take j) ss = some sj → perfS l (ns.take (j + 1)) ss = none → ∀ (d : Addr) (H' : Hp), Keep (ownS o L x) H H' → SesX K C x (bumpX x s.2.1 ct) H' o L ss l ds → H d = none → H' d = some (.xd [("index", .int (j : Int))]) → E (.ref CE) (some d) H')
theorem okX_pf {f : Addr} {fd : FuncData} {CE : Addr} {bm : List Value} {x : Option Addr} (F : Fun K "perform" "Session.perform" sSPerform f fd) (T : SCl K C) (TF : XvC P w K mg base "StepFailed" "StepFailed.__init__" "index" CE bm) (NF : MethHas P w K mg base C "note_failure" 1 ["self", "name"] (spNf K C x)) (GC : Has P w K mg base "check_named_steps" 4 ["steps"] [] (spChkN K)) (GA : Has P w K mg base "after_step" 2 ["step", "stack", "limit"] [] (spAfterL K)) (GW : Has P w K mg base "without_empty" 1 ["stacks"] [] (spWe K))
    (AD : MethHas P w K mg base C "add_deed" 1 ["self", "steps", "stacks", "limit"] (spAd K C x)) (B : Blt mg) (md : mg "dict" = none) : FnOk P w K mg base (L2.CX P w) 5 f fd ["self", "steps"] (spPf K C CE x) := by
  refine F.okX scPf (fun vs H Q E h => ?_) (fun cdv A outer s H vs Q E hr h => ?_)
  · obtain ⟨o, L, a, ct, ss, l, ds, us, ns, m, b, rfl, _⟩ := h
    rfl
  · obtain ⟨o, L, a, ct, ss, l, ds, us, ns, m, b, rfl, hses, hS, hl, hN, hI, ok, hm, hb, hdl, hct, k, kE⟩ := h
    have hr1 : Room 1 _ := hr.mono (by decide)
    have hr2 : Room 2 _ := hr.mono (by decide)
    have hu := room_u hr
    obtain ⟨dx, F, ws, h1, h2, ⟨oF, kvs, h3, h3'⟩, h4, h5⟩ := hses.ex
    have hlo := hses.loose
    refine ⟨_, pss_cons (ps_expr (pe_has GC hr (pa_cons (pv 1) pa_nil)))
      (pss_cons (ps_set (i := 2) scPf.nd rfl (.inl rfl) (pe_callTy call_dictD (by rfl) md (by decide +kernel) (pa_cons (pe_fld (pv 0) rfl) pa_nil)))
      (pss_cons (ps_for (passes_of rfl) rfl (pi_or (pi_enum (by rfl) B.enu (pa_cons (pv 1) pa_nil)) (pi_enumT (by rfl) B.enu (pa_cons (pv 1) pa_nil))) (pg_tup (by rfl) (pgs_cons (pg_name (i := 3) scPf.nd rfl (.inl rfl)) (pgs_cons (pg_tup (by rfl) (pgs_cons (pg_name (i := 4) scPf.nd rfl (.inl rfl)) (pgs_cons (pg_name (i := 5) scPf.nd rfl (.inl rfl)) (pgs_cons (pg_name (i := 6) scPf.nd rfl (.inl rfl)) pgs_nil)))) pgs_nil)))
        (pss_cons (ps_set (i := 7) scPf.nd rfl (.inl rfl) (pe_has GA hr2 (pa_cons (pe_tup (pa_cons (pv 4) (pa_cons (pv 6) pa_nil))) (pa_cons (pe_dget2 hu (pv 2) (pv 5) (pe_tup pa_nil) ⟨rfl, rfl, rfl, rfl⟩) (pa_cons (pe_fld (pv 0) rfl) pa_nil)))))
        (pss_cons (ps_if (pt_cmpR op_isN (pv 7) pe_non (nomark _)) (pss_cons (ps_expr (pe_mH1 NF (pv 0) T.cl hr1 (pa_cons (pv 5) pa_nil))) (pss_one (ps_raiseV rfl TF hr2 tkX (pa_cons (pv 3) pa_nil)))) pss_nil)
        (pss_one (ps_dput hu (pv 2) (pv 5) (pv 7) rfl)))))
      (pss_one (ps_expr (pe_mH1 AD (pv 0) T.cl hr1 (pa_cons (pe_frz (pe_callTy call_list_of (by rfl) B.lst (by decide +kernel) (pa_cons (pv 1) pa_nil))) (pa_cons (pe_frz (pe_has GW hr1 (pa_cons (pv 2) pa_nil))) (pa_cons (pe_fld (pv 0) rfl) pa_nil)))))))), ?_⟩
    refine ⟨_, rfl, a, us, ns, rfl, hS, hl, hN, hI, fun H1 s1 => ?_⟩
    have h1' := s1 _ _ h1
    refine ⟨_, rfl, o, C, dx, _, _, rfl, h1', T.cl, T.nF, rfl, F, kvs, rfl, .inr ⟨oF, s1 _ _ h3⟩, fun D hD => ?_⟩
    have s2 : Same H (upd H1 D (.dK kvs)) := s1.trans (Same.new hD)
    have nD : H D = none := s1.free hD
    have hDD : upd H1 D (.dK kvs) D = some (.dK kvs) := upd_same
    have sk0 : SkH K (upd H1 D (.dK kvs)) kvs ss := skH_same h3' s2
    generalize upd H1 D (.dK kvs) = H2 at s2 hDD sk0 ⊢
    have ln : us.length = ns.length := Paired.length hN
    have hS2 := hS
    rcases hS with hq | hq
    · refine .inl ⟨_, rfl, a, us, rfl, Same.seq s2 hq, for_it (walk_enum (K := K) (a := a) (xs := us)) (fun j σ H3 => ∃ (kvs2 : List (Key × V)) (sj : Sk) (y3 y4 y5 y6 y7 : Option V), σ = [some (.ref o), some (.ref a), some (.ref D), y3, y4, y5, y6, y7] ∧ H3 D = some (.dK kvs2) ∧ SkH K H3 kvs2 sj ∧ SkOk sj (m + j) (b + j) ∧ perfS l (ns.take j) ss = some sj ∧ Same H H3) ⟨kvs, ss, _, _, _, _, _, rfl, hDD, sk0, ok, rfl, s2⟩ (fun j σ H3 _ q => by obtain ⟨_, _, _, _, _, _, _, _, _, _, _, _, s3⟩ := q; exact Same.seq s3 hq) ?_ ?_⟩
      · rintro j xx σ H3 H4 hj ⟨kvs2, sj, y3, y4, y5, y6, y7, rfl, hD3, sk3, ok3, hp3, s3⟩ ⟨T0, pk, y, rfl, nT, rfl, hk, hy⟩
        obtain ⟨st, hst, t, ey, hT⟩ := paired_at hN hy
        subst ey
        have s4 : Same H3 (upd H3 T0 (.tup [pk, .ref t])) := Same.new nT
        have j1 : j < us.length := (List.getElem?_eq_some_iff.mp hy).1
        refine ⟨T0, _, rfl, .of upd_same, rfl, _, _, rfl, _, _, rfl, ⟨t, _, rfl, Same.tup (s3.trans s4) hT, rfl, _, _, rfl, _, _, rfl, _, _, rfl, rfl, ?_⟩⟩
        obtain ⟨c, n, z⟩ := st
        have nok := hI (c, n, z) (List.mem_of_getElem? hst)
        have s34 := s3.trans s4
        have hD4 := s4 _ _ hD3
        have sk4 := skH_same sk3 s4
        generalize upd H3 T0 (.tup [pk, .ref t]) = H4 at s34 hD4 sk4 ⊢
        refine ⟨rfl, ?_⟩
        refine ⟨_, rfl, _, rfl, by show 2 ≤ sizeLine; decide, fun S hS' => ?_⟩
        have sS : Same H4 (upd H4 S (.tup [.str (act c), .str z])) := Same.new hS'
        have hSS : upd H4 S (.tup [.str (act c), .str z]) S = some (.tup [.str (act c), .str z]) := upd_same
        generalize upd H4 S (.tup [.str (act c), .str z]) = H5 at sS hSS ⊢
        have hD5 := sS _ _ hD4
        refine ⟨_, rfl, D, rfl, .inl ⟨_, .inl hD5⟩, _, rfl, by show 0 ≤ sizeLine; decide, fun U hU => ?_⟩
        have sU : Same H5 (upd H5 U (.tup [])) := Same.new hU
        have hUU : upd H5 U (.tup []) U = some (.tup []) := upd_same
        generalize upd H5 U (.tup []) = H6 at sU hUU ⊢
        have s46 := sS.trans sU
        have hD6 := sU _ _ hD5
        have sk6 := skH_same sk4 s46
        refine ⟨_, DGet.k (k := Sum.inr n) hD6, ?_⟩
        obtain ⟨q, eq, hq⟩ : ∃ q, (valV kvs2 (Sum.inr n)).getD (V.ref U) = V.ref q ∧ SqT K H6 q ((getS sj n).map V.str) := by
          unfold getS
          rcases skH_val (n := n) sk6 with ⟨z1, z2⟩ | ⟨p, t2, z1, z2, z3⟩
          · rw [z1, z2]
            exact ⟨U, rfl, .of hUU⟩
          · rw [z1, z2]
            exact ⟨t2, rfl, z3⟩
        rw [eq]
        obtain ⟨g1, g2⟩ := ok3.get n
        have h16 := (s34.trans s46) _ _ h1
        have tk1 : perfS l (ns.take (j + 1)) ss = match stepL l (c, z) (getS sj n) with
            | none => none
            | some st => some (putS sj n st) := by
          rw [List.take_add_one, hst, perfS_app, hp3]
          show perfS l [(c, n, z)] sj = _
          unfold perfS
          cases stepL l (c, z) (getS sj n) <;> rfl
        cases est : stepL l (c, z) (getS sj n) with
        | none =>
          rw [est] at tk1
          refine ⟨_, rfl, o, C, dx, _, _, rfl, h16, T.cl, T.nH, rfl, .ref S, (c, z), q, getS sj n, l, rfl, ⟨S, rfl, .of (sU _ _ hSS)⟩, nok.i, hq, by omega, g1, fun u H7 s7 hk7 => ?_⟩
          rw [est] at hk7
          cases (show u = .non from hk7)
          have s07 := (s34.trans s46).trans s7
          cases Option.some.inj hk
          refine ⟨_, rfl, rfl, _, rfl, iteT ⟨_, rfl, o, dx, _, rfl, s07 _ _ h1, sX_none (by decide) (by decide) (by decide) (by decide), _, rfl, o, L, n, ct, ss, l, ds, rfl, hses.same s07, nok.n, hct, fun H8 k8 hs8 => ⟨_, rfl, mk_red fun d nd => ?_⟩⟩⟩
          exact kE j (c, n, z) sj hst hp3 tk1 d _ (((Keep.same hlo s07).trans k8).trans (Keep.same hs8.loose (Same.new nd))) (hs8.same (Same.new nd)) (by
            cases q : H d with
            | none => rfl
            | some u =>
              have own : d ∉ ownS o L x := fun m => hs8.has d m nd
              rw [k8.2 d u own (s07 _ _ q)] at nd
              cases nd) upd_same
        | some st2 =>
          rw [est] at tk1
          refine ⟨_, rfl, o, C, dx, _, _, rfl, h16, T.cl, T.nH, rfl, .ref S, (c, z), q, getS sj n, l, rfl, ⟨S, rfl, .of (sU _ _ hSS)⟩, nok.i, hq, by omega, g1, fun u H7 s7 hk7 => ?_⟩
          rw [est] at hk7
          obtain ⟨q2, rfl, hq2⟩ := stk_some hk7
          refine ⟨_, rfl, rfl, _, rfl, iteF ?_⟩
          have hD7 := s7 _ _ hD6
          have sk7 := skH_same sk6 s7
          refine ⟨_, rfl, _, rfl, _, rfl, D, _, rfl, .inl ⟨kvs2, Sum.inr n, hD7, rfl, ?_, rfl⟩, putK kvs2 (Sum.inr n) (.ref q2), putS sj n st2, _, _, _, _, _, rfl, upd_same, skH_upd (.dK hD7) (skH_put sk7 hq2), ?_, tk1, Same.free2 ((s34.trans s46).trans s7) nD⟩
          · have l1 := paired_len sk7
            have := ok3.len
            rw [sizeLine_eq]
            omega
          · have q1 : st2.length ≤ b + (j + 1) ∧ ∀ y ∈ st2, Item y := by
              have e := stepL_sub est
              cases c with
              | true =>
                cases e
                refine ⟨by rw [List.length_cons]; omega, fun y my => ?_⟩
                rcases List.mem_cons.mp my with r | r
                · rw [r]; exact nok.i
                · exact g1 y r
              | false =>
                rw [stepM_pop] at e
                split at e
                · cases e
                  exact ⟨by rw [List.length_drop]; omega, fun y my => g1 y (List.mem_of_mem_drop my)⟩
                · cases e
            exact (putS_ok ok3 nok.n q1.2 q1.1 (by omega)).mono (by omega) (Nat.le_refl _)
      · rintro σ H3 ⟨kvs2, sj, y3, y4, y5, y6, y7, rfl, hD3, sk3, ok3, hp3, s3⟩
        rw [ln, List.take_length] at hp3
        have h13 := s3 _ _ h1
        refine ⟨_, rfl, o, dx, _, rfl, h13, sX_none (by decide) (by decide) (by decide) (by decide), ?_⟩
        refine ⟨_, rfl, a, us, rfl, (hS2.imp (Same.seq s3) (Same.tup s3)), fun A2 hA2 => ?_⟩
        have sA : Same H3 (upd H3 A2 (.lst us)) := Same.new hA2
        have hAA : upd H3 A2 (.lst us) A2 = some (.lst us) := upd_same
        generalize eH4 : upd H3 A2 (.lst us) = H4 at sA hAA ⊢
        refine ⟨A2, .lst us, rfl, hAA, trivial, fun oa => ?_⟩
        have sB : Same H3 (upd H4 A2 (.frz oa (.lst us))) := Same.free2 sA hA2
        have hB : upd H4 A2 (.frz oa (.lst us)) A2 = some (.frz oa (.lst us)) := upd_same
        generalize upd H4 A2 (.frz oa (.lst us)) = H5 at sB hB ⊢
        refine ⟨_, rfl, D, kvs2, sj, m + us.length, b + us.length, rfl, sB _ _ hD3, skH_same sk3 sB, ok3, by omega, fun e kvs3 H6 s6 ne he hk3 => ?_⟩
        refine ⟨e, .dK (kvs3), rfl, he, trivial, fun oe => ?_⟩
        have s7 : Same H5 (upd H6 e (.frz oe (.dK kvs3))) := Same.free2 s6 ne
        have he7 : upd H6 e (.frz oe (.dK kvs3)) e = some (.frz oe (.dK kvs3)) := upd_same
        have hk7 : SkH K (upd H6 e (.frz oe (.dK kvs3))) kvs3 (cleanS sj) := skH_upd (.dK he) hk3
        generalize upd H6 e (.frz oe (.dK kvs3)) = H7 at s7 he7 hk7 ⊢
        have s07 := (s3.trans sB).trans s7
        have ses7 := hses.same s07
        exact ⟨_, rfl, o, C, dx, _, _, rfl, s07 _ _ h1, T.cl, T.nH, rfl, o, L, A2, e, ct, ss, cleanS sj, l, l, ds, us, ns, oa, rfl, ses7, s7 _ _ hB, nsv_same hN s07, ⟨oe, kvs3, he7, hk7⟩, hdl, fun H8 k8 hs8 => k sj hp3 H8 ((Keep.same hlo s07).trans k8) hs8⟩
    · refine .inr ⟨_, rfl, a, us, rfl, Same.tup s2 hq, for_it (walk_enumT (K := K) (a := a) (xs := us)) (fun j σ H3 => ∃ (kvs2 : List (Key × V)) (sj : Sk) (y3 y4 y5 y6 y7 : Option V), σ = [some (.ref o), some (.ref a), some (.ref D), y3, y4, y5, y6, y7] ∧ H3 D = some (.dK kvs2) ∧ SkH K H3 kvs2 sj ∧ SkOk sj (m + j) (b + j) ∧ perfS l (ns.take j) ss = some sj ∧ Same H H3) ⟨kvs, ss, _, _, _, _, _, rfl, hDD, sk0, ok, rfl, s2⟩ (fun j σ H3 _ q => by obtain ⟨_, _, _, _, _, _, _, _, _, _, _, _, s3⟩ := q; exact Same.tup s3 hq) ?_ ?_⟩
      · rintro j xx σ H3 H4 hj ⟨kvs2, sj, y3, y4, y5, y6, y7, rfl, hD3, sk3, ok3, hp3, s3⟩ ⟨T0, pk, y, rfl, nT, rfl, hk, hy⟩
        obtain ⟨st, hst, t, ey, hT⟩ := paired_at hN hy
        subst ey
        have s4 : Same H3 (upd H3 T0 (.tup [pk, .ref t])) := Same.new nT
        have j1 : j < us.length := (List.getElem?_eq_some_iff.mp hy).1
        refine ⟨T0, _, rfl, .of upd_same, rfl, _, _, rfl, _, _, rfl, ⟨t, _, rfl, Same.tup (s3.trans s4) hT, rfl, _, _, rfl, _, _, rfl, _, _, rfl, rfl, ?_⟩⟩
        obtain ⟨c, n, z⟩ := st
        have nok := hI (c, n, z) (List.mem_of_getElem? hst)
        have s34 := s3.trans s4
        have hD4 := s4 _ _ hD3
        have sk4 := skH_same sk3 s4
        generalize upd H3 T0 (.tup [pk, .ref t]) = H4 at s34 hD4 sk4 ⊢
        refine ⟨rfl, ?_⟩
        refine ⟨_, rfl, _, rfl, by show 2 ≤ sizeLine; decide, fun S hS' => ?_⟩
        have sS : Same H4 (upd H4 S (.tup [.str (act c), .str z])) := Same.new hS'
        have hSS : upd H4 S (.tup [.str (act c), .str z]) S = some (.tup [.str (act c), .str z]) := upd_same
        generalize upd H4 S (.tup [.str (act c), .str z]) = H5 at sS hSS ⊢
        have hD5 := sS _ _ hD4
        refine ⟨_, rfl, D, rfl, .inl ⟨_, .inl hD5⟩, _, rfl, by show 0 ≤ sizeLine; decide, fun U hU => ?_⟩
        have sU : Same H5 (upd H5 U (.tup [])) := Same.new hU
        have hUU : upd H5 U (.tup []) U = some (.tup []) := upd_same
        generalize upd H5 U (.tup []) = H6 at sU hUU ⊢
        have s46 := sS.trans sU
        have hD6 := sU _ _ hD5
        have sk6 := skH_same sk4 s46
        refine ⟨_, DGet.k (k := Sum.inr n) hD6, ?_⟩
        obtain ⟨q, eq, hq⟩ : ∃ q, (valV kvs2 (Sum.inr n)).getD (V.ref U) = V.ref q ∧ SqT K H6 q ((getS sj n).map V.str) := by
          unfold getS
          rcases skH_val (n := n) sk6 with ⟨z1, z2⟩ | ⟨p, t2, z1, z2, z3⟩
          · rw [z1, z2]
            exact ⟨U, rfl, .of hUU⟩
          · rw [z1, z2]
            exact ⟨t2, rfl, z3⟩
        rw [eq]
        obtain ⟨g1, g2⟩ := ok3.get n
        have h16 := (s34.trans s46) _ _ h1
        have tk1 : perfS l (ns.take (j + 1)) ss = match stepL l (c, z) (getS sj n) with
            | none => none
            | some st => some (putS sj n st) := by
          rw [List.take_add_one, hst, perfS_app, hp3]
          show perfS l [(c, n, z)] sj = _
          unfold perfS
          cases stepL l (c, z) (getS sj n) <;> rfl
        cases est : stepL l (c, z) (getS sj n) with
        | none =>
          rw [est] at tk1
          refine ⟨_, rfl, o, C, dx, _, _, rfl, h16, T.cl, T.nH, rfl, .ref S, (c, z), q, getS sj n, l, rfl, ⟨S, rfl, .of (sU _ _ hSS)⟩, nok.i, hq, by omega, g1, fun u H7 s7 hk7 => ?_⟩
          rw [est] at hk7
          cases (show u = .non from hk7)
          have s07 := (s34.trans s46).trans s7
          cases Option.some.inj hk
          refine ⟨_, rfl, rfl, _, rfl, iteT ⟨_, rfl, o, dx, _, rfl, s07 _ _ h1, sX_none (by decide) (by decide) (by decide) (by decide), _, rfl, o, L, n, ct, ss, l, ds, rfl, hses.same s07, nok.n, hct, fun H8 k8 hs8 => ⟨_, rfl, mk_red fun d nd => ?_⟩⟩⟩
          exact kE j (c, n, z) sj hst hp3 tk1 d _ (((Keep.same hlo s07).trans k8).trans (Keep.same hs8.loose (Same.new nd))) (hs8.same (Same.new nd)) (by
            cases q : H d with
            | none => rfl
            | some u =>
              have own : d ∉ ownS o L x := fun m => hs8.has d m nd
              rw [k8.2 d u own (s07 _ _ q)] at nd
              cases nd) upd_same
        | some st2 =>
          rw [est] at tk1
          refine ⟨_, rfl, o, C, dx, _, _, rfl, h16, T.cl, T.nH, rfl, .ref S, (c, z), q, getS sj n, l, rfl, ⟨S, rfl, .of (sU _ _ hSS)⟩, nok.i, hq, by omega, g1, fun u H7 s7 hk7 => ?_⟩
          rw [est] at hk7
          obtain ⟨q2, rfl, hq2⟩ := stk_some hk7
          refine ⟨_, rfl, rfl, _, rfl, iteF ?_⟩
          have hD7 := s7 _ _ hD6
          have sk7 := skH_same sk6 s7
          refine ⟨_, rfl, _, rfl, _, rfl, D, _, rfl, .inl ⟨kvs2, Sum.inr n, hD7, rfl, ?_, rfl⟩, putK kvs2 (Sum.inr n) (.ref q2), putS sj n st2, _, _, _, _, _, rfl, upd_same, skH_upd (.dK hD7) (skH_put sk7 hq2), ?_, tk1, Same.free2 ((s34.trans s46).trans s7) nD⟩
          · have l1 := paired_len sk7
            have := ok3.len
            rw [sizeLine_eq]
            omega
          · have q1 : st2.length ≤ b + (j + 1) ∧ ∀ y ∈ st2, Item y := by
              have e := stepL_sub est
              cases c with
              | true =>
                cases e
                refine ⟨by rw [List.length_cons]; omega, fun y my => ?_⟩
                rcases List.mem_cons.mp my with r | r
                · rw [r]; exact nok.i
                · exact g1 y r
              | false =>
                rw [stepM_pop] at e
                split at e
                · cases e
                  exact ⟨by rw [List.length_drop]; omega, fun y my => g1 y (List.mem_of_mem_drop my)⟩
                · cases e
            exact (putS_ok ok3 nok.n q1.2 q1.1 (by omega)).mono (by omega) (Nat.le_refl _)
      · rintro σ H3 ⟨kvs2, sj, y3, y4, y5, y6, y7, rfl, hD3, sk3, ok3, hp3, s3⟩
        rw [ln, List.take_length] at hp3
        have h13 := s3 _ _ h1
        refine ⟨_, rfl, o, dx, _, rfl, h13, sX_none (by decide) (by decide) (by decide) (by decide), ?_⟩
        refine ⟨_, rfl, a, us, rfl, (hS2.imp (Same.seq s3) (Same.tup s3)), fun A2 hA2 => ?_⟩
        have sA : Same H3 (upd H3 A2 (.lst us)) := Same.new hA2
        have hAA : upd H3 A2 (.lst us) A2 = some (.lst us) := upd_same
        generalize eH4 : upd H3 A2 (.lst us) = H4 at sA hAA ⊢
        refine ⟨A2, .lst us, rfl, hAA, trivial, fun oa => ?_⟩
        have sB : Same H3 (upd H4 A2 (.frz oa (.lst us))) := Same.free2 sA hA2
        have hB : upd H4 A2 (.frz oa (.lst us)) A2 = some (.frz oa (.lst us)) := upd_same
        generalize upd H4 A2 (.frz oa (.lst us)) = H5 at sB hB ⊢
        refine ⟨_, rfl, D, kvs2, sj, m + us.length, b + us.length, rfl, sB _ _ hD3, skH_same sk3 sB, ok3, by omega, fun e kvs3 H6 s6 ne he hk3 => ?_⟩
        refine ⟨e, .dK (kvs3), rfl, he, trivial, fun oe => ?_⟩
        have s7 : Same H5 (upd H6 e (.frz oe (.dK kvs3))) := Same.free2 s6 ne
        have he7 : upd H6 e (.frz oe (.dK kvs3)) e = some (.frz oe (.dK kvs3)) := upd_same
        have hk7 : SkH K (upd H6 e (.frz oe (.dK kvs3))) kvs3 (cleanS sj) := skH_upd (.dK he) hk3
        generalize upd H6 e (.frz oe (.dK kvs3)) = H7 at s7 he7 hk7 ⊢
        have s07 := (s3.trans sB).trans s7
        have ses7 := hses.same s07
        exact ⟨_, rfl, o, C, dx, _, _, rfl, s07 _ _ h1, T.cl, T.nH, rfl, o, L, A2, e, ct, ss, cleanS sj, l, l, ds, us, ns, oa, rfl, ses7, s7 _ _ hB, nsv_same hN s07, ⟨oe, kvs3, he7, hk7⟩, hdl, fun H8 k8 hs8 => k sj hp3 H8 ((Keep.same hlo s07).trans k8) hs8⟩
end
end SE
/-! len(o) of an object of an own class with __len__. -/
namespace SE
open PySem PySem.Spec PyProof.Rows L2
section
variable {X : Cx} {C g : Addr} {n : Nat} {sp : Sp} {fd : FuncData}
theorem call_lenO (hs : PySem.W.findIn X.K (.ref C) "__len__" = some (some (.ref g))) (hf : PySem.W.isFn X.K (.ref g) = true) (F : FnR X.prog X.w X.K X.mg X.base CX0 n g sp) (hr : Room (n + 1) X.A) :
    CallR X (.builtin "len") (fun xs H Q => ∃ a dx fs, xs = [.ref a] ∧ H a = some (.ins C dx fs) ∧ sp [.ref a] H (fun v H' => ∃ i : Nat, v = .int (i : Int) ∧ (i : Int) < 2 ^ 63 ∧ Q (.int (i : Int)) H') E0) := by
  intro pins s σ H xs us Q I r h
  obtain ⟨a, dx, fs, rfl, ha, q⟩ := h
  obtain ⟨u, rfl, ru⟩ := r.one
  cases (show u = Value.ref a from ru)
  obtain ⟨ox, od, J, _⟩ := StX.insC_at (X := X) (C := C) I (.inr ⟨dx, fs, ha⟩)
  have hr1 : Room n X.A.in1 := hr.in1
  refine Calls.call_function_entry PySem.kind_len PySem.plain_len PySem.entry_len (PySem.args_len1 _) ?_
  unfold Builtin.«len»
  refine wpAny_bind (m := oneArg "len" _) (wpAny_pure ?_)
  refine wpAny_bind (m := callSpecial? (.ref a) (Str.ofString "__len__")) (PySem.W.special_fn I.kIn J hs (beq_iff_eq.mp hf) (wpAny_mono (wpAny_call (SlX.run_at (us := [.ref a]) (ws := [.ref a]) F hr1 I.env0.in1 pass0 I (.cons rfl .nil) q)) (fun v s' z => ?_) fun _ _ x => x))
  obtain ⟨z', H', I', rz, i, ei, hi, qz⟩ := z
  subst ei
  obtain ⟨t, e⟩ := (show ∃ t, v = Value.int (i : Int) t from rz)
  cases e
  refine wpAny_bind (wpAny_holding (wpAny_pure ?_))
  refine wpAny_bind (wpAny_letGo ?_)
  show wpAny _ _ (if (i : Int) < 0 then _ else _) _ _ _
  rw [if_neg (by omega)]
  show wpAny _ _ (if (i : Int) ≥ 2 ^ 63 then _ else _) _ _ _
  rw [if_neg (by omega)]
  exact wpAny_bind (wpAny_mkInt (wpAny_pure ⟨_, rfl, .int (i : Int), H', I'.tok _, ⟨_, rfl⟩, qz⟩))
end
end SE
/-! o.f as one of several targets. -/
namespace SE
open PySem PySem.Spec PyProof.Rows L2
section
variable {X : Cx} {o : Expr} {f : Str} {pos : Pos} {to : TE}
def gFld (K : PySem.W.Frag) (to : TE) (f : Str) : TG := fun v σ H Q => to σ H fun x H1 => ∃ (a C dx : Addr) (fs : List (Str × V)), x = .ref a ∧ H1 a = some (.ins C dx fs) ∧ Cls K C ∧ NoAttr K C f ∧ fs.length < 1000 ∧ Q σ (upd H1 a (.ins C dx (putF f v fs)))
theorem pg_fld (ho : PE X o to) : PG X (.Attribute o f pos) (gFld X.K to f) := by
  constructor
  intro pins s σ H v u Q I r h
  refine PySem.W.kas_attr (thn (ho.run pins s σ H _ I h) fun ov s1 hh => ?_)
  obtain ⟨x, H1, I1, rx, a, C, dx, fs, rfl, ha, c, n, l, q⟩ := hh
  cases rx
  exact setattr_ok I1 ha c n l r fun s2 I2 => ⟨σ, _, I2, q⟩
end
end SE
namespace SE
open PySem PySem.Spec PyProof.Rows L2
theorem pe_or {X : Cx} {e : Expr} {t1 t2 : TE} (h1 : PE X e t1) (h2 : PE X e t2) : PE X e (fun σ H Q => t1 σ H Q ∨ t2 σ H Q) := ⟨fun pins s σ H Q I h => h.elim (h1.run pins s σ H Q I) (h2.run pins s σ H Q I)⟩
theorem skD_keys {K : PySem.W.Frag} {H : Hp} {kvs : List (Key × V)} {ss : Sk} (h : SkH K H kvs ss) : kvs.map (·.1) = (ss.map (·.1)).map Sum.inr := by
  induction h with
  | nil => rfl
  | cons a r ih => rw [List.map_cons, List.map_cons, List.map_cons, ih, a.1]
section
variable {P : Program} {w : World} {K : PySem.W.Frag} {mg : Str → Option Value} {base : Heap} {C : Addr} {x : Option Addr}
/-! ### names, stack, limit, len -/
def spNm (K : PySem.W.Frag) (C : Addr) (x : Option Addr) : Sp := fun vs H Q _ => ∃ (o L : Addr) (ct : Cn) (ss : Sk) (l : Lim) (ds : List Deed), vs = [.ref o] ∧ SesX K C x ct H o L ss l ds ∧ ss.length < 64 ∧
  ∀ (p : Addr) (ys : List Str) (H' : Hp), Same H H' → H p = none → H' p = some (.lst (ys.map V.str)) → ys.Perm (ss.map (·.1)) → sortedS ys = true → Q (.ref p) H'
theorem scNm : FnScope ["self"] ["self"] (defScope sSNames) := ⟨rfl, rfl, rfl, by decide +kernel, rfl, by decide +kernel, by decide +kernel⟩
theorem ok_nm {f : Addr} {fd : FuncData} (F : Fun K "names" "Session.names" sSNames f fd) (T : SCl K C) (ms : mg "sorted" = none) : FnOk P w K mg base CX0 1 f fd ["self"] (spNm K C x) := by
  refine F.ok scNm (fun vs H Q E h => ?_) (fun cdv A outer s H vs Q E hr h => ?_)
  · obtain ⟨o, L, ct, ss, l, ds, rfl, _⟩ := h
    rfl
  · obtain ⟨o, L, ct, ss, l, ds, rfl, hses, hl, k⟩ := h
    obtain ⟨dx, F, ws, h1, h2, ⟨oF, kvs, h3, h3'⟩, h4⟩ := hses.ex
    refine ⟨_, pss_one (ps_ret (pe_callB (call_sortedD rfl) (by rfl) ms (by decide +kernel) (pa_cons (pe_fld (pv 0) rfl) pa_nil))), ?_⟩
    exact ⟨_, rfl, o, C, dx, _, _, rfl, h1, T.cl, T.nF, rfl, F, kvs, ss.map (·.1), rfl, .inr ⟨oF, h3⟩, skD_keys h3', by rw [List.length_map]; exact hl, fun ys p hp hs hn => k p ys _ (Same.new hn) hn upd_same hp hs⟩
def spCn (K : PySem.W.Frag) : Sp := fun vs H Q _ => ∃ n : Str, vs = [.str n] ∧ Item n ∧ ∀ H', Same H H' → Q .non H'
theorem scCkn : FnScope ["name"] ["name"] (defScope sCheckName) := ⟨rfl, rfl, rfl, by decide +kernel, rfl, by decide +kernel, by decide +kernel⟩
theorem has_ckn (D : Def K mg "check_name" sCheckName) (G : Has P w K mg base "is_item" 1 ["value"] [] spIsItem) : Has P w K mg base "check_name" 2 ["name"] [] (spCn K) := by
  refine has_of D scCkn (fun _ _ _ _ _ _ us hl => match us, hl with | [_], _ => rfl) (fun xs H Q E h => ?_) (fun f cv A out s H xs Q E hr h => ?_)
  · obtain ⟨n, rfl, _⟩ := h
    rfl
  · obtain ⟨n, rfl, hn, k⟩ := h
    refine ⟨_, pss_one (ps_if (pt_not (pt_val (pe_has G hr (pa_cons (pv 0) pa_nil)))) pss_never pss_nil), ?_⟩
    exact ⟨_, rfl, n, rfl, hn, fun H' s' => ⟨true, rfl, iteF (k _ s')⟩⟩
def spStk (K : PySem.W.Frag) (C : Addr) (x : Option Addr) : Sp := fun vs H Q _ => ∃ (o L : Addr) (n : Str) (ct : Cn) (ss : Sk) (l : Lim) (ds : List Deed), vs = [.ref o, .str n] ∧ SesX K C x ct H o L ss l ds ∧ Item n ∧ ∀ (t : Addr) (H' : Hp), Same H H' → SqT K H' t ((getS ss n).map V.str) → Q (.ref t) H'
theorem scStk : FnScope ["self", "name"] ["self", "name"] (defScope sSStack) := ⟨rfl, rfl, rfl, by decide +kernel, rfl, by decide +kernel, by decide +kernel⟩
theorem ok_stk {f : Addr} {fd : FuncData} (F : Fun K "stack" "Session.stack" sSStack f fd) (T : SCl K C) (G : Has P w K mg base "check_name" 2 ["name"] [] (spCn K)) : FnOk P w K mg base CX0 3 f fd ["self", "name"] (spStk K C x) := by
  refine F.ok scStk (fun vs H Q E h => ?_) (fun cdv A outer s H vs Q E hr h => ?_)
  · obtain ⟨o, L, n, ct, ss, l, ds, rfl, _⟩ := h
    rfl
  · obtain ⟨o, L, n, ct, ss, l, ds, rfl, hses, hn, k⟩ := h
    have hu := room_u hr
    obtain ⟨dx, F, ws, h1, h2, ⟨oF, kvs, h3, h3'⟩, h4⟩ := hses.ex
    refine ⟨_, pss_cons (ps_expr (pe_has G hr (pa_cons (pv 1) pa_nil))) (pss_one (ps_ret (pe_dget2 hu (pe_fld (pv 0) rfl) (pv 1) (pe_tup pa_nil) ⟨rfl, rfl, rfl, rfl⟩))), ?_⟩
    refine ⟨_, rfl, n, rfl, hn, fun H1 s1 => ?_⟩
    refine ⟨_, rfl, o, C, dx, _, _, rfl, s1 _ _ h1, T.cl, T.nF, rfl, F, rfl, .inl ⟨_, .inr ⟨oF, s1 _ _ h3⟩⟩, _, rfl, by show 0 ≤ sizeLine; decide, fun U hU => ?_⟩
    have sU : Same H1 (upd H1 U (.tup [])) := Same.new hU
    have s2 := s1.trans sU
    refine ⟨_, .inl ⟨kvs, Sum.inr n, .inr ⟨oF, s2 _ _ h3⟩, rfl, rfl⟩, ?_⟩
    rcases skH_val (n := n) (skH_same h3' s2) with ⟨z1, z2⟩ | ⟨p, t2, z1, z2, z3⟩
    · rw [z2]
      refine k U _ s2 ?_
      unfold getS
      rw [z1]
      exact .of upd_same
    · rw [z2]
      refine k t2 _ s2 ?_
      unfold getS
      rw [z1]
      exact z3
abbrev sSLimit : Stmt := inClass sSession 8
abbrev sSSetLimit : Stmt := inClass sSession 10
abbrev sSUndo : Stmt := inClass sSession 11
abbrev sSEffect : Stmt := inClass sSession 12
abbrev sSCopy : Stmt := inClass sSession 13
abbrev sSTake : Stmt := inClass sSession 14
abbrev sSLen : Stmt := inClass sSession 15
abbrev sSEq : Stmt := inClass sSession 16
def spLi (K : PySem.W.Frag) (C : Addr) (x : Option Addr) : Sp := fun vs H Q _ => ∃ (o L : Addr) (ct : Cn) (ss : Sk) (l : Lim) (ds : List Deed), vs = [.ref o] ∧ SesX K C x ct H o L ss l ds ∧ Q (limV l) H
theorem scLi : FnScope ["self"] ["self"] (defScope sSLimit) := ⟨rfl, rfl, rfl, by decide +kernel, rfl, by decide +kernel, by decide +kernel⟩
theorem ok_limit {f : Addr} {fd : FuncData} (F : Fun K "limit" "Session.limit" sSLimit f fd) (T : SCl K C) : FnOk P w K mg base CX0 1 f fd ["self"] (spLi K C x) := by
  refine F.ok scLi (fun vs H Q E h => ?_) (fun cdv A outer s H vs Q E hr h => ?_)
  · obtain ⟨o, L, ct, ss, l, ds, rfl, _⟩ := h
    rfl
  · obtain ⟨o, L, ct, ss, l, ds, rfl, hses, k⟩ := h
    obtain ⟨dx, F, ws, h1, _⟩ := hses.ex
    exact ⟨_, pss_one (ps_ret (pe_fld (pv 0) rfl)), _, rfl, o, C, dx, _, _, rfl, h1, T.cl, T.nH, rfl, k⟩
def spLn (K : PySem.W.Frag) (C : Addr) (x : Option Addr) : Sp := fun vs H Q _ => ∃ (o L : Addr) (ct : Cn) (ss : Sk) (l : Lim) (ds : List Deed), vs = [.ref o] ∧ SesX K C x ct H o L ss l ds ∧ Q (.int (ds.length : Nat)) H
theorem scLn : FnScope ["self"] ["self"] (defScope sSLen) := ⟨rfl, rfl, rfl, by decide +kernel, rfl, by decide +kernel, by decide +kernel⟩
theorem ok_len {f : Addr} {fd : FuncData} (F : Fun K "__len__" "Session.__len__" sSLen f fd) (T : SCl K C) (B : Blt mg) : FnOk P w K mg base CX0 1 f fd ["self"] (spLn K C x) := by
  refine F.ok scLn (fun vs H Q E h => ?_) (fun cdv A outer s H vs Q E hr h => ?_)
  · obtain ⟨o, L, ct, ss, l, ds, rfl, _⟩ := h
    rfl
  · obtain ⟨o, L, ct, ss, l, ds, rfl, hses, k⟩ := h
    obtain ⟨dx, F, ws, h1, h2, h3, h4, _⟩ := hses.ex
    refine ⟨_, pss_one (ps_ret (pe_callB call_len_seq (by rfl) B.len PySem.boot_len (pa_cons (pe_fld (pv 0) rfl) pa_nil))), ?_⟩
    have e := paired_len h4
    refine ⟨_, rfl, o, C, dx, _, _, rfl, h1, T.cl, T.nD, rfl, L, _, rfl, .inl (.of h2), ?_⟩
    rw [e]
    exact k
/-! ### push, pop -/
def spPp (K : PySem.W.Frag) (C CE : Addr) (x : Option Addr) (c : Bool) : Sp := fun vs H Q E => ∃ (o L : Addr) (n z : Str) (ct : Cn) (ss : Sk) (l : Lim) (ds : List Deed) (m b : Nat), vs = [.ref o, .str n, .str z] ∧ SesX K C x ct H o L ss l ds ∧ Item n ∧ Item z ∧ SkOk ss m b ∧ m ≤ 90000 ∧ b ≤ 4000 ∧ ds.length ≤ 100000 ∧ ct.length ≤ 100000 ∧
  (∀ ss2, perfS l [(c, n, z)] ss = some ss2 → ∀ H', Keep (ownS o L x) H H' → SesX K C x ct H' o L (cleanS ss2) l (ds ++ [([(c, n, z)], ss, l)]) → Q .non H') ∧
  (perfS l [(c, n, z)] ss = none → ∀ (d : Addr) (H' : Hp), Keep (ownS o L x) H H' → SesX K C x (bumpX x n ct) H' o L ss l ds → H d = none → H' d = some (.xd [("index", .int 0)]) → E (.ref CE) (some d) H')
theorem scPu' : FnScope ["self", "name", "item"] ["self", "name", "item"] (defScope sSPush) := ⟨rfl, rfl, rfl, by decide +kernel, rfl, by decide +kernel, by decide +kernel⟩
theorem scPo' : FnScope ["self", "name", "item"] ["self", "name", "item"] (defScope sSPop) := ⟨rfl, rfl, rfl, by decide +kernel, rfl, by decide +kernel, by decide +kernel⟩
theorem pp_fin {H : Hp} {Q : VK} {o L CE : Addr} {c : Bool} {n z : Str} {ct : Cn} {ss : Sk} {l : Lim} {ds : List Deed} {m b : Nat} {E : XK} (hses : SesX K C x ct H o L ss l ds) (hn : Item n) (hz : Item z) (ok : SkOk ss m b) (hm : m ≤ 90000) (hb : b ≤ 4000) (hdl : ds.length ≤ 100000) (hct : ct.length ≤ 100000)
    (k : ∀ ss2, perfS l [(c, n, z)] ss = some ss2 → ∀ H', Keep (ownS o L x) H H' → SesX K C x ct H' o L (cleanS ss2) l (ds ++ [([(c, n, z)], ss, l)]) → Q .non H')
    (kE : perfS l [(c, n, z)] ss = none → ∀ (d : Addr) (H' : Hp), Keep (ownS o L x) H H' → SesX K C x (bumpX x n ct) H' o L ss l ds → H d = none → H' d = some (.xd [("index", .int 0)]) → E (.ref CE) (some d) H') :
    ∀ t, H t = none → ∀ a, upd H t (.tup [.str (act c), .str n, .str z]) a = none → spPf K C CE x [.ref o, .ref a] (upd (upd H t (.tup [.str (act c), .str n, .str z])) a (.lst [.ref t])) Q E := by
  intro t ht a ha
  have s1 : Same H (upd H t (.tup [.str (act c), .str n, .str z])) := Same.new ht
  have s2 := Same.new (o := .lst [.ref t]) ha
  have hT := s2 _ _ (upd_same (H := H) (a := t) (o := .tup [.str (act c), .str n, .str z]))
  have hA : upd (upd H t (.tup [.str (act c), .str n, .str z])) a (.lst [.ref t]) a = some (.lst [.ref t]) := upd_same
  have s12 := s1.trans s2
  generalize upd (upd H t (.tup [.str (act c), .str n, .str z])) a (.lst [.ref t]) = H2 at hT hA s12 ⊢
  have lo := hses.loose
  refine ⟨o, L, a, ct, ss, l, ds, [.ref t], [(c, n, z)], m, b, rfl, hses.same s12, .inl (.of hA), (by show 1 ≤ 1000; decide), .cons ⟨t, rfl, .of hT⟩ .nil, fun s ms => by rw [List.mem_singleton.mp ms]; exact ⟨hn, hz⟩, ok, hm, hb, hdl, hct, fun ss2 hp H' k' hs' => k ss2 hp H' ((Keep.same lo s12).trans k') hs', fun j s sj hj h0 h1 d H' k' hs' hd hx => ?_⟩
  cases j with
  | zero =>
    cases hj
    exact kE h1 d H' ((Keep.same lo s12).trans k') hs' (s12.free hd) hx
  | succ j => cases hj
theorem ok_spush {f : Addr} {fd : FuncData} {CE : Addr} (F : Fun K "push" "Session.push" sSPush f fd) (T : SCl K C) (PF : MethHasX P w K mg base C "perform" 5 ["self", "steps"] (spPf K C CE x)) : FnOk P w K mg base (L2.CX P w) 6 f fd ["self", "name", "item"] (spPp K C CE x true) := by
  refine F.okX scPu' (fun vs H Q E h => ?_) (fun cdv A outer s H vs Q E hr h => ?_)
  · obtain ⟨o, L, n, z, ct, ss, l, ds, m, b, rfl, _⟩ := h
    rfl
  · obtain ⟨o, L, n, z, ct, ss, l, ds, m, b, rfl, hses, hn, hz, ok, hm, hb, hdl, hct, k, kE⟩ := h
    obtain ⟨dx, F, ws, h1, _⟩ := hses.ex
    refine ⟨_, pss_one (ps_expr (pe_mX PF (fun σ => passAt tkX σ) (pv 0) T.cl hr (pa_cons (pe_lst (pa_cons (pe_tup (pa_cons pe_str (pa_cons (pv 1) (pa_cons (pv 2) pa_nil)))) pa_nil)) pa_nil))), ?_⟩
    exact ⟨_, rfl, o, dx, _, rfl, h1, sX_none (by decide) (by decide) (by decide) (by decide), _, rfl, _, rfl, by show 3 ≤ sizeLine; decide, fun t ht => ⟨by show 1 ≤ sizeLine; decide, fun a ha => pp_fin (c := true) hses hn hz ok hm hb hdl hct k kE t ht a ha⟩⟩
theorem ok_spop {f : Addr} {fd : FuncData} {CE : Addr} (F : Fun K "pop" "Session.pop" sSPop f fd) (T : SCl K C) (PF : MethHasX P w K mg base C "perform" 5 ["self", "steps"] (spPf K C CE x)) : FnOk P w K mg base (L2.CX P w) 6 f fd ["self", "name", "item"] (spPp K C CE x false) := by
  refine F.okX scPo' (fun vs H Q E h => ?_) (fun cdv A outer s H vs Q E hr h => ?_)
  · obtain ⟨o, L, n, z, ct, ss, l, ds, m, b, rfl, _⟩ := h
    rfl
  · obtain ⟨o, L, n, z, ct, ss, l, ds, m, b, rfl, hses, hn, hz, ok, hm, hb, hdl, hct, k, kE⟩ := h
    obtain ⟨dx, F, ws, h1, _⟩ := hses.ex
    refine ⟨_, pss_one (ps_expr (pe_mX PF (fun σ => passAt tkX σ) (pv 0) T.cl hr (pa_cons (pe_lst (pa_cons (pe_tup (pa_cons pe_str (pa_cons (pv 1) (pa_cons (pv 2) pa_nil)))) pa_nil)) pa_nil))), ?_⟩
    exact ⟨_, rfl, o, dx, _, rfl, h1, sX_none (by decide) (by decide) (by decide) (by decide), _, rfl, _, rfl, by show 3 ≤ sizeLine; decide, fun t ht => ⟨by show 1 ≤ sizeLine; decide, fun a ha => pp_fin (c := false) hses hn hz ok hm hb hdl hct k kE t ht a ha⟩⟩
end
end SE
namespace SE
open PySem PySem.Spec PyProof.Rows L2
section
variable {P : Program} {w : World} {K : PySem.W.Frag} {mg : Str → Option Value} {base : Heap} {C : Addr} {x : Option Addr}
/-! ### check_heights, which may refuse -/
def spChX (K : PySem.W.Frag) (CL : Addr) : Sp := fun xs H Q E => ∃ (d : Addr) (ss : Sk) (m b : Nat) (l : Lim), xs = [.ref d, limV l] ∧ (SkD K H d ss ∨ SkF K H d ss) ∧ SkOk ss m b ∧ m ≤ 100000 ∧ ((∀ p ∈ ss, high l p.2.length = false) → ∀ H', Same H H' → Q .non H') ∧
  ((∃ p ∈ ss, high l p.2.length = true) → ∀ e H', Same H H' → H e = none → H' e = some (.xd [("limit", limV l)]) → E (.ref CL) (some e) H')
theorem hasX_ch {CL : Addr} {bm : List Value} (D : Def K mg "check_heights" sCheckHeights) (G : Has P w K mg base "is_too_high" 1 ["height", "limit"] [] spHighL) (TL : XvC P w K mg base "LimitExceeded" "LimitExceeded.__init__" "limit" CL bm) (B : Blt mg) (ma : mg "any" = none) : HasX P w K mg base "check_heights" 3 ["stacks", "limit"] [] (spChX K CL) := by
  refine hasX_of D scCkH (fun _ _ _ _ _ _ us hl => match us, hl with | [_, _], _ => rfl) (fun xs H Q E h => ?_) (fun f cv A out s H xs Q E hr h => ?_)
  · obtain ⟨d, ss, m, b, l, rfl, _⟩ := h
    rfl
  · obtain ⟨d, ss, m, b, l, rfl, hd, ok, hm, k, kE⟩ := h
    have hr1 : Room 1 _ := hr.mono (by decide)
    have lcP : ∀ {X : Cx}, True := fun {X} => trivial
    refine ⟨_, pss_one (ps_if (pt_val (pe_callB (cr_any rfl) (by rfl) ma (by decide +kernel) (pa_cons
        (pe_or (pe_lock (pe_lc (own := [("stack", 2)]) (g := gName 2) (tt := tYes) (te := tCall spHighL [] E0 (tCons (tCB (Evl.rLenS K) (tCons (tVar 2) tNil)) (tCons (tVar 1) tNil))) rfl scCkH.nd (pi_values (pv 0)) (blkOk_by (own := [("stack", 2)]) (N := nCh) (sc := defScope sCheckHeights) (by decide +kernel))
          (fun _ _ _ _ _ => pg_name (i := 2) scCkH.nd rfl (.inl rfl)) (fun _ _ _ _ _ => pts_nil) (fun _ _ _ _ _ => pe_has G hr1 (pa_cons (pe_callB call_len_seq (by rfl) B.len PySem.boot_len (pa_cons (pv 2) pa_nil)) (pa_cons (pv 1) pa_nil)))))
        (pe_lc (own := [("stack", 2)]) (g := gName 2) (tt := tYes) (te := tCall spHighL [] E0 (tCons (tCB (Evl.rLenS K) (tCons (tVar 2) tNil)) (tCons (tVar 1) tNil))) rfl scCkH.nd (pi_values (pv 0)) (blkOk_by (own := [("stack", 2)]) (N := nCh) (sc := defScope sCheckHeights) (by decide +kernel))
          (fun _ _ _ _ _ => pg_name (i := 2) scCkH.nd rfl (.inl rfl)) (fun _ _ _ _ _ => pts_nil) (fun _ _ _ _ _ => pe_has G hr1 (pa_cons (pe_callB call_len_seq (by rfl) B.len PySem.boot_len (pa_cons (pv 2) pa_nil)) (pa_cons (pv 1) pa_nil))))) pa_nil))) (pss_one (ps_raiseV rfl TL hr tkX (pa_cons (pv 1) pa_nil))) pss_nil), ?_⟩
    have yes : ∀ {Hx : Hp}, Same H Hx → (ss.map fun p => high l p.2.length).any id = true → ∀ e H', Same Hx H' → Hx e = none → H' e = some (.xd [("limit", limV l)]) → E (.ref CL) (some e) H' := fun {Hx} sx c e H' s' he hx => by
      obtain ⟨y, my, hy⟩ := List.any_eq_true.mp c
      obtain ⟨p, mp, rfl⟩ := List.mem_map.mp my
      exact kE ⟨p, mp, hy⟩ e H' (sx.trans s') (sx.free he) hx
    have no : ∀ {Hx : Hp}, Same H Hx → (ss.map fun p => high l p.2.length).any id = false → Q .non Hx := fun {Hx} sx c => by
      refine k (fun p mp => ?_) _ sx
      cases q : high l p.2.length with
      | false => rfl
      | true =>
        rw [List.any_eq_true.mpr ⟨true, List.mem_map.mpr ⟨p, mp, q⟩, rfl⟩] at c
        cases c
    have step : ∀ {kvs : List (Key × V)} {HF H2 : Hp} {DD : Addr} {j : Nat} {v : V} {k' : Key}, SkH K HF kvs ss → kvs[j]? = some (k', v) → ∃ p t, ss[j]? = some p ∧ v = .ref t ∧ SqT K HF t (p.2.map V.str) := fun {kvs HF H2 DD j v k'} sF hkv => by
      obtain ⟨p, hp, e1, t, e2, hT⟩ := paired_at sF hkv
      exact ⟨p, t, hp, e2, hT⟩
    rcases hd with ⟨kvs, hd, hS⟩ | ⟨od, kvs, hd, hS⟩
    · refine .inl ⟨d, .dK kvs, hd, mutK, fun od => ?_⟩
      have hF : upd H d (.frz od (.dK kvs)) d = some (.frz od (.dK kvs)) := upd_same
      have sF : SkH K (upd H d (.frz od (.dK kvs))) kvs ss := skH_upd (.dK hd) hS
      generalize eF : upd H d (.frz od (.dK kvs)) = HF at hF sF
      have lk : kvs.length = ss.length := paired_len sF
      refine ⟨_, rfl, d, od, kvs, rfl, hF, fun DD hDD => lc_it walk_values (fun j H2 => H2 DD = some (.lst (((ss.take j).map fun p => high l p.2.length).map V.bl)) ∧ Same HF H2) ⟨upd_same, Same.new hDD⟩ (fun j H2 _ q => q.2 _ _ hF) ?_ ?_⟩
      · rintro j x H2 H3 hj ⟨h2, s2⟩ ⟨eH, k', hkv⟩
        rw [eH]
        obtain ⟨p, t, hp, e2, hT⟩ := step (H2 := H2) (DD := DD) sF hkv
        subst e2
        have jl := (List.getElem?_eq_some_iff.mp hp).1
        have := ok.len
        refine ⟨rfl, yes_in ⟨_, rfl, t, _, rfl, .inr (Same.tup s2 hT), _, rfl, p.2.length, l, by rw [List.length_map]; rfl, _, h2, by rw [List.length_map, List.length_map, List.length_take, sizeLine_eq]; omega, ?_, Same.free2 s2 hDD⟩⟩
        rw [upd_same, List.take_add_one, hp, List.map_append, List.map_append]
        rfl
      · rintro H2 ⟨h2, s2⟩
        rw [lk, List.take_length] at h2
        have hF2 := s2 _ _ hF
        have dD : DD ≠ d := fun q => by rw [q, hF2] at h2; cases h2
        have sB := Same.back hd eF.symm s2
        refine ⟨hF2, DD, _, rfl, .of (by rw [upd_ne dD]; exact h2), ?_⟩
        cases c : (ss.map fun p => high l p.2.length).any id with
        | true => exact ⟨true, rfl, iteT ⟨_, rfl, mk_red fun e he => yes sB c e _ (Same.new he) he upd_same⟩⟩
        | false => exact ⟨false, rfl, iteF (no sB c)⟩
    · refine .inr ?_
      have lk : kvs.length = ss.length := paired_len hS
      refine ⟨_, rfl, d, od, kvs, rfl, hd, fun DD hDD => lc_it walk_values (fun j H2 => H2 DD = some (.lst (((ss.take j).map fun p => high l p.2.length).map V.bl)) ∧ Same H H2) ⟨upd_same, Same.new hDD⟩ (fun j H2 _ q => q.2 _ _ hd) ?_ ?_⟩
      · rintro j x H2 H3 hj ⟨h2, s2⟩ ⟨eH, k', hkv⟩
        rw [eH]
        obtain ⟨p, t, hp, e2, hT⟩ := step (H2 := H2) (DD := DD) hS hkv
        subst e2
        have jl := (List.getElem?_eq_some_iff.mp hp).1
        have := ok.len
        refine ⟨rfl, yes_in ⟨_, rfl, t, _, rfl, .inr (Same.tup s2 hT), _, rfl, p.2.length, l, by rw [List.length_map]; rfl, _, h2, by rw [List.length_map, List.length_map, List.length_take, sizeLine_eq]; omega, ?_, Same.free2 s2 hDD⟩⟩
        rw [upd_same, List.take_add_one, hp, List.map_append, List.map_append]
        rfl
      · rintro H2 ⟨h2, s2⟩
        rw [lk, List.take_length] at h2
        refine ⟨DD, _, rfl, .of h2, ?_⟩
        cases c : (ss.map fun p => high l p.2.length).any id with
        | true => exact ⟨true, rfl, iteT ⟨_, rfl, mk_red fun e he => yes s2 c e _ (Same.new he) he upd_same⟩⟩
        | false => exact ⟨false, rfl, iteF (no s2 c)⟩
/-! ### set_limit -/
def spSl (K : PySem.W.Frag) (C CL : Addr) (x : Option Addr) : Sp := fun vs H Q E => ∃ (o L : Addr) (ct : Cn) (ss : Sk) (l l2 : Lim) (ds : List Deed) (m b : Nat), vs = [.ref o, limV l2] ∧ SesX K C x ct H o L ss l ds ∧ LimOk l2 ∧ SkOk ss m b ∧ m ≤ 100000 ∧ ds.length ≤ 100000 ∧
  ((∀ p ∈ ss, high l2 p.2.length = false) → ∀ H', Keep (ownS o L x) H H' → SesX K C x ct H' o L ss l2 (ds ++ [([], ss, l)]) → Q .non H') ∧
  ((∃ p ∈ ss, high l2 p.2.length = true) → ∀ e H', Same H H' → H e = none → H' e = some (.xd [("limit", limV l2)]) → E (.ref CL) (some e) H')
theorem scSl : FnScope ["self", "value"] ["self", "value"] (defScope sSSetLimit) := ⟨rfl, rfl, rfl, by decide +kernel, rfl, by decide +kernel, by decide +kernel⟩
theorem ok_setl {f : Addr} {fd : FuncData} {CL : Addr} (F : Fun K "set_limit" "Session.set_limit" sSSetLimit f fd) (T : SCl K C) (GL : Has P w K mg base "check_limit" 4 ["limit"] [] spLim2) (GH : HasX P w K mg base "check_heights" 3 ["stacks", "limit"] [] (spChX K CL)) (AD : MethHas P w K mg base C "add_deed" 1 ["self", "steps", "stacks", "limit"] (spAd K C x)) :
    FnOk P w K mg base (L2.CX P w) 5 f fd ["self", "value"] (spSl K C CL x) := by
  refine F.okX scSl (fun vs H Q E h => ?_) (fun cdv A outer s H vs Q E hr h => ?_)
  · obtain ⟨o, L, ct, ss, l, l2, ds, m, b, rfl, _⟩ := h
    rfl
  · obtain ⟨o, L, ct, ss, l, l2, ds, m, b, rfl, hses, hl2, ok, hm, hdl, k, kE⟩ := h
    have hr3 : Room 3 _ := hr.mono (by decide)
    have hr1 : Room 1 _ := hr.mono (by decide)
    obtain ⟨dx, F, ws, h1, h2, ⟨oF, kvs, h3, h3'⟩, h4, h5⟩ := hses.ex
    have lo := hses.loose
    refine ⟨_, pss_cons (ps_expr (pe_has GL hr (pa_cons (pv 1) pa_nil))) (pss_cons (ps_expr (pe_hasX GH hr3 tkX (pa_cons (pe_fld (pv 0) rfl) (pa_cons (pv 1) pa_nil))))
      (pss_one (ps_expr (pe_mH1 AD (pv 0) T.cl hr1 (pa_cons (pe_frz (pe_lst pa_nil)) (pa_cons (pe_fld (pv 0) rfl) (pa_cons (pv 1) pa_nil))))))), ?_⟩
    refine ⟨_, rfl, l2, rfl, hl2, ?_⟩
    refine ⟨_, rfl, o, C, dx, _, _, rfl, h1, T.cl, T.nF, rfl, _, rfl, F, ss, m, b, l2, rfl, .inr ⟨oF, kvs, h3, h3'⟩, ok, hm, fun hh H1 s1 => ?_, fun hh e H' s' he hx => kE hh e H' s' he hx⟩
    have h11 := s1 _ _ h1
    refine ⟨_, rfl, o, dx, _, rfl, h11, sX_none (by decide) (by decide) (by decide) (by decide), by show 0 ≤ sizeLine; decide, fun A1 hA => ?_⟩
    refine ⟨A1, .lst [], rfl, upd_same, trivial, fun oa => ?_⟩
    have sB : Same H1 (upd (upd H1 A1 (.lst [])) A1 (.frz oa (.lst []))) := Same.free2 (Same.new hA) hA
    have hB : upd (upd H1 A1 (.lst [])) A1 (.frz oa (.lst [])) A1 = some (.frz oa (.lst [])) := upd_same
    generalize upd (upd H1 A1 (.lst [])) A1 (.frz oa (.lst [])) = H2 at sB hB ⊢
    have s02 := s1.trans sB
    exact ⟨_, rfl, o, C, dx, _, _, rfl, s02 _ _ h1, T.cl, T.nF, rfl, _, rfl, o, L, A1, F, ct, ss, ss, l, l2, ds, [], [], oa, rfl, hses.same s02, hB, .nil, ⟨oF, kvs, s02 _ _ h3, skH_same h3' s02⟩, hdl, fun H8 k8 hs8 => k hh H8 ((Keep.same lo s02).trans k8) hs8⟩
/-! ### undo -/
def spUn (K : PySem.W.Frag) (C CN : Addr) (x : Option Addr) : Sp := fun vs H Q E => ∃ (o L : Addr) (ct : Cn) (ss : Sk) (l : Lim) (ds : List Deed), vs = [.ref o] ∧ SesX K C x ct H o L ss l ds ∧
  (∀ (ds2 : List Deed) (e : Deed), ds = ds2 ++ [e] → ∀ H', Keep (ownS o L x) H H' → SesX K C x ct H' o L e.2.1 e.2.2 ds2 → Q .non H') ∧
  (ds = [] → ∀ e H', Same H H' → H e = none → H' e = some (.xd [("count", .int 0)]) → E (.ref CN) (some e) H')
theorem paired_last {α β : Type} {F : α → β → Prop} : ∀ {l : List α} {m : List β} {y : β}, Paired F l (m ++ [y]) → ∃ l2 x, l = l2 ++ [x] ∧ Paired F l2 m ∧ F x y
  | _, [], _, .cons a .nil => ⟨[], _, rfl, .nil, a⟩
  | _, z :: m, _, .cons a r => by
    obtain ⟨l2, x, e, h1, h2⟩ := paired_last r
    exact ⟨_ :: l2, x, by rw [e]; rfl, .cons a h1, h2⟩
theorem scUn : FnScope ["self", "steps"] ["self"] (defScope sSUndo) := ⟨rfl, rfl, rfl, by decide +kernel, rfl, by decide +kernel, by decide +kernel⟩
theorem ok_undo {f : Addr} {fd : FuncData} {CN : Addr} {bm : List Value} (F : Fun K "undo" "Session.undo" sSUndo f fd) (T : SCl K C) (TN : XvC P w K mg base "NothingToUndo" "NothingToUndo.__init__" "count" CN bm) (B : Blt mg) : FnOk P w K mg base (L2.CX P w) 3 f fd ["self"] (spUn K C CN x) := by
  refine F.okX scUn (fun vs H Q E h => ?_) (fun cdv A outer s H vs Q E hr h => ?_)
  · obtain ⟨o, L, ct, ss, l, ds, rfl, _⟩ := h
    rfl
  · obtain ⟨o, L, ct, ss, l, ds, rfl, hses, k, kE⟩ := h
    obtain ⟨dx, F, ws, h1, h2, h3, h4, h5⟩ := hses.ex
    have lo := hses.loose
    have oL := hses.ne
    have hxD : ∀ D, x = some D → D ≠ o ∧ D ≠ L := fun D e => by subst e; exact hses.neD
    refine ⟨_, pss_cons (ps_if (pt_cmpR op_eq (pe_callB call_len_seq (by rfl) B.len PySem.boot_len (pa_cons (pe_fld (pv 0) rfl) pa_nil)) pe_int (nomark _)) (pss_one (ps_raiseV rfl TN hr tkX (pa_cons pe_int pa_nil))) pss_nil)
      (pss_one (ps_asg (pe_bm0 PySem.F.plainAttrs_list PySem.F.slot_list_pop PySem.F.type_list_pop mt_pop (pe_fld (pv 0) rfl)) (pg_tup (by rfl) (pgs_cons (pg_name (i := 1) scUn.nd rfl (.inl rfl)) (pgs_cons (pg_fld (pv 0)) (pgs_cons (pg_fld (pv 0)) pgs_nil)))))), ?_⟩
    have lw := paired_len h4
    refine ⟨_, rfl, o, C, dx, _, _, rfl, h1, T.cl, T.nD, rfl, L, ws, rfl, .inl (.of h2), ?_⟩
    rcases List.eq_nil_or_concat ds with e | ⟨ds2, d1, e⟩
    · subst e
      have e0 : ws = [] := List.length_eq_zero_iff.mp lw
      subst e0
      exact ⟨rfl, true, rfl, iteT (mk_red fun e he => kE rfl e _ (Same.new he) he upd_same)⟩
    · rw [List.concat_eq_append] at e
      subst e
      obtain ⟨w2, v, ew, hw2, hv⟩ := paired_last h4
      subst ew
      refine ⟨rfl, false, by simp; omega, iteF ?_⟩
      obtain ⟨t, a, d, us, oa, rfl, ht, ha, hn, hd⟩ := hv
      refine ⟨_, rfl, o, C, dx, _, _, rfl, h1, T.cl, T.nD, rfl, .inl ⟨rfl, _, .of h2⟩, L, _, .ref t, rfl, rfl, h2, by simp, ?_⟩
      rw [List.dropLast_concat]
      have tL : t ≠ L := fun e => by rw [e, h2] at ht; cases ht
      have to : t ≠ o := fun e => by rw [e, h1] at ht; cases ht
      refine ⟨t, _, rfl, .of (by rw [upd_ne tL]; exact ht), rfl, _, _, rfl, _, _, rfl, _, rfl, o, C, dx, _, rfl, (by rw [upd_ne oL]; exact h1), T.cl, T.nF, xF_len _ _ _ _, ?_⟩
      rw [xF_put1]
      refine ⟨_, _, rfl, _, rfl, o, C, dx, _, rfl, upd_same, T.cl, T.nH, xF_len _ _ _ _, ?_⟩
      rw [xF_put2]
      have kk : Keep (ownS o L x) H (upd (upd (upd H L (.lst w2)) o (.ins C dx (sF (.ref d) (limV l) (.ref L) ++ xF x))) o (.ins C dx (sF (.ref d) (limV d1.2.2) (.ref L) ++ xF x))) := ⟨lo, fun b u n q => by
        have n1 : b ≠ o := fun e => n (by rw [e]; exact List.mem_cons_self)
        have n2 : b ≠ L := fun e => n (by rw [e]; exact List.mem_cons_of_mem _ List.mem_cons_self)
        rw [upd_ne n1, upd_ne n1, upd_ne n2]
        exact q⟩
      refine ⟨rfl, k ds2 d1 rfl _ kk ⟨dx, d, w2, upd_same, by rw [upd_ne (Ne.symm oL), upd_ne (Ne.symm oL)]; exact upd_same, kk.skF hd, kk.deeds hw2, ?_⟩⟩
      cases x with
      | none => exact trivial
      | some D =>
        obtain ⟨d1', d2'⟩ := hxD D rfl
        show upd _ _ _ D = _
        rw [upd_ne d1', upd_ne d1', upd_ne d2']
        exact h5
end
end SE
namespace SE
open PySem PySem.Spec PyProof.Rows L2
/-! ### the mathematics of interleaved steps -/
theorem find_put {n n' : Str} {st : List Str} : ∀ {ss : Sk}, ((ss.map fun p => if p.1 = n then (p.1, st) else p).find? (hasS n')).map (·.2) = if n' = n ∧ ss.any (hasS n) = true then some st else (ss.find? (hasS n')).map (·.2)
  | [] => by simp
  | p :: r => by
    have ih := find_put (n := n) (n' := n') (st := st) (ss := r)
    rw [List.map_cons, List.find?_cons, List.find?_cons, List.any_cons]
    by_cases c : p.1 = n
    · rw [if_pos c]
      by_cases d : n' = n
      · subst d
        have h1 : hasS n' (p.1, st) = true := decide_eq_true c
        have h2 : hasS n' p = true := decide_eq_true c
        rw [h1, h2]
        simp
      · have h1 : hasS n' (p.1, st) = false := decide_eq_false (fun q => d (by rw [← c, q]))
        have h2 : hasS n' p = false := decide_eq_false (fun q => d (by rw [← c, q]))
        rw [h1, h2]
        dsimp only
        rw [ih, if_neg (fun q => d q.1), if_neg (fun q => d q.1)]
    · rw [if_neg c]
      have h2 : hasS n p = false := decide_eq_false c
      rw [h2, Bool.false_or]
      cases e : hasS n' p with
      | true =>
        dsimp only
        rw [if_neg]
        rintro ⟨q, _⟩
        exact c (by rw [← q]; exact of_decide_eq_true e)
      | false =>
        dsimp only
        exact ih
theorem getS_put (ss : Sk) (n n' : Str) (st : List Str) : getS (putS ss n st) n' = if n' = n then st else getS ss n' := by
  unfold getS putS
  by_cases c : ss.any (hasS n) = true
  · rw [if_pos c, find_put]
    by_cases d : n' = n
    · rw [if_pos ⟨d, c⟩, if_pos d]
      rfl
    · rw [if_neg (fun q => d q.1), if_neg d]
  · rw [if_neg c, List.find?_append]
    by_cases d : n' = n
    · subst d
      have z : ss.find? (hasS n') = none := by
        rw [List.find?_eq_none]
        intro p mp q
        exact c (List.any_eq_true.mpr ⟨p, mp, q⟩)
      rw [z, if_pos rfl]
      have h1 : hasS n' (n', st) = true := decide_eq_true rfl
      simp [List.find?_cons, h1]
    · rw [if_neg d]
      have h1 : hasS n' (n, st) = false := decide_eq_false (fun q => d q.symm)
      simp [List.find?_cons, h1]
theorem getS_clean {ss : Sk} (nd : (ss.map (·.1)).Nodup) (n : Str) : getS (cleanS ss) n = getS ss n := by
  induction ss with
  | nil => rfl
  | cons p r ih =>
    rw [List.map_cons, List.nodup_cons] at nd
    have ih := ih nd.2
    unfold getS cleanS at ih ⊢
    rw [List.filter_cons]
    cases e : hasS n p with
    | true =>
      by_cases c : p.2 = []
      · rw [if_neg (by simp [c]), List.find?_cons, e]
        have z : r.find? (hasS n) = none := by
          rw [List.find?_eq_none]
          intro q mq z
          exact nd.1 (List.mem_map.mpr ⟨q, mq, by rw [of_decide_eq_true z, of_decide_eq_true e]⟩)
        rw [z] at ih
        rw [ih]
        show [] = p.2
        rw [c]
      · rw [if_pos (by simp [c]), List.find?_cons, List.find?_cons, e]
    | false =>
      rw [List.find?_cons (a := p) (as := r), e]
      split
      · rw [List.find?_cons, e]
        exact ih
      · exact ih
theorem putS_nd {ss : Sk} {n : Str} {st : List Str} (nd : (ss.map (·.1)).Nodup) : ((putS ss n st).map (·.1)).Nodup := by
  rw [putS_fst]
  split
  · exact nd
  · rename_i q
    rw [List.nodup_append]
    refine ⟨nd, by simp, fun x mx y my e => q ?_⟩
    rw [List.mem_singleton.mp my] at e
    obtain ⟨p, mp, ep⟩ := List.mem_map.mp mx
    exact List.any_eq_true.mpr ⟨p, mp, decide_eq_true (by rw [ep, e])⟩

/-- the steps of one name -/
def ofN (ns : List NSt) (n : Str) : List Stp := (ns.filter fun s => decide (s.2.1 = n)).map fun s => (s.1, s.2.2)
theorem ofN_cons (s : NSt) (r : List NSt) (n : Str) : ofN (s :: r) n = if s.2.1 = n then (s.1, s.2.2) :: ofN r n else ofN r n := by
  unfold ofN
  by_cases c : s.2.1 = n
  · rw [List.filter_cons_of_pos (by simpa using c), if_pos c]; rfl
  · rw [List.filter_cons_of_neg (by simpa using c), if_neg c]
theorem ofN_app (a b : List NSt) (n : Str) : ofN (a ++ b) n = ofN a n ++ ofN b n := by
  unfold ofN
  rw [List.filter_append, List.map_append]
theorem ofN_snoc (a : List NSt) (s : NSt) (n : Str) : ofN (a ++ [s]) n = if s.2.1 = n then ofN a n ++ [(s.1, s.2.2)] else ofN a n := by
  rw [ofN_app, ofN_cons]
  by_cases c : s.2.1 = n
  · rw [if_pos c, if_pos c]; rfl
  · rw [if_neg c, if_neg c]
    show ofN a n ++ [] = _
    rw [List.append_nil]
end SE
namespace SE
open PySem PySem.Spec PyProof.Rows L2
/-- any walk that adds to what a turn wants -/
theorem w_it {J : It} {n : Nat} {G : Hp → Prop} {Y : Nat → Hp → V → Hp → Prop} (w : Walk J n G Y) {Qd : Hp → Prop} {F : (Hp → Prop) → V → Hp → Prop} {H0 : Hp} (Pv : Nat → Hp → Prop) (h0 : Pv 0 H0) (hG : ∀ i H, i ≤ n → Pv i H → G H) (hs : ∀ i x H H', i < n → Pv i H → Y i H x H' → F (Pv (i + 1)) x H') (hd : ∀ H, Pv n H → Qd H) :
    ∃ W : Nat → Nat → Hp → Prop, (∃ m, W 0 m H0) ∧ ∀ i m H, W i m H → (J.stop i H ∧ Qd H) ∨ (J.go i H ∧ ∃ Nx : Hp → Prop, (∀ H', Nx H' → ∃ m', m' < m ∧ W (i + 1) m' H') ∧ ∀ x H', J.yld i H x H' → F Nx x H') := by
  refine ⟨fun i m H => m = n - i ∧ i ≤ n ∧ Pv i H, ⟨n, by simp, Nat.zero_le _, h0⟩, ?_⟩
  rintro i m H ⟨rfl, hi, p⟩
  have q := hG i H hi p
  by_cases hlt : i < n
  · exact .inr ⟨w.goes i H hlt q, Pv (i + 1), fun H' p' => ⟨n - (i + 1), by omega, rfl, hlt, p'⟩, fun x H' y => hs i x H H' hlt p (w.yields i H x H' hlt q y)⟩
  · have e : i = n := by omega
    subst e
    exact .inl ⟨w.stops H q, hd H p⟩
def flatD (ds : List Deed) : List NSt := ds.flatMap (·.1)
theorem flatD_snoc (ds : List Deed) (d : Deed) : flatD (ds ++ [d]) = flatD ds ++ d.1 := by
  unfold flatD
  rw [List.flatMap_append]
  simp
theorem ofN_mem {ns : List NSt} {n : Str} {s : Stp} (h : s ∈ ofN ns n) : (s.1, n, s.2) ∈ ns := by
  obtain ⟨q, mq, rfl⟩ := List.mem_map.mp h
  obtain ⟨m1, m2⟩ := List.mem_filter.mp mq
  have e : q.2.1 = n := by simpa using m2
  rw [← e]
  exact m1
section
variable {P : Program} {w : World} {K : PySem.W.Frag} {mg : Str → Option Value} {base : Heap} {C : Addr} {x : Option Addr}
/-! ### effect -/
def spEf (K : PySem.W.Frag) (C CF : Addr) (x : Option Addr) : Sp := fun vs H Q _ => ∃ (o L : Addr) (n : Str) (ct : Cn) (ss : Sk) (l : Lim) (ds : List Deed), vs = [.ref o, .str n] ∧ SesX K C x ct H o L ss l ds ∧ Item n ∧ (∀ s ∈ flatD ds, NOk s) ∧ (ofN (flatD ds) n).length ≤ 5000 ∧
  ∀ (e : Addr) (H' : Hp), Same H H' → EffV K CF H' e (effM (ofN (flatD ds) n)) → Q (.ref e) H'
abbrev nEf : List Str := ["self", "name", "steps", "stacks", "limit", "action", "other", "item"]
theorem scEf : FnScope nEf ["self", "name"] (defScope sSEffect) := ⟨rfl, rfl, rfl, by decide +kernel, rfl, by decide +kernel, by decide +kernel⟩
theorem ok_ef {f CF : Addr} {fd : FuncData} (F : Fun K "effect" "Session.effect" sSEffect f fd) (T : SCl K C) (G : Has P w K mg base "check_name" 2 ["name"] [] (spCn K)) (GP : Has P w K mg base "parts_of_step" 1 ["step"] [] (spPart K)) (GJ : Has P w K mg base "joined" 7 ["parts"] [] (spJoin K CF)) : FnOk P w K mg base CX0 8 f fd ["self", "name"] (spEf K C CF x) := by
  refine F.ok scEf (fun vs H Q E h => ?_) (fun cdv A outer s H vs Q E hr h => ?_)
  · obtain ⟨o, L, n, ct, ss, l, ds, rfl, _⟩ := h
    rfl
  · obtain ⟨o, L, n, ct, ss, l, ds, rfl, hses, hn, hok, hln, k⟩ := h
    have hr1 : Room 1 _ := hr.mono (by decide)
    have hr2 : Room 2 _ := hr.mono (by decide)
    have hr7 : Room 7 _ := hr.mono (by decide)
    have gG : ∀ {X : Cx} {i : Nat} {y : Str}, True := fun {_ _ _} => trivial
    obtain ⟨dx, F, ws, h1, h2, h3, h4, h5⟩ := hses.ex
    refine ⟨_, pss_cons (ps_expr (pe_has G hr2 (pa_cons (pv 1) pa_nil))) (pss_one (ps_ret (pe_has GJ hr7 (pa_cons
      (pe_lc2 (own := [("steps", 2), ("stacks", 3), ("limit", 4), ("action", 5), ("other", 6), ("item", 7)]) (vs1 := [5, 6, 7]) (wi1 := iList K (tVar 2)) (g := gTup K 3 (gCons (gName 2) (gCons (gName 3) (gCons (gName 4) gNil)))) (tt := tYes) (g1 := gTup K 3 (gCons (gName 5) (gCons (gName 6) (gCons (gName 7) gNil)))) (tt1 := tTest (tOp rEq (tVar 6) (tVar 1))) (te := tCall (spPart K) [] E0 (tCons (tTup (tCons (tVar 5) (tCons (tVar 7) tNil))) tNil)) rfl scEf.nd (pi_list (pe_fld (pv 0) rfl)) (blkOk_by (own := [("steps", 2), ("stacks", 3), ("limit", 4), ("action", 5), ("other", 6), ("item", 7)]) (N := nEf) (sc := defScope sSEffect) (by decide +kernel)) (by decide)
        (fun _ _ _ _ _ => pg_tup (by rfl) (pgs_cons (pg_name (i := 2) scEf.nd rfl (.inl rfl)) (pgs_cons (pg_name (i := 3) scEf.nd rfl (.inl rfl)) (pgs_cons (pg_name (i := 4) scEf.nd rfl (.inl rfl)) pgs_nil)))) (fun _ _ _ _ _ => pts_nil) (fun _ _ _ _ _ => pi_list (pv 2))
        (fun _ _ _ _ _ => pg_tup (by rfl) (pgs_cons (pg_name (i := 5) scEf.nd rfl (.inl rfl)) (pgs_cons (pg_name (i := 6) scEf.nd rfl (.inl rfl)) (pgs_cons (pg_name (i := 7) scEf.nd rfl (.inl rfl)) pgs_nil)))) (fun _ _ _ _ _ => pts_one (pt_cmpR op_eq (pv 6) (pv 1) (nomark _)))
        (fun _ _ _ _ _ => pe_has GP hr1 (pa_cons (pe_tup (pa_cons (pv 5) (pa_cons (pv 7) pa_nil))) pa_nil))) pa_nil)))), ?_⟩
    refine ⟨_, rfl, n, rfl, hn, fun H1 s1 => ?_⟩
    refine ⟨_, rfl, o, C, dx, _, _, rfl, s1 _ _ h1, T.cl, T.nD, rfl, L, rfl, ⟨ws, .of (s1 _ _ h2)⟩, fun D hD => ?_⟩
    have e1 : wipe (L2.start nEf [V.ref o, V.str n]) (List.map (fun x => x.snd) [(("steps" : Str), 2), ("stacks", 3), ("limit", 4), ("action", 5), ("other", 6), ("item", 7)]) = [some (.ref o), some (.str n), none, none, none, none, none, none] := rfl
    refine w_it (walk_list (K := K) (a := L) (xs := ws)) (fun j H2 => ∃ us, H2 D = some (.lst us) ∧ Paired (PrtV K H2) us ((ofN (flatD (ds.take j)) n).map partM) ∧ Same H1 H2) ⟨[], upd_same, .nil, Same.new hD⟩ (fun i H2 _ q => ?_) ?_ ?_
    · obtain ⟨_, _, _, s2⟩ := q
      exact .of (s2 _ _ (s1 _ _ h2))
    · rintro j v H2 H2' hj ⟨us, hu, hP, s2⟩ ⟨eH, hx⟩
      rw [eH, e1]
      obtain ⟨d, hd, t, a, dd, us2, oa, rfl, g1, g2, g3, g4⟩ := paired_at h4 hx
      have s12 := s1.trans s2
      refine ⟨t, _, rfl, .of (s12 _ _ g1), rfl, _, _, rfl, _, _, rfl, _, _, rfl, rfl, rfl, yes_in ⟨_, rfl, a, rfl, ⟨us2, .inl (.inr ⟨_, s12 _ _ g2⟩)⟩, ?_⟩⟩
      have e2 : wipe [some (.ref o), some (.str n), some (.ref a), some (.ref dd), some (limV d.2.2), none, none, none] [5, 6, 7] = [some (.ref o), some (.str n), some (.ref a), some (.ref dd), some (limV d.2.2), none, none, none] := rfl
      dsimp only [List.set]
      rw [e2]
      refine w_it (walk_list (K := K) (a := a) (xs := us2)) (fun i H3 => ∃ us, H3 D = some (.lst us) ∧ Paired (PrtV K H3) us ((ofN (flatD (ds.take j) ++ d.1.take i) n).map partM) ∧ Same H1 H3) ⟨us, hu, by simpa using hP, s2⟩ (fun i H3 _ q => ?_) ?_ ?_
      · obtain ⟨_, _, _, s3⟩ := q
        exact .inl (.inr ⟨_, (s1.trans s3) _ _ g2⟩)
      · rintro i v H3 H3' hi ⟨us3, hu3, hP3, s3⟩ ⟨eH, hx⟩
        rw [eH]
        obtain ⟨⟨b, n', z⟩, hs, t2, rfl, hT⟩ := paired_at g3 hx
        have s13 := s1.trans s3
        have mem : (b, n', z) ∈ flatD ds := List.mem_flatMap.mpr ⟨d, List.mem_of_getElem? hd, List.mem_of_getElem? hs⟩
        have il := (List.getElem?_eq_some_iff.mp hs).1
        have ei : flatD (ds.take j) ++ d.1.take (i + 1) = (flatD (ds.take j) ++ d.1.take i) ++ [(b, n', z)] := by
          rw [List.take_add_one, hs, List.append_assoc]
          rfl
        refine ⟨t2, _, rfl, Same.tup s13 hT, rfl, _, _, rfl, _, _, rfl, _, _, rfl, rfl, ?_⟩
        dsimp only [List.set]
        refine ⟨rfl, _, rfl, _, rfl, rfl, _, rfl, ?_⟩
        rw [ei, ofN_snoc]
        dsimp only
        by_cases c : n' = n
        · subst c
          rw [decide_eq_true rfl]
          simp only [if_true]
          refine ⟨_, rfl, _, rfl, (by show 2 ≤ sizeLine; decide), fun q hq => ?_⟩
          have sq : Same H3 (upd H3 q (.tup [.str (act b), .str z])) := Same.new hq
          refine ⟨_, (b, z), rfl, ⟨q, rfl, .of upd_same⟩, fun u H4 s4 hp => ?_⟩
          have s34 := sq.trans s4
          have hu4 := s34 _ _ hu3
          refine ⟨us3, hu4, ?_, us3 ++ [u], upd_same, ?_, ?_⟩
          · have l2 := paired_len hP3
            rw [List.length_map] at l2
            have l3 : (ofN (flatD (ds.take j) ++ d.1.take i) n').length ≤ (ofN (flatD ds) n').length := by
              refine List.Sublist.length_le ?_
              have e3 : flatD ds = (flatD (ds.take j) ++ d.1.take i) ++ (d.1.drop i ++ flatD (ds.drop (j + 1))) := by
                have e4 : ds = ds.take j ++ d :: ds.drop (j + 1) := by
                  obtain ⟨hl, e⟩ := List.getElem?_eq_some_iff.mp hd
                  rw [← e, List.getElem_cons_drop, List.take_append_drop]
                have e5 : flatD ds = flatD (ds.take j) ++ (d.1 ++ flatD (ds.drop (j + 1))) := by
                  rw [e4]
                  unfold flatD
                  rw [List.flatMap_append, List.flatMap_cons, ← e4]
                rw [e5, List.append_assoc, ← List.append_assoc (d.1.take i), List.take_append_drop]
              rw [e3, ofN_app _ (d.1.drop i ++ flatD (ds.drop (j + 1)))]
              exact List.sublist_append_left _ _
            rw [sizeLine_eq]
            omega
          · rw [List.map_append]
            exact Paired.snoc2 (Paired.mapP hP3 fun v B q => (q.same s34).updL hu4) (hp.updL hu4)
          · exact Same.free2 (s3.trans s34) hD
        · have c2 : decide (V.str n' = V.str n) = false := decide_eq_false (fun e => c (by cases e; rfl))
          rw [c2]
          simp only [if_neg c, Bool.false_eq_true, if_false]
          exact ⟨us3, hu3, hP3, s3⟩
      · rintro H3 ⟨us3, hu3, hP3, s3⟩
        rw [paired_len g3, List.take_length] at hP3
        refine ⟨us3, hu3, ?_, s3⟩
        rw [List.take_add_one, hd]
        show Paired _ us3 ((ofN (flatD (ds.take j ++ [d])) n).map partM)
        rw [flatD_snoc]
        exact hP3
    · rintro H2 ⟨us, hu, hP, s2⟩
      rw [paired_len h4, List.take_length] at hP
      refine ⟨D, us, _, rfl, .of hu, hP, fun Bp m => ?_, ?_, fun e H3 s3 he => k e H3 ((s1.trans s2).trans s3) he⟩
      · obtain ⟨st, ms, rfl⟩ := List.mem_map.mp m
        exact partM_ok (hok _ (ofN_mem ms)).i
      · rw [szP_steps]
        exact hln
end
end SE
/-! A def with a keyword-only parameter and **d behind its first one, called with that one alone: the default, and an empty dict. -/
namespace SE
open PySem PySem.Spec PyProof.Rows L2 StX
section
variable {CX : CXT} {P : Program} {w : World} {K : PySem.W.Frag} {mg : Str → Option Value} {base : Heap} {k : Nat} {f D : Addr} {name qual : Str} {params : Arguments} {body : List Stmt} {scope : Scope} {dV doc pm cdv ct oc dv : Value} {an od : Option Addr}
  {osl : Array (Option Value)} {N : List Str} {sp : Sp} {p1 y pd : Str} {yv : V}
theorem fn_kwd0 (lk : K.lookup f = some ⟨oc, od, .func (PySem.W.fnOf name qual params body scope dV (.ref D) doc pm an cdv ct), osl⟩) (hcd : PySem.W.codeIn K cdv qual = true) (S : FnScope N [p1, y, pd] scope) (hCX : CXUp CX)
    (hy : PySem.W.nsIn K D y = some (some dv)) (ry : RelV yv dv)
    (hb : ∀ u : Value, ∃ (β γ : Type) (k1 : Option Value → Sem β) (k2 : β → Sem γ) (k3 : γ → Sem (List (Str × Value))) (a : β), bindArgs (PySem.W.fnOf name qual params body scope dV (.ref D) doc pm an cdv ct) ⟨[u], []⟩ = ((nsGet D y >>= k1) >>= k2) >>= k3 ∧ k1 (some dv) = pure a ∧
      (k2 a >>= k3) = ((alloc ({ cls := .type "dict", data := .dict #[] } : Obj) : Sem Addr) >>= fun d => pure [(p1, u), (y, dv), (pd, Value.ref d)]))
    (hbody : ∀ (A : Around) (outer : List Env) (s : Shared) (H : Hp) (vs : List V) (Q : VK) (E : XK), Room k (A.deeper (envOfC qual scope s.heap.objs.size f cdv)) → sp vs H Q E →
      ∃ t, PSs (cxOf CX P w K mg base N qual scope f cdv A outer s H E) body t ∧ t { nx := fun _ H' => Q .non H', rt := Q } (start N vs) H) :
    FnR P w K mg base CX (k + 1) f (fun vs H Q E => ∃ x, vs = [x] ∧ ∀ d, H d = Option.none → sp [x, yv, V.ref d] (upd H d (.dK [])) Q E) := by
  intro A outer s H us vs Q E hr e0 r hsp
  obtain ⟨x, ev, hq⟩ := hsp
  subst ev
  obtain ⟨u, eu, rx⟩ := vals1 r
  subst eu
  have KX : K.In s.heap := e0.mod.kin.keeps fun b o e => (e0.bs b o e).1
  have hn : H s.heap.objs.size = Option.none := e0.hok.fresh (Nat.le_refl _)
  refine run_bnd lk hcd S hr e0 (G := fun xs H2 => ∃ d, H d = Option.none ∧ xs = [x, yv, V.ref d] ∧ H2 = upd H d (.dK [])) (fun A' Ex Q' h => ?_) fun s2 H2 xs ⟨d, hd, ex, eH⟩ hr' => ?_
  · obtain ⟨β, γ, k1, k2, k3, a, e1, e2, e3⟩ := hb u
    rw [e1, bind_assoc]
    have l1 : PySem.W.Looks (model P w) s.heap (nsGet D y >>= k1) a := (PySem.W.looks_nsIn KX hy).andThen (PySem.W.Looks.of_pure e2)
    refine wpAny_bind (l1.here ?_)
    show wpAny _ _ (k2 a >>= k3) _ _ _
    rw [e3]
    refine wpAny_bind (wpAny_alloc (wpAny_pure ?_))
    have un := un_laid (fs := frs outer) (s := s) (o := ({ cls := .type "dict", data := .dict #[] } : Obj)) (u := .dK []) hn
    have e2 := env0_laid (u := .dK []) (o := ({ cls := .type "dict", data := .dict #[] } : Obj)) e0 (dk_empty _ (env0_big e0))
    exact h _ _ [x, yv, V.ref s.heap.objs.size] [u, dv, Value.ref s.heap.objs.size] e2 un rfl (fun e s' => hCX outer s H _ _ E e s' un (fun b o q => Heap.get?_push_of_some _ q) rfl) (.cons rx (.cons ry (.cons rfl .nil))) rfl ⟨_, hn, rfl, rfl⟩
  · subst ex eH
    exact hbody A outer s2 _ _ Q E hr' (hq d hd)
end
/-! ### C(), by a promise of its __init__ on the instance alone -/
section
variable {X : Cx} {CX : CXT} {k : Nat} {f C : Addr} {sp : Sp} {E : XK} {x : Str} {p pos : Pos}
def tMakeR0 (C : Addr) (sp : Sp) (E : XK) : TE := fun _ H Q => ∀ x dx, H x = Option.none → H dx = Option.none → dx ≠ x → sp [V.ref x] (upd (upd H dx (.own x)) x (.ins C dx [])) (fun v H2 => v = .non ∧ Q (.ref x) H2) E
theorem pe_makeR0 (M : Mk X.K C f) (F : FnR X.prog X.w X.K X.mg X.base CX k f sp) (hr : Room (k + 1) X.A) (hg : Gl X x) (hm : X.mg x = some (.ref C)) (hx : Passes CX X E) (hdb : (x == ("__debug__" : Str)) = false := by decide) : PE X (.Call (.Name x p) [] [] pos) (tMakeR0 C sp E) := by
  refine ⟨fun pins s σ H Q I h => ?_⟩
  refine wpAny_Call_Name_kw (ld_glob I hg hm ?_ hdb)
  refine PySem.W.callWith_K0 I.kIn M.kp ?_
  exact run_makeR (us := []) (vs := []) M F hr hx I .nil h
end
end SE
/-! A def with a keyword-only parameter and **d behind its first one, called with keywords: what it does not name goes into a new dict. -/
namespace SE
open PySem PySem.Spec PyProof.Rows L2 StX
theorem upd_pushed (h : Heap) (o : Obj) (f : Obj → Obj) : (h.push o).update h.objs.size f = h.push (f o) := by
  obtain ⟨objs, life⟩ := h
  simp only [Heap.update, Heap.push, Heap.mk.injEq, and_true]
  apply Array.ext_getElem?
  intro i
  simp only [Array.getElem?_modify, Array.getElem?_push]
  by_cases h1 : objs.size = i
  · subst h1
    simp
  · have h2 : ¬ i = objs.size := fun q => h1 q.symm
    simp [h1, h2]
section
variable {P : Program} {w : World} {A : Around} {E : Value → Shared → Prop} {h0 : Heap}
open PySem.W in
theorem ns_push {s : Shared} {es : List DictEntry} {n : Nat} {k : Str} {v : Value} {Q : Unit → Shared → Prop} (eh : s.heap = h0.push (dictOf es n)) (hs : ∀ e ∈ es, e.key.isStr k = false) (hr : ∀ e ∈ es, e.refKey = false)
    (h : Q () { s with heap := h0.push (dictOf (es ++ [⟨PyData.keyHash w.params k, .str k s.toks, v⟩]) (n + 1)), toks := s.toks + 1 }) : wpAny (model P w) A (nsSet h0.objs.size k v) Q E s := by
  have e1 : es.any (·.key.isStr k) = false := by
    cases q : es.any (·.key.isStr k) with
    | false => rfl
    | true => obtain ⟨e, he, z⟩ := List.any_eq_true.mp q; rw [hs e he] at z; cases z
  have e2 : es.any (·.refKey) = false := by
    cases q : es.any (·.refKey) with
    | false => rfl
    | true => obtain ⟨e, he, z⟩ := List.any_eq_true.mp q; rw [hr e he] at z; cases z
  have e : Obj.putName k (PyData.keyHash w.params k) (.str k s.toks) v (dictOf es n) = dictOf (es ++ [⟨PyData.keyHash w.params k, .str k s.toks, v⟩]) (n + 1) := by
    rw [putName_dict, putL_new hs]
    show dictOf _ (if es.any (·.key.isStr k) then n else n + 1) = _
    rw [e1, if_neg Bool.false_ne_true]
  have D : s.heap.get? h0.objs.size = some (dictOf es n) := by
    rw [eh]
    exact Heap.get?_push_size _ rfl
  have c : aRefKeyMayBeTheName k es.toArray = false := by
    rw [aRefKeyMayBeTheName_at, ← Array.any_toList, ← Array.any_toList]
    show (!es.any (·.key.isStr k) && es.any (·.refKey)) = false
    rw [e2, Bool.and_false]
  have U : s.heap.update h0.objs.size (Obj.putName k (PyData.keyHash w.params k) (.str k s.toks) v) = h0.push (dictOf (es ++ [⟨PyData.keyHash w.params k, .str k s.toks, v⟩]) (n + 1)) := by
    rw [eh, upd_pushed, e]
  unfold nsSet
  refine wpAny_bind (wpAny_bind (wpAny_askSetting (wpAny_pure (wpAny_bind (wpAny_mkText (wpAny_bind (wpAny_loadPart D ?_)))))))
  dsimp only
  rw [c]
  refine wpAny_updatePart D ?_
  show Q () { s with heap := s.heap.update h0.objs.size (Obj.putName k (PyData.keyHash w.params k) (.str k s.toks) v), toks := s.toks + 1 }
  rw [U]
  exact h
open PySem.W in
theorem fill_push {Q : PUnit → Shared → Prop} : ∀ (ex : List (Str × Value)) (s : Shared) (es : List DictEntry) (n : Nat), s.heap = h0.push (dictOf es n) → (∀ e ∈ es, ∀ x ∈ ex, e.key.isStr x.1 = false) → (∀ e ∈ es, e.refKey = false) → (ex.map (·.1)).Nodup →
    Q ⟨⟩ { s with heap := h0.push (dictOf (es ++ kwEs w.params s.toks ex) (n + ex.length)), toks := s.toks + ex.length } →
    wpAny (model P w) A (forIn ex PUnit.unit fun x _ => (nsSet h0.objs.size x.1 x.2 >>= fun _ => pure (ForInStep.yield PUnit.unit))) Q E s
  | [], s, es, n, eh, _, _, _, h => by
    rw [List.forIn_nil]
    refine wpAny_pure ?_
    have e : es ++ kwEs w.params s.toks [] = es := List.append_nil _
    rw [e] at h
    have e2 : { s with heap := h0.push (dictOf es (n + ([] : List (Str × Value)).length)), toks := s.toks + ([] : List (Str × Value)).length } = s := by
      show { s with heap := h0.push (dictOf es n), toks := s.toks } = s
      rw [← eh]
    rw [e2] at h
    exact h
  | x :: r, s, es, n, eh, hs, hr, hn, h => by
    obtain ⟨hn1, hn2⟩ := List.nodup_cons.mp (show (x.1 :: r.map (·.1)).Nodup from hn)
    rw [List.forIn_cons]
    refine wpAny_bind (wpAny_bind (ns_push eh (fun e he => hs e he x (.head _)) hr (wpAny_pure ?_)))
    show wpAny (model P w) A (forIn r PUnit.unit fun x _ => (nsSet h0.objs.size x.1 x.2 >>= fun _ => pure (ForInStep.yield PUnit.unit))) Q E { s with heap := h0.push (dictOf (es ++ [⟨PyData.keyHash w.params x.1, .str x.1 s.toks, x.2⟩]) (n + 1)), toks := s.toks + 1 }
    refine fill_push r { s with heap := h0.push (dictOf (es ++ [⟨PyData.keyHash w.params x.1, .str x.1 s.toks, x.2⟩]) (n + 1)), toks := s.toks + 1 } _ _ rfl (fun e he y hy => ?_) (fun e he => ?_) hn2 ?_
    · rcases List.mem_append.mp he with he | he
      · exact hs e he y (.tail _ hy)
      · obtain rfl := List.mem_singleton.mp he
        show (x.1 == y.1) = false
        exact beq_eq_false_iff_ne.mpr fun q => hn1 (by rw [q]; exact List.mem_map_of_mem hy)
    · rcases List.mem_append.mp he with he | he
      · exact hr e he
      · obtain rfl := List.mem_singleton.mp he
        rfl
    · have t1 : s.toks + 1 + r.length = s.toks + (r.length + 1) := by omega
      have t2 : n + 1 + r.length = n + (r.length + 1) := by omega
      show Q ⟨⟩ { s with heap := h0.push (dictOf ((es ++ [⟨PyData.keyHash w.params x.1, .str x.1 s.toks, x.2⟩]) ++ kwEs w.params (s.toks + 1) r) (n + 1 + r.length)), toks := s.toks + 1 + r.length }
      rw [t1, t2, List.append_assoc]
      exact h
def exK {α : Type} (l : List (Str × α)) : List (Key × α) := l.map fun p => (Sum.inr p.1, p.2)
open PySem.W in
theorem mix_dict {ex : List (Str × Value)} (t : Tok) (n : Nat) (hn : (ex.map (·.1)).Nodup) : (h0.push (dictOf (kwEs w.params t ex) n)).DictOf (mixKind P w) h0.objs.size (exK ex) := by
  refine ⟨_, (kwEs w.params t ex).toArray, n, Heap.get?_push_size _ rfl, ⟨rfl, rfl, rfl⟩, rfl, fun e he => ?_, ?_, ?_⟩
  · obtain ⟨k, u, hk, hh⟩ := kwEs_key ex t e (List.mem_toArray.mp he)
    exact ⟨Sum.inr k, by rw [hk]; exact keyIs_str k u, hh.trans rfl⟩
  · show Pairs (mixKind P w) (kwEs w.params t ex) (exK ex)
    clear hn
    induction ex generalizing t with
    | nil => exact .nil
    | cons x r ih => exact .cons (keyIs_str x.1 t) rfl (ih (t + 1))
  · have e : (exK ex).map (·.1) = (ex.map (·.1)).map (Sum.inr : Str → Key) := by
      unfold exK
      rw [List.map_map, List.map_map]
      rfl
    rw [e]
    exact List.Pairwise.map _ (fun a b q z => q (Sum.inr.inj z)) hn
end
/-- a def by its promise on one value by position and some by keyword -/
def FnKw (P : Program) (w : World) (K : PySem.W.Frag) (mg : Str → Option Value) (base : Heap) (CX : CXT) (k : Nat) (f : Addr) (ks : List Str) (sp : V → List V → Hp → VK → XK → Prop) : Prop :=
  ∀ (A : Around) (outer : List Env) (s : Shared) (H : Hp) (u : Value) (x : V) (ws : List Value) (zs : List V) (Q : VK) (E : XK), Room k A → Env0 P w K mg base A outer s H → RelV x u → Vals zs ws → zs.length = ks.length → sp x zs H Q E →
    codeAny (model P w) A (.call (.ref f) ⟨[u], ks.zip ws⟩) (CR CX outer P w H s Q E) s
theorem FnKw.mono {P : Program} {w : World} {K : PySem.W.Frag} {mg : Str → Option Value} {base : Heap} {CX : CXT} {j k : Nat} {f : Addr} {ks : List Str} {sp : V → List V → Hp → VK → XK → Prop} (F : FnKw P w K mg base CX j f ks sp) (h : j ≤ k) : FnKw P w K mg base CX k f ks sp :=
  fun A outer s H u x ws zs Q E hr => F A outer s H u x ws zs Q E (hr.mono h)
theorem FnKw.imp {P : Program} {w : World} {K : PySem.W.Frag} {mg : Str → Option Value} {base : Heap} {CX : CXT} {k : Nat} {f : Addr} {ks : List Str} {sp sp' : V → List V → Hp → VK → XK → Prop} (F : FnKw P w K mg base CX k f ks sp) (h : ∀ x zs H Q E, sp' x zs H Q E → sp x zs H Q E) : FnKw P w K mg base CX k f ks sp' :=
  fun A outer s H u x ws zs Q E hr e0 rx rz hl hs => F A outer s H u x ws zs Q E hr e0 rx rz hl (h _ _ _ _ _ hs)
section
variable {CX : CXT} {P : Program} {w : World} {K : PySem.W.Frag} {mg : Str → Option Value} {base : Heap} {k : Nat} {f : Addr} {name qual : Str} {params : Arguments} {body : List Stmt} {scope : Scope} {dV kV doc pm cdv ct oc : Value} {an od : Option Addr}
  {osl : Array (Option Value)} {N : List Str} {sp : Sp} {p1 y pd : Str} {ks : List Str}
theorem fn_kw (lim : List Value → Value) (limv : List V → V) (ex : List Value → List (Str × Value)) (exV : List V → List (Str × V)) (lk : K.lookup f = some ⟨oc, od, .func (PySem.W.fnOf name qual params body scope dV kV doc pm an cdv ct), osl⟩) (hcd : PySem.W.codeIn K cdv qual = true) (S : FnScope N [p1, y, pd] scope) (hCX : CXUp CX)
    (hb : ∀ (u : Value) (ws : List Value), ws.length = ks.length → ∀ (A' : Around) (Ex : Value → Shared → Prop) (Q' : List (Str × Value) → Shared → Prop) (s : Shared), K.In s.heap →
      wpAny (model P w) A' ((alloc ({ cls := .type "dict", data := .dict #[] } : Obj) : Sem Addr) >>= fun d => (forIn (ex ws) PUnit.unit (fun x _ => (nsSet d x.1 x.2 >>= fun _ => pure (ForInStep.yield PUnit.unit))) >>= fun _ => pure [(p1, u), (y, lim ws), (pd, Value.ref d)])) Q' Ex s →
      wpAny (model P w) A' (bindArgs (PySem.W.fnOf name qual params body scope dV kV doc pm an cdv ct) ⟨[u], ks.zip ws⟩) Q' Ex s)
    (hn : ∀ ws : List Value, ws.length = ks.length → ((ex ws).map (·.1)).Nodup ∧ (ex ws).length ≤ sizeLine) (hrel : ∀ (zs : List V) (ws : List Value), Vals zs ws → zs.length = ks.length → RelV (limv zs) (lim ws) ∧ KV (exK (exV zs)) (exK (ex ws)))
    (hbody : ∀ (A : Around) (outer : List Env) (s : Shared) (H : Hp) (vs : List V) (Q : VK) (E : XK), Room k (A.deeper (envOfC qual scope s.heap.objs.size f cdv)) → sp vs H Q E →
      ∃ t, PSs (cxOf CX P w K mg base N qual scope f cdv A outer s H E) body t ∧ t { nx := fun _ H' => Q .non H', rt := Q } (start N vs) H) :
    FnKw P w K mg base CX (k + 1) f ks (fun x zs H Q E => ∀ d, H d = Option.none → sp [x, limv zs, V.ref d] (upd H d (.dK (exK (exV zs)))) Q E) := by
  intro A outer s H u x ws zs Q E hr e0 rx rz hl hq
  have lw : ws.length = ks.length := rz.length.symm.trans hl
  obtain ⟨hn1, hn2⟩ := hn ws lw
  obtain ⟨rl, rk⟩ := hrel zs ws rz hl
  have KX : K.In s.heap := e0.mod.kin.keeps fun b o e => (e0.bs b o e).1
  have hnn : H s.heap.objs.size = Option.none := e0.hok.fresh (Nat.le_refl _)
  refine run_bnd lk hcd S hr e0 (G := fun xs H2 => ∃ d, H d = Option.none ∧ xs = [x, limv zs, V.ref d] ∧ H2 = upd H d (.dK (exK (exV zs)))) (fun A' Ex Q' h => ?_) fun s2 H2 xs ⟨d, hd, ex', eH⟩ hr' => ?_
  · refine hb u ws lw _ _ _ _ KX (wpAny_bind (wpAny_alloc (wpAny_bind ?_)))
    refine fill_push (h0 := s.heap) (ex ws) { s with heap := s.heap.push (PySem.W.dictOf [] 0) } [] 0 rfl (fun e he => nomatch he) (fun e he => nomatch he) hn1 (wpAny_pure ?_)
    have dd := mix_dict (P := P) (w := w) (h0 := s.heap) (ex := ex ws) s.toks (0 + (ex ws).length) hn1
    have z1 : (exK (exV zs)).length ≤ sizeLine := by
      rw [Paired.length rk]
      unfold exK
      rw [List.length_map]
      exact hn2
    have sm : (s.heap.objs.size == sysModules) = false := beq_eq_false_iff_ne.mpr (Ne.symm (Nat.ne_of_lt (env0_big e0)))
    have new : ObjOk P w (upd H s.heap.objs.size (.dK (exK (exV zs)))) (s.heap.push (PySem.W.dictOf (PySem.W.kwEs w.params s.toks (ex ws)) (0 + (ex ws).length))) s.heap.objs.size (.dK (exK (exV zs))) := dk_new z1 sm rk dd
    have un := un_laid (fs := frs outer) (s := s) (o := PySem.W.dictOf (PySem.W.kwEs w.params s.toks (ex ws)) (0 + (ex ws).length)) (u := .dK (exK (exV zs))) hnn
    have e2 := env0_laid e0 new
    have e3 : Env0 P w K mg base A outer { s with heap := s.heap.push (PySem.W.dictOf (PySem.W.kwEs w.params s.toks (ex ws)) (0 + (ex ws).length)), toks := s.toks + (ex ws).length } (upd H s.heap.objs.size (.dK (exK (exV zs)))) := ⟨e2.frames, e2.mod, e2.bs, e2.bsz, e2.funs, e2.frf, e2.hok, e2.bare⟩
    exact h _ _ [x, limv zs, V.ref s.heap.objs.size] [u, lim ws, Value.ref s.heap.objs.size] e3 un rfl (fun e s' => hCX outer s H _ _ E e s' un (fun b o q => Heap.get?_push_of_some _ q) rfl) (.cons rx (.cons rl (.cons rfl .nil))) rfl ⟨_, hnn, rfl, rfl⟩
  · subst ex' eH
    exact hbody A outer s2 _ _ Q E hr' (hq d hd)
end
/-! ### C(k = v, ..), whichever keywords -/
section
variable {X : Cx} {CX : CXT} {k : Nat} {f C : Addr} {ks : List Str} {sp : V → List V → Hp → VK → XK → Prop} {x : Str} {p pos : Pos} {kws : List Keyword} {tk : TA} {ex : L2.St → XK}
def tMakeKw (C : Addr) (n : Nat) (sp : V → List V → Hp → VK → XK → Prop) (ex : L2.St → XK) (tk : TA) : TE := fun σ H Q => tk σ H fun zs H2 => zs.length = n ∧ ∀ b db, H2 b = Option.none → H2 db = Option.none → db ≠ b → sp (V.ref b) zs (upd (upd H2 db (.own b)) b (.ins C db [])) (fun v H3 => v = .non ∧ Q (.ref b) H3) (ex σ)
theorem run_makeKw {pins : List (Addr × Obj)} {σ : L2.St} {H : Hp} {s : Shared} {Q : VK} {ws : List Value} {zs : List V} (M : Mk X.K C f) (F : FnKw X.prog X.w X.K X.mg X.base CX k f ks sp) (room : Room (k + 1) X.A)
    (out : PassesAt CX X σ (ex σ)) (I : Inv X pins σ H s) (r2 : Vals zs ws) (l2 : zs.length = ks.length)
    (h : ∀ b db, H b = Option.none → H db = Option.none → db ≠ b → sp (V.ref b) zs (upd (upd H db (.own b)) b (.ins C db [])) (fun v H2 => v = .non ∧ Q (.ref b) H2) (ex σ)) :
    wpAny (model X.prog X.w) X.A (call (.ref C) [] (ks.zip ws)) (EP X pins σ Q) X.xe s := by
  have new := h (s.heap.objs.size + 1) s.heap.objs.size (I.hok.fresh (Nat.le_succ _)) (I.hok.fresh (Nat.le_refl _)) (Nat.ne_of_lt (Nat.lt_succ_self _))
  have made := Inv.made (C := C) I
  have run := F _ X.stack _ _ (Value.ref (s.heap.objs.size + 1)) (V.ref (s.heap.objs.size + 1)) ws zs _ (ex σ) (room.make C [] (ks.zip ws)) (made.env0.make C [] (ks.zip ws)) rfl r2 l2 new
  refine wpAny_call (make_map (f := f) I.kIn M.makes M.init (beq_iff_eq.mp M.fn) (codeAny_mono run fun res s2 done => ?_))
  match res, done with
  | .error ev, done => exact out pins _ _ ev s2 made done
  | .ok (.ret u), done =>
    obtain ⟨v, H2, I2, rel, ev, q⟩ := made.after done
    subst ev
    exact ⟨rel, V.ref (s.heap.objs.size + 1), H2, I2, rfl, q⟩
  | .ok .next, done => exact done.elim
  | .ok .brk, done => exact done.elim
  | .ok .cont, done => exact done.elim
theorem pe_makeKw (M : Mk X.K C f) (F : FnKw X.prog X.w X.K X.mg X.base CX k f ks sp) (room : Room (k + 1) X.A) (hm : X.mg x = some (.ref C)) (out : ∀ σ, PassesAt CX X σ (ex σ)) (hk : PK X kws tk)
    (hks : (backToKw pos (keywordEach kws X.env)).filterMap (·.1) = ks := by rfl) (hall : (backToKw pos (keywordEach kws X.env)).all (·.1.isSome) = true := by rfl) (hg : Gl X x := by rfl) (hd : (x == ("__debug__" : Str)) = false := by decide)
    (hpl : ((backTo pos (starEach [] X.env)).any (·.1) || (backToKw pos (keywordEach kws X.env)).any (·.1.isNone)) = false := by rfl) :
    PE X (.Call (.Name x p) [] kws pos) (tMakeKw C ks.length sp ex tk) := by
  refine ⟨fun pins s σ H Q I h => ?_⟩
  refine wpAny_Call_Name_kw (ld_glob I hg hm ?_ hd)
  refine PySem.W.callWith_KW0 (h₀ := X.base) I.ok.mod.kin M.kp hall ?_ hpl
  refine thn (hk.run pos pins s σ H _ I h) fun ws s2 ⟨zs, H2, I2, rz, l2, q2⟩ => ⟨I2.kIn, ?_⟩
  rw [hks]
  exact run_makeKw M F room (out σ) I2 rz l2 q2
end
end SE
namespace SE
open PySem PySem.Spec PyProof.Rows L2
section
variable {P : Program} {w : World} {K : PySem.W.Frag} {mg : Str → Option Value} {base : Heap} {C : Addr}
/-! ### Session(limit = .., name = ..) -/
def spSI (K : PySem.W.Frag) (C : Addr) : Sp := fun vs H Q _ => ∃ (x dx d : Addr) (kvs : List (Key × V)) (ss : Sk) (m b : Nat) (l : Lim), vs = [.ref x, limV l, .ref d] ∧ H x = some (.ins C dx []) ∧ H d = some (.dK kvs) ∧ SkH K H kvs ss ∧ SkOk ss m b ∧ m ≤ 100000 ∧ b ≤ 5000 ∧ LimOk l ∧ (∀ p ∈ ss, high l p.2.length = false) ∧
  ∀ L H', (∀ b o, H b = some o → b ≠ x → H' b = some o) → H L = none → SesX K C none [] H' x L (cleanS ss) l [] → Q .non H'
theorem scSI : FnScope ["self", "limit", "stacks"] ["self", "limit", "stacks"] (defScope sSInit) := ⟨rfl, rfl, rfl, by decide +kernel, rfl, by decide +kernel, by decide +kernel⟩
theorem sF_two (f h : V) : ((putF "highest_allowed" h (putF "filled" f [])).length < 1000) := by
  show 2 < 1000
  decide
theorem body_sinit {g : Addr} {cdv : Value} (T : SCl K C) (GL : Has P w K mg base "check_limit" 4 ["limit"] [] spLim2) (GS : Has P w K mg base "check_stacks" 4 ["stacks"] [] (spCkS K)) (GH : Has P w K mg base "check_heights" 2 ["stacks", "limit"] [] (spCkH K)) (GW : Has P w K mg base "without_empty" 1 ["stacks"] [] (spWe K))
    (A : Around) (outer : List Env) (s : Shared) (H : Hp) (vs : List V) (Q : VK) (E : XK) (hr : Room 4 (A.deeper (envOfC "Session.__init__" (defScope sSInit) s.heap.objs.size g cdv))) (h : spSI K C vs H Q E) :
    ∃ t, PSs (cxOf CX0 P w K mg base ["self", "limit", "stacks"] "Session.__init__" (defScope sSInit) g cdv A outer s H E) (defBody sSInit) t ∧ t { nx := fun _ H' => Q .non H', rt := Q } (L2.start ["self", "limit", "stacks"] vs) H := by
  obtain ⟨x, dx, d, kvs, ss, m, b, l, rfl, hx, hd, hS, ok, hm, hb, hl, hh, k⟩ := h
  have hr1 : Room 1 _ := hr.mono (by decide)
  have hr2 : Room 2 _ := hr.mono (by decide)
  refine ⟨_, pss_cons (ps_expr (pe_has GL hr (pa_cons (pv 1) pa_nil))) (pss_cons (ps_expr (pe_has GS hr (pa_cons (pv 2) pa_nil))) (pss_cons (ps_expr (pe_has GH hr2 (pa_cons (pv 2) (pa_cons (pv 1) pa_nil))))
    (pss_cons (ps_fld (pv 0) (pe_frz (pe_has GW hr1 (pa_cons (pv 2) pa_nil))) rfl) (pss_cons (ps_fld (pv 0) (pv 1) rfl) (pss_one (ps_fld (pv 0) (pe_lst pa_nil) rfl)))))), ?_⟩
  refine ⟨_, rfl, l, rfl, hl, ?_⟩
  have sd0 : SkD K H d ss := ⟨kvs, hd, hS⟩
  refine ⟨_, rfl, d, ss, m, b, rfl, sd0, ok, hm, hb, fun H1 s1 => ?_⟩
  refine ⟨_, rfl, _, rfl, d, ss, m, b, l, rfl, sd0.same s1, ok, hm, hh, fun H2 s2 => ?_⟩
  have s12 := s1.trans s2
  refine ⟨_, rfl, d, kvs, ss, m, b, rfl, s12 _ _ hd, skH_same hS s12, ok, hm, fun e kvs2 H3 s3 ne he hk3 => ?_⟩
  refine ⟨e, .dK kvs2, rfl, he, trivial, fun oe => ?_⟩
  have s4 : Same H2 (upd H3 e (.frz oe (.dK kvs2))) := Same.free2 s3 ne
  have hk4 : SkH K (upd H3 e (.frz oe (.dK kvs2))) kvs2 (cleanS ss) := skH_upd (.dK he) hk3
  have he : upd H3 e (.frz oe (.dK kvs2)) e = some (.frz oe (.dK kvs2)) := upd_same
  generalize upd H3 e (.frz oe (.dK kvs2)) = H4 at s4 he hk4 ⊢
  have s13 := s12.trans s4
  have hx3 := s13 _ _ hx
  have ex : e ≠ x := fun q => by rw [q, hx3] at he; cases he
  refine ⟨_, rfl, x, C, dx, [], rfl, hx3, T.cl, T.nF, by show 0 < 1000; decide, _, rfl, _, rfl, x, C, dx, _, rfl, upd_same, T.cl, T.nH, by show 1 < 1000; decide, ?_⟩
  refine ⟨by show 0 ≤ sizeLine; decide, fun L hL => ?_⟩
  have Lx : L ≠ x := fun q => by rw [q, upd_same] at hL; cases hL
  have Le : L ≠ e := fun q => by rw [q, upd_ne ex, upd_ne ex] at hL; rw [he] at hL; cases hL
  refine ⟨_, rfl, x, C, dx, _, rfl, by rw [upd_ne (Ne.symm Lx)]; exact upd_same, T.cl, T.nD, sF_two _ _, ?_⟩
  have hL0 : H L = none := by
    rw [upd_ne Lx, upd_ne Lx] at hL
    exact s13.free hL
  have hk5 : ∀ {fs fs2 fs3 : List (Str × V)}, SkH K (upd (upd (upd (upd H4 x (.ins C dx fs)) x (.ins C dx fs2)) L (.lst [])) x (.ins C dx fs3)) kvs2 (cleanS ss) := fun {fs fs2 fs3} => by
    have n1 : NoTup H4 x := .ins hx3
    have n2 : NoTup (upd H4 x (.ins C dx fs)) x := .ins upd_same
    have h4 := skH_upd (o := .ins C dx fs2) n2 (skH_upd (o := .ins C dx fs) n1 hk4)
    have h5 : SkH K (upd (upd (upd H4 x (.ins C dx fs)) x (.ins C dx fs2)) L (.lst [])) kvs2 (cleanS ss) := skH_same h4 (Same.new (by rw [upd_ne Lx, upd_ne Lx]; rw [upd_ne Lx, upd_ne Lx] at hL; exact hL))
    exact skH_upd (.ins (C := C) (dx := dx) (fs := fs2) (by rw [upd_ne (Ne.symm Lx)]; exact upd_same)) h5
  refine k L _ (fun b o hb bx => ?_) hL0 ⟨dx, e, [], upd_same, by rw [upd_ne Lx]; exact upd_same, ⟨oe, kvs2, ?_, hk5⟩, .nil, trivial⟩
  · rw [upd_ne bx, upd_ne (fun q => by rw [q, hL0] at hb; cases hb), upd_ne bx, upd_ne bx]
    exact s13 _ _ hb
  · rw [upd_ne ex, upd_ne (Ne.symm Le), upd_ne ex, upd_ne ex]
    exact he
/-- the binding: the keyword limit, and two more -/
abbrev ks3 (a b : Str) : List Str := ["limit", a, b]
def lim3 {α : Type} (z : α) : List α → α
  | [l, _, _] => l
  | _ => z
def ex3 {α : Type} (a b : Str) : List α → List (Str × α)
  | [_, u, v] => [(a, u), (b, v)]
  | _ => []
theorem ex3_ok {a b : Str} (ne : a ≠ b) (ws : List Value) : ((ex3 a b ws).map (·.1)).Nodup ∧ (ex3 a b ws).length ≤ sizeLine := by
  unfold ex3
  split
  · exact ⟨by simp [ne], by show 2 ≤ sizeLine; decide⟩
  · exact ⟨.nil, by show 0 ≤ sizeLine; decide⟩
theorem rel3 (a b : Str) (zs : List V) (ws : List Value) (r : Vals zs ws) (hl : zs.length = 3) : RelV (lim3 .non zs) (lim3 .none ws) ∧ KV (exK (ex3 a b zs)) (exK (ex3 a b ws)) := by
  match zs, ws, r, hl with
  | [_, _, _], [_, _, _], .cons r1 (.cons r2 (.cons r3 .nil)), _ => exact ⟨r1, .cons ⟨rfl, r2⟩ (.cons ⟨rfl, r3⟩ .nil)⟩
theorem fk_sinit {g : Addr} {kV doc pm cdv ct oc : Value} {an od : Option Addr} {osl : Array (Option Value)} (lk : K.lookup g = some ⟨oc, od, .func (PySem.W.fnOf "__init__" "Session.__init__" (defArgs sSInit) (defBody sSInit) (defScope sSInit) .none kV doc pm an cdv ct), osl⟩) (hcd : PySem.W.codeIn K cdv "Session.__init__" = true)
    (T : SCl K C) (GL : Has P w K mg base "check_limit" 4 ["limit"] [] spLim2) (GS : Has P w K mg base "check_stacks" 4 ["stacks"] [] (spCkS K)) (GH : Has P w K mg base "check_heights" 2 ["stacks", "limit"] [] (spCkH K)) (GW : Has P w K mg base "without_empty" 1 ["stacks"] [] (spWe K)) :
    FnKw P w K mg base CX0 5 g (ks3 "left" "right") (fun x zs H Q E => ∀ d, H d = none → spSI K C [x, lim3 .non zs, .ref d] (upd H d (.dK (exK (ex3 "left" "right" zs)))) Q E) := by
  refine fn_kw (lim3 .none) (lim3 .non) (ex3 "left" "right") (ex3 "left" "right") lk hcd scSI StX.cxUp_none (fun u ws hl A' Ex Q' s _ h => ?_) (fun ws _ => ex3_ok (by decide) ws) (rel3 "left" "right") (body_sinit T GL GS GH GW)
  match ws, hl with
  | [wa, wb, wc], _ => exact h
end
end SE
namespace SE
open PySem PySem.Spec PyProof.Rows L2
section
variable {P : Program} {w : World} {K : PySem.W.Frag} {mg : Str → Option Value} {base : Heap} {C : Addr}
def SesMakes3 (P : Program) (w : World) (K : PySem.W.Frag) (mg : Str → Option Value) (base : Heap) (C : Addr) : Prop := ∃ f, Mk K C f ∧ FnKw P w K mg base CX0 5 f (ks3 "left" "right") (fun x zs H Q E => ∀ d, H d = none → spSI K C [x, lim3 .non zs, .ref d] (upd H d (.dK (exK (ex3 "left" "right" zs)))) Q E)
def LR (xs ys : List Str) : Sk := [("left", xs), ("right", ys)]
def tSes3 (K : PySem.W.Frag) (C : Addr) (tk : TA) : TE := fun σ H Q => tk σ H fun zs H2 => ∃ (l : Lim) (a b : Addr) (xs ys : List Str), zs = [limV l, .ref a, .ref b] ∧ SqT K H2 a (xs.map V.str) ∧ SqT K H2 b (ys.map V.str) ∧ LimOk l ∧ (∀ z ∈ xs, Item z) ∧ (∀ z ∈ ys, Item z) ∧ xs.length ≤ 5000 ∧ ys.length ≤ 5000 ∧ high l xs.length = false ∧ high l ys.length = false ∧
  ∀ o L H', Same H2 H' → H2 o = none → H2 L = none → o ≠ L → SesX K C none [] H' o L (cleanS (LR xs ys)) l [] → Q (.ref o) H'
theorem it_lr : Item "left" ∧ Item "right" := ⟨⟨by decide +kernel, by decide +kernel, by decide +kernel⟩, ⟨by decide +kernel, by decide +kernel, by decide +kernel⟩⟩
theorem pe_ses3 {X : Cx} {p pos p1 p2 p3 : Pos} {e1 e2 e3 : Expr} {tk : TA} (M : SesMakes3 X.prog X.w X.K X.mg X.base C) (hm : X.mg "Session" = some (.ref C)) (hr : Room 6 X.A) (hk : PK X [⟨some "limit", e1, p1⟩, ⟨some "left", e2, p2⟩, ⟨some "right", e3, p3⟩] tk) (hg : Gl X "Session" := by rfl)
    (hks : (backToKw pos (keywordEach [⟨some "limit", e1, p1⟩, ⟨some "left", e2, p2⟩, ⟨some "right", e3, p3⟩] X.env)).filterMap (·.1) = ks3 "left" "right" := by rfl) (hall : (backToKw pos (keywordEach [⟨some "limit", e1, p1⟩, ⟨some "left", e2, p2⟩, ⟨some "right", e3, p3⟩] X.env)).all (·.1.isSome) = true := by rfl)
    (hpl : ((backTo pos (starEach [] X.env)).any (·.1) || (backToKw pos (keywordEach [⟨some "limit", e1, p1⟩, ⟨some "left", e2, p2⟩, ⟨some "right", e3, p3⟩] X.env)).any (·.1.isNone)) = false := by rfl) :
    PE X (.Call (.Name "Session" p) [] [⟨some "limit", e1, p1⟩, ⟨some "left", e2, p2⟩, ⟨some "right", e3, p3⟩] pos) (tSes3 X.K C tk) := by
  obtain ⟨f, M1, F⟩ := M
  refine ⟨fun pins s σ H Q I h => ?_⟩
  refine wpAny_Call_Name_kw (ld_glob I hg hm ?_ (by decide))
  refine PySem.W.callWith_KW0 (h₀ := X.base) I.ok.mod.kin M1.kp hall ?_ hpl
  refine thn (hk.run pos pins s σ H _ I h) fun ws s2 ⟨zs, H2, I2, rz, q2⟩ => ⟨I2.kIn, ?_⟩
  obtain ⟨l, a, b, xs, ys, rfl, ha, hb, hl, ix, iy, lx, ly, hx, hy, k⟩ := q2
  rw [hks]
  refine run_makeKw (ex := fun _ => E0) M1 F hr (fun _ _ _ _ _ _ h => h.elim) I2 rz rfl fun x dx hx0 hdx ne => ?_
  intro d hd
  have s1 : Same H2 (upd H2 dx (.own x)) := Same.new hdx
  have hx1 : upd H2 dx (.own x) x = none := by rw [upd_ne (Ne.symm ne)]; exact hx0
  have s2 := s1.trans (Same.new (o := .ins C dx []) hx1)
  have s3 := s2.trans (Same.new (o := .dK (exK (ex3 "left" "right" [limV l, .ref a, .ref b]))) hd)
  have dxx : d ≠ x := fun q => by rw [q, upd_same] at hd; cases hd
  refine ⟨x, dx, d, _, LR xs ys, 2, 5000, l, rfl, by rw [upd_ne (Ne.symm dxx)]; exact upd_same, upd_same, .cons ⟨rfl, a, rfl, Same.tup s3 ha⟩ (.cons ⟨rfl, b, rfl, Same.tup s3 hb⟩ .nil), ⟨by unfold LR; simp; decide, fun p mp => ?_, Nat.le_refl _⟩, by decide, Nat.le_refl _, hl, fun p mp => ?_, fun L H' hbk hL hs => ⟨rfl, k x L H' (fun c o e => ?_) hx0 ?_ ?_ hs⟩⟩
  · unfold LR at mp
    rcases List.mem_cons.mp mp with rfl | mp
    · exact ⟨it_lr.1, ix, lx⟩
    · rw [List.mem_singleton.mp mp]
      exact ⟨it_lr.2, iy, ly⟩
  · unfold LR at mp
    rcases List.mem_cons.mp mp with rfl | mp
    · exact hx
    · rw [List.mem_singleton.mp mp]
      exact hy
  · have bx : c ≠ x := fun q => by rw [q, hx0] at e; cases e
    exact hbk c o (s3 _ _ e) bx
  · exact s3.free hL
  · exact hs.ne
end
end SE
namespace SE
open PySem PySem.Spec PyProof.Rows L2
/-! ### draws with what they find -/
abbrev PC := Int × Int
def PoolV (H : Hp) (p : Addr) (c : PC) : Prop := H p = some (.lst [.int c.1, .int c.2]) ∧ 0 ≤ c.1 ∧ 0 ≤ c.2 ∧ c.2 < 2147483647
theorem PoolV.pool {H : Hp} {p : Addr} {c : PC} (h : PoolV H p c) : Pool H p := ⟨c.1, c.2, h⟩
theorem PoolV.same {H H' : Hp} {p : Addr} {c : PC} (h : PoolV H p c) (s : Same H H') : PoolV H' p c := ⟨s _ _ h.1, h.2⟩
theorem PoolV.but {H H' : Hp} {p q : Addr} {c : PC} (h : PoolV H p c) (n : p ≠ q) (s : But q H H') : PoolV H' p c := ⟨s _ _ n h.1, h.2⟩
theorem PoolV.upd {H : Hp} {p q : Addr} {c : PC} {o : HO} (h : PoolV H p c) (n : q ≠ p) : PoolV (upd H q o) p c := ⟨by rw [upd_ne (Ne.symm n)]; exact h.1, h.2⟩
def takeM (c : PC) (n : Int) : Int × PC := if c.1 > 0 then (c.1.fmod n, (c.1.fdiv n, c.2)) else ((((c.2 * 48271 + 11) % 2147483647) * ((c.2 * 48271 + 11) % 2147483647) % 2147483629 / 64).fmod n, (c.1, (c.2 * 48271 + 11) % 2147483647))
def cellM (ns : List Int) (i : Int) : Int := (ns[i.toNat]?).getD 0
def poolM (ns : List Int) (i : Int) : PC := ((if cellM ns i < 0 then -cellM ns i else cellM ns i) * (if decide (10 ^ Int.toNat 18 ≤ if cellM ns i < 0 then -cellM ns i else cellM ns i) = true then 1 else 0), (cellM ns i % 2147483629 + 104729 * i * i + 7919 * i + 11) ^ 3 % 2147483647)
section
variable {P : Program} {w : World} {K : PySem.W.Frag} {mg : Str → Option Value} {base : Heap}
def spTakeF : Sp := fun xs H Q _ => ∃ (p : Addr) (n : Int) (c : PC), xs = [.ref p, .int n] ∧ PoolV H p c ∧ 1 ≤ n ∧ n ≤ 100000 ∧
  ∀ (H' : Hp), But p H H' → PoolV H' p (takeM c n).2 → 0 ≤ (takeM c n).1 → (takeM c n).1 < n → Q (.int (takeM c n).1) H'
theorem has_takeF (D : Def K mg "_law_take" sTake) : Has P w K mg base "_law_take" 1 ["_law_pool_here", "_law_many"] [] spTakeF := by
  refine has_of D scTake (fun _ _ _ _ _ _ us hl => match us, hl with | [_, _], _ => rfl) (fun xs H Q E h => ?_) (fun f cv A out s H xs Q E hr h => ?_)
  · obtain ⟨p, n, c, rfl, _⟩ := h
    rfl
  · obtain ⟨p, n, ⟨m, z⟩, rfl, ⟨e, hm, hz0, hz1⟩, h1, h2, k⟩ := h
    dsimp only at e hm hz0 hz1
    have a0 : atI [V.int m, V.int z] 0 = some (.int m) := atI_nat (j := 0) rfl
    refine ⟨_, pss_cons (ps_if (pt_cmpR op_gt (pe_ix ix_list (pv 0) pe_int (fun _ _ => rfl)) pe_int (nomark _))
        (pss_cons (ps_set (i := 2) scTake.nd rfl (.inl rfl) (pe_op op_modN (pe_ix ix_list (pv 0) pe_int (fun _ _ => rfl)) (pv 1)))
        (pss_cons (ps_asg (pe_op op_fdivN (pe_ix ix_list (pv 0) pe_int (fun _ _ => rfl)) (pv 1)) (pg_sub (pv 0) pe_int set_list))
        (pss_one (ps_ret (pv 2))))) pss_nil)
      (pss_cons (ps_asg (pe_op op_mod (pe_op op_add (pe_op op_mul (pe_ix ix_list (pv 0) pe_int (fun _ _ => rfl)) pe_int) pe_int) pe_int) (pg_sub (pv 0) pe_int set_list))
      (pss_one (ps_ret (pe_op op_modN (pe_op op_fdiv (pe_op op_mod (pe_op op_mul (pe_ix ix_list (pv 0) pe_int (fun _ _ => rfl)) (pe_ix ix_list (pv 0) pe_int (fun _ _ => rfl))) pe_int) pe_int) (pv 1))))), ?_⟩
    refine ⟨.ref p, rfl, p, _, 0, _, rfl, rfl, .of e, a0, m, 0, rfl, rfl, _, rfl, ite2 (fun c => ?_) (fun c => ?_)⟩
    · refine ⟨.ref p, rfl, p, _, 0, _, rfl, rfl, .of e, a0, .int n, rfl, m, n, rfl, rfl, (by omega), ?_⟩
      refine ⟨.ref p, rfl, p, _, 0, _, rfl, rfl, .of e, a0, .int n, rfl, m, n, rfl, rfl, ⟨by omega, by omega⟩, .ref p, rfl, p, _, 0, 0, rfl, rfl, e, rfl, ?_⟩
      have c' : m > 0 := of_decide_eq_true c
      have et : takeM (m, z) n = (m.fmod n, (m.fdiv n, z)) := if_pos c'
      rw [et] at k
      refine ⟨_, rfl, k _ .at ⟨upd_same, ?_, hz0, hz1⟩ ?_ ?_⟩
      · show 0 ≤ m.fdiv n
        rw [Int.fdiv_eq_ediv_of_nonneg _ (by omega)]
        exact Int.ediv_nonneg hm (by omega)
      · show 0 ≤ m.fmod n
        rw [Int.fmod_eq_emod_of_nonneg _ (by omega)]
        exact Int.emod_nonneg _ (by omega)
      · show m.fmod n < n
        rw [Int.fmod_eq_emod_of_nonneg _ (by omega)]
        exact Int.emod_lt_of_pos _ (by omega)
    · have a1 : atI [V.int m, V.int z] 1 = some (.int z) := atI_nat (j := 1) rfl
      refine ⟨.ref p, rfl, p, _, 1, _, rfl, rfl, .of e, a1, z, 48271, rfl, rfl, .inl ⟨by omega, by omega⟩, _, 11, rfl, rfl, _, 2147483647, rfl, rfl, (by show (0 : Int) < 2147483647; decide), .ref p, rfl, p, _, 1, 1, rfl, rfl, e, rfl, ?_⟩
      have q0 : 0 ≤ (z * 48271 + 11) % 2147483647 := Int.emod_nonneg _ (by omega)
      have q1 : (z * 48271 + 11) % 2147483647 < 2147483647 := Int.emod_lt_of_pos _ (by omega)
      have e' : (upd H p (.lst ([V.int m, V.int z].set 1 (.int ((z * 48271 + 11) % 2147483647))))) p = some (.lst [V.int m, .int ((z * 48271 + 11) % 2147483647)]) := upd_same
      have a1' : atI [V.int m, V.int ((z * 48271 + 11) % 2147483647)] 1 = some (.int ((z * 48271 + 11) % 2147483647)) := atI_nat (j := 1) rfl
      refine ⟨.ref p, rfl, p, _, 1, _, rfl, rfl, .of e', a1', .ref p, rfl, p, _, 1, _, rfl, rfl, .of e', a1', ((z * 48271 + 11) % 2147483647), ((z * 48271 + 11) % 2147483647), rfl, rfl, .inl ⟨by omega, by omega⟩, _, 2147483629, rfl, rfl, (by show (0 : Int) < 2147483629; decide), _, 64, rfl, rfl, ⟨by decide, by decide⟩, .int n, rfl, _, n, rfl, rfl, (by omega), ?_⟩
      have c' : ¬ m > 0 := fun q => c (decide_eq_true q)
      have et : takeM (m, z) n = ((((z * 48271 + 11) % 2147483647) * ((z * 48271 + 11) % 2147483647) % 2147483629 / 64).fmod n, (m, (z * 48271 + 11) % 2147483647)) := if_neg c'
      rw [et] at k
      refine k _ .at ⟨upd_same, hm, q0, q1⟩ ?_ ?_
      · show 0 ≤ Int.fmod _ n
        rw [Int.fmod_eq_emod_of_nonneg _ (by omega)]
        exact Int.emod_nonneg _ (by omega)
      · show Int.fmod _ n < n
        rw [Int.fmod_eq_emod_of_nonneg _ (by omega)]
        exact Int.emod_lt_of_pos _ (by omega)
def spPoolF (K : PySem.W.Frag) : Sp := fun xs H Q _ => ∃ (a : Addr) (ns : List Int) (i : Int), xs = [.ref a, .int i] ∧ SqL K H a (ns.map V.int) ∧ 0 ≤ i ∧ i ≤ 63 ∧
  ∀ (p : Addr) (H' : Hp), Same H H' → H p = none → PoolV H' p (poolM ns i) → Q (.ref p) H'
theorem has_poolF (D : Def K mg "_law_pool" sPool) (ml : mg "len" = none) (ma : mg "abs" = none) (mi : mg "int" = none) : Has P w K mg base "_law_pool" 1 ["_law_script", "_law_k"] [] (spPoolF K) := by
  refine has_of D scPool (fun _ _ _ _ _ _ us hl => match us, hl with | [_, _], _ => rfl) (fun xs H Q E h => ?_) (fun f cv A out s H xs Q E hr h => ?_)
  · obtain ⟨a, ns, i, rfl, _⟩ := h
    rfl
  · obtain ⟨a, ns, i, rfl, hS, h0, h1, k⟩ := h
    refine ⟨_, pss_cons (ps_set (i := 2) scPool.nd rfl (.inl rfl) pe_int)
      (Evl.pss_cut (ps_if (pt_cmpR op_lt (pv 1) (pe_callB call_len_seq (by rfl) ml PySem.boot_len (pa_cons (pv 0) pa_nil)) (nomark _))
        (pss_one (ps_set (i := 2) scPool.nd rfl (.inl rfl) (pe_ix ix_list (pv 0) (pv 1) (fun _ _ => rfl)))) pss_nil)
      (pss_cons (ps_set (i := 3) scPool.nd rfl (.inl rfl) (pe_callB call_abs (by rfl) ma (by decide +kernel) (pa_cons (pv 2) pa_nil)))
      (pss_cons (ps_set (i := 4) scPool.nd rfl (.inl rfl) (pe_op op_mod (pe_op op_pow (pe_op op_add (pe_op op_add (pe_op op_add (pe_op op_mod (pv 2) pe_int) (pe_op op_mul (pe_op op_mul pe_int (pv 1)) (pv 1))) (pe_op op_mul pe_int (pv 1))) pe_int) pe_int) pe_int))
      (pss_one (ps_ret (pe_lst (pa_cons (pe_op op_mul (pv 3) (pe_callTy call_int1 (by rfl) mi (by decide +kernel) (pa_cons (pe_cmpR op_ge (pv 3) (pe_op op_pow pe_int pe_int) (nomark _)) pa_nil))) (pa_cons (pv 4) pa_nil)))))))), ?_⟩
    refine ⟨fun σ H2 => H2 = H ∧ σ = [some (.ref a), some (.int i), some (.int (cellM ns i)), none, none], ?_, ?_⟩
    · refine ⟨_, rfl, .ref a, rfl, a, _, rfl, .inl hS, i, _, rfl, rfl, _, rfl, ite2 (fun c => ?_) (fun c => ?_)⟩
      · have hi : i < ((ns.map V.int).length : Int) := of_decide_eq_true c
        rw [List.length_map] at hi
        have hj : i.toNat < ns.length := by omega
        refine ⟨.ref a, rfl, .int i, rfl, a, _, i, .int ns[i.toNat], rfl, rfl, hS, at_of (j := i.toNat) (by omega) ?_, rfl, ?_⟩
        · rw [List.getElem?_map, List.getElem?_eq_getElem hj]
          rfl
        · unfold cellM
          rw [List.getElem?_eq_getElem hj]
          rfl
      · have hi : ¬ i < ((ns.map V.int).length : Int) := fun q => c (decide_eq_true q)
        rw [List.length_map] at hi
        refine ⟨rfl, ?_⟩
        unfold cellM
        rw [List.getElem?_eq_none (by omega)]
        rfl
    · rintro σ H2 ⟨rfl, rfl⟩
      unfold poolM at k
      generalize cellM ns i = c at k ⊢
      refine ⟨_, rfl, c, rfl, ?_⟩
      refine ⟨_, rfl, c, 2147483629, rfl, rfl, (by show (0 : Int) < 2147483629; decide), _, rfl, 104729, i, rfl, rfl, .inl ⟨by decide, by decide⟩, _, rfl, _, i, rfl, rfl, .inr ⟨by omega, by omega⟩, _, _, rfl, rfl, _, rfl, 7919, i, rfl, rfl, .inl ⟨by decide, by decide⟩, _, _, rfl, rfl, _, 11, rfl, rfl, _, 3, rfl, rfl, ⟨by decide, by decide, ?_⟩, _, 2147483647, rfl, rfl, (by show (0 : Int) < 2147483647; decide), ?_⟩
      · have b0 : 0 ≤ c % 2147483629 := Int.emod_nonneg _ (by omega)
        have b1 : c % 2147483629 < 2147483629 := Int.emod_lt_of_pos _ (by omega)
        have b2 : 0 ≤ 104729 * i * i := Int.mul_nonneg (by omega) h0
        have b3 : 104729 * i * i ≤ 104729 * 63 * 63 := Int.mul_le_mul (by omega) h1 h0 (by omega)
        omega
      · have t0 : ∀ y : Int, 0 ≤ y ^ 3 % 2147483647 ∧ y ^ 3 % 2147483647 < 2147483647 := fun y => ⟨Int.emod_nonneg _ (by omega), Int.emod_lt_of_pos _ (by omega)⟩
        have u0 : 0 ≤ (if c < 0 then -c else c) := by
          split <;> omega
        refine ⟨_, rfl, _, rfl, 10, 18, rfl, rfl, ⟨by decide, by decide, by decide⟩, _, _, rfl, rfl, .inr ⟨_, rfl, ?_⟩⟩
        have b01 : ∀ b : Bool, (0 : Int) ≤ (if b = true then 1 else 0) ∧ (if b = true then (1 : Int) else 0) ≤ 1 := fun b => by cases b <;> decide
        have g := b01 (decide (10 ^ Int.toNat 18 ≤ if c < 0 then -c else c))
        refine ⟨_, _, rfl, rfl, .inr ⟨by omega, by omega⟩, _, rfl, (by show 2 ≤ sizeLine; decide), fun p hp => k p _ (Same.new hp) hp ⟨upd_same, Int.mul_nonneg u0 g.1, (t0 _).1, (t0 _).2⟩⟩
end
end SE
namespace SE
open PySem PySem.Spec PyProof.Rows L2
theorem merge_has2 (B : Str → Addr → Prop) : ∀ (es : List (Str × Addr)) (acc : List (Key × V)) (M : Str → Prop), (∀ n, M n → ∃ b, B n b ∧ valV acc (Sum.inr n) = some (.ref b)) → (∀ e ∈ es, B e.1 e.2) → ∀ n, (M n ∨ n ∈ es.map (·.1)) → ∃ b, B n b ∧ valV (mergeK acc (es.map fun e => ((Sum.inr e.1 : Key), V.ref e.2))) (Sum.inr n) = some (.ref b)
  | [], acc, M, h, _, n, hn => by
    rcases hn with q | q
    · exact h n q
    · cases q
  | e :: es, acc, M, h, hB, n, hn => by
    refine merge_has2 B es (putK acc (Sum.inr e.1) (.ref e.2)) (fun x => M x ∨ x = e.1) (fun x hx => ?_) (fun x m => hB x (List.mem_cons_of_mem _ m)) n ?_
    · rw [valV_put]
      by_cases c : x = e.1
      · rw [if_pos (by rw [c])]
        rw [c]
        exact ⟨e.2, hB e List.mem_cons_self, rfl⟩
      · rw [if_neg (fun q => c (Sum.inr.inj q))]
        rcases hx with q | q
        · exact h x q
        · exact absurd q c
    · rcases hn with q | q
      · exact .inl (.inl q)
      · rw [List.map_cons] at q
        rcases List.mem_cons.mp q with q | q
        · exact .inl (.inr q)
        · exact .inr q
theorem str_inj : ∀ {xs ys : List Str}, xs.map V.str = ys.map V.str → xs = ys
  | [], [], _ => rfl
  | [], _ :: _, h => by cases h
  | _ :: _, [], h => by cases h
  | x :: xs, y :: ys, h => by
    rw [List.map_cons, List.map_cons] at h
    injection h with h1 h2
    rw [V.str.inj h1, str_inj h2]
/-- the element that a draw names -/
def pk (zs : List Str) (r : Int) : Str := (zs[r.toNat]?).getD ""
theorem pick_strF {zs : List Str} {r : Int} (h0 : 0 ≤ r) (h1 : r < (zs.length : Int)) : pk zs r ∈ zs ∧ atI (zs.map V.str) r = some (.str (pk zs r)) := by
  have hl : r.toNat < zs.length := by omega
  have e : pk zs r = zs[r.toNat] := by
    unfold pk
    rw [List.getElem?_eq_getElem hl]
    rfl
  rw [e]
  exact ⟨List.getElem_mem hl, at_of (j := r.toNat) (by omega) (by rw [List.getElem?_map, List.getElem?_eq_getElem hl]; rfl)⟩
/-! ### what _law_named_well gives, of the draws -/
abbrev WS := PC × List NSt × (Str → List Str)
def updP (pl : Str → List Str) (n : Str) (ws : List Str) : Str → List Str := fun x => if x = n then ws else pl x
def pushW (zs : List Str) (n : Str) (pile : List Str) (c : PC) (st : WS) : WS :=
  ((takeM c (zs.length : Int)).2, st.2.1 ++ [(true, n, pk zs (takeM c (zs.length : Int)).1)], updP st.2.2 n (pile ++ [pk zs (takeM c (zs.length : Int)).1]))
def wellStep (ns zs : List Str) (st : WS) : WS :=
  if st.2.2 (pk ns (takeM st.1 (ns.length : Int)).1) = [] then
    if (takeM (takeM st.1 (ns.length : Int)).2 4).1 = 0 then
      ((takeM (takeM (takeM st.1 (ns.length : Int)).2 4).2 (zs.length : Int)).2, st.2.1 ++ [(false, pk ns (takeM st.1 (ns.length : Int)).1, pk zs (takeM (takeM (takeM st.1 (ns.length : Int)).2 4).2 (zs.length : Int)).1)], st.2.2)
    else pushW zs (pk ns (takeM st.1 (ns.length : Int)).1) (st.2.2 (pk ns (takeM st.1 (ns.length : Int)).1)) (takeM (takeM st.1 (ns.length : Int)).2 4).2 st
  else
    if (takeM (takeM st.1 (ns.length : Int)).2 5).1 < 2 then
      ((takeM (takeM st.1 (ns.length : Int)).2 5).2, st.2.1 ++ [(false, pk ns (takeM st.1 (ns.length : Int)).1, ((st.2.2 (pk ns (takeM st.1 (ns.length : Int)).1)).getLast?).getD "")], updP st.2.2 (pk ns (takeM st.1 (ns.length : Int)).1) (st.2.2 (pk ns (takeM st.1 (ns.length : Int)).1)).dropLast)
    else pushW zs (pk ns (takeM st.1 (ns.length : Int)).1) (st.2.2 (pk ns (takeM st.1 (ns.length : Int)).1)) (takeM (takeM st.1 (ns.length : Int)).2 5).2 st
def wellN (ns zs : List Str) : Nat → PC → WS
  | 0, c => (c, [], fun _ => [])
  | j + 1, c => wellStep ns zs (wellN ns zs j c)
section
variable {ns zs : List Str} {c : PC} {ss : List NSt} {pl : Str → List Str} {t1 : Int × PC} {n : Str} {ws : List Str}
theorem well_pop (e1 : takeM c (ns.length : Int) = t1) (e2 : pk ns t1.1 = n) (e3 : pl n = ws) (h : ws ≠ []) (q : (takeM t1.2 5).1 < 2) : wellStep ns zs (c, ss, pl) = ((takeM t1.2 5).2, ss ++ [(false, n, (ws.getLast?).getD "")], updP pl n ws.dropLast) := by
  subst e1 e2 e3
  unfold wellStep
  dsimp only
  rw [if_neg h, if_pos q]
theorem well_none (e1 : takeM c (ns.length : Int) = t1) (e2 : pk ns t1.1 = n) (e3 : pl n = []) (q : (takeM t1.2 4).1 = 0) : wellStep ns zs (c, ss, pl) = ((takeM (takeM t1.2 4).2 (zs.length : Int)).2, ss ++ [(false, n, pk zs (takeM (takeM t1.2 4).2 (zs.length : Int)).1)], pl) := by
  subst e1 e2
  unfold wellStep
  dsimp only
  rw [if_pos e3, if_pos q]
theorem well_push1 (e1 : takeM c (ns.length : Int) = t1) (e2 : pk ns t1.1 = n) (e3 : pl n = ws) (h : ws = []) (q : ¬ (takeM t1.2 4).1 = 0) : wellStep ns zs (c, ss, pl) = ((takeM (takeM t1.2 4).2 (zs.length : Int)).2, ss ++ [(true, n, pk zs (takeM (takeM t1.2 4).2 (zs.length : Int)).1)], updP pl n (ws ++ [pk zs (takeM (takeM t1.2 4).2 (zs.length : Int)).1])) := by
  subst e1 e2 e3
  unfold wellStep
  dsimp only
  rw [if_pos h, if_neg q]
  rfl
theorem well_push2 (e1 : takeM c (ns.length : Int) = t1) (e2 : pk ns t1.1 = n) (e3 : pl n = ws) (h : ws ≠ []) (q : ¬ (takeM t1.2 5).1 < 2) : wellStep ns zs (c, ss, pl) = ((takeM (takeM t1.2 5).2 (zs.length : Int)).2, ss ++ [(true, n, pk zs (takeM (takeM t1.2 5).2 (zs.length : Int)).1)], updP pl n (ws ++ [pk zs (takeM (takeM t1.2 5).2 (zs.length : Int)).1])) := by
  subst e1 e2 e3
  unfold wellStep
  dsimp only
  rw [if_neg h, if_neg q]
  rfl
end
/-- what holds between two turns, the piles told -/
structure WK (es : List (Str × Addr)) (c : PC) (pl : Str → List Str) (NS : List Str) (H3 : Hp) (p g : Addr) (j : Nat) (us : List V) (ss : List NSt) (Hx : Hp) : Prop where
  w : WI NS H3 p g (es.map (·.2)) j us ss Hx
  c : PoolV Hx p c
  b : ∀ e ∈ es, Hx e.2 = some (.lst ((pl e.1).map V.str))
section
variable {es : List (Str × Addr)} {c c' : PC} {pl : Str → List Str} {NS : List Str} {H3 Hx Hy : Hp} {p g : Addr} {j : Nat} {us : List V} {ss : List NSt}
theorem WK.new (a : WK es c pl NS H3 p g j us ss Hx) (e : Same Hx Hy) : WK es c pl NS H3 p g j us ss Hy := ⟨a.w.new e, a.c.same e, fun x m => e _ _ (a.b x m)⟩
theorem WK.draw (a : WK es c pl NS H3 p g j us ss Hx) (e : But p Hx Hy) (q : PoolV Hy p c') : WK es c' pl NS H3 p g j us ss Hy := ⟨a.w.draw e q.pool, q, fun x m => e _ _ (a.w.bp (List.mem_map.mpr ⟨x, m, rfl⟩)) (a.b x m)⟩
theorem nodup_fst : ∀ {es : List (Str × Addr)} {n : Str} {b b' : Addr}, (es.map (·.1)).Nodup → (n, b) ∈ es → (n, b') ∈ es → b = b'
  | e :: es, n, b, b', h, m, m' => by
    rw [List.map_cons, List.nodup_cons] at h
    rcases List.mem_cons.mp m with q | q
    · rcases List.mem_cons.mp m' with q' | q'
      · rw [← q] at q'
        exact (Prod.mk.inj q').2.symm
      · exact absurd (List.mem_map.mpr ⟨(n, b'), q', by rw [← q]⟩) h.1
    · rcases List.mem_cons.mp m' with q' | q'
      · exact absurd (List.mem_map.mpr ⟨(n, b), q, by rw [← q']⟩) h.1
      · exact nodup_fst h.2 q q'
theorem nodup_snd : ∀ {es : List (Str × Addr)} {n n' : Str} {b : Addr}, (es.map (·.2)).Nodup → (n, b) ∈ es → (n', b) ∈ es → n = n'
  | e :: es, n, n', b, h, m, m' => by
    rw [List.map_cons, List.nodup_cons] at h
    rcases List.mem_cons.mp m with q | q
    · rcases List.mem_cons.mp m' with q' | q'
      · rw [← q] at q'
        exact (Prod.mk.inj q').1.symm
      · exact absurd (List.mem_map.mpr ⟨(n', b), q', by rw [← q]⟩) h.1
    · rcases List.mem_cons.mp m' with q' | q'
      · exact absurd (List.mem_map.mpr ⟨(n, b), q, by rw [← q']⟩) h.1
      · exact nodup_snd h.2 q q'
theorem WK.pile (a : WK es c pl NS H3 p g j us ss Hx) (hN : (es.map (·.1)).Nodup) (hD : (es.map (·.2)).Nodup) {n : Str} {b : Addr} (hb : (n, b) ∈ es) {ws : List Str} (hI : ∀ z ∈ ws, Item z) (hl : ws.length ≤ j + 1) : WK es c (updP pl n ws) NS H3 p g (j + 1) us ss (upd Hx b (.lst (ws.map V.str))) := by
  have hbB : b ∈ es.map (·.2) := List.mem_map.mpr ⟨(n, b), hb, rfl⟩
  refine ⟨a.w.pile hbB hI hl, a.c.upd (a.w.bp hbB), fun e m => ?_⟩
  unfold updP
  by_cases q : e.1 = n
  · have e2 : e.2 = b := nodup_fst hN (n := n) (by rw [← q]; exact m) hb
    rw [if_pos q, e2]
    exact upd_same
  · rw [if_neg q, upd_ne (fun z => q (nodup_snd hD (b := b) (by rw [← z]; exact m) hb))]
    exact a.b e m
theorem WK.up (a : WK es c pl NS H3 p g j us ss Hx) : WK es c pl NS H3 p g (j + 1) us ss Hx := ⟨a.w.up, a.c, a.b⟩
theorem WK.app (a : WK es c pl NS H3 p g j us ss Hx) {t : Addr} {s : NSt} (ht : Hx t = none) (hs : NOk s ∧ s.2.1 ∈ NS) : WK es c pl NS H3 p g j (us ++ [.ref t]) (ss ++ [s]) (upd (upd Hx t (.tup [.str (act s.1), .str s.2.1, .str s.2.2])) g (.lst (us ++ [.ref t]))) :=
  ⟨a.w.app ht hs, (a.c.same (Same.new ht)).upd a.w.gp, fun e m => by
    rw [upd_ne (a.w.bg (List.mem_map.mpr ⟨e, m, rfl⟩))]
    exact Same.new ht _ _ (a.b e m)⟩
end
section
variable {P : Program} {w : World} {K : PySem.W.Frag} {mg : Str → Option Value} {base : Heap}
def spNamedF : Sp := fun xs H Q _ => ∃ (p nl il : Addr) (m : Int) (ns zs : List Str) (c0 : PC), xs = [.ref p, .ref nl, .ref il, .int m] ∧ PoolV H p c0 ∧ nl ≠ p ∧ H nl = some (.lst (ns.map V.str)) ∧ ns ≠ [] ∧ ns.length ≤ 100 ∧ (∀ z ∈ ns, Item z) ∧ ns.Nodup ∧ il ≠ p ∧ H il = some (.lst (zs.map V.str)) ∧ zs ≠ [] ∧ zs.length ≤ 100 ∧ (∀ z ∈ zs, Item z) ∧ 0 ≤ m ∧ m ≤ 100 ∧
  ∀ (t : Addr) (us : List V) (H' : Hp), But p H H' → PoolV H' p (wellN ns zs m.toNat c0).1 → H t = none → t ≠ p → H' t = some (.lst us) → NStH H' us (wellN ns zs m.toNat c0).2.1 → ((wellN ns zs m.toNat c0).2.1.length : Int) ≤ m → (∀ s ∈ (wellN ns zs m.toNat c0).2.1, NOk s ∧ s.2.1 ∈ ns) → Q (.ref t) H'
theorem has_wellF (D : Def K mg "_law_named_well" sLawNamedWell) (GT : Has P w K mg base "_law_take" 1 ["_law_pool_here", "_law_many"] [] spTakeF) (ml : mg "len" = none) (md : mg "dict" = none) (mr : mg "range" = none) : Has P w K mg base "_law_named_well" 2 ["_law_pool_here", "_law_names", "_law_items_here", "_law_many"] [] spNamedF := by
  refine has_of D scNw (fun _ _ _ _ _ _ us hl => match us, hl with | [_, _, _, _], _ => rfl) (fun xs H Q E h => ?_) (fun f cv A out s H xs Q E hr h => ?_)
  · obtain ⟨p, nl, il, m, ns, zs, c0, rfl, _⟩ := h
    rfl
  · obtain ⟨p, nl, il, m, ns, zs, c0, rfl, hpc, np, hn, nne, n1, nI, nnd, lp', hil, zne, z1, zI, m0, m1, k⟩ := h
    have hp := hpc.pool
    have hu := hu_of hr
    have hr1 : Room 1 _ := hr.mono (by decide)
    refine ⟨_, pss_cons (ps_par (i := 4) (j := 5) (by rfl) scNw.nd rfl rfl (by decide) rfl rfl (pa_cons (pe_lst pa_nil) (pa_cons (pe_callTy (call_dictP rfl) (by rfl) md (by decide +kernel) (pa_cons
        (pe_lc (own := [("_law_name_here", 6)]) (g := gName 6) (tt := tYes) (te := tTup (tCons (tVar 6) (tCons (tLst tNil) tNil))) rfl scNw.nd (pi_list (pv 1)) (blkOk_by (own := [("_law_name_here", 6)]) (N := nNw) (sc := defScope sLawNamedWell) (by decide +kernel))
          (fun _ _ _ _ _ => pg_name (i := 6) scNw.nd rfl (.inl rfl)) (fun _ _ _ _ _ => pts_nil) (fun _ _ _ _ _ => pe_tup (pa_cons (pv 6) (pa_cons (pe_lst pa_nil) pa_nil)))) pa_nil)) pa_nil)) (by rfl))
      (pss_cons (ps_for PassesOwn.never rfl (pi_range1 (by rfl) mr (pa_cons (pv 3) pa_nil)) (pg_name (i := 7) scNw.nd rfl (.inl rfl))
        (pss_cons (ps_set (i := 6) scNw.nd rfl (.inl rfl) (pe_ix ix_list (pv 1) (pe_has GT hr1 (pa_cons (pv 0) (pa_cons (pe_callB call_len_seq (by rfl) ml PySem.boot_len (pa_cons (pv 1) pa_nil)) pa_nil))) (fun _ _ => rfl)))
        (pss_cons (ps_set (i := 8) scNw.nd rfl (.inl rfl) (pe_dget hu (pv 5) (pv 6) (fun _ _ => rfl)))
        (pss_one (ps_if (pt_cut (PW.pt (pw_and (pt_cmpR (op_neD hr.units) (pv 8) (pe_lst pa_nil) (nomark _)) (pw_and1 (pt_cmpR op_lt (pe_has GT hr1 (pa_cons (pv 0) (pa_cons pe_int pa_nil))) pe_int (nomark _))))))
          (pss_one (ps_expr (pe_bm PySem.F.plainAttrs_list PySem.F.slot_list_append PySem.F.type_list_append mt_append (pv 4) (pa_cons (pe_tup (pa_cons pe_str (pa_cons (pv 6) (pa_cons (pe_bm0 PySem.F.plainAttrs_list PySem.F.slot_list_pop PySem.F.type_list_pop mt_pop (pv 8)) pa_nil)))) pa_nil))))
          (pss_one (ps_if (pt_cut (PW.pt (pw_and (pt_cmpR (op_eqD hr.units) (pv 8) (pe_lst pa_nil) (nomark _)) (pw_and1 (pt_cmpR op_eq (pe_has GT hr1 (pa_cons (pv 0) (pa_cons pe_int pa_nil))) pe_int (nomark _))))))
            (pss_one (ps_expr (pe_bm PySem.F.plainAttrs_list PySem.F.slot_list_append PySem.F.type_list_append mt_append (pv 4) (pa_cons (pe_tup (pa_cons pe_str (pa_cons (pv 6) (pa_cons (pe_ix ix_list (pv 2) (pe_has GT hr1 (pa_cons (pv 0) (pa_cons (pe_callB call_len_seq (by rfl) ml PySem.boot_len (pa_cons (pv 2) pa_nil)) pa_nil))) (fun _ _ => rfl)) pa_nil)))) pa_nil))))
            (pss_cons (ps_set (i := 9) scNw.nd rfl (.inl rfl) (pe_ix ix_list (pv 2) (pe_has GT hr1 (pa_cons (pv 0) (pa_cons (pe_callB call_len_seq (by rfl) ml PySem.boot_len (pa_cons (pv 2) pa_nil)) pa_nil))) (fun _ _ => rfl)))
            (pss_cons (ps_expr (pe_bm PySem.F.plainAttrs_list PySem.F.slot_list_append PySem.F.type_list_append mt_append (pv 8) (pa_cons (pv 9) pa_nil)))
            (pss_one (ps_expr (pe_bm PySem.F.plainAttrs_list PySem.F.slot_list_append PySem.F.type_list_append mt_append (pv 4) (pa_cons (pe_tup (pa_cons pe_str (pa_cons (pv 6) (pa_cons (pv 9) pa_nil)))) pa_nil)))))))))))))
      (pss_one (ps_ret (pv 4)))), ?_⟩
    refine ⟨(by show 0 ≤ sizeLine; decide), fun g hg => ?_⟩
    have gp : g ≠ p := hp.free hg
    have sg : Same H (upd H g (.lst [])) := Same.new hg
    have hg1 : upd H g (.lst []) g = some (.lst []) := upd_same
    generalize upd H g (.lst []) = H1 at sg hg1
    have hn1 := sg _ _ hn
    refine ⟨_, rfl, nl, rfl, ⟨_, .of hn1⟩, fun LL hLL => lc_list (K := K) (a := nl) (xs := ns.map V.str) (fun j H2 => ∃ (ps : List Addr) (es : List (Str × Addr)), H2 LL = some (.lst (ps.map V.ref)) ∧ Paired (fun (p : Addr) (e : Str × Addr) => (hid [LL] H2) p = some (.tup [.str e.1, .ref e.2])) ps es ∧ es.map (·.1) = ns.take j ∧ (∀ e ∈ es, (hid [LL] H2) e.2 = some (.lst []) ∧ H1 e.2 = none) ∧ (es.map (·.2)).Nodup ∧ Same H1 H2) ⟨[], [], upd_same, .nil, rfl, fun e m => (by cases m), .nil, Same.new hLL⟩ (fun j H2 _ q => ?_) ?_ ?_⟩
    · obtain ⟨_, _, _, _, _, _, _, s2⟩ := q
      exact .of (s2 _ _ hn1)
    · rintro j x H2 hx ⟨ps, es, hL, hP, he, hE, hD2, s2⟩
      rw [List.getElem?_map] at hx
      obtain ⟨n, hj, rfl⟩ : ∃ n, ns[j]? = some n ∧ x = V.str n := by
        cases hq : ns[j]? with
        | none =>
          rw [hq] at hx
          cases hx
        | some n =>
          rw [hq] at hx
          cases hx
          exact ⟨n, rfl, rfl⟩
      have jl := (List.getElem?_eq_some_iff.mp hj).1
      refine ⟨rfl, yes_in ⟨_, rfl, (by show 0 ≤ sizeLine; decide), fun b hb => ⟨(by show 2 ≤ sizeLine; decide), fun T hT => ?_⟩⟩⟩
      have sb : Same H2 (upd H2 b (.lst [])) := Same.new hb
      have sT : Same (upd H2 b (.lst [])) (upd (upd H2 b (.lst [])) T (.tup [.str n, .ref b])) := Same.new hT
      have bL : b ≠ LL := Ne.symm (ne_of_none hL hb)
      have TL : T ≠ LL := Ne.symm (ne_of_none (sb _ _ hL) hT)
      have TL' : b ≠ T := ne_of_none upd_same hT
      have hLx := sT _ _ (sb _ _ hL)
      have sx : Same (hid [LL] H2) (hid [LL] (upd (upd (upd H2 b (.lst [])) T (.tup [.str n, .ref b])) LL (.lst (ps.map V.ref ++ [.ref T])))) := (hid_of (sb.trans sT)).trans (hid_upd (by simp))
      refine ⟨_, hLx, ?_, ps ++ [T], es ++ [(n, b)], ?_, ?_, ?_, fun e m => ?_, ?_, Same.free2 (s2.trans (sb.trans sT)) hLL⟩
      · have l1 := paired_len hP
        have l2 : es.length = (ns.take j).length := by rw [← he, List.length_map]
        rw [List.length_take] at l2
        rw [List.length_map, sizeLine_eq]
        omega
      · rw [upd_same, List.map_append]
        rfl
      · refine Paired.snoc2 (Paired.mapP hP fun _ _ q => sx _ _ q) ?_
        rw [hid_ne (by simpa using TL), upd_ne TL]
        exact upd_same
      · rw [List.map_append, he, List.take_add_one, hj]
        rfl
      · rcases List.mem_append.mp m with q | q
        · exact ⟨sx _ _ (hE e q).1, (hE e q).2⟩
        · rw [List.mem_singleton.mp q]
          refine ⟨?_, s2.free hb⟩
          show hid [LL] _ b = _
          rw [hid_ne (by simpa using bL), upd_ne bL, upd_ne TL']
          exact upd_same
      · rw [List.map_append, List.nodup_append]
        refine ⟨hD2, by simp, fun x mx y my exy => ?_⟩
        rw [List.mem_singleton.mp my] at exy
        obtain ⟨e, me, rfl⟩ := List.mem_map.mp mx
        have z := hid_out _ _ _ _ (hE e me).1
        rw [exy, hb] at z
        cases z
    rintro H2 ⟨ps, es, hL, hP, he, hE, hD2, s2⟩
    rw [List.length_map, List.take_length] at he
    refine ⟨LL, ps, es.map fun e => ((Sum.inr e.1 : Key), V.ref e.2), rfl, .of hL, ?_, fun d hd => ?_⟩
    · clear he hE hL hD2
      induction hP with
      | nil => exact .nil
      | cons h t ih => exact .cons (.of (hid_out _ _ _ _ h)) ih
    refine ⟨_, _, rfl, ?_⟩
    have sd : Same H2 (upd H2 d (.dK (mergeK [] (es.map fun e => ((Sum.inr e.1 : Key), V.ref e.2))))) := Same.new hd
    have val : ∀ n ∈ ns, ∃ b, (n, b) ∈ es ∧ valV (mergeK [] (es.map fun e => ((Sum.inr e.1 : Key), V.ref e.2))) (Sum.inr n) = some (.ref b) := fun n m => merge_has2 (fun n b => (n, b) ∈ es) es [] (fun _ => False) (fun _ q => q.elim) (fun e me => me) n (.inr (by rw [he]; exact m))
    have hd3 : upd H2 d (.dK (mergeK [] (es.map fun e => ((Sum.inr e.1 : Key), V.ref e.2)))) d = some (.dK (mergeK [] (es.map fun e => ((Sum.inr e.1 : Key), V.ref e.2)))) := upd_same
    generalize mergeK [] (es.map fun e => ((Sum.inr e.1 : Key), V.ref e.2)) = kvs at sd val hd3
    have s3 : Same H (upd H2 d (.dK kvs)) := (sg.trans s2).trans sd
    have s13 : Same H1 (upd H2 d (.dK kvs)) := s2.trans sd
    have bs0 : ∀ b ∈ es.map (·.2), upd H2 d (.dK kvs) b = some (.lst []) ∧ H1 b = none := fun b m => by
      obtain ⟨e, me, rfl⟩ := List.mem_map.mp m
      exact ⟨sd _ _ (hid_out _ _ _ _ (hE e me).1), (hE e me).2⟩
    generalize upd H2 d (.dK kvs) = H3 at hd3 s3 s13 bs0
    have hND : (es.map (·.1)).Nodup := by rw [he]; exact nnd
    have old : ∀ {c : Addr} {o : HO}, H1 c = some o → c ∉ es.map (·.2) := fun h m => by
      rw [(bs0 _ m).2] at h
      cases h
    have hp1 : Pool H1 p := hp.same sg
    have hg3 := s13 _ _ hg1
    have gB : g ∉ es.map (·.2) := old hg1
    have pB : p ∉ es.map (·.2) := by
      obtain ⟨_, _, q, _⟩ := hp1.ex
      exact old q
    have nlg : nl ≠ g := ne_of_none hn hg
    have ilg : il ≠ g := ne_of_none hil hg
    have nB : nl ∉ es.map (·.2) := old hn1
    have iB : il ∉ es.map (·.2) := old (sg _ _ hil)
    have dg : d ≠ g := fun e => by rw [e, hg3] at hd3; cases hd3
    have dp : d ≠ p := fun e => by
      obtain ⟨_, _, q, _⟩ := (hp.same s3).ex
      rw [e, q] at hd3
      cases hd3
    have dB : d ∉ es.map (·.2) := fun m => by
      rw [(bs0 _ m).1] at hd3
      cases hd3
    have w0 : WI ns H3 p g (es.map (·.2)) 0 [] [] H3 := ⟨gp, gB, pB, hg3, .nil, hp.same s3, Same.refl _, fun b hb => ⟨[], (bs0 b hb).1, fun z m => (by cases m), Nat.le_refl _⟩, fun s m => by cases m⟩
    have k0 : WK es c0 (fun _ => []) ns H3 p g 0 [] [] H3 := ⟨w0, hpc.same s3, fun e me => (bs0 e.2 (List.mem_map.mpr ⟨e, me, rfl⟩)).1⟩
    refine ⟨_, rfl, m, rfl, by omega, by omega, for_range (lo := 0) (n := m.toNat) (fun j σ Hx => ∃ (c : PC) (pl : Str → List Str) (us : List V) (ss : List NSt) (y6 y7 y8 y9 : Option V), σ = [some (.ref p), some (.ref nl), some (.ref il), some (.int m), some (.ref g), some (.ref d), y6, y7, y8, y9] ∧ WK es c pl ns H3 p g j us ss Hx ∧ wellN ns zs j c0 = (c, ss, pl) ∧ us.length = j) ⟨c0, fun _ => [], [], [], _, _, _, _, rfl, k0, rfl, rfl⟩ ?_ ?_⟩
    · rintro j σ Hx hj ⟨c, pl, us, ss, y6, y7, y8, y9, rfl, wk, hw, lu⟩
      have wi := wk.w
      have lns : 0 < ns.length := List.length_pos_iff.mpr nne
      have lzs : 0 < zs.length := List.length_pos_iff.mpr zne
      refine ⟨_, rfl, _, rfl, _, rfl, nl, _, rfl, .inl (.of (wi.out (s3 _ _ hn) nlg np nB)), p, _, c, rfl, wk.c, ?_, ?_, fun H4 b4 p4 r0 r1 => ?_⟩
      · rw [List.length_map]; omega
      · rw [List.length_map]; omega
      simp only [List.length_map] at p4 r0 r1 ⊢
      generalize et1 : takeM c (ns.length : Int) = t1 at p4 r0 r1 ⊢
      obtain ⟨nm, an⟩ := pick_strF r0 r1
      generalize en : pk ns t1.1 = n at nm an
      have w4 := wk.draw b4 p4
      obtain ⟨b, hb, hv⟩ := val n nm
      have hbB : b ∈ es.map (·.2) := List.mem_map.mpr ⟨(n, b), hb, rfl⟩
      refine ⟨nl, _, t1.1, _, rfl, rfl, .of (w4.w.out (s3 _ _ hn) nlg np nB), an, _, rfl, _, rfl, d, .ref b, rfl, .inl ⟨kvs, Sum.inr n, .inl (w4.w.out hd3 dg dp dB), rfl, hv.symm⟩, ?_⟩
      obtain ⟨ws, hw4, iw, lw⟩ := w4.w.bs b hbB
      have ews : pl n = ws := by
        have q := w4.b (n, b) hb
        rw [hw4] at q
        exact (str_inj (HO.lst.inj (Option.some.inj q))).symm
      have bp := w4.w.bp hbB
      have shw : SeqAt.shaped (.list (ws.map PyData.str)) = true := (nice_list (nice_strs iw)).shaped (by decide)
      clear wi b4 p4 r0 r1 an
      -- one step more
      have app : ∀ {cc : Bool} {z : Str} {Hy : Hp} {us' : List V} {ss' : List NSt} {c' : PC} {pl' : Str → List Str} {y6 y7 y8 y9 : Option V}, WK es c' pl' ns H3 p g (j + 1) us' ss' Hy → us'.length = j → Item z → wellStep ns zs (c, ss, pl) = (c', ss' ++ [(cc, n, z)], pl') → ∀ T, Hy T = none → ∃ (c2 : PC) (pl2 : Str → List Str) (us2 : List V) (ss2 : List NSt) (z6 z7 z8 z9 : Option V), [some (.ref p), some (.ref nl), some (.ref il), some (.int m), some (.ref g), some (.ref d), y6, y7, y8, y9] = [some (V.ref p), some (.ref nl), some (.ref il), some (.int m), some (.ref g), some (.ref d), z6, z7, z8, z9] ∧ WK es c2 pl2 ns H3 p g (j + 1) us2 ss2 (upd (upd Hy T (.tup [.str (act cc), .str n, .str z])) g (.lst (us' ++ [.ref T]))) ∧ wellN ns zs (j + 1) c0 = (c2, ss2, pl2) ∧ us2.length = j + 1 := fun {cc z Hy us' ss' c' pl' y6 y7 y8 y9} w5 l5 iz hs T hT => ⟨c', pl', us' ++ [.ref T], ss' ++ [(cc, n, z)], y6, y7, y8, y9, rfl, w5.app (s := (cc, n, z)) hT ⟨⟨nI n nm, iz⟩, nm⟩, by show wellStep ns zs (wellN ns zs j c0) = _; rw [hw]; exact hs, by rw [List.length_append, l5]; rfl⟩
      refine ⟨fun cc H5 => ∃ c5, WK es c5 pl ns H3 p g j us ss H5 ∧ H5 b = some (.lst (ws.map V.str)) ∧ (cc = decide ((takeM t1.2 5).1 < 2) ∧ ws ≠ [] ∧ c5 = (takeM t1.2 5).2 ∨ cc = false ∧ ws = [] ∧ c5 = t1.2), ?_, ?_⟩
      · refine ⟨_, rfl, (by show 0 ≤ sizeLine; decide), fun M hM => ?_⟩
        have sM : Same H4 (upd H4 M (.lst [])) := Same.new hM
        refine ⟨.list (ws.map .str), .list (([] : List Str).map .str), .lst (.of (sM _ _ hw4)) (dp_strs _), .lst (.of upd_same) .nil, shw, rfl, _, rfl, ?_⟩
        rw [eqv_listS]
        have w5 := w4.new sM
        have h5 := sM _ _ hw4
        generalize upd H4 M (.lst []) = H5 at w5 h5
        cases ws with
        | nil => exact iteF ⟨_, w5, h5, .inr ⟨rfl, rfl, rfl⟩⟩
        | cons z r =>
          refine iteT ⟨_, rfl, p, 5, t1.2, rfl, w5.c, by decide, by decide, fun H6 b6 p6 r0 r1 => ⟨_, _, rfl, rfl, _, rfl, _, w5.draw b6 p6, b6 _ _ bp h5, .inl ⟨rfl, fun q => (by cases q), rfl⟩⟩⟩
      · rintro cc H5 ⟨c5, w5, h5, hcc⟩
        cases cc with
        | true =>
          rcases hcc with ⟨q1, wne, rfl⟩ | ⟨q, _⟩
          rotate_left
          · cases q
          have q2 : (takeM t1.2 5).1 < 2 := of_decide_eq_true q1.symm
          rcases List.eq_nil_or_concat ws with e | ⟨r, z, e⟩
          · exact absurd e wne
          rw [List.concat_eq_append] at e
          subst e
          have iz : Item z := iw z (by simp)
          have h5' : H5 b = some (.lst (r.map V.str ++ [V.str z])) := by
            rw [h5, List.map_append]
            rfl
          have st : wellStep ns zs (c, ss, pl) = ((takeM t1.2 5).2, ss ++ [(false, n, z)], updP pl n r) := by
            rw [well_pop (n := n) (ws := r ++ [z]) et1 en ews wne q2, List.dropLast_concat]
            simp
          refine iteT ⟨.ref g, rfl, .inl ⟨rfl, _, .of w5.w.at_⟩, _, rfl, .ref b, rfl, .inl ⟨rfl, _, .of h5⟩, b, r.map V.str ++ [V.str z], .str z, rfl, rfl, h5', ?_, ?_⟩
          · rw [List.length_append, List.length_singleton, Nat.add_sub_cancel, List.getElem?_append_right (Nat.le_refl _), Nat.sub_self]
            rfl
          · rw [List.dropLast_concat]
            have w6 := w5.pile hND hD2 hb (ws := r) (fun y m => iw y (by simp [m])) (by rw [List.length_append] at lw; omega)
            refine ⟨(by show 3 ≤ sizeLine; decide), fun T hT => ⟨g, us, _, rfl, rfl, ?_, by rw [lu, sizeLine_eq]; omega, app (cc := false) w6 lu iz st T hT⟩⟩
            rw [upd_ne (ne_of_none w6.w.at_ hT)]
            exact w6.w.at_
        | false =>
          refine iteF ?_
          refine ⟨fun cc H6 => ∃ c6, WK es c6 pl ns H3 p g j us ss H6 ∧ H6 b = some (.lst (ws.map V.str)) ∧ (ws = [] ∧ cc = decide (V.int (takeM t1.2 4).1 = V.int 0) ∧ c6 = (takeM t1.2 4).2 ∨ ws ≠ [] ∧ ¬ (takeM t1.2 5).1 < 2 ∧ cc = false ∧ c6 = (takeM t1.2 5).2), ?_, ?_⟩
          · refine ⟨_, rfl, (by show 0 ≤ sizeLine; decide), fun M hM => ?_⟩
            have sM : Same H5 (upd H5 M (.lst [])) := Same.new hM
            refine ⟨.list (ws.map .str), .list (([] : List Str).map .str), .lst (.of (sM _ _ h5)) (dp_strs _), .lst (.of upd_same) .nil, shw, rfl, _, rfl, ?_⟩
            rw [eqv_listS]
            have w6 := w5.new sM
            have h6 := sM _ _ h5
            generalize upd H5 M (.lst []) = H6 at w6 h6
            cases ws with
            | cons z r =>
              rcases hcc with ⟨q1, _, rfl⟩ | ⟨_, q, _⟩
              · exact iteF ⟨_, w6, h6, .inr ⟨fun q => (by cases q), of_decide_eq_false q1.symm, rfl, rfl⟩⟩
              · cases q
            | nil =>
              rcases hcc with ⟨_, q, _⟩ | ⟨_, _, rfl⟩
              · exact absurd rfl q
              · exact iteT ⟨_, rfl, p, 4, t1.2, rfl, w6.c, by decide, by decide, fun H7 b7 p7 r0 r1 => ⟨rfl, _, rfl, _, w6.draw b7 p7, b7 _ _ bp h6, .inl ⟨rfl, rfl, rfl⟩⟩⟩
          · rintro cc H6 ⟨c6, w6, h6, hcc6⟩
            have hi6 := w6.w.out (s3 _ _ hil) ilg lp' iB
            cases cc with
            | true =>
              rcases hcc6 with ⟨wn, q1, rfl⟩ | ⟨_, _, q, _⟩
              rotate_left
              · cases q
              have q2 : (takeM t1.2 4).1 = 0 := V.int.inj (of_decide_eq_true q1.symm)
              refine iteT ⟨.ref g, rfl, .inl ⟨rfl, _, .of w6.w.at_⟩, _, rfl, _, rfl, _, rfl, _, rfl, il, _, rfl, .inl (.of hi6), p, _, (takeM t1.2 4).2, rfl, w6.c, ?_, ?_, fun H7 b7 p7 r0 r1 => ?_⟩
              · rw [List.length_map]; omega
              · rw [List.length_map]; omega
              simp only [List.length_map] at p7 r0 r1 ⊢
              obtain ⟨zm, az⟩ := pick_strF r0 r1
              have w7 := w6.draw b7 p7
              refine ⟨il, _, _, _, rfl, rfl, .of (b7 _ _ lp' hi6), az, (by show 3 ≤ sizeLine; decide), fun T hT => ⟨g, us, _, rfl, rfl, ?_, by rw [lu, sizeLine_eq]; omega, app (cc := false) w7.up lu (zI _ zm) (well_none et1 en (ews.trans wn) q2) T hT⟩⟩
              rw [upd_ne (ne_of_none w7.w.at_ hT)]
              exact w7.w.at_
            | false =>
              refine iteF ⟨_, rfl, _, rfl, _, rfl, il, _, rfl, .inl (.of hi6), p, _, c6, rfl, w6.c, ?_, ?_, fun H7 b7 p7 r0 r1 => ?_⟩
              · rw [List.length_map]; omega
              · rw [List.length_map]; omega
              simp only [List.length_map] at p7 r0 r1 ⊢
              obtain ⟨zm, az⟩ := pick_strF r0 r1
              have w7 := w6.draw b7 p7
              have h7 := b7 _ _ bp h6
              have st : wellStep ns zs (c, ss, pl) = ((takeM c6 (zs.length : Int)).2, ss ++ [(true, n, pk zs (takeM c6 (zs.length : Int)).1)], updP pl n (ws ++ [pk zs (takeM c6 (zs.length : Int)).1])) := by
                rcases hcc6 with ⟨wn, q1, rfl⟩ | ⟨wn, q1, _, rfl⟩
                · exact well_push1 et1 en ews wn (fun q => by rw [q] at q1; exact absurd q1 (by decide))
                · exact well_push2 et1 en ews wn q1
              refine ⟨il, _, _, _, rfl, rfl, .of (b7 _ _ lp' hi6), az, .ref b, rfl, .inl ⟨rfl, _, .of h7⟩, _, rfl, b, _, _, rfl, rfl, h7, by rw [List.length_map, sizeLine_eq]; omega, ?_⟩
              have w8 := w7.pile hND hD2 hb (ws := ws ++ [pk zs (takeM c6 (zs.length : Int)).1]) (fun y m => by
                rcases List.mem_append.mp m with q | q
                · exact iw y q
                · rw [List.mem_singleton.mp q]
                  exact zI _ zm) (by rw [List.length_append]; simp only [List.length_singleton]; omega)
              rw [List.map_append] at w8
              refine ⟨.ref g, rfl, .inl ⟨rfl, _, .of w8.w.at_⟩, _, rfl, _, rfl, (by show 3 ≤ sizeLine; decide), fun T hT => ⟨g, us, _, rfl, rfl, ?_, by rw [lu, sizeLine_eq]; omega, app (cc := true) w8 lu (zI _ zm) st T hT⟩⟩
              rw [upd_ne (ne_of_none w8.w.at_ hT)]
              exact w8.w.at_
    · rintro σ Hx ⟨c, pl, us, ss, y6, y7, y8, y9, rfl, wk, hw, lu⟩
      have wi := wk.w
      have ls := wi.len
      refine ⟨_, rfl, k g us Hx (fun c o cp hc => ?_) (by rw [hw]; exact wk.c) hg gp wi.at_ (by rw [hw]; exact nsth_same wi.n (hid_out _ _)) (by rw [hw]; dsimp only; omega) (by rw [hw]; exact wi.ok)⟩
      exact wi.out (s3 _ _ hc) (ne_of_none hc hg) cp (old (sg _ _ hc))
end
end SE
namespace SE
open PySem PySem.Spec PyProof.Rows L2
section
variable {K : PySem.W.Frag} {H : Hp} {q t : Addr} {zs : List Str} {x : Str} {Q : VK}
theorem slA_take1 (h : SqT K H q (zs.map V.str)) (k : ∀ (r : Addr) (H' : Hp), Same H H' → SqT K H' r ((zs.take 1).map V.str) → Q (.ref r) H') : rSlA K (.ref q) none (some 1) H Q := by
  have e1 : HT.sIx zs.length zs.length (some 1) = min 1 zs.length := HT.sIx_nat zs.length zs.length 1
  have c1 : cutV (zs.map V.str) none (some 1) = (zs.take 1).map V.str := by
    rw [cut_map]
    show ((zs.drop 0).take (HT.sIx zs.length zs.length (some 1) - 0)).map V.str = _
    rw [e1, List.drop_zero, Nat.sub_zero]
    congr 1
    cases zs with
    | nil => rfl
    | cons z r => rw [show min 1 (z :: r).length = 1 by rw [List.length_cons]; omega]
  refine ⟨q, _, rfl, h, fun w => ?_, fun w p hp => ?_⟩
  · have w2 := w.2
    have hk : (HT.sIx (zs.map V.str).length (zs.map V.str).length (some 1)) = min 1 (zs.map V.str).length := HT.sIx_nat _ _ 1
    rw [hk, List.length_map] at w2
    have t1 : zs.take 1 = zs := List.take_of_length_le (by omega)
    exact k q H (Same.refl H) (by rw [t1]; exact h)
  · exact k p _ (Same.new hp) (.of (by rw [upd_same, c1]))
theorem slA_drop1 (h : SqT K H q (zs.map V.str)) (k : ∀ (r : Addr) (H' : Hp), Same H H' → SqT K H' r ((zs.drop 1).map V.str) → Q (.ref r) H') : rSlA K (.ref q) (some 1) none H Q := by
  have c2 : cutV (zs.map V.str) (some 1) none = (zs.drop 1).map V.str := by
    rw [cut_map]
    have e2 : HT.sIx zs.length 0 (some 1) = min 1 zs.length := HT.sIx_nat zs.length 0 1
    rw [e2]
    show ((zs.drop (min 1 zs.length)).take (zs.length - min 1 zs.length)).map V.str = _
    cases zs with
    | nil => rfl
    | cons z r =>
      rw [show min 1 (z :: r).length = 1 by rw [List.length_cons]; omega]
      show ((r.take ((z :: r).length - 1))).map V.str = r.map V.str
      rw [List.length_cons, Nat.add_sub_cancel, List.take_length]
  refine ⟨q, _, rfl, h, fun w => ?_, fun w p hp => ?_⟩
  · have hk : (HT.sIx (zs.map V.str).length 0 (some 1)) = min 1 (zs.map V.str).length := HT.sIx_nat _ 0 1
    have w1 := w.1
    rw [hk, List.length_map] at w1
    have z1 : zs = [] := List.eq_nil_of_length_eq_zero (by omega)
    subst z1
    exact k q H (Same.refl H) h
  · exact k p _ (Same.new hp) (.of (by rw [upd_same, c2]))
theorem catA1 (ht : SqT K H t [.str x]) (hq : SqT K H q (zs.map V.str)) (hl : zs.length ≤ 5000) (k : ∀ (r : Addr) (H' : Hp), Same H H' → SqT K H' r ((x :: zs).map V.str) → Q (.ref r) H') : rCatA K (.ref t) (.ref q) H Q := by
  refine ⟨t, q, [.str x], zs.map V.str, rfl, rfl, ht, hq, ?_, fun e => (by cases e), fun _ e => ?_, fun _ e p hp => ?_⟩
  · rw [List.length_map]
    exact Nat.le_trans (show 1 + zs.length ≤ 5001 by omega) (by decide)
  · have e0 : zs = [] := List.map_eq_nil_iff.mp e
    subst e0
    exact k t H (Same.refl H) ht
  · exact k p _ (Same.new hp) (.of upd_same)
/-- two tuples of items, compared -/
theorem eq_tups {r a : Addr} {xs ys : List Str} (hx : SqT K H r (xs.map V.str)) (hy : SqT K H a (ys.map V.str)) (ix : ∀ z ∈ xs, Item z) (iy : ∀ z ∈ ys, Item z) :
    ∃ d e, Dp K H (.ref r) d ∧ Dp K H (.ref a) e ∧ SeqAt.shaped d = true ∧ SeqAt.shaped e = true ∧ PyData.eqv d e = decide (xs = ys) :=
  ⟨.tuple (xs.map .str), .tuple (ys.map .str), .tup hx (dp_strs _), .tup hy (dp_strs ys), (nice_tuple (nice_strs ix)).shaped (by decide), (nice_tuple (nice_strs iy)).shaped (by decide), eqv_tupS _ _⟩
end
theorem stepL_push {l : Lim} {z : Str} {st : List Str} : stepL l (true, z) st = if high l (st.length + 1) = true then none else some (z :: st) := rfl
theorem stepL_pop {l : Lim} {z : Str} {st : List Str} : stepL l (false, z) st = if st.take 1 = [z] then some (st.drop 1) else none := stepM_pop z st
theorem high_lt {n h : Nat} : high (some n) (h + 1) = !decide ((h : Int) < (n : Int)) := by
  show decide (n < h + 1) = _
  by_cases c : n < h + 1
  · rw [decide_eq_true c, decide_eq_false (by omega)]
    rfl
  · rw [decide_eq_false c, decide_eq_true (by omega)]
    rfl
end SE
namespace SE
open PySem PySem.Spec PyProof.Rows L2
theorem act_pop (b : Bool) : decide (V.str (act b) = V.str "pop") = !b := by
  cases b
  · exact decide_eq_true rfl
  · exact decide_eq_false (fun e => by
      have h := V.str.inj e
      exact absurd h (by decide +kernel))
section
variable {P : Program} {w : World} {K : PySem.W.Frag} {mg : Str → Option Value} {base : Heap}
/-! ### _law_performed -/
def spLP (K : PySem.W.Frag) : Sp := fun vs H Q _ => ∃ (a d : Addr) (us : List V) (ns : List NSt) (hs : Sk) (m b : Nat) (l : Lim), vs = [.ref a, .ref d, limV l] ∧ SqL K H a us ∧ us.length ≤ 1000 ∧ NSV K H us ns ∧ (∀ s ∈ ns, NOk s) ∧ SkF K H d hs ∧ SkOk hs m b ∧ m ≤ 90000 ∧ b ≤ 4000 ∧
  (∀ hs2, perfS l ns hs = some hs2 → SkOk hs2 (m + ns.length) (b + ns.length) → ∀ e kvs H', Same H H' → H e = none → H' e = some (.dK kvs) → SkH K H' kvs hs2 → Q (.ref e) H') ∧
  (∀ (j : Nat) (s : NSt) (sj : Sk), ns[j]? = some s → perfS l (ns.take j) hs = some sj → perfS l (ns.take (j + 1)) hs = none → ∀ H', Same H H' → Q (.int j) H')
abbrev nLP : List Str := ["_law_steps_here", "_law_heaps", "_law_bound", "_law_found", "_law_at", "_law_action", "_law_name_here", "_law_item", "_law_pile"]
theorem scLP : FnScope nLP ["_law_steps_here", "_law_heaps", "_law_bound"] (defScope sLawPerformed) := ⟨rfl, rfl, rfl, by decide +kernel, rfl, by decide +kernel, by decide +kernel⟩
theorem has_lp (D : Def K mg "_law_performed" sLawPerformed) (B : Blt mg) (md : mg "dict" = none) : Has P w K mg base "_law_performed" 1 ["_law_steps_here", "_law_heaps", "_law_bound"] [] (spLP K) := by
  refine has_of D scLP (fun _ _ _ _ _ _ us hl => match us, hl with | [_, _, _], _ => rfl) (fun xs H Q E h => ?_) (fun f cv A out s H xs Q E hr h => ?_)
  · obtain ⟨a, d, us, ns, hs, m, b, l, rfl, _⟩ := h
    rfl
  · obtain ⟨a, d, us, ns, ss, m, b, l, rfl, hS, hl, hN, hI, ⟨oF, kvs, h3, h3'⟩, ok, hm, hb, k, kE⟩ := h
    have hu := hu_of hr
    refine ⟨_, pss_cons (ps_set (i := 3) scLP.nd rfl (.inl rfl) (pe_callTy call_dictD (by rfl) md (by decide +kernel) (pa_cons (pv 1) pa_nil)))
      (pss_cons (ps_for PassesOwn.never rfl (pi_enum (by rfl) B.enu (pa_cons (pv 0) pa_nil)) (pg_tup (by rfl) (pgs_cons (pg_name (i := 4) scLP.nd rfl (.inl rfl)) (pgs_cons (pg_tup (by rfl) (pgs_cons (pg_name (i := 5) scLP.nd rfl (.inl rfl)) (pgs_cons (pg_name (i := 6) scLP.nd rfl (.inl rfl)) (pgs_cons (pg_name (i := 7) scLP.nd rfl (.inl rfl)) pgs_nil)))) pgs_nil)))
        (pss_cons (ps_set (i := 8) scLP.nd rfl (.inl rfl) (pe_dget2 hu (pv 3) (pv 6) (pe_tup pa_nil) ⟨rfl, rfl, rfl, rfl⟩))
        (pss_one (ps_if (pt_cut (PW.pt (pw_and (pt_cmpR op_eq (pv 5) pe_str (nomark _)) (pw_and1 (PW.pt (pw_or (pt_cmpR op_isN (pv 2) pe_non (nomark _)) (pw_or1 (pt_cmpR op_lt (pe_callB call_len_seq (by rfl) B.len PySem.boot_len (pa_cons (pv 8) pa_nil)) (pv 2) (nomark _)))))))))
          (pss_one (ps_dput hu (pv 3) (pv 6) (pe_op op_catA (pe_tup (pa_cons (pv 7) pa_nil)) (pv 8)) rfl))
          (pss_one (ps_if (pt_cut (PW.pt (pw_and (pt_cmpR op_eq (pv 5) pe_str (nomark _)) (pw_and1 (pt_cmpR (op_eqD hr.units) (pe_slice sl_tupA (pv 8) po_none (po_some pe_int)) (pe_tup (pa_cons (pv 7) pa_nil)) (nomark _))))))
            (pss_one (ps_dput hu (pv 3) (pv 6) (pe_slice sl_tupA (pv 8) (po_some pe_int) po_none) rfl))
            (pss_one (ps_ret (pv 4)))))))))
      (pss_one (ps_ret (pv 3)))), ?_⟩
    refine ⟨_, rfl, d, kvs, rfl, .inr ⟨oF, h3⟩, fun D hD => ?_⟩
    have s2 : Same H (upd H D (.dK kvs)) := Same.new hD
    have hDD : upd H D (.dK kvs) D = some (.dK kvs) := upd_same
    have sk0 : SkH K (upd H D (.dK kvs)) kvs ss := skH_same h3' s2
    generalize upd H D (.dK kvs) = H2 at s2 hDD sk0 ⊢
    have ln : us.length = ns.length := Paired.length hN
    refine ⟨_, rfl, a, us, rfl, Same.seq s2 hS, for_it (walk_enum (K := K) (a := a) (xs := us)) (fun j σ H3 => ∃ (kvs2 : List (Key × V)) (sj : Sk) (y3 y4 y5 y6 y7 : Option V), σ = [some (.ref a), some (.ref d), some (limV l), some (.ref D), y3, y4, y5, y6, y7] ∧ H3 D = some (.dK kvs2) ∧ SkH K H3 kvs2 sj ∧ SkOk sj (m + j) (b + j) ∧ perfS l (ns.take j) ss = some sj ∧ Same H H3) ⟨kvs, ss, _, _, _, _, _, rfl, hDD, sk0, ok, rfl, s2⟩ (fun j σ H3 _ q => by obtain ⟨_, _, _, _, _, _, _, _, _, _, _, _, s3⟩ := q; exact Same.seq s3 hS) ?_ ?_⟩
    · rintro j xx σ H3 H4 hj ⟨kvs2, sj, y3, y4, y5, y6, y7, rfl, hD3, sk3, ok3, hp3, s3⟩ ⟨T0, pk, y, rfl, nT, rfl, hk, hy⟩
      obtain ⟨st, hst, t, ey, hT⟩ := paired_at hN hy
      subst ey
      have s4 : Same H3 (upd H3 T0 (.tup [pk, .ref t])) := Same.new nT
      have j1 : j < us.length := (List.getElem?_eq_some_iff.mp hy).1
      refine ⟨T0, _, rfl, .of upd_same, rfl, _, _, rfl, _, _, rfl, ⟨t, _, rfl, Same.tup (s3.trans s4) hT, rfl, _, _, rfl, _, _, rfl, _, _, rfl, rfl, ?_⟩⟩
      obtain ⟨c, n, z⟩ := st
      have nok := hI (c, n, z) (List.mem_of_getElem? hst)
      have s34 := s3.trans s4
      have hD4 := s4 _ _ hD3
      have sk4 := skH_same sk3 s4
      generalize upd H3 T0 (.tup [pk, .ref t]) = H4 at s34 hD4 sk4 ⊢
      refine ⟨rfl, ?_⟩
      refine ⟨_, rfl, D, rfl, .inl ⟨_, .inl hD4⟩, _, rfl, by show 0 ≤ sizeLine; decide, fun U hU => ?_⟩
      have sU : Same H4 (upd H4 U (.tup [])) := Same.new hU
      have hUU : upd H4 U (.tup []) U = some (.tup []) := upd_same
      generalize upd H4 U (.tup []) = H6 at sU hUU ⊢
      have hD6 := sU _ _ hD4
      have sk6 := skH_same sk4 sU
      refine ⟨_, DGet.k (k := Sum.inr n) hD6, ?_⟩
      obtain ⟨q, eq, hq⟩ : ∃ q, (valV kvs2 (Sum.inr n)).getD (V.ref U) = V.ref q ∧ SqT K H6 q ((getS sj n).map V.str) := by
        unfold getS
        rcases skH_val (n := n) sk6 with ⟨z1, z2⟩ | ⟨p, t2, z1, z2, z3⟩
        · rw [z1, z2]
          exact ⟨U, rfl, .of hUU⟩
        · rw [z1, z2]
          exact ⟨t2, rfl, z3⟩
      rw [eq]
      obtain ⟨g1, g2⟩ := ok3.get n
      have s06 := s34.trans sU
      have tk1 : perfS l (ns.take (j + 1)) ss = match stepL l (c, z) (getS sj n) with
          | none => none
          | some st => some (putS sj n st) := by
        rw [List.take_add_one, hst, perfS_app, hp3]
        show perfS l [(c, n, z)] sj = _
        unfold perfS
        cases stepL l (c, z) (getS sj n) <;> rfl
      have put : ∀ {st2 : List Str} {r : Addr} {H7 : Hp}, stepL l (c, z) (getS sj n) = some st2 → Same H6 H7 → SqT K H7 r (st2.map V.str) → H7 D = some (.dK kvs2) → kvs2.length < sizeLine ∧ ∃ (kvs3 : List (Key × V)) (sj3 : Sk), (upd H7 D (.dK (putK kvs2 (Sum.inr n) (.ref r)))) D = some (.dK kvs3) ∧ SkH K (upd H7 D (.dK (putK kvs2 (Sum.inr n) (.ref r)))) kvs3 sj3 ∧ SkOk sj3 (m + (j + 1)) (b + (j + 1)) ∧ perfS l (ns.take (j + 1)) ss = some sj3 ∧ Same H (upd H7 D (.dK (putK kvs2 (Sum.inr n) (.ref r)))) := by
        intro st2 r H7 est s7 hr7 hD7
        have sk7 := skH_same sk6 s7
        rw [est] at tk1
        refine ⟨?_, putK kvs2 (Sum.inr n) (.ref r), putS sj n st2, upd_same, skH_upd (.dK hD7) (skH_put sk7 hr7), ?_, tk1, Same.free2 (s06.trans s7) hD⟩
        · have l1 := paired_len sk7
          have := ok3.len
          rw [sizeLine_eq]
          omega
        · have q1 : st2.length ≤ b + (j + 1) ∧ ∀ y ∈ st2, Item y := by
            have e := stepL_sub est
            cases c with
            | true =>
              cases e
              refine ⟨by rw [List.length_cons]; omega, fun y my => ?_⟩
              rcases List.mem_cons.mp my with r | r
              · rw [r]; exact nok.i
              · exact g1 y r
            | false =>
              rw [stepM_pop] at e
              split at e
              · cases e
                exact ⟨by rw [List.length_drop]; omega, fun y my => g1 y (List.mem_of_mem_drop my)⟩
              · cases e
          exact (putS_ok ok3 nok.n q1.2 q1.1 (by omega)).mono (by omega) (Nat.le_refl _)
      refine ⟨fun cc H7 => H7 = H6 ∧ cc = (c && !high l ((getS sj n).length + 1)), ?_, ?_⟩
      · refine ⟨_, rfl, rfl, _, rfl, ?_⟩
        show if decide (V.str (act c) = V.str "push") = true then _ else _
        rw [act_push]
        cases c with
        | false => exact iteF ⟨rfl, rfl⟩
        | true =>
          refine iteT ⟨_, rfl, rfl, _, rfl, ?_⟩
          cases l with
          | none => exact iteT ⟨rfl, rfl⟩
          | some n0 =>
            refine iteF ⟨_, rfl, q, _, rfl, .inr hq, _, rfl, _, _, rfl, rfl, _, rfl, rfl, ?_⟩
            rw [high_lt, List.length_map, Bool.not_not]
            rfl
      · rintro cc H7 ⟨eH, ec⟩
        rw [eH]
        cases cc with
        | true =>
          obtain ⟨ec1, ec2⟩ := Bool.and_eq_true_iff.mp ec.symm
          subst ec1
          have hh : high l ((getS sj n).length + 1) = false := by simpa using ec2
          refine iteT ⟨_, rfl, by show 1 ≤ sizeLine; decide, fun a1 ha1 => ⟨_, rfl, ?_⟩⟩
          have s7 : Same H6 (upd H6 a1 (.tup [.str z])) := Same.new ha1
          refine catA1 (x := z) (zs := getS sj n) (.of upd_same) (Same.tup s7 hq) (by omega) fun r H8 s8 hr8 => ?_
          have s78 := s7.trans s8
          obtain ⟨q1, kvs3, sj3, q2⟩ := put (by rw [stepL_push, hh]; rfl) s78 hr8 (s78 _ _ hD6)
          exact ⟨_, rfl, _, rfl, D, _, rfl, .inl ⟨kvs2, Sum.inr n, s78 _ _ hD6, rfl, q1, rfl⟩, kvs3, sj3, _, _, _, _, _, rfl, q2⟩
        | false =>
          refine iteF ⟨fun cc H8 => Same H6 H8 ∧ cc = (!c && decide ((getS sj n).take 1 = [z])), ?_, ?_⟩
          · refine ⟨_, rfl, rfl, _, rfl, ?_⟩
            show if decide (V.str (act c) = V.str "pop") = true then _ else _
            rw [act_pop]
            cases c with
            | true => exact iteF ⟨Same.refl _, rfl⟩
            | false =>
              refine iteT ⟨_, rfl, 1, rfl, slA_take1 hq fun r H8 s8 hr8 => ⟨_, rfl, by show 1 ≤ sizeLine; decide, fun a1 ha1 => ?_⟩⟩
              have s9 : Same H8 (upd H8 a1 (.tup [.str z])) := Same.new ha1
              obtain ⟨d1, e1, z1, z2, z3, z4, z5⟩ := eq_tups (xs := (getS sj n).take 1) (ys := [z]) (Same.tup s9 hr8) (.of upd_same) (fun y my => g1 y (List.mem_of_mem_take my)) (fun y my => by rw [List.mem_singleton.mp my]; exact nok.i)
              exact ⟨d1, e1, z1, z2, z3, z4, _, rfl, s8.trans s9, z5⟩
          · rintro cc H8 ⟨s8, ec8⟩
            cases cc with
            | true =>
              obtain ⟨ec1, ec2⟩ := Bool.and_eq_true_iff.mp ec8.symm
              have ec1 : c = false := by simpa using ec1
              subst ec1
              have hh : (getS sj n).take 1 = [z] := of_decide_eq_true ec2
              refine iteT ⟨_, rfl, 1, rfl, ?_⟩
              dsimp only [tNoPart]
              refine slA_drop1 (Same.tup s8 hq) fun r H9 s9 hr9 => ?_
              have s89 := s8.trans s9
              obtain ⟨q1, kvs3, sj3, q2⟩ := put (by rw [stepL_pop, if_pos hh]) s89 hr9 (s89 _ _ hD6)
              exact ⟨_, rfl, _, rfl, D, _, rfl, .inl ⟨kvs2, Sum.inr n, s89 _ _ hD6, rfl, q1, rfl⟩, kvs3, sj3, _, _, _, _, _, rfl, q2⟩
            | false =>
              have bad : stepL l (c, z) (getS sj n) = none := by
                cases c with
                | true =>
                  rw [stepL_push]
                  have : high l ((getS sj n).length + 1) = true := by simpa using ec
                  rw [if_pos this]
                | false =>
                  rw [stepL_pop]
                  have : ¬ (getS sj n).take 1 = [z] := by simpa using ec8
                  rw [if_neg this]
              rw [bad] at tk1
              cases Option.some.inj hk
              exact iteF ⟨_, rfl, kE j (c, n, z) sj hst hp3 tk1 _ (s06.trans s8)⟩
    · rintro σ H3 ⟨kvs2, sj, y3, y4, y5, y6, y7, rfl, hD3, sk3, ok3, hp3, s3⟩
      rw [ln, List.take_length] at hp3
      rw [ln] at ok3
      exact ⟨_, rfl, k sj hp3 ok3 D kvs2 H3 s3 hD hD3 sk3⟩
end
end SE
namespace SE
open PySem PySem.Spec PyProof.Rows L2
/-! ### what an effect makes of a stack -/
def replM (o : Eff) (zs : List Str) : Option (List Str) := match o with
  | none => none
  | some (xs, ys, _) => if zs.take xs.length = xs then some (ys ++ zs.drop xs.length) else none
theorem take_snoc_iff (zs x : List Str) (z : Str) : zs.take (x ++ [z]).length = x ++ [z] ↔ zs.take x.length = x ∧ (zs.drop x.length).head? = some z := by
  rw [List.length_append, List.length_singleton, List.take_add_one]
  constructor
  · intro h
    have hl := congrArg List.length h
    have h1 : zs.take x.length = x := by
      refine List.append_inj_left h ?_
      simp only [List.length_append, List.length_take, List.length_singleton] at hl ⊢
      have : (zs[x.length]?.toList).length ≤ 1 := by cases zs[x.length]? <;> simp
      omega
    refine ⟨h1, ?_⟩
    rw [h1] at h
    have := List.append_cancel_left h
    rw [List.head?_drop]
    cases e : zs[x.length]? with
    | none =>
      rw [e] at this
      cases this
    | some y =>
      rw [e] at this
      cases this
      rfl
  · rintro ⟨h1, h2⟩
    rw [List.head?_drop] at h2
    rw [h1, h2]
    rfl
theorem comp_push (x y : List Str) (p : Int) (z : Str) : ∃ q, comp (x, y, p) (partM (true, z)) = some (x, z :: y, q) := by
  refine ⟨if (y.length : Int) - (x.length : Int) + 1 > p then (y.length : Int) - (x.length : Int) + 1 else p, ?_⟩
  simp [comp, partM]
theorem comp_pop0 (x : List Str) (p : Int) (z : Str) : ∃ q, comp (x, [], p) (partM (false, z)) = some (x ++ [z], [], q) := by
  refine ⟨if ((0 : Nat) : Int) - (x.length : Int) + 0 > p then ((0 : Nat) : Int) - (x.length : Int) + 0 else p, ?_⟩
  simp [comp, partM]
theorem comp_pop (x r : List Str) (p : Int) (t z : Str) : ∃ q, comp (x, t :: r, p) (partM (false, z)) = if t = z then some (x, r, q) else none := by
  refine ⟨if ((t :: r).length : Int) - (x.length : Int) + 0 > p then ((t :: r).length : Int) - (x.length : Int) + 0 else p, ?_⟩
  have em : min (t :: r).length [z].length = 1 := by
    rw [List.length_cons, List.length_singleton]
    omega
  by_cases c : t = z
  · simp [comp, partM, em, c]
  · simp [comp, partM, em, c]
theorem repl_step (A : Prt) (s : Stp) (zs : List Str) : ((comp A (partM s)).bind fun D => replM (some D) zs) = (replM (some A) zs).bind (stepM s) := by
  obtain ⟨x, y, p⟩ := A
  obtain ⟨b, z⟩ := s
  cases b with
  | true =>
    obtain ⟨q, e⟩ := comp_push x y p z
    rw [e, Option.bind_some]
    unfold replM
    dsimp only
    split
    · rfl
    · rfl
  | false =>
    cases y with
    | nil =>
      obtain ⟨q, e0⟩ := comp_pop0 x p z
      rw [e0, Option.bind_some]
      clear e0
      unfold replM
      dsimp only
      rw [List.nil_append, List.nil_append]
      by_cases c : zs.take x.length = x
      · rw [if_pos c, Option.bind_some]
        cases e : zs.drop x.length with
        | nil =>
          rw [if_neg]
          · rfl
          · intro q
            have := ((take_snoc_iff zs x z).mp q).2
            rw [e] at this
            cases this
        | cons t r =>
          by_cases ct : t = z
          · subst ct
            rw [if_pos ((take_snoc_iff zs x t).mpr ⟨c, by rw [e]; rfl⟩)]
            have er : zs.drop (x ++ [t]).length = r := by
              rw [List.length_append, List.length_singleton, ← List.drop_drop, e]
              rfl
            rw [er]
            show some r = if t = t then some r else none
            rw [if_pos rfl]
          · rw [if_neg]
            · show none = if t = z then some r else none
              rw [if_neg ct]
            · intro q
              have := ((take_snoc_iff zs x z).mp q).2
              rw [e] at this
              exact ct (Option.some.inj this)
      · rw [if_neg c, if_neg fun q => c ((take_snoc_iff zs x z).mp q).1]
        rfl
    | cons t r =>
      obtain ⟨q, e⟩ := comp_pop x r p t z
      rw [e]
      unfold replM
      dsimp only
      by_cases ct : t = z
      · subst ct
        rw [if_pos rfl, Option.bind_some]
        dsimp only
        split
        · show some (r ++ _) = if t = t then some (r ++ _) else none
          rw [if_pos rfl]
        · rfl
      · rw [if_neg ct]
        split
        · show none = if t = z then _ else none
          rw [if_neg ct]
        · rfl
theorem joinF_run : ∀ (ss : List Stp) (A : Prt) (zs : List Str), replM (joinF A (ss.map partM)) zs = (replM (some A) zs).bind (runM ss)
  | [], A, zs => by
    show replM (some A) zs = _
    cases replM (some A) zs <;> rfl
  | s :: ss, A, zs => by
    have h := repl_step A s zs
    rw [List.map_cons]
    unfold joinF
    have e : (replM (some A) zs).bind (runM (s :: ss)) = ((replM (some A) zs).bind (stepM s)).bind (runM ss) := by
      cases replM (some A) zs with
      | none => rfl
      | some ws =>
        show (match stepM s ws with | none => none | some ws => runM ss ws) = (stepM s ws).bind (runM ss)
        cases stepM s ws <;> rfl
    rw [e, ← h]
    cases comp A (partM s) with
    | none => rfl
    | some D => exact joinF_run ss D zs
theorem repl_run (ss : List Stp) (zs : List Str) : replM (effM ss) zs = runM ss zs := by
  unfold effM joinM
  rw [joinF_run]
  show (if zs.take 0 = [] then some ([] ++ zs.drop 0) else none).bind (runM ss) = _
  rw [List.take_zero, if_pos rfl]
  rfl
end SE
namespace SE
open PySem PySem.Spec PyProof.Rows L2
/-! ### a session beside its model -/
theorem perfS_same {l : Lim} : ∀ {ns : List NSt} {a b : Sk}, (∀ n, getS a n = getS b n) → (perfS l ns a = none ∧ perfS l ns b = none) ∨ ∃ a2 b2, perfS l ns a = some a2 ∧ perfS l ns b = some b2 ∧ ∀ n, getS a2 n = getS b2 n
  | [], a, b, h => .inr ⟨a, b, rfl, rfl, h⟩
  | s :: r, a, b, h => by
    unfold perfS
    rw [h s.2.1]
    cases stepL l (s.1, s.2.2) (getS b s.2.1) with
    | none => exact .inl ⟨rfl, rfl⟩
    | some st => exact perfS_same (ns := r) fun n => by rw [getS_put, getS_put, h n]
def perfI (l : Lim) : List NSt → Sk → Option Nat
  | [], _ => none
  | s :: r, ss => match stepL l (s.1, s.2.2) (getS ss s.2.1) with
    | none => some 0
    | some st => (perfI l r (putS ss s.2.1 st)).map (· + 1)
theorem perfI_none {l : Lim} : ∀ {ns : List NSt} {a a2 : Sk}, perfS l ns a = some a2 → perfI l ns a = none
  | [], _, _, _ => rfl
  | s :: r, a, a2, h => by
    unfold perfS at h
    unfold perfI
    cases e : stepL l (s.1, s.2.2) (getS a s.2.1) with
    | none => rw [e] at h; cases h
    | some st =>
      rw [e] at h
      dsimp only at h ⊢
      rw [perfI_none (ns := r) h]
      rfl
theorem perfI_bad {l : Lim} : ∀ {j : Nat} {ns : List NSt} {a sj : Sk} {s : NSt}, ns[j]? = some s → perfS l (ns.take j) a = some sj → perfS l (ns.take (j + 1)) a = none → perfI l ns a = some j
  | 0, s' :: r, a, sj, s, h, h1, h2 => by
    unfold perfI
    rw [List.take_succ_cons, List.take_zero] at h2
    unfold perfS at h2
    cases e : stepL l (s'.1, s'.2.2) (getS a s'.2.1) with
    | none => rfl
    | some st => rw [e] at h2; cases h2
  | j + 1, s' :: r, a, sj, s, h, h1, h2 => by
    rw [List.take_succ_cons] at h1 h2
    unfold perfS at h1 h2
    unfold perfI
    cases e : stepL l (s'.1, s'.2.2) (getS a s'.2.1) with
    | none => rw [e] at h1; cases h1
    | some st =>
      rw [e] at h1 h2
      dsimp only at h1 h2 ⊢
      rw [perfI_bad (j := j) (ns := r) h h1 h2]
      rfl
theorem perfI_same {l : Lim} : ∀ {ns : List NSt} {a b : Sk}, (∀ n, getS a n = getS b n) → perfI l ns a = perfI l ns b
  | [], a, b, h => rfl
  | s :: r, a, b, h => by
    unfold perfI
    rw [h s.2.1]
    cases stepL l (s.1, s.2.2) (getS b s.2.1) with
    | none => rfl
    | some st =>
      have q : ∀ n, getS (putS a s.2.1 st) n = getS (putS b s.2.1 st) n := fun n => by rw [getS_put, getS_put, h n]
      dsimp only
      rw [perfI_same (ns := r) q]
theorem perfS_ok {l : Lim} : ∀ {ns : List NSt} {a a2 : Sk} {m b : Nat}, SkOk a m b → (∀ s ∈ ns, NOk s) → perfS l ns a = some a2 → SkOk a2 (m + ns.length) (b + ns.length)
  | [], a, a2, m, b, ok, _, h => by
    cases h
    exact ok
  | s :: r, a, a2, m, b, ok, hI, h => by
    obtain ⟨c, n, z⟩ := s
    have nok := hI (c, n, z) List.mem_cons_self
    obtain ⟨g1, g2⟩ := ok.get n
    unfold perfS at h
    cases est : stepL l (c, z) (getS a n) with
    | none =>
      dsimp only at h
      rw [est] at h
      cases h
    | some st2 =>
      dsimp only at h
      rw [est] at h
      have q1 : st2.length ≤ b + 1 ∧ ∀ y ∈ st2, Item y := by
        have e := stepL_sub est
        cases c with
        | true =>
          cases e
          refine ⟨by rw [List.length_cons]; omega, fun y my => ?_⟩
          rcases List.mem_cons.mp my with r | r
          · rw [r]; exact nok.i
          · exact g1 y r
        | false =>
          rw [stepM_pop] at e
          split at e
          · cases e
            exact ⟨by rw [List.length_drop]; omega, fun y my => g1 y (List.mem_of_mem_drop my)⟩
          · cases e
      have k1 := (putS_ok ok nok.n q1.2 q1.1 (by omega)).mono (Nat.le_refl _) (Nat.le_refl _)
      have k2 := perfS_ok (ns := r) k1 (fun s m => hI s (List.mem_cons_of_mem _ m)) h
      rw [List.length_cons]
      exact k2.mono (by omega) (by omega)
theorem runM_app2 : ∀ (a b : List Stp) (zs : List Str), runM (a ++ b) zs = (runM a zs).bind (runM b)
  | [], b, zs => rfl
  | s :: a, b, zs => by
    show (match stepM s zs with | none => none | some ws => runM (a ++ b) ws) = (match stepM s zs with | none => none | some ws => runM a ws).bind (runM b)
    cases stepM s zs with
    | none => rfl
    | some ws => exact runM_app2 a b ws
theorem perfS_run {l : Lim} : ∀ {ns : List NSt} {a a2 : Sk}, perfS l ns a = some a2 → ∀ n, runM (ofN ns n) (getS a n) = some (getS a2 n)
  | [], a, a2, h, n => by
    cases h
    rfl
  | s :: r, a, a2, h, n => by
    obtain ⟨c, m, z⟩ := s
    unfold perfS at h
    cases est : stepL l (c, z) (getS a m) with
    | none =>
      dsimp only at h
      rw [est] at h
      cases h
    | some st =>
      dsimp only at h
      rw [est] at h
      have ih := perfS_run (ns := r) h n
      rw [getS_put] at ih
      rw [ofN_cons]
      by_cases q : m = n
      · subst q
        rw [if_pos rfl] at ih
        rw [if_pos rfl]
        show (match stepM (c, z) (getS a m) with | none => none | some ws => runM (ofN r m) ws) = _
        rw [stepL_sub est]
        exact ih
      · rw [if_neg (fun z => q z.symm)] at ih
        rw [if_neg q]
        exact ih
abbrev NS2 : List Str := ["left", "right"]
def Nm2 (ss : Sk) : Prop := ∀ p ∈ ss, p.1 ∈ NS2
theorem perfS_nm {l : Lim} : ∀ {ns : List NSt} {a a2 : Sk}, Nm2 a → (∀ s ∈ ns, s.2.1 ∈ NS2) → perfS l ns a = some a2 → Nm2 a2
  | [], a, a2, h, _, e => by
    cases e
    exact h
  | s :: r, a, a2, h, hN, e => by
    unfold perfS at e
    cases est : stepL l (s.1, s.2.2) (getS a s.2.1) with
    | none =>
      rw [est] at e
      cases e
    | some st =>
      rw [est] at e
      refine perfS_nm (ns := r) (a := putS a s.2.1 st) (fun p mp => ?_) (fun x m => hN x (List.mem_cons_of_mem _ m)) e
      have m2 : p.1 ∈ (putS a s.2.1 st).map (·.1) := List.mem_map.mpr ⟨p, mp, rfl⟩
      rw [putS_fst] at m2
      have old : p.1 ∈ a.map (·.1) → p.1 ∈ NS2 := fun m => by
        obtain ⟨q, mq, eq⟩ := List.mem_map.mp m
        rw [← eq]
        exact h q mq
      split at m2
      · exact old m2
      · rcases List.mem_append.mp m2 with z | z
        · exact old z
        · rw [List.mem_singleton.mp z]
          exact hN s List.mem_cons_self
theorem Nm2.len {ss : Sk} (h : Nm2 ss) (nd : (ss.map (·.1)).Nodup) : ss.length ≤ 2 := by
  have := nodup_le (zs := NS2) nd fun y my => by
    obtain ⟨q, mq, eq⟩ := List.mem_map.mp my
    rw [← eq]
    exact h q mq
  rwa [List.length_map] at this
abbrev PastE := Sk × Lim × List NSt
structure Rel (k : Nat) (e : PastE) (ss : Sk) (l : Lim) (ns : List NSt) : Prop where
  eqs : ∀ n, getS e.1 n = getS ss n
  lim : e.2.1 = l
  steps : e.2.2 = ns
  okh : SkOk e.1 (4 + 6 * k) (4 + 6 * k)
  oks : SkOk ss (4 + 6 * k) (4 + 6 * k)
  cl : ∀ p ∈ ss, p.2 ≠ []
  lok : LimOk l
  ok : ∀ s ∈ ns, NOk s
  len : ns.length ≤ 6 * k
  run : ∃ s0 : Sk, ∀ n, runM (ofN ns n) (getS s0 n) = some (getS ss n)
  nm : Nm2 e.1 ∧ Nm2 ss
theorem Rel.mono {k k' : Nat} {e : PastE} {ss : Sk} {l : Lim} {ns : List NSt} (h : Rel k e ss l ns) (q : k ≤ k') : Rel k' e ss l ns := ⟨h.eqs, h.lim, h.steps, h.okh.mono (by omega) (by omega), h.oks.mono (by omega) (by omega), h.cl, h.lok, h.ok, by have := h.len; omega, h.run, h.nm⟩
inductive Tr (k : Nat) : List PastE → Sk → Lim → List Deed → Prop
  | one {e : PastE} {ss : Sk} {l : Lim} (h : Rel k e ss l []) : Tr k [e] ss l []
  | more {es : List PastE} {ss0 : Sk} {l0 : Lim} {ds : List Deed} {e : PastE} {ss : Sk} {l : Lim} {ns : List NSt} (t : Tr k es ss0 l0 ds) (h : Rel k e ss l (flatD ds ++ ns)) : Tr k (es ++ [e]) ss l (ds ++ [(ns, ss0, l0)])
theorem Tr.mono {k k' : Nat} {es : List PastE} {ss : Sk} {l : Lim} {ds : List Deed} (h : Tr k es ss l ds) (q : k ≤ k') : Tr k' es ss l ds := by
  induction h with
  | one h => exact .one (h.mono q)
  | more t h ih => exact .more ih (h.mono q)
theorem Tr.len {k : Nat} {es : List PastE} {ss : Sk} {l : Lim} {ds : List Deed} (h : Tr k es ss l ds) : es.length = ds.length + 1 := by
  induction h with
  | one h => rfl
  | more t h ih => rw [List.length_append, List.length_append, ih]; rfl
theorem Tr.last {k : Nat} {es : List PastE} {ss : Sk} {l : Lim} {ds : List Deed} (h : Tr k es ss l ds) : ∃ es2 e, es = es2 ++ [e] ∧ Rel k e ss l (flatD ds) := by
  cases h with
  | one h => exact ⟨[], _, rfl, h⟩
  | @more es ss0 l0 ds e _ _ ns t h => exact ⟨es, e, rfl, by rw [flatD_snoc]; exact h⟩
theorem Tr.undo {k : Nat} {es : List PastE} {ss : Sk} {l : Lim} {ds2 : List Deed} {d : Deed} (h : Tr k es ss l (ds2 ++ [d])) : ∃ es2 e, es = es2 ++ [e] ∧ Tr k es2 d.2.1 d.2.2 ds2 := by
  generalize eq : ds2 ++ [d] = ds at h
  cases h with
  | one h => simp at eq
  | @more es ss0 l0 ds e _ _ ns t h =>
    obtain ⟨e1, e2⟩ := List.append_inj' eq rfl
    cases e2
    subst e1
    exact ⟨es, e, rfl, t⟩
theorem clean_ok {ss : Sk} {m b : Nat} (h : SkOk ss m b) : SkOk (cleanS ss) m b ∧ ∀ p ∈ cleanS ss, p.2 ≠ [] := by
  refine ⟨⟨?_, fun p mp => h.ok p (List.mem_filter.mp mp).1, Nat.le_trans (List.length_filter_le _ _) h.len⟩, fun p mp => by simpa using (List.mem_filter.mp mp).2⟩
  exact List.Nodup.sublist (List.Sublist.map _ List.filter_sublist) h.nd
/-- a deed that changes the stacks -/
theorem Rel.steps_ok {k : Nat} {e : PastE} {ss ss2 hs2 : Sk} {l : Lim} {ns fs : List NSt} (h : Rel k e ss l fs) (hI : ∀ s ∈ ns, NOk s) (hN : ∀ s ∈ ns, s.2.1 ∈ NS2) (hl : ns.length ≤ 6) (p1 : perfS l ns ss = some ss2) (p2 : perfS l ns e.1 = some hs2) : Rel (k + 1) (hs2, l, fs ++ ns) (cleanS ss2) l (fs ++ ns) := by
  have o1 := perfS_ok h.oks hI p1
  have o2 := perfS_ok h.okh hI p2
  obtain ⟨o3, o4⟩ := clean_ok o1
  refine ⟨fun n => ?_, rfl, rfl, o2.mono (by omega) (by omega), o3.mono (by omega) (by omega), o4, h.lok, fun s ms => ?_, ?_, ?_, perfS_nm h.nm.1 hN p2, fun p mp => perfS_nm h.nm.2 hN p1 p (List.mem_filter.mp mp).1⟩
  · rw [getS_clean o1.nd]
    rcases perfS_same (l := l) (ns := ns) h.eqs with ⟨z, _⟩ | ⟨a2, b2, z1, z2, z3⟩
    · rw [p2] at z
      cases z
    · rw [p2] at z1
      rw [p1] at z2
      cases z1
      cases z2
      exact z3 n
  · rcases List.mem_append.mp ms with q | q
    · exact h.ok s q
    · exact hI s q
  · rw [List.length_append]
    have := h.len
    omega
  · obtain ⟨s0, r0⟩ := h.run
    exact ⟨s0, fun n => by rw [ofN_app, runM_app2, r0 n, getS_clean o1.nd]; exact perfS_run p1 n⟩
theorem Rel.lim_ok {k : Nat} {e : PastE} {ss : Sk} {l l2 : Lim} {fs : List NSt} (h : Rel k e ss l fs) (hl : LimOk l2) : Rel (k + 1) (e.1, l2, fs) ss l2 (fs ++ []) := by
  rw [List.append_nil]
  exact ⟨h.eqs, rfl, rfl, h.okh.mono (by omega) (by omega), h.oks.mono (by omega) (by omega), h.cl, hl, h.ok, by have := h.len; omega, h.run, h.nm⟩
/-- the highest stack -/
def topH (hs : Sk) : Nat := (hs.map fun p => p.2.length).foldl max 0
theorem foldl_max : ∀ (l : List Nat) (a : Nat), a ≤ l.foldl max a ∧ (∀ x ∈ l, x ≤ l.foldl max a) ∧ (l.foldl max a = a ∨ l.foldl max a ∈ l)
  | [], a => ⟨Nat.le_refl _, fun x m => (by cases m), .inl rfl⟩
  | y :: r, a => by
    obtain ⟨h1, h2, h3⟩ := foldl_max r (max a y)
    rw [List.foldl_cons]
    refine ⟨by omega, fun x m => ?_, ?_⟩
    · rcases List.mem_cons.mp m with rfl | m
      · omega
      · exact h2 x m
    · rcases h3 with q | q
      · rw [q]
        by_cases c : y ≤ a
        · exact .inl (by omega)
        · exact .inr (by rw [show max a y = y by omega]; exact List.mem_cons_self)
      · exact .inr (List.mem_cons_of_mem _ q)
theorem getS_mem {ss : Sk} {n : Str} (h : getS ss n ≠ []) : (n, getS ss n) ∈ ss := by
  unfold getS at h ⊢
  cases e : ss.find? (hasS n) with
  | none => rw [e] at h; exact absurd rfl h
  | some p =>
    obtain ⟨m, q⟩ := findS_some e
    show (n, p.2) ∈ ss
    rw [← q]
    exact m
theorem high_top {e ss : Sk} {l : Lim} (eqs : ∀ n, getS e n = getS ss n) (ne : (e.map (·.1)).Nodup) (ns : (ss.map (·.1)).Nodup) : (∃ p ∈ ss, high l p.2.length = true) ↔ high l (topH e) = true := by
  cases l with
  | none => exact ⟨fun ⟨p, m, q⟩ => (by cases q), fun q => (by cases q)⟩
  | some n =>
    obtain ⟨h1, h2, h3⟩ := foldl_max (e.map fun p => p.2.length) 0
    refine ⟨fun ⟨p, m, q⟩ => ?_, fun q => ?_⟩
    · have q : n < p.2.length := of_decide_eq_true q
      have e1 := getS_at ns m
      have e2 : getS e p.1 ≠ [] := by
        rw [eqs, e1]
        intro z
        rw [z] at q
        cases q
      have m2 := getS_mem e2
      have := h2 p.2.length (List.mem_map.mpr ⟨_, m2, by show (getS e p.1).length = _; rw [eqs, e1]⟩)
      exact decide_eq_true (show n < topH e from by unfold topH; omega)
    · have q : n < topH e := of_decide_eq_true q
      unfold topH at q
      rcases h3 with z | z
      · omega
      · obtain ⟨p, m, ep⟩ := List.mem_map.mp z
        have e1 := getS_at ne m
        have e2 : getS ss p.1 ≠ [] := by
          rw [← eqs, e1]
          intro z2
          rw [z2] at ep
          rw [← ep] at q
          cases q
        refine ⟨_, getS_mem e2, decide_eq_true ?_⟩
        show n < (getS ss p.1).length
        rw [← eqs, e1]
        omega
theorem Rel.eff {k : Nat} {e : PastE} {ss : Sk} {l : Lim} {ns : List NSt} (h : Rel k e ss l ns) (n : Str) : ∃ xs ys p, effM (ofN ns n) = some (xs, ys, p) := by
  obtain ⟨s0, r0⟩ := h.run
  have q := repl_run (ofN ns n) (getS s0 n)
  rw [r0 n] at q
  cases e : effM (ofN ns n) with
  | none =>
    rw [e] at q
    cases q
  | some D => exact ⟨D.1, D.2.1, D.2.2, rfl⟩
end SE
/-! list(d.values()). -/
namespace SE
open PySem PySem.Spec PyProof.Rows L2
def tListValsF (te : TE) : TE := fun σ H Q => te σ H fun x H1 => ∃ (d : Addr) (kvs : List (Key × V)), x = .ref d ∧ Rd H1 d (.dK kvs) ∧ ∀ p, H1 p = none → Q (.ref p) (upd H1 p (.lst (kvs.map Prod.snd)))
theorem vals_of_kvF : ∀ {kvs : List (Key × V)} {vs : List (Key × Value)}, KV kvs vs → Vals (kvs.map Prod.snd) (vs.map (·.2))
  | _, _, .nil => .nil
  | _, _, .cons h t => .cons h.2 (vals_of_kvF t)
section
variable {X : Cx} {e : Expr} {te : TE} {p apos cpos pos : Pos}
theorem pe_listValsF (hc : X.calm = true) (he : PE X e te) (hg : Gl X "list") (hm : X.mg "list" = none) (hv : bootBuiltins "list" = some (.type "list")) (hbase : attributeBase e "values" X.env (eval e X.env) = eval e X.env := by rfl) (hline : (apos.endLine == cpos.line) = true := by rfl)
    (hs : starEach [.Call (.Attribute e "values" apos) [] [] cpos] X.env = (false, eval (.Call (.Attribute e "values" apos) [] [] cpos) X.env) :: starEach [] X.env := by rfl) :
    PE X (.Call (.Name "list" p) [.Call (.Attribute e "values" apos) [] [] cpos] [] pos) (tListValsF te) := by
  refine ⟨fun pins s σ H Q I hq => ?_⟩
  refine wpAny_Call_Name_kw (ld_blt I hg hm hv ?_)
  refine PyProof.Rows.callWith_type1 ?_ hs rfl
  rw [hs]
  show wpAny _ _ (spliced ((false, eval (.Call (.Attribute e "values" apos) [] [] cpos) X.env) :: backTo pos (starEach [] X.env))) _ _ s
  refine Calls.spliced_cons ?_
  refine wpAny_Call_method (T := "dict") (id := "dict.values") hbase rfl hline F.plainAttrs_dict F.slot_dict_values F.type_dict_values (thn (he.run pins s σ H _ I hq) fun u s1 ⟨x, H1, I1, rx, d, kvs, ex, hd, q⟩ => ?_)
  subst ex
  obtain rfl : u = Value.ref d := rx
  obtain ⟨hz, hs0, vs, kv, hdo⟩ := dk_rd I1.hok hd
  obtain ⟨ep, hat⟩ := hdo.dictAt
  have lk : kvs.length = vs.length := Paired.length kv
  have I2 : Inv X pins σ H1 { s1 with heap := s1.heap.push { cls := .type "dict_values", data := .fields #[.ref d] } } := I1.kept (t' := s1.toks) fun b ob q => Heap.get?_push_of_some _ q
  refine ⟨hdo.typeIs, hdo.mapOf.noDict, ?_⟩
  show wpAny _ _ (callWith cpos (.builtin "dict.values") [.ref d] [] []) _ X.xe s1
  refine method_meetsIn F.slot_dict_values F.entry_dict_values rfl (PySem.evalArgs_none ⟨rfl, hdo.typeIs, F.args_dict_values_1 _, _, meets_dict_values (mixKind X.prog X.w) d hs0, ⟨vs, hdo⟩, ?_⟩)
  refine Calls.spliced_nil ?_
  refine PySem.W.kdl_call (PySem.W.kdl_values (knd := mixKind X.prog X.w) (kvs := vs) (ep := ep)) (I1.ok.hd hc) ⟨⟨_, Heap.get?_push_size _ rfl, rfl, rfl⟩, hat.push _⟩ (by omega) fun h' tk acc c' hk hD hacc => ?_
  have hv : acc.toList = vs.map (·.2) := PySem.W.kdl_vals_eq acc.toList (by rw [Array.length_toList]; exact hacc.1) fun j v e => hacc.2 j v (by rw [← Array.getElem?_toList]; exact e)
  refine ⟨.ref _, upd H1 _ (.lst (kvs.map Prod.snd)), I2.laid (t' := tk) hk (Nat.le_refl _) (show ObjOk X.prog X.w _ _ _ (.lst (kvs.map Prod.snd)) from ⟨by rw [List.length_map]; exact hz, acc.toList, c', by rw [hv]; exact vals_of_kvF kv, by rw [Array.toArray_toList]; exact hD⟩), rfl, q _ (I2.hok.fresh (Nat.le_refl _))⟩
end
end SE
namespace SE
open PySem PySem.Spec PyProof.Rows L2
/-! ### what a turn asks for -/
inductive Out where
  | nothing | done | limit (l : Lim) | failed (j : Nat)
def outV : Out → List V
  | .nothing => [.str "nothing", .int 0]
  | .done => [.str "done"]
  | .limit l => [.str "limit", limV l]
  | .failed j => [.str "failed", .int (j : Nat)]
/-- the three draws ahead of a deed: how, whose, what -/
def d1 (c : PC) : Int × PC := takeM c 9
def d2 (c : PC) : Int × PC := takeM (d1 c).2 2
def d3 (zs : List Str) (c : PC) : Int × PC := takeM (d2 c).2 (zs.length : Int)
def nmM (c : PC) : Str := pk NS2 (d2 c).1
def itM (zs : List Str) (c : PC) : Str := pk zs (d3 zs c).1
def tpM (zs : List Str) (c : PC) (hs : Sk) : Str := ((getS hs (nmM c) ++ [itM zs c]).head?).getD ""
/-- the new limit -/
def l1 (zs : List Str) (c : PC) : Int × PC := takeM (d3 zs c).2 4
def l2 (zs : List Str) (c : PC) : Int × PC := takeM (l1 zs c).2 3
def lmM (zs : List Str) (c : PC) (hs : Sk) : Lim := if (l2 zs c).1 = 0 then none else if (l2 zs c).1 = 1 then some (l1 zs c).1.toNat else some (1 + topH hs)
/-- the steps -/
def s1 (zs : List Str) (c : PC) : Int × PC := takeM (d3 zs c).2 6
def stM (zs : List Str) (c : PC) (hs : Sk) : List NSt :=
  if (d1 c).1 > 6 then (wellN NS2 zs (s1 zs c).1.toNat (s1 zs c).2).2.1
  else if (d1 c).1 > 4 then [(false, nmM c, tpM zs c hs)] else [(true, nmM c, itM zs c)]
def outM (zs : List Str) (c : PC) (hs : Sk) (l : Lim) (past : Nat) : Out :=
  if (d1 c).1 = 0 then (if past = 1 then .nothing else .done)
  else if (d1 c).1 = 1 then (if high (lmM zs c hs) (topH hs) = true then .limit (lmM zs c hs) else .done)
  else match perfI l (stM zs c hs) hs with
    | some j => .failed j
    | none => .done
/-- a row of the past -/
def PastV (K : PySem.W.Frag) (H : Hp) (v : V) (e : PastE) : Prop := ∃ r d a us o1 o2, v = .ref r ∧ H r = some (.frz o1 (.lst [.ref d, limV e.2.1, .ref a])) ∧ SkF K H d e.1 ∧ H a = some (.frz o2 (.lst us)) ∧ NSV K H us e.2.2
theorem PastV.same {K : PySem.W.Frag} {H H' : Hp} {v : V} {e : PastE} (h : PastV K H v e) (s : Same H H') : PastV K H' v e := by
  obtain ⟨r, d, a, us, o1, o2, h1, h2, h3, h4, h5⟩ := h
  exact ⟨r, d, a, us, o1, o2, h1, s _ _ h2, h3.same s, s _ _ h4, nsv_same h5 s⟩
theorem Keep.past {K : PySem.W.Frag} {S : List Addr} {H H' : Hp} (h : Keep S H H') {v : V} {e : PastE} (q : PastV K H v e) : PastV K H' v e := by
  obtain ⟨r, d, a, us, o1, o2, h1, h2, h3, h4, h5⟩ := q
  exact ⟨r, d, a, us, o1, o2, h1, h.2 _ _ (fun m => (h.1 _ m).2 _ _ h2) h2, h.skF h3, h.2 _ _ (fun m => (h.1 _ m).2 _ _ h4) h4, h.nsv h5⟩
theorem atI_last' {α : Type} (xs : List α) (x : α) : atI (xs ++ [x]) (-1) = some x := by
  unfold atI ixN
  rw [if_neg (by decide), if_pos (by rw [List.length_append, List.length_singleton]; omega)]
  show (xs ++ [x])[_]? = some x
  have e : ((-1 : Int) + ((xs ++ [x]).length : Int)).toNat = xs.length := by
    rw [List.length_append, List.length_singleton]
    omega
  rw [e, List.getElem?_append_right (Nat.le_refl _), Nat.sub_self]
  rfl
theorem catT {K : PySem.W.Frag} {H : Hp} {q a : Addr} {zs : List Str} {z : Str} {Q : VK} (hq : SqT K H q (zs.map V.str)) (ha : SqT K H a [.str z]) (hl : zs.length ≤ 5000) (k : ∀ (r : Addr) (H' : Hp), Same H H' → SqT K H' r ((zs ++ [z]).map V.str) → Q (.ref r) H') : rCatA K (.ref q) (.ref a) H Q := by
  refine ⟨q, a, zs.map V.str, [.str z], rfl, rfl, hq, ha, ?_, fun e => ?_, fun _ e => (by cases e), fun _ e p hp => ?_⟩
  · rw [List.length_map]
    exact Nat.le_trans (show zs.length + 1 ≤ 5001 by omega) (by decide)
  · have e0 : zs = [] := List.map_eq_nil_iff.mp e
    subst e0
    exact k a H (Same.refl H) ha
  · exact k p _ (Same.new hp) (.of (by rw [upd_same, List.map_append]; rfl))
theorem head_at (zs : List Str) (z : Str) : atI ((zs ++ [z]).map V.str) 0 = some (.str (((zs ++ [z]).head?).getD "")) := by
  cases zs with
  | nil => exact atI_nat (j := 0) rfl
  | cons x r => exact atI_nat (j := 0) rfl
theorem tp_item {zs : List Str} {c : PC} {hs : Sk} {m b : Nat} (ok : SkOk hs m b) (hz : Item (itM zs c)) : Item (tpM zs c hs) := by
  unfold tpM
  have g := (ok.get (nmM c)).1
  cases e : getS hs (nmM c) with
  | nil => exact hz
  | cons x r =>
    rw [e] at g
    exact g x List.mem_cons_self
/-- the heights, and 0 -/
def lensM (hs : Sk) : List Int := (hs.map fun p => (p.2.length : Int)) ++ [0]
theorem lens_max {hs : Sk} {m : Int} (h1 : m ∈ lensM hs) (h2 : ∀ y, y ∈ lensM hs → y ≤ m) : m = (topH hs : Nat) := by
  obtain ⟨g1, g2, g3⟩ := foldl_max (hs.map fun p => p.2.length) 0
  unfold lensM at h1 h2
  have a1 : m ≤ (topH hs : Nat) := by
    rcases List.mem_append.mp h1 with q | q
    · obtain ⟨p, mp, rfl⟩ := List.mem_map.mp q
      have := g2 p.2.length (List.mem_map.mpr ⟨p, mp, rfl⟩)
      show ((p.2.length : Nat) : Int) ≤ _
      unfold topH
      omega
    · rw [List.mem_singleton.mp q]
      omega
  have a2 : ((topH hs : Nat) : Int) ≤ m := by
    rcases g3 with q | q
    · have := h2 0 (by simp)
      unfold topH
      omega
    · obtain ⟨p, mp, ep⟩ := List.mem_map.mp q
      have := h2 (p.2.length : Int) (List.mem_append_left _ (List.mem_map.mpr ⟨p, mp, rfl⟩))
      unfold topH
      omega
  omega
theorem pick_lim {zs : List Str} {c : PC} {hs : Sk} (h0 : 0 ≤ (l2 zs c).1) (h3 : (l2 zs c).1 < 3) (hl : 0 ≤ (l1 zs c).1) : atI [V.non, V.int (l1 zs c).1, V.int (1 + (topH hs : Nat))] (l2 zs c).1 = some (limV (lmM zs c hs)) := by
  unfold lmM
  by_cases q0 : (l2 zs c).1 = 0
  · rw [if_pos q0, q0]
    exact atI_nat (j := 0) rfl
  · rw [if_neg q0]
    by_cases q1 : (l2 zs c).1 = 1
    · rw [if_pos q1, q1]
      refine (atI_nat (j := 1) rfl).trans ?_
      show _ = some (V.int (((l1 zs c).1.toNat : Nat) : Int))
      rw [Int.toNat_of_nonneg hl]
    · rw [if_neg q1, show (l2 zs c).1 = 2 by omega]
      refine (atI_nat (j := 2) rfl).trans ?_
      show _ = some (V.int ((1 + topH hs : Nat) : Int))
      rw [show ((1 + topH hs : Nat) : Int) = 1 + (topH hs : Nat) by omega]
theorem lim_high {n h : Nat} : decide ((h : Int) > (n : Int)) = high (some n) h := by
  show _ = decide (n < h)
  by_cases c : n < h
  · rw [decide_eq_true c, decide_eq_true (by omega)]
  · rw [decide_eq_false c, decide_eq_false (by omega)]
theorem isi_int {K : PySem.W.Frag} {H : Hp} {i : Int} {Q : VK} (k : Q (.bl true) H) : rIsi K [.int i, .ty "int"] H Q := ⟨_, .ty "int", .type "int", .type "int", true, rfl, .ty _, .base (.int i), kit_ty (by decide +kernel), k⟩
theorem isi_dict {K : PySem.W.Frag} {H : Hp} {d : Addr} {kvs : List (Key × V)} {Q : VK} (h : H d = some (.dK kvs)) (k : Q (.bl false) H) : rIsi K [.ref d, .ty "int"] H Q := ⟨_, .ty "int", .type "dict", .type "int", false, rfl, .ty _, .base (.dK h), kit_ty (by decide +kernel), k⟩
theorem val_at {K : PySem.W.Frag} {H : Hp} {e1 : Addr} (he : SqT K H e1 []) : ∀ {kvs : List (Key × V)} {ss : Sk}, SkH K H kvs ss → ∀ {j : Nat} {x : V}, (kvs.map Prod.snd ++ [V.ref e1])[j]? = some x → ∃ t ws, x = .ref t ∧ SqT K H t (ws.map V.str) ∧ (lensM ss)[j]? = some ((List.length (α := Str) ws : Nat) : Int)
  | _, _, .nil, 0, x, h => by
    cases h
    exact ⟨e1, [], rfl, he, rfl⟩
  | _, _, .nil, j + 1, x, h => by
    simp at h
  | _, _, .cons (b := p) q r, 0, x, h => by
    obtain ⟨_, t, e2, z⟩ := q
    cases h
    exact ⟨t, p.2, e2, z, rfl⟩
  | _, _, .cons q r, j + 1, x, h => val_at he r (j := j) h
end SE
namespace SE
open PySem PySem.Spec PyProof.Rows L2
theorem out_sz (o : Out) : (outV o).length ≤ 2 := by cases o <;> first | exact Nat.le_refl _ | exact Nat.le_succ _
section
variable {P : Program} {w : World} {K : PySem.W.Frag} {mg : Str → Option Value} {base : Heap}
/-! ### _law_due -/
def spDue (K : PySem.W.Frag) : Sp := fun vs H Q _ => ∃ (p A nl il : Addr) (c : PC) (zs : List Str) (us : List V) (v : V) (e : PastE) (m b : Nat), vs = [.ref p, .ref A, .ref nl, .ref il] ∧ PoolV H p c ∧ nl ≠ p ∧ H nl = some (.lst (NS2.map V.str)) ∧ il ≠ p ∧ H il = some (.lst (zs.map V.str)) ∧ zs ≠ [] ∧ zs.length ≤ 100 ∧ (∀ z ∈ zs, Item z) ∧
  A ≠ p ∧ H A = some (.lst (us ++ [v])) ∧ PastV K H v e ∧ SkOk e.1 m b ∧ m ≤ 90000 ∧ b ≤ 4000 ∧
  ∀ (t : Addr) (H' : Hp), But p H H' → H t = none → t ≠ p → H' t = some (.lst (outV (outM zs c e.1 e.2.1 (us.length + 1)))) → Q (.ref t) H'
abbrev nDue : List Str := ["_law_pool_here", "_law_past", "_law_names", "_law_items_here", "_law_heaps", "_law_bound", "_law_every", "_law_way", "_law_name_here", "_law_item", "_law_top", "_law_high", "_law_more", "_law_steps_here", "_law_result", "_law_pile"]
theorem scDue : FnScope nDue ["_law_pool_here", "_law_past", "_law_names", "_law_items_here"] (defScope sLawDue) := ⟨rfl, rfl, rfl, by decide +kernel, rfl, by decide +kernel, by decide +kernel⟩
theorem has_due (D : Def K mg "_law_due" sLawDue) (GT : Has P w K mg base "_law_take" 1 ["_law_pool_here", "_law_many"] [] spTakeF) (GW : Has P w K mg base "_law_named_well" 2 ["_law_pool_here", "_law_names", "_law_items_here", "_law_many"] [] spNamedF) (GP : Has P w K mg base "_law_performed" 1 ["_law_steps_here", "_law_heaps", "_law_bound"] [] (spLP K)) (B : Blt mg) (mx : mg "max" = none) (mi : mg "int" = none) :
    Has P w K mg base "_law_due" 3 ["_law_pool_here", "_law_past", "_law_names", "_law_items_here"] [] (spDue K) := by
  refine has_of D scDue (fun _ _ _ _ _ _ us hl => match us, hl with | [_, _, _, _], _ => rfl) (fun xs H Q E h => ?_) (fun f cv A out s H xs Q E hr h => ?_)
  · obtain ⟨p, A, nl, il, c, zs, us, v, e, m, b, rfl, _⟩ := h
    rfl
  · obtain ⟨p, A, nl, il, c, zs, us, v, e, m, b, rfl, hp, np, hn, lp', hil, zne, z1, zI, Ap, hA, hv, ok, hm, hb, k⟩ := h
    have hu := hu_of hr
    have hr1 : Room 1 _ := hr.mono (by decide)
    refine ⟨_, pss_cons (ps_asg (pe_ix ix_list (pv 1) (pe_un un_neg pe_int) (fun _ _ => rfl)) (pg_lst rfl (pgs_cons (pg_name (i := 4) scDue.nd rfl (.inl rfl)) (pgs_cons (pg_name (i := 5) scDue.nd rfl (.inl rfl)) (pgs_cons (pg_name (i := 6) scDue.nd rfl (.inl rfl)) pgs_nil)))))
      (pss_cons (ps_par3 (i := 7) (j := 8) (l := 9) (by rfl) scDue.nd rfl rfl rfl (by decide) (by decide) (by decide) rfl rfl rfl (pa_cons (pe_has GT hr1 (pa_cons (pv 0) (pa_cons pe_int pa_nil))) (pa_cons (pe_ix ix_list (pv 2) (pe_has GT hr1 (pa_cons (pv 0) (pa_cons pe_int pa_nil))) (fun _ _ => rfl)) (pa_cons (pe_ix ix_list (pv 3) (pe_has GT hr1 (pa_cons (pv 0) (pa_cons (pe_callB call_len_seq (by rfl) B.len PySem.boot_len (pa_cons (pv 3) pa_nil)) pa_nil))) (fun _ _ => rfl)) pa_nil))) (by rfl))
      (pss_cons (ps_set (i := 10) scDue.nd rfl (.inl rfl) (pe_ix ix_tup (pe_op op_catA (pe_dget2 hu (pv 4) (pv 8) (pe_tup pa_nil) ⟨rfl, rfl, rfl, rfl⟩) (pe_tup (pa_cons (pv 9) pa_nil))) pe_int (fun _ _ => rfl)))
      (pss_cons (ps_if (pt_cmpR op_eq (pv 7) pe_int (nomark _)) (pss_one (ps_ret (pe_ifExp (pt_cmpR op_eq (pe_callB call_len_seq (by rfl) B.len PySem.boot_len (pa_cons (pv 1) pa_nil)) pe_int (nomark _)) (pe_lst (pa_cons pe_str (pa_cons pe_int pa_nil))) (pe_lst (pa_cons pe_str pa_nil))))) pss_nil)
      (pss_cons (ps_if (pt_cmpR op_eq (pv 7) pe_int (nomark _))
        (pss_cons (ps_set (i := 11) scDue.nd rfl (.inl rfl) (pe_callB (cr_max rfl) (by rfl) mx (by decide +kernel) (pa_cons
            (pe_lc (own := [("_law_pile", 15)]) (g := gName 15) (tt := tYes) (te := tCB (Evl.rLenS K) (tCons (tVar 15) tNil)) rfl scDue.nd (pi_list (pe_op op_cat (pe_listValsF rfl (pv 4) (by rfl) B.lst rfl) (pe_lst (pa_cons (pe_tup pa_nil) pa_nil)))) (blkOk_by (own := [("_law_pile", 15)]) (N := nDue) (sc := defScope sLawDue) (by decide +kernel))
              (fun _ _ _ _ _ => pg_name (i := 15) scDue.nd rfl (.inl rfl)) (fun _ _ _ _ _ => pts_nil) (fun _ _ _ _ _ => pe_callB call_len_seq (by rfl) B.len PySem.boot_len (pa_cons (pv 15) pa_nil))) pa_nil)))
        (pss_cons (ps_set (i := 12) scDue.nd rfl (.inl rfl) (pe_ix ix_list (pe_lst (pa_cons pe_non (pa_cons (pe_has GT hr1 (pa_cons (pv 0) (pa_cons pe_int pa_nil))) (pa_cons (pe_op op_add pe_int (pv 11)) pa_nil)))) (pe_has GT hr1 (pa_cons (pv 0) (pa_cons pe_int pa_nil))) (fun _ _ => rfl)))
        (pss_one (ps_ret (pe_ifExp (PW.pt (pw_and (pt_cmpR op_notN (pv 12) pe_non (nomark _)) (pw_and1 (pt_cmpR op_gt (pv 11) (pv 12) (nomark _))))) (pe_lst (pa_cons pe_str (pa_cons (pv 12) pa_nil))) (pe_lst (pa_cons pe_str pa_nil))))))) pss_nil)
      (pss_cons (ps_set (i := 13) scDue.nd rfl (.inl rfl) (pe_lst (pa_cons (pe_tup (pa_cons pe_str (pa_cons (pv 8) (pa_cons (pv 9) pa_nil)))) pa_nil)))
      (Evl.pss_cut (ps_if (pt_cmpR op_gt (pv 7) pe_int (nomark _))
          (pss_one (ps_set (i := 13) scDue.nd rfl (.inl rfl) (pe_has GW hr (pa_cons (pv 0) (pa_cons (pv 2) (pa_cons (pv 3) (pa_cons (pe_has GT hr1 (pa_cons (pv 0) (pa_cons pe_int pa_nil))) pa_nil)))))))
          (pss_one (ps_if (pt_cmpR op_gt (pv 7) pe_int (nomark _)) (pss_one (ps_set (i := 13) scDue.nd rfl (.inl rfl) (pe_lst (pa_cons (pe_tup (pa_cons pe_str (pa_cons (pv 8) (pa_cons (pv 10) pa_nil)))) pa_nil)))) pss_nil)))
      (pss_cons (ps_set (i := 14) scDue.nd rfl (.inl rfl) (pe_has GP hr1 (pa_cons (pv 13) (pa_cons (pv 4) (pa_cons (pv 5) pa_nil)))))
      (pss_one (ps_ret (pe_ifExp (pt_val (pe_callB call_isi (by rfl) B.isi (by decide +kernel) (pa_cons (pv 14) (pa_cons (pe_bltn (v := .ty "int") (by rfl) mi (by decide +kernel) rfl) pa_nil)))) (pe_lst (pa_cons pe_str (pa_cons (pv 14) pa_nil))) (pe_lst (pa_cons pe_str pa_nil)))))))))))), ?_⟩
    obtain ⟨r0, d, a0, us0, o1, o2, rfl, h1, ⟨oF, kvs, h3, h3'⟩, h4, h5⟩ := hv
    refine ⟨_, rfl, _, rfl, A, _, -1, _, rfl, rfl, .of hA, atI_last' us _, r0, _, rfl, .inl (.inr ⟨o1, h1⟩), rfl, _, _, rfl, _, _, rfl, _, _, rfl, rfl, ?_⟩
    refine ⟨_, rfl, p, 9, c, rfl, hp, by decide, by decide, fun H1 b1 p1 r10 r11 => ?_⟩
    have f1 : takeM c 9 = d1 c := rfl
    rw [f1] at p1 r10 r11 ⊢
    refine ⟨_, rfl, _, rfl, p, 2, (d1 c).2, rfl, p1, by decide, by decide, fun H2 b2 p2 r20 r21 => ?_⟩
    have f2 : takeM (d1 c).2 2 = d2 c := rfl
    rw [f2] at p2 r20 r21 ⊢
    have b02 := b1.trans b2
    obtain ⟨nm, an⟩ := pick_strF (zs := NS2) r20 r21
    refine ⟨nl, _, _, _, rfl, rfl, .of (b02 _ _ np hn), an, ?_⟩
    have lzs : 0 < zs.length := List.length_pos_iff.mpr zne
    refine ⟨_, rfl, _, rfl, _, rfl, il, _, rfl, .inl (.of (b02 _ _ lp' hil)), p, _, (d2 c).2, rfl, p2, by rw [List.length_map]; omega, by rw [List.length_map]; omega, fun H3 b3 p3 r30 r31 => ?_⟩
    have f3 : takeM (d2 c).2 ((zs.map V.str).length : Int) = d3 zs c := by rw [List.length_map]; rfl
    rw [f3] at p3 r30 r31 ⊢
    rw [List.length_map] at r31
    have b03 := b02.trans b3
    obtain ⟨zm, az⟩ := pick_strF (zs := zs) r30 r31
    refine ⟨il, _, _, _, rfl, rfl, .of (b03 _ _ lp' hil), az, _, _, _, rfl, ?_⟩
    have en : pk NS2 (d2 c).1 = nmM c := rfl
    have ez : pk zs (d3 zs c).1 = itM zs c := rfl
    rw [en] at nm ⊢
    rw [ez] at zm ⊢
    have iz := zI _ zm
    have inm : Item (nmM c) := by
      rcases List.mem_cons.mp nm with q | q
      · rw [q]; exact it_lr.1
      · rw [List.mem_singleton.mp q]; exact it_lr.2
    clear an az b1 b2 b3 p1 p2 b02
    have h33 : Same (hid [p] H) (hid [p] H3) := hid_but b03 (by simp)
    have dp : d ≠ p := fun q => by
      obtain ⟨_, _, z, _⟩ := hp.pool.ex
      rw [q, z] at h3
      cases h3
    have a0p : a0 ≠ p := fun q => by
      obtain ⟨_, _, z, _⟩ := hp.pool.ex
      rw [q, z] at h4
      cases h4
    have hd3 := b03 _ _ dp h3
    have sk3 : SkH K H3 kvs e.1 := Paired.mapP h3' fun _ _ q => ⟨q.1, q.2.elim fun t z => ⟨t, z.1, SqT.same3 z.2 hp.pool b03⟩⟩
    refine ⟨_, rfl, d, rfl, .inl ⟨_, .inr ⟨oF, hd3⟩⟩, _, rfl, by show 0 ≤ sizeLine; decide, fun U hU => ?_⟩
    have sU : Same H3 (upd H3 U (.tup [])) := Same.new hU
    have hUU : upd H3 U (.tup []) U = some (.tup []) := upd_same
    generalize upd H3 U (.tup []) = H4 at sU hUU ⊢
    have sk4 := skH_same sk3 sU
    refine ⟨_, .inl ⟨kvs, Sum.inr (nmM c), .inr ⟨oF, sU _ _ hd3⟩, rfl, rfl⟩, ?_⟩
    obtain ⟨q, eq, hq⟩ : ∃ q, (valV kvs (Sum.inr (nmM c))).getD (V.ref U) = V.ref q ∧ SqT K H4 q ((getS e.1 (nmM c)).map V.str) := by
      unfold getS
      rcases skH_val (n := nmM c) sk4 with ⟨z1, z2⟩ | ⟨p, t2, z1, z2, z3⟩
      · rw [z1, z2]
        exact ⟨U, rfl, .of hUU⟩
      · rw [z1, z2]
        exact ⟨t2, rfl, z3⟩
    rw [eq]
    obtain ⟨g1, g2⟩ := ok.get (nmM c)
    refine ⟨_, rfl, by show 1 ≤ sizeLine; decide, fun a1 ha1 => ?_⟩
    have s5 : Same H4 (upd H4 a1 (.tup [.str (itM zs c)])) := Same.new ha1
    refine catT (Same.tup s5 hq) (.of upd_same) (by omega) fun r H6 s6 hr6 => ?_
    have s36 : Same H3 H6 := (sU.trans s5).trans s6
    have b06 : But p H H6 := b03.trans (.of s36)
    have p6 := p3.same s36
    have hd6 := s36 _ _ hd3
    have sk6 := skH_same sk3 s36
    refine ⟨r, _, 0, _, rfl, rfl, hr6, head_at _ _, ?_⟩
    have et : ((getS e.1 (nmM c) ++ [itM zs c]).head?).getD "" = tpM zs c e.1 := rfl
    rw [et]
    have it := tp_item (zs := zs) (c := c) ok iz
    have n0 : (us ++ [V.ref r0]).length = us.length + 1 := by rw [List.length_append]; rfl
    -- what is told
    have ret : ∀ {Hx : Hp} {o : Out} {cx : PC}, But p H Hx → PoolV Hx p cx → outM zs c e.1 e.2.1 (us.length + 1) = o → (outV o).length ≤ sizeLine ∧ ∀ t, Hx t = none → Q (.ref t) (upd Hx t (.lst (outV o))) := fun {Hx o cx} bx px eo => ⟨Nat.le_trans (out_sz o) (by decide), fun t ht => by
      have tp := px.pool.free ht
      refine k t _ (bx.trans (.of (Same.new ht))) ?_ tp (by rw [eo]; exact upd_same)
      cases hh : H t with
      | none => rfl
      | some u =>
        rw [bx _ _ tp hh] at ht
        cases ht⟩
    refine ⟨_, rfl, rfl, _, rfl, ite2 (fun cw => ?_) (fun cw => ?_)⟩
    · have w0 : (d1 c).1 = 0 := V.int.inj (of_decide_eq_true cw)
      have eo : outM zs c e.1 e.2.1 (us.length + 1) = if us.length + 1 = 1 then .nothing else .done := if_pos w0
      refine ⟨_, rfl, A, _, rfl, .inl (.of (b06 _ _ Ap hA)), rfl, _, rfl, ite2 (fun cl => ?_) (fun cl => ?_)⟩
      · have l0 : ((us ++ [V.ref r0]).length : Int) = 1 := V.int.inj (of_decide_eq_true cl)
        rw [if_pos (by omega)] at eo
        exact ret b06 p6 eo
      · have l0 : ¬ ((us ++ [V.ref r0]).length : Int) = 1 := fun q => cl (decide_eq_true (congrArg V.int q))
        rw [if_neg (by omega)] at eo
        exact ret b06 p6 eo
    · have w0 : ¬ (d1 c).1 = 0 := fun q => cw (decide_eq_true (congrArg V.int q))
      refine ⟨_, rfl, rfl, _, rfl, ite2 (fun cw1 => ?_) (fun cw1 => ?_)⟩
      · have w1 : (d1 c).1 = 1 := V.int.inj (of_decide_eq_true cw1)
        have eo : outM zs c e.1 e.2.1 (us.length + 1) = if high (lmM zs c e.1) (topH e.1) = true then .limit (lmM zs c e.1) else .done := (if_neg w0).trans (if_pos w1)
        refine ⟨_, rfl, d, kvs, rfl, .inr ⟨oF, hd6⟩, fun v1 hv1 => ?_⟩
        have s7 : Same H6 (upd H6 v1 (.lst (kvs.map Prod.snd))) := Same.new hv1
        have hvv : upd H6 v1 (.lst (kvs.map Prod.snd)) v1 = some (.lst (kvs.map Prod.snd)) := upd_same
        generalize upd H6 v1 (.lst (kvs.map Prod.snd)) = H7 at s7 hvv ⊢
        refine ⟨by show 0 ≤ sizeLine; decide, fun e1 he1 => ⟨by show 1 ≤ sizeLine; decide, fun q1 hq1 => ?_⟩⟩
        have s8 : Same H7 (upd H7 e1 (.tup [])) := Same.new he1
        have hee : upd H7 e1 (.tup []) e1 = some (.tup []) := upd_same
        generalize upd H7 e1 (.tup []) = H8 at s8 hee hq1 ⊢
        have s9 : Same H8 (upd H8 q1 (.lst [.ref e1])) := Same.new hq1
        have hqq : upd H8 q1 (.lst [.ref e1]) q1 = some (.lst [.ref e1]) := upd_same
        generalize upd H8 q1 (.lst [.ref e1]) = H9 at s9 hqq ⊢
        have lkv : kvs.length = e.1.length := paired_len sk3
        have lok := ok.len
        refine ⟨v1, q1, _, _, rfl, rfl, s9 _ _ (s8 _ _ hvv), hqq, by rw [List.length_map, List.length_singleton, sizeLine_eq]; omega, fun r1 hr1' => ?_⟩
        have s10 : Same H9 (upd H9 r1 (.lst (kvs.map Prod.snd ++ [.ref e1]))) := Same.new hr1'
        have hrr : upd H9 r1 (.lst (kvs.map Prod.snd ++ [.ref e1])) r1 = some (.lst (kvs.map Prod.snd ++ [.ref e1])) := upd_same
        generalize upd H9 r1 (.lst (kvs.map Prod.snd ++ [.ref e1])) = H10 at s10 hrr ⊢
        have s610 : Same H6 H10 := ((s7.trans s8).trans s9).trans s10
        have sk10 := skH_same sk6 s610
        have he10 : SqT K H10 e1 [] := .of ((s9.trans s10) _ _ hee)
        refine ⟨r1, rfl, ⟨_, .of hrr⟩, fun D hD => lc_list (K := K) (a := r1) (xs := kvs.map Prod.snd ++ [.ref e1]) (fun j H2 => H2 D = some (.lst (((lensM e.1).take j).map V.int)) ∧ Same H10 H2) ⟨upd_same, Same.new hD⟩ (fun j H2 _ q => .of (q.2 _ _ hrr)) ?_ ?_⟩
        · rintro j x H2 hx ⟨h2, s2⟩
          obtain ⟨t, ws, rfl, hT, hl⟩ := val_at he10 sk10 hx
          refine ⟨rfl, yes_in ⟨_, rfl, t, _, rfl, .inr (Same.tup s2 hT), _, h2, ?_, ?_, Same.free2 s2 hD⟩⟩
          · have ll : (lensM e.1).length = e.1.length + 1 := by
              unfold lensM
              rw [List.length_append, List.length_map]
              rfl
            rw [List.length_map, List.length_take, ll, sizeLine_eq]
            omega
          · rw [upd_same, List.take_add_one, hl, List.map_append, List.length_map]
            rfl
        · rintro H2 ⟨h2, s2⟩
          have ll : (kvs.map Prod.snd ++ [V.ref e1]).length = (lensM e.1).length := by
            unfold lensM
            rw [List.length_append, List.length_append, List.length_map, List.length_map, lkv]
            rfl
          rw [ll, List.take_length] at h2
          refine ⟨D, lensM e.1, rfl, .of h2, by unfold lensM; simp, fun m1 mm hle => ?_⟩
          have em := lens_max mm hle
          subst em
          have s62 := s610.trans s2
          have b62 := b06.trans (.of s62)
          have p62 := p6.same s62
          refine ⟨_, rfl, p, 4, (d3 zs c).2, rfl, p62, by decide, by decide, fun H11 b11 p11 r110 r111 => ?_⟩
          have f4 : takeM (d3 zs c).2 4 = l1 zs c := rfl
          rw [f4] at p11 r110 r111 ⊢
          refine ⟨_, rfl, _, _, rfl, rfl, by show 3 ≤ sizeLine; decide, fun LL hLL => ?_⟩
          have s12 : Same H11 (upd H11 LL (.lst [.non, .int (l1 zs c).1, .int (1 + (topH e.1 : Nat))])) := Same.new hLL
          have hL12 : upd H11 LL (.lst [.non, .int (l1 zs c).1, .int (1 + (topH e.1 : Nat))]) LL = some (.lst [.non, .int (l1 zs c).1, .int (1 + (topH e.1 : Nat))]) := upd_same
          have p12 := p11.same s12
          have LLp : LL ≠ p := p11.pool.free hLL
          refine ⟨_, rfl, p, 3, (l1 zs c).2, rfl, p12, by decide, by decide, fun H13 b13 p13 r130 r131 => ?_⟩
          have f5 : takeM (l1 zs c).2 3 = l2 zs c := rfl
          rw [f5] at p13 r130 r131 ⊢
          have b613 : But p H H13 := (b62.trans b11).trans ((But.of s12).trans b13)
          refine ⟨LL, _, _, _, rfl, rfl, .of (b13 _ _ LLp hL12), pick_lim r130 r131 r110, ?_⟩
          cases elm : lmM zs c e.1 with
          | none =>
            rw [elm] at eo
            exact ⟨_, rfl, rfl, _, rfl, iteF (iteF (ret b613 p13 eo))⟩
          | some n =>
            rw [elm] at eo
            refine ⟨_, rfl, rfl, _, rfl, iteT ⟨_, rfl, _, rfl, _, _, rfl, rfl, _, rfl, ?_⟩⟩
            show if decide (((topH e.1 : Nat) : Int) > (n : Int)) = true then _ else _
            rw [lim_high]
            cases hh : high (some n) (topH e.1) with
            | true =>
              rw [hh] at eo
              exact iteT ⟨_, rfl, ret b613 p13 eo⟩
            | false =>
              rw [hh] at eo
              exact iteF (ret b613 p13 eo)
      · have w1 : ¬ (d1 c).1 = 1 := fun q => cw1 (decide_eq_true (congrArg V.int q))
        have eo : outM zs c e.1 e.2.1 (us.length + 1) = match perfI e.2.1 (stM zs c e.1) e.1 with | some j => .failed j | none => .done := (if_neg w0).trans (if_neg w1)
        refine ⟨_, rfl, _, rfl, by show 3 ≤ sizeLine; decide, fun t1 ht1 => ⟨by show 1 ≤ sizeLine; decide, fun L1 hL1 => ?_⟩⟩
        have s7 : Same H6 (upd H6 t1 (.tup [.str "push", .str (nmM c), .str (itM zs c)])) := Same.new ht1
        have ht7 : upd H6 t1 (.tup [.str "push", .str (nmM c), .str (itM zs c)]) t1 = some (.tup [.str "push", .str (nmM c), .str (itM zs c)]) := upd_same
        generalize upd H6 t1 (.tup [.str "push", .str (nmM c), .str (itM zs c)]) = H7 at s7 ht7 hL1 ⊢
        have s8 : Same H7 (upd H7 L1 (.lst [.ref t1])) := Same.new hL1
        have hL8 : upd H7 L1 (.lst [.ref t1]) L1 = some (.lst [.ref t1]) := upd_same
        generalize upd H7 L1 (.lst [.ref t1]) = H8 at s8 hL8 ⊢
        have s68 := s7.trans s8
        have b8 : But p H H8 := b06.trans (.of s68)
        have p8 := p6.same s68
        refine ⟨fun σ Hx => ∃ (L : Addr) (ws : List V) (cx : PC), σ = [some (.ref p), some (.ref A), some (.ref nl), some (.ref il), some (.ref d), some (limV e.2.1), some (.ref a0), some (.int (d1 c).1), some (.str (nmM c)), some (.str (itM zs c)), some (.str (tpM zs c e.1)), none, none, some (.ref L), none, none] ∧ But p H Hx ∧ PoolV Hx p cx ∧ Hx L = some (.lst ws) ∧ NSV K Hx ws (stM zs c e.1) ∧ (∀ s ∈ stM zs c e.1, NOk s) ∧ (stM zs c e.1).length ≤ 6, ?_, ?_⟩
        · refine ⟨_, rfl, _, _, rfl, rfl, _, rfl, ite2 (fun q6 => ?_) (fun q6 => ?_)⟩
          · have w6 : (d1 c).1 > 6 := of_decide_eq_true q6
            have es : stM zs c e.1 = (wellN NS2 zs (s1 zs c).1.toNat (s1 zs c).2).2.1 := if_pos w6
            refine ⟨_, rfl, _, rfl, _, rfl, _, rfl, p, 6, (d3 zs c).2, rfl, p8, by decide, by decide, fun H9 b9 p9 r90 r91 => ?_⟩
            have f6 : takeM (d3 zs c).2 6 = s1 zs c := rfl
            rw [f6] at p9 r90 r91 ⊢
            have b89 := b8.trans b9
            refine ⟨p, nl, il, (s1 zs c).1, NS2, zs, (s1 zs c).2, rfl, p9, np, b89 _ _ np hn, by simp, by decide, fun z mz => ?_, by decide +kernel, lp', b89 _ _ lp' hil, zne, z1, zI, r90, by omega, fun t us2 Hz bz pz ht tp htl hN hl hok => ⟨t, us2, _, rfl, b89.trans bz, pz, htl, by rw [es]; exact hN.v, fun s ms => (hok s (by rw [← es]; exact ms)).1, by rw [es]; omega⟩⟩
            rcases List.mem_cons.mp mz with q | q
            · rw [q]; exact it_lr.1
            · rw [List.mem_singleton.mp q]; exact it_lr.2
          · have w6 : ¬ (d1 c).1 > 6 := fun q => q6 (decide_eq_true q)
            refine ⟨_, rfl, _, _, rfl, rfl, _, rfl, ite2 (fun q4 => ?_) (fun q4 => ?_)⟩
            · have w4 : (d1 c).1 > 4 := of_decide_eq_true q4
              have es : stM zs c e.1 = [(false, nmM c, tpM zs c e.1)] := (if_neg w6).trans (if_pos w4)
              refine ⟨_, rfl, _, rfl, by show 3 ≤ sizeLine; decide, fun t2 ht2 => ⟨by show 1 ≤ sizeLine; decide, fun L2 hL2 => ?_⟩⟩
              have sa := (Same.new (o := .tup [.str "pop", .str (nmM c), .str (tpM zs c e.1)]) ht2).trans (Same.new (o := .lst [.ref t2]) hL2)
              refine ⟨L2, [.ref t2], _, rfl, b8.trans (.of sa), p8.same sa, upd_same, ?_, fun s ms => ?_, by rw [es]; exact Nat.le_add_left 1 5⟩
              · rw [es]
                exact .cons ⟨t2, rfl, .of (Same.new hL2 _ _ upd_same)⟩ .nil
              · rw [es] at ms
                rw [List.mem_singleton.mp ms]
                exact ⟨inm, it⟩
            · have w4 : ¬ (d1 c).1 > 4 := fun q => q4 (decide_eq_true q)
              have es : stM zs c e.1 = [(true, nmM c, itM zs c)] := (if_neg w6).trans (if_neg w4)
              refine ⟨L1, [.ref t1], _, rfl, b8, p8, hL8, ?_, fun s ms => ?_, by rw [es]; exact Nat.le_add_left 1 5⟩
              · rw [es]
                exact .cons ⟨t1, rfl, .of (s8 _ _ ht7)⟩ .nil
              · rw [es] at ms
                rw [List.mem_singleton.mp ms]
                exact ⟨inm, iz⟩
        · rintro σ Hx ⟨L, ws, cx, rfl, bx, px, hL, hN, hok, hlen⟩
          have hdx := bx _ _ dp h3
          have skx : SkH K Hx kvs e.1 := Paired.mapP h3' fun _ _ q => ⟨q.1, q.2.elim fun t z => ⟨t, z.1, SqT.same3 z.2 hp.pool bx⟩⟩
          have lw := paired_len hN
          refine ⟨_, rfl, _, rfl, _, rfl, L, d, ws, stM zs c e.1, e.1, m, b, e.2.1, rfl, .of hL, by omega, hN, hok, ⟨oF, kvs, hdx, skx⟩, ok, hm, hb, fun hs2 e1 ok2 dd kv Hy sy nd hdd hkk => ?_, fun j s sj q1 q2 q3 Hy sy => ?_⟩
          · rw [perfI_none e1] at eo
            refine ⟨_, rfl, ?_⟩
            dsimp only [tCons, tC, tNil]
            exact isi_dict hdd ⟨false, rfl, iteF (ret (bx.trans (.of sy)) (px.same sy) eo)⟩
          · rw [perfI_bad q1 q2 q3] at eo
            refine ⟨_, rfl, ?_⟩
            dsimp only [tCons, tC, tNil]
            exact isi_int ⟨true, rfl, iteT ⟨_, rfl, ret (bx.trans (.of sy)) (px.same sy) eo⟩⟩
end
end SE
namespace SE
open PySem PySem.Spec PyProof.Rows L2
section
variable {P : Program} {w : World} {K : PySem.W.Frag} {mg : Str → Option Value} {base : Heap} {C CE CL CN : Addr}
/-- list + list, whichever lists -/
def rCatX (K : PySem.W.Frag) : R2 := fun x y H Q => ∃ l b xs zs, x = .ref l ∧ y = .ref b ∧ SqL K H l xs ∧ SqL K H b zs ∧ xs.length + zs.length ≤ sizeLine ∧ ∀ p, H p = none → Q (.ref p) (upd H p (.lst (xs ++ zs)))
theorem op_catX {X : Cx} : OpR X (binaryOp .Add) (rCatX X.K) := by
  intro pins s σ H x y v u Q I rx ry h
  obtain ⟨l, b, xs, zs, rfl, rfl, hH, hB, hz, q⟩ := h
  cases rx
  cases ry
  obtain ⟨its, r, p1, z1⟩ := I.list hH
  obtain ⟨its2, r2, p2, z2⟩ := I.list hB
  have l1 := r.length
  have l2 := r2.length
  obtain ⟨⟨cls, dd, data, sl⟩, n, ho, hc, hd, hda⟩ := p1
  obtain ⟨⟨cls2, dd2, data2, sl2⟩, n2, ho2, hc2, hd2, hda2⟩ := p2
  simp only at hc hd hda hc2 hd2 hda2
  subst hc hda hc2 hda2
  have e : its.toArray ++ its2.toArray = (its ++ its2).toArray := by simp
  refine concat_meets ⟨_, ho, rfl⟩ ⟨_, ho2, rfl⟩ noFill_list_add seq_list_add PySem.F.slot_list_add PySem.F.entry_list_add (PySem.F.args_list_add_2 _ _) (list_addW l b its.toArray its2.toArray n n2 dd dd2 sl sl2 (by simp only [List.size_toArray]; omega)) ⟨ho, ho2, ?_⟩
  rw [e]
  exact ⟨.ref _, _, I.lnew (t' := s.toks) (r.append r2) (by rw [List.length_append]; omega), rfl, q _ I.fresh⟩
theorem paired_app {α β : Type} {F : α → β → Prop} : ∀ {a c : List α} {b d : List β}, Paired F a b → Paired F c d → Paired F (a ++ c) (b ++ d)
  | _, _, _, _, .nil, h => h
  | _, _, _, _, .cons q r, h => .cons q (paired_app r h)
theorem top_le {hs : Sk} {m b : Nat} (ok : SkOk hs m b) : topH hs ≤ b := by
  obtain ⟨_, _, h3⟩ := foldl_max (hs.map fun p => p.2.length) 0
  unfold topH
  rcases h3 with q | q
  · omega
  · obtain ⟨p, mp, ep⟩ := List.mem_map.mp q
    rw [← ep]
    exact (ok.ok p mp).2.2
theorem lm_ok {zs : List Str} {c : PC} {hs : Sk} (h4 : (l1 zs c).1 < 4) (ht : topH hs ≤ 900) : LimOk (lmM zs c hs) := by
  intro n hn
  unfold lmM at hn
  split at hn
  · cases hn
  · split at hn
    · cases hn
      omega
    · cases hn
      omega
theorem perfI_one {l : Lim} {s : NSt} {a : Sk} (h : perfS l [s] a = none) : perfI l [s] a = some 0 := perfI_bad (j := 0) (sj := a) rfl rfl h
/-- a row of the past, built of steps -/
def tRow (K : PySem.W.Frag) : TE := fun σ H Q => ∃ (Ls d a0 : Addr) (l : Lim) (ws us0 : List V) (st ns : List NSt) (hs hs2 : Sk) (m b : Nat) (o2 : Obj), σ[14]? = some (some (.ref Ls)) ∧ σ[5]? = some (some (.ref d)) ∧ σ[6]? = some (some (limV l)) ∧ σ[7]? = some (some (.ref a0)) ∧ SqL K H Ls ws ∧ ws.length ≤ 1000 ∧ NSV K H ws st ∧ (∀ s ∈ st, NOk s) ∧ SkF K H d hs ∧ SkOk hs m b ∧ m ≤ 90000 ∧ b ≤ 4000 ∧
  H a0 = some (.frz o2 (.lst us0)) ∧ NSV K H us0 ns ∧ us0.length ≤ 10000 ∧ perfS l st hs = some hs2 ∧ ∀ (r : Addr) (H' : Hp), Same H H' → H r = none → PastV K H' (.ref r) (hs2, l, ns ++ st) → Q (.ref r) H'
theorem pe_row {X : Cx} {e : Expr} (h : PE X e (tFrz (tLst (tCons (tFrz (tCall (spLP X.K) [] E0 (tCons (tVar 14) (tCons (tVar 5) (tCons (tVar 6) tNil))))) (tCons (tVar 6) (tCons (tFrz (tOp (rCatX X.K) (tVar 7) (tVar 14))) tNil)))))) : PE X e (tRow X.K) := by
  refine ⟨fun pins s σ H Q I hw => h.run pins s σ H Q I ?_⟩
  obtain ⟨Ls, d, a0, l, ws, us0, st, ns, hs, hs2, m, b, o2, h14, h5, h6, h7, hL, lw, hN, hI, hd, ok, hm, hb, ha, hN0, l0, hp, k⟩ := hw
  refine ⟨_, h14, _, h5, _, h6, Ls, d, ws, st, hs, m, b, l, rfl, hL, lw, hN, hI, hd, ok, hm, hb, fun hs3 e1 ok2 dd kv Hy sy nd hdd hkk => ?_, fun j s sj q1 q2 q3 Hy sy => ?_⟩
  · rw [hp] at e1
    cases e1
    refine ⟨dd, .dK kv, rfl, hdd, trivial, fun od => ?_⟩
    have s1 : Same H (upd Hy dd (.frz od (.dK kv))) := Same.free2 sy nd
    have f1 : upd Hy dd (.frz od (.dK kv)) dd = some (.frz od (.dK kv)) := upd_same
    have k1 : SkH X.K (upd Hy dd (.frz od (.dK kv))) kv hs2 := skH_upd (.dK hdd) hkk
    generalize upd Hy dd (.frz od (.dK kv)) = H1 at s1 f1 k1 ⊢
    refine ⟨_, h6, _, h7, _, h14, a0, Ls, us0, ws, rfl, rfl, .inl (.inr ⟨o2, s1 _ _ ha⟩), Same.seq s1 hL, by rw [sizeLine_eq]; omega, fun q hq => ⟨q, _, rfl, upd_same, trivial, fun oq => ?_⟩⟩
    have s2 : Same H1 (upd (upd H1 q (.lst (us0 ++ ws))) q (.frz oq (.lst (us0 ++ ws)))) := Same.free2 (Same.new hq) hq
    have f2 : upd (upd H1 q (.lst (us0 ++ ws))) q (.frz oq (.lst (us0 ++ ws))) q = some (.frz oq (.lst (us0 ++ ws))) := upd_same
    generalize upd (upd H1 q (.lst (us0 ++ ws))) q (.frz oq (.lst (us0 ++ ws))) = H2 at s2 f2 ⊢
    refine ⟨by show 3 ≤ sizeLine; decide, fun r hr => ⟨r, _, rfl, upd_same, trivial, fun o1 => ?_⟩⟩
    have s3 : Same H2 (upd (upd H2 r (.lst [.ref dd, limV l, .ref q])) r (.frz o1 (.lst [.ref dd, limV l, .ref q]))) := Same.free2 (Same.new hr) hr
    have s12 := s1.trans s2
    have s13 := s12.trans s3
    have s23 := s2.trans s3
    exact k r _ s13 (s12.free hr) ⟨r, dd, q, us0 ++ ws, o1, oq, rfl, upd_same, ⟨od, kv, s23 _ _ f1, skH_same k1 s23⟩, s3 _ _ f2, paired_app (nsv_same hN0 s13) (nsv_same hN s13)⟩
  · have z1 := perfI_none hp
    rw [perfI_bad q1 q2 q3] at z1
    cases z1
/-! ### _law_deed -/
structure DeedIn (K : PySem.W.Frag) (C : Addr) (k : Nat) (H : Hp) (p o L A nl il : Addr) (c : PC) (zs : List Str) (ss : Sk) (l : Lim) (ds : List Deed) (us : List V) (ps : List PastE) : Prop where
  pl : PoolV H p c
  nl_ : H nl = some (.lst (NS2.map V.str)) ∧ nl ≠ p ∧ nl ≠ L ∧ nl ≠ A
  il_ : H il = some (.lst (zs.map V.str)) ∧ il ≠ p ∧ il ≠ L ∧ il ≠ A
  zne : zs ≠ []
  z1 : zs.length ≤ 100
  zI : ∀ z ∈ zs, Item z
  ses : SesX K C none [] H o L ss l ds
  at_ : H A = some (.lst us)
  past : Paired (PastV K H) us ps
  tr : Tr k ps ss l ds
  d1 : A ≠ p
  d2 : L ≠ p
  d3 : A ≠ L
  k1 : k ≤ 41
  dl : ds.length ≤ k
def spDeed (K : PySem.W.Frag) (C CE CL CN : Addr) : Sp := fun vs H Q E => ∃ (k : Nat) (p o L A nl il : Addr) (c : PC) (zs : List Str) (ss : Sk) (l : Lim) (ds : List Deed) (us : List V) (es : List PastE) (e : PastE), vs = [.ref p, .ref o, .ref A, .ref nl, .ref il] ∧ DeedIn K C k H p o L A nl il c zs ss l ds us (es ++ [e]) ∧
  (outM zs c e.1 e.2.1 (es.length + 1) = .done → ∀ H' us' ps' ss' l' ds', Keep [o, L, A, p] H H' → SesX K C none [] H' o L ss' l' ds' → H' A = some (.lst us') → Paired (PastV K H') us' ps' → Tr (k + 1) ps' ss' l' ds' → ds'.length ≤ k + 1 → Q .non H') ∧
  (∀ (cl : Addr) (fs : List (Str × V)), (cl = CN ∧ fs = ([("count", .int 0)] : List (Str × V)) ∧ outM zs c e.1 e.2.1 (es.length + 1) = .nothing) ∨ (∃ lm, cl = CL ∧ fs = ([("limit", limV lm)] : List (Str × V)) ∧ outM zs c e.1 e.2.1 (es.length + 1) = .limit lm) ∨ (∃ j : Nat, cl = CE ∧ fs = ([("index", .int (j : Nat))] : List (Str × V)) ∧ outM zs c e.1 e.2.1 (es.length + 1) = .failed j) →
    ∀ d H', Keep [o, L, A, p] H H' → SesX K C none [] H' o L ss l ds → H' A = some (.lst us) → Paired (PastV K H') us (es ++ [e]) → H' d = some (.xd fs) → E (.ref cl) (some d) H')
abbrev nDe : List Str := ["_law_pool_here", "_law_session", "_law_past", "_law_names", "_law_items_here", "_law_heaps", "_law_bound", "_law_every", "_law_way", "_law_name_here", "_law_item", "_law_top", "_law_high", "_law_more", "_law_steps_here", "_law_handed", "_law_pile"]
abbrev pDe : List Str := ["_law_pool_here", "_law_session", "_law_past", "_law_names", "_law_items_here"]
theorem scDe : FnScope nDe pDe (defScope sLawDeed) := ⟨rfl, rfl, rfl, by decide +kernel, rfl, by decide +kernel, by decide +kernel⟩
theorem hasX_deed (D : Def K mg "_law_deed" sLawDeed) (T : SCl K C) (GT : Has P w K mg base "_law_take" 1 ["_law_pool_here", "_law_many"] [] spTakeF) (GW : Has P w K mg base "_law_named_well" 2 ["_law_pool_here", "_law_names", "_law_items_here", "_law_many"] [] spNamedF) (GP : Has P w K mg base "_law_performed" 1 ["_law_steps_here", "_law_heaps", "_law_bound"] [] (spLP K))
    (UN : MethHasX P w K mg base C "undo" 3 ["self"] (spUn K C CN none)) (SL : MethHasX P w K mg base C "set_limit" 5 ["self", "value"] (spSl K C CL none)) (PU : MethHasX P w K mg base C "push" 6 ["self", "name", "item"] (spPp K C CE none true)) (PO : MethHasX P w K mg base C "pop" 6 ["self", "name", "item"] (spPp K C CE none false)) (PF : MethHasX P w K mg base C "perform" 5 ["self", "steps"] (spPf K C CE none))
    (B : Blt mg) (mx : mg "max" = none) : HasX P w K mg base "_law_deed" 7 pDe [] (spDeed K C CE CL CN) := by
  refine hasX_of D scDe (fun _ _ _ _ _ _ us hl => match us, hl with | [_, _, _, _, _], _ => rfl) (fun xs H Q E h => ?_) (fun f cv A' out s H xs Q E hr h => ?_)
  · obtain ⟨k, p, o, L, A, nl, il, c, zs, ss, l, ds, us, es, e, rfl, _⟩ := h
    rfl
  · obtain ⟨k, p, o, L, A, nl, il, c, zs, ss, l, ds, us, es, e, rfl, hd, kD, kE⟩ := h
    have hu := room_u hr
    have hr1 : Room 1 _ := hr.mono (by decide)
    have hr2 : Room 2 _ := hr.mono (by decide)
    have hr3 : Room 3 _ := hr.mono (by decide)
    have hr5 : Room 5 _ := hr.mono (by decide)
    refine ⟨_, pss_cons (ps_asg (pe_ix ix_list (pv 2) (pe_un un_neg pe_int) (fun _ _ => rfl)) (pg_lst rfl (pgs_cons (pg_name (i := 5) scDe.nd rfl (.inl rfl)) (pgs_cons (pg_name (i := 6) scDe.nd rfl (.inl rfl)) (pgs_cons (pg_name (i := 7) scDe.nd rfl (.inl rfl)) pgs_nil)))))
      (pss_cons (ps_par3 (i := 8) (j := 9) (l := 10) (by rfl) scDe.nd rfl rfl rfl (by decide) (by decide) (by decide) rfl rfl rfl (pa_cons (pe_has GT hr1 (pa_cons (pv 0) (pa_cons pe_int pa_nil))) (pa_cons (pe_ix ix_list (pv 3) (pe_has GT hr1 (pa_cons (pv 0) (pa_cons pe_int pa_nil))) (fun _ _ => rfl)) (pa_cons (pe_ix ix_list (pv 4) (pe_has GT hr1 (pa_cons (pv 0) (pa_cons (pe_callB call_len_seq (by rfl) B.len PySem.boot_len (pa_cons (pv 4) pa_nil)) pa_nil))) (fun _ _ => rfl)) pa_nil))) (by rfl))
      (pss_cons (ps_set (i := 11) scDe.nd rfl (.inl rfl) (pe_ix ix_tup (pe_op op_catA (pe_dget2 hu (pv 5) (pv 9) (pe_tup pa_nil) ⟨rfl, rfl, rfl, rfl⟩) (pe_tup (pa_cons (pv 10) pa_nil))) pe_int (fun _ _ => rfl)))
      (pss_one (ps_if (pt_cmpR op_eq (pv 8) pe_int (nomark _))
        (pss_cons (ps_expr (pe_mX0 UN (fun σ => passAt tkX σ) (pv 1) T.cl hr3)) (pss_one (ps_expr (pe_bm0 PySem.F.plainAttrs_list PySem.F.slot_list_pop PySem.F.type_list_pop mt_pop (pv 2)))))
        (pss_one (ps_if (pt_cmpR op_eq (pv 8) pe_int (nomark _))
          (pss_cons (ps_set (i := 12) scDe.nd rfl (.inl rfl) (pe_callB (cr_max rfl) (by rfl) mx (by decide +kernel) (pa_cons
            (pe_lc (own := [("_law_pile", 16)]) (g := gName 16) (tt := tYes) (te := tCB (Evl.rLenS K) (tCons (tVar 16) tNil)) rfl scDe.nd (pi_list (pe_op op_cat (pe_listValsF rfl (pv 5) (by rfl) B.lst rfl) (pe_lst (pa_cons (pe_tup pa_nil) pa_nil)))) (blkOk_by (own := [("_law_pile", 16)]) (N := nDe) (sc := defScope sLawDeed) (by decide +kernel))
              (fun _ _ _ _ _ => pg_name (i := 16) scDe.nd rfl (.inl rfl)) (fun _ _ _ _ _ => pts_nil) (fun _ _ _ _ _ => pe_callB call_len_seq (by rfl) B.len PySem.boot_len (pa_cons (pv 16) pa_nil))) pa_nil)))
          (pss_cons (ps_set (i := 13) scDe.nd rfl (.inl rfl) (pe_ix ix_list (pe_lst (pa_cons pe_non (pa_cons (pe_has GT hr1 (pa_cons (pv 0) (pa_cons pe_int pa_nil))) (pa_cons (pe_op op_add pe_int (pv 12)) pa_nil)))) (pe_has GT hr1 (pa_cons (pv 0) (pa_cons pe_int pa_nil))) (fun _ _ => rfl)))
          (pss_cons (ps_expr (pe_mX SL (fun σ => passAt tkX σ) (pv 1) T.cl hr5 (pa_cons (pv 13) pa_nil)))
          (pss_one (ps_expr (pe_bm PySem.F.plainAttrs_list PySem.F.slot_list_append PySem.F.type_list_append mt_append (pv 2) (pa_cons (pe_frz (pe_lst (pa_cons (pv 5) (pa_cons (pv 13) (pa_cons (pv 7) pa_nil))))) pa_nil)))))))
          (pss_one (ps_if (pt_cmpR op_lt (pv 8) pe_int (nomark _))
            (pss_cons (ps_set (i := 14) scDe.nd rfl (.inl rfl) (pe_lst (pa_cons (pe_tup (pa_cons pe_str (pa_cons (pv 9) (pa_cons (pv 10) pa_nil)))) pa_nil)))
            (pss_cons (ps_expr (pe_mX PU (fun σ => passAt tkX σ) (pv 1) T.cl hr (pa_cons (pv 9) (pa_cons (pv 10) pa_nil))))
            (pss_one (ps_expr (pe_bm PySem.F.plainAttrs_list PySem.F.slot_list_append PySem.F.type_list_append mt_append (pv 2) (pa_cons (pe_row (pe_frz (pe_lst (pa_cons (pe_frz (pe_has GP hr1 (pa_cons (pv 14) (pa_cons (pv 5) (pa_cons (pv 6) pa_nil))))) (pa_cons (pv 6) (pa_cons (pe_frz (pe_op op_catX (pv 7) (pv 14))) pa_nil)))))) pa_nil))))))
            (pss_one (ps_if (pt_cmpR op_lt (pv 8) pe_int (nomark _))
              (pss_cons (ps_set (i := 14) scDe.nd rfl (.inl rfl) (pe_lst (pa_cons (pe_tup (pa_cons pe_str (pa_cons (pv 9) (pa_cons (pv 11) pa_nil)))) pa_nil)))
              (pss_cons (ps_expr (pe_mX PO (fun σ => passAt tkX σ) (pv 1) T.cl hr (pa_cons (pv 9) (pa_cons (pv 11) pa_nil))))
              (pss_one (ps_expr (pe_bm PySem.F.plainAttrs_list PySem.F.slot_list_append PySem.F.type_list_append mt_append (pv 2) (pa_cons (pe_row (pe_frz (pe_lst (pa_cons (pe_frz (pe_has GP hr1 (pa_cons (pv 14) (pa_cons (pv 5) (pa_cons (pv 6) pa_nil))))) (pa_cons (pv 6) (pa_cons (pe_frz (pe_op op_catX (pv 7) (pv 14))) pa_nil)))))) pa_nil))))))
              (pss_cons (ps_set (i := 14) scDe.nd rfl (.inl rfl) (pe_has GW hr2 (pa_cons (pv 0) (pa_cons (pv 3) (pa_cons (pv 4) (pa_cons (pe_has GT hr1 (pa_cons (pv 0) (pa_cons pe_int pa_nil))) pa_nil))))))
              (pss_cons (ps_set (i := 15) scDe.nd rfl (.inl rfl) (pe_callTy call_list_of (by rfl) B.lst (by decide +kernel) (pa_cons (pv 14) pa_nil)))
              (pss_cons (ps_expr (pe_mX PF (fun σ => passAt tkX σ) (pv 1) T.cl hr5 (pa_cons (pe_ix ix_list (pe_lst (pa_cons (pv 15) (pa_cons (pe_callTy call_tuple_of (by rfl) B.tup (by decide +kernel) (pa_cons (pv 14) pa_nil)) pa_nil))) (pe_op op_sub (pv 8) pe_int) (fun _ _ => rfl)) pa_nil)))
              (pss_cons (ps_expr (pe_bm0 PySem.F.plainAttrs_list PySem.F.slot_list_clear PySem.F.type_list_clear mt_clear (pv 15)))
              (pss_one (ps_expr (pe_bm PySem.F.plainAttrs_list PySem.F.slot_list_append PySem.F.type_list_append mt_append (pv 2) (pa_cons (pe_row (pe_frz (pe_lst (pa_cons (pe_frz (pe_has GP hr1 (pa_cons (pv 14) (pa_cons (pv 5) (pa_cons (pv 6) pa_nil))))) (pa_cons (pv 6) (pa_cons (pe_frz (pe_op op_catX (pv 7) (pv 14))) pa_nil)))))) pa_nil)))))))))))))))))), ?_⟩
    obtain ⟨hp, ⟨hn, np, nL, nA⟩, ⟨hil, lp', iL, iA⟩, zne, z1, zI, ses, hA, past, tr, Ap, Lp, AL, k1, dl⟩ := hd
    obtain ⟨us1, v, rfl, pst1, hv⟩ := paired_last past
    have relx := tr.last
    obtain ⟨es', e', eee, rel⟩ := relx
    obtain ⟨ee1, ee2⟩ := List.append_inj' eee rfl
    cases ee2
    subst ee1
    obtain ⟨es0, l0, n0⟩ := (⟨rel.steps, rel.lim, tr.len⟩ : e.2.2 = flatD ds ∧ e.2.1 = l ∧ (es ++ [e]).length = ds.length + 1)
    have elen : es.length = ds.length := by rw [List.length_append] at n0; simpa using n0
    have ok := rel.okh
    have lo : ∀ b ∈ [o, L, A, p], Loose H b := fun b mb => by
      simp only [List.mem_cons, List.mem_nil_iff, or_false] at mb
      rcases mb with rfl | rfl | rfl | rfl
      · exact ses.loose _ (by simp [ownS])
      · exact ses.loose _ (by simp [ownS])
      · exact .lst hA
      · exact .lst hp.1
    have op : o ≠ p := fun q => by
      obtain ⟨dx, F, ws, g1, _⟩ := ses.ex
      rw [q, hp.1] at g1
      cases g1
    have oA : o ≠ A := fun q => by
      obtain ⟨dx, F, ws, g1, _⟩ := ses.ex
      rw [q, hA] at g1
      cases g1
    obtain ⟨r0, d, a0, us0, o1, o2, rfl, h1, ⟨oF, kvs, h3, h3'⟩, h4, h5⟩ := hv
    -- the past grows
    have fin : ∀ {Hx H' : Hp} {r : Addr} {e2 : PastE} {ss' : Sk} {l' : Lim} {ds' : List Deed}, Keep [o, L, A, p] H Hx → SesX K C none [] Hx o L ss' l' ds' → Hx A = some (.lst (us1 ++ [V.ref r0])) → Paired (PastV K Hx) (us1 ++ [V.ref r0]) (es ++ [e]) → Same Hx H' → Hx r = none → PastV K H' (.ref r) e2 → Tr (k + 1) (es ++ [e] ++ [e2]) ss' l' ds' → ds'.length ≤ k + 1 → outM zs c e.1 e.2.1 (es.length + 1) = .done → Q .non (upd H' A (.lst (us1 ++ [V.ref r0] ++ [.ref r]))) := by
      intro Hx H' r e2 ss' l' ds' kx hs hAx pst sx hr row tr2 dl2 eo
      have hA' := sx _ _ hAx
      have kA : Keep [A] H' (upd H' A (.lst (us1 ++ [V.ref r0] ++ [.ref r]))) := Keep.of (fun b mb => by rw [List.mem_singleton.mp mb]; exact .lst hA') (hid_upd (by simp))
      have kA4 : Keep [o, L, A, p] H (upd H' A (.lst (us1 ++ [V.ref r0] ++ [.ref r]))) := ⟨lo, fun b u nb q => by rw [upd_ne (fun z => nb (by rw [z]; simp))]; exact sx _ _ (kx.2 _ _ nb q)⟩
      refine kD eo _ _ _ ss' l' ds' kA4 ((hs.same sx).keep kA fun b mb => ?_) upd_same (Paired.snoc2 (Paired.mapP pst fun _ _ q => kA.past (q.same sx)) (kA.past row)) tr2 dl2
      simp only [ownS, Option.toList, List.mem_cons, List.mem_nil_iff, or_false] at mb
      rcases mb with rfl | rfl
      · simpa using oA
      · simpa using Ne.symm AL
    refine ⟨_, rfl, _, rfl, A, _, -1, _, rfl, rfl, .of hA, atI_last' us1 _, r0, _, rfl, .inl (.inr ⟨o1, h1⟩), rfl, _, _, rfl, _, _, rfl, _, _, rfl, rfl, ?_⟩
    refine ⟨_, rfl, p, 9, c, rfl, hp, by decide, by decide, fun H1 b1 p1 r10 r11 => ?_⟩
    have f1 : takeM c 9 = d1 c := rfl
    rw [f1] at p1 r10 r11 ⊢
    refine ⟨_, rfl, _, rfl, p, 2, (d1 c).2, rfl, p1, by decide, by decide, fun H2 b2 p2 r20 r21 => ?_⟩
    have f2 : takeM (d1 c).2 2 = d2 c := rfl
    rw [f2] at p2 r20 r21 ⊢
    have b02 := b1.trans b2
    obtain ⟨nm, an⟩ := pick_strF (zs := NS2) r20 r21
    refine ⟨nl, _, _, _, rfl, rfl, .of (b02 _ _ np hn), an, ?_⟩
    have lzs : 0 < zs.length := List.length_pos_iff.mpr zne
    refine ⟨_, rfl, _, rfl, _, rfl, il, _, rfl, .inl (.of (b02 _ _ lp' hil)), p, _, (d2 c).2, rfl, p2, by rw [List.length_map]; omega, by rw [List.length_map]; omega, fun H3 b3 p3 r30 r31 => ?_⟩
    have f3 : takeM (d2 c).2 ((zs.map V.str).length : Int) = d3 zs c := by rw [List.length_map]; rfl
    rw [f3] at p3 r30 r31 ⊢
    rw [List.length_map] at r31
    have b03 := b02.trans b3
    obtain ⟨zm, az⟩ := pick_strF (zs := zs) r30 r31
    refine ⟨il, _, _, _, rfl, rfl, .of (b03 _ _ lp' hil), az, _, _, _, rfl, ?_⟩
    have en : pk NS2 (d2 c).1 = nmM c := rfl
    have ez : pk zs (d3 zs c).1 = itM zs c := rfl
    rw [en] at nm ⊢
    rw [ez] at zm ⊢
    have iz := zI _ zm
    have inm : Item (nmM c) := by
      rcases List.mem_cons.mp nm with q | q
      · rw [q]; exact it_lr.1
      · rw [List.mem_singleton.mp q]; exact it_lr.2
    clear an az b1 b2 b3 p1 p2 b02
    have kp3 : Keep [p] H H3 := Keep.of (fun b mb => by rw [List.mem_singleton.mp mb]; exact .lst hp.1) (hid_but b03 (by simp))
    have own : ∀ b ∈ ownS o L none, b ∉ [p] := fun b mb => by
      simp only [ownS, Option.toList, List.mem_cons, List.mem_nil_iff, or_false] at mb
      rcases mb with rfl | rfl
      · simpa using op
      · simpa using Lp
    have ses3 := ses.keep kp3 own
    have sk3 := kp3.sk h3'
    have hd3 := kp3.2 _ _ (fun m => (kp3.1 _ m).2 _ _ h3) h3
    have ha3 := kp3.2 _ _ (fun m => (kp3.1 _ m).2 _ _ h4) h4
    have h53 := kp3.nsv h5
    have pst3 : Paired (PastV K H3) (us1 ++ [V.ref r0]) (es ++ [e]) := Paired.mapP past fun _ _ q => kp3.past q
    refine ⟨_, rfl, d, rfl, .inl ⟨_, .inr ⟨oF, hd3⟩⟩, _, rfl, by show 0 ≤ sizeLine; decide, fun U hU => ?_⟩
    have sU : Same H3 (upd H3 U (.tup [])) := Same.new hU
    have hUU : upd H3 U (.tup []) U = some (.tup []) := upd_same
    generalize upd H3 U (.tup []) = H4 at sU hUU ⊢
    have sk4 := skH_same sk3 sU
    refine ⟨_, .inl ⟨kvs, Sum.inr (nmM c), .inr ⟨oF, sU _ _ hd3⟩, rfl, rfl⟩, ?_⟩
    obtain ⟨q, eq, hq⟩ : ∃ q, (valV kvs (Sum.inr (nmM c))).getD (V.ref U) = V.ref q ∧ SqT K H4 q ((getS e.1 (nmM c)).map V.str) := by
      unfold getS
      rcases skH_val (n := nmM c) sk4 with ⟨z1, z2⟩ | ⟨p, t2, z1, z2, z3⟩
      · rw [z1, z2]
        exact ⟨U, rfl, .of hUU⟩
      · rw [z1, z2]
        exact ⟨t2, rfl, z3⟩
    rw [eq]
    obtain ⟨g1, g2⟩ := ok.get (nmM c)
    refine ⟨_, rfl, by show 1 ≤ sizeLine; decide, fun a1 ha1 => ?_⟩
    have s5 : Same H4 (upd H4 a1 (.tup [.str (itM zs c)])) := Same.new ha1
    refine catT (Same.tup s5 hq) (.of upd_same) (by omega) fun r H6 s6 hr6 => ?_
    have s36 : Same H3 H6 := (sU.trans s5).trans s6
    have b06 : But p H H6 := b03.trans (.of s36)
    have p6 := p3.same s36
    have hd6 := s36 _ _ hd3
    have sk6 := skH_same sk3 s36
    have ha6 := s36 _ _ ha3
    have h56 := nsv_same h53 s36
    have ses6 := ses3.same s36
    have pst6 : Paired (PastV K H6) (us1 ++ [V.ref r0]) (es ++ [e]) := Paired.mapP pst3 fun _ _ q => q.same s36
    have A6 := b06 _ _ Ap hA
    have kx6 : Keep [o, L, A, p] H H6 := ⟨lo, fun b u nb q => b06 _ _ (fun z => nb (by rw [z]; simp)) q⟩
    have kown : ∀ {Hy Hz : Hp}, Keep [o, L, A, p] H Hy → Keep (ownS o L none) Hy Hz → Keep [o, L, A, p] H Hz := fun {Hy Hz} a b => ⟨lo, fun x u nb q => b.2 _ _ (fun m => nb (by
      simp only [ownS, Option.toList, List.mem_cons, List.mem_nil_iff, or_false] at m
      rcases m with rfl | rfl <;> simp)) (a.2 _ _ nb q)⟩
    have Aown : A ∉ ownS o L none := fun m => by
      simp only [ownS, Option.toList, List.mem_cons, List.mem_nil_iff, or_false] at m
      rcases m with q | q
      · exact oA q.symm
      · exact AL q
    refine ⟨r, _, 0, _, rfl, rfl, hr6, head_at _ _, ?_⟩
    have et : ((getS e.1 (nmM c) ++ [itM zs c]).head?).getD "" = tpM zs c e.1 := rfl
    rw [et]
    have it := tp_item (zs := zs) (c := c) ok iz
    obtain ⟨dx, F6, ws6, o6, _⟩ := ses6.ex
    have dl2 : ds.length ≤ 100000 := by omega
    have rl := rel.oks
    refine ⟨_, rfl, rfl, _, rfl, ite2 (fun cw => ?_) (fun cw => ?_)⟩
    · have w0 : (d1 c).1 = 0 := V.int.inj (of_decide_eq_true cw)
      have eo : outM zs c e.1 e.2.1 (es.length + 1) = if es.length + 1 = 1 then .nothing else .done := if_pos w0
      refine ⟨_, rfl, o, dx, _, rfl, o6, sX_none (by decide) (by decide) (by decide) (by decide), o, L, [], ss, l, ds, rfl, ses6, fun ds2 dd eds H' kk hs' => ?_, fun eds dE H' sE hE hxE => ?_⟩
      · subst eds
        have eo : outM zs c e.1 e.2.1 (es.length + 1) = .done := by
          rw [eo, if_neg]
          rw [elen, List.length_append, List.length_singleton]
          omega
        obtain ⟨es2, e2, eq2, tr2⟩ := tr.undo
        obtain ⟨q1, q2⟩ := List.append_inj' eq2 rfl
        cases q2
        subst q1
        have A' := kk.2 _ _ Aown A6
        obtain ⟨us2, v2, qu, pst2, hv2⟩ := paired_last pst6
        obtain ⟨qu1, qu2⟩ := List.append_inj' qu rfl
        cases qu2
        subst qu1
        refine ⟨_, rfl, .inl ⟨rfl, _, .of A'⟩, A, _, .ref r0, rfl, rfl, A', ?_, ?_⟩
        · rw [List.length_append, List.length_singleton, Nat.add_sub_cancel, List.getElem?_append_right (Nat.le_refl _), Nat.sub_self]
          rfl
        · rw [List.dropLast_concat]
          have kA : Keep [A] H' (upd H' A (.lst us1)) := Keep.of (fun b mb => by rw [List.mem_singleton.mp mb]; exact .lst A') (hid_upd (by simp))
          have kf := kown kx6 kk
          refine kD eo _ _ _ _ _ _ ⟨lo, fun b u nb q => kA.2 _ _ (fun m => nb (by rw [List.mem_singleton.mp m]; simp)) (kf.2 _ _ nb q)⟩ (hs'.keep kA fun b mb => ?_) upd_same (Paired.mapP pst2 fun _ _ q => kA.past (kk.past q)) (tr2.mono (Nat.le_succ _)) (by rw [List.length_append] at dl; omega)
          intro m
          rw [List.mem_singleton.mp m] at mb
          exact Aown mb
      · have eo : outM zs c e.1 e.2.1 (es.length + 1) = .nothing := by
          rw [eo, if_pos]
          rw [elen, eds]
          rfl
        have kf : Keep [o, L, A, p] H H' := ⟨lo, fun b u nb q => sE _ _ (kx6.2 _ _ nb q)⟩
        exact kE CN _ (.inl ⟨rfl, rfl, eo⟩) dE H' kf (ses6.same sE) (sE _ _ A6) (Paired.mapP pst6 fun _ _ q => q.same sE) hxE
    · have w0 : ¬ (d1 c).1 = 0 := fun q => cw (decide_eq_true (congrArg V.int q))
      refine ⟨_, rfl, rfl, _, rfl, ite2 (fun cw1 => ?_) (fun cw1 => ?_)⟩
      · have w1 : (d1 c).1 = 1 := V.int.inj (of_decide_eq_true cw1)
        have eo : outM zs c e.1 e.2.1 (es.length + 1) = if high (lmM zs c e.1) (topH e.1) = true then .limit (lmM zs c e.1) else .done := (if_neg w0).trans (if_pos w1)
        refine ⟨_, rfl, d, kvs, rfl, .inr ⟨oF, hd6⟩, fun v1 hv1 => ?_⟩
        have s7 : Same H6 (upd H6 v1 (.lst (kvs.map Prod.snd))) := Same.new hv1
        have hvv : upd H6 v1 (.lst (kvs.map Prod.snd)) v1 = some (.lst (kvs.map Prod.snd)) := upd_same
        generalize upd H6 v1 (.lst (kvs.map Prod.snd)) = H7 at s7 hvv ⊢
        refine ⟨by show 0 ≤ sizeLine; decide, fun e1 he1 => ⟨by show 1 ≤ sizeLine; decide, fun q1 hq1 => ?_⟩⟩
        have s8 : Same H7 (upd H7 e1 (.tup [])) := Same.new he1
        have hee : upd H7 e1 (.tup []) e1 = some (.tup []) := upd_same
        generalize upd H7 e1 (.tup []) = H8 at s8 hee hq1 ⊢
        have s9 : Same H8 (upd H8 q1 (.lst [.ref e1])) := Same.new hq1
        have hqq : upd H8 q1 (.lst [.ref e1]) q1 = some (.lst [.ref e1]) := upd_same
        generalize upd H8 q1 (.lst [.ref e1]) = H9 at s9 hqq ⊢
        have lkv : kvs.length = e.1.length := paired_len sk3
        have lok := ok.len
        refine ⟨v1, q1, _, _, rfl, rfl, s9 _ _ (s8 _ _ hvv), hqq, by rw [List.length_map, List.length_singleton, sizeLine_eq]; omega, fun r1 hr1' => ?_⟩
        have s10 : Same H9 (upd H9 r1 (.lst (kvs.map Prod.snd ++ [.ref e1]))) := Same.new hr1'
        have hrr : upd H9 r1 (.lst (kvs.map Prod.snd ++ [.ref e1])) r1 = some (.lst (kvs.map Prod.snd ++ [.ref e1])) := upd_same
        generalize upd H9 r1 (.lst (kvs.map Prod.snd ++ [.ref e1])) = H10 at s10 hrr ⊢
        have s610 : Same H6 H10 := ((s7.trans s8).trans s9).trans s10
        have sk10 := skH_same sk6 s610
        have he10 : SqT K H10 e1 [] := .of ((s9.trans s10) _ _ hee)
        refine ⟨r1, rfl, ⟨_, .of hrr⟩, fun D hD => lc_list (K := K) (a := r1) (xs := kvs.map Prod.snd ++ [.ref e1]) (fun j H2 => H2 D = some (.lst (((lensM e.1).take j).map V.int)) ∧ Same H10 H2) ⟨upd_same, Same.new hD⟩ (fun j H2 _ q => .of (q.2 _ _ hrr)) ?_ ?_⟩
        · rintro j x H2 hx ⟨h2, s2⟩
          obtain ⟨t, ws, rfl, hT, hl⟩ := val_at he10 sk10 hx
          refine ⟨rfl, yes_in ⟨_, rfl, t, _, rfl, .inr (Same.tup s2 hT), _, h2, ?_, ?_, Same.free2 s2 hD⟩⟩
          · have ll : (lensM e.1).length = e.1.length + 1 := by
              unfold lensM
              rw [List.length_append, List.length_map]
              rfl
            rw [List.length_map, List.length_take, ll, sizeLine_eq]
            omega
          · rw [upd_same, List.take_add_one, hl, List.map_append, List.length_map]
            rfl
        · rintro H2 ⟨h2, s2⟩
          have ll : (kvs.map Prod.snd ++ [V.ref e1]).length = (lensM e.1).length := by
            unfold lensM
            rw [List.length_append, List.length_append, List.length_map, List.length_map, lkv]
            rfl
          rw [ll, List.take_length] at h2
          refine ⟨D, lensM e.1, rfl, .of h2, by unfold lensM; simp, fun m1 mm hle => ?_⟩
          have em := lens_max mm hle
          subst em
          have s62 := s610.trans s2
          have b62 := b06.trans (.of s62)
          have p62 := p6.same s62
          refine ⟨_, rfl, p, 4, (d3 zs c).2, rfl, p62, by decide, by decide, fun H11 b11 p11 r110 r111 => ?_⟩
          have f4 : takeM (d3 zs c).2 4 = l1 zs c := rfl
          rw [f4] at p11 r110 r111 ⊢
          refine ⟨_, rfl, _, _, rfl, rfl, by show 3 ≤ sizeLine; decide, fun LL hLL => ?_⟩
          have s12 : Same H11 (upd H11 LL (.lst [.non, .int (l1 zs c).1, .int (1 + (topH e.1 : Nat))])) := Same.new hLL
          have hL12 : upd H11 LL (.lst [.non, .int (l1 zs c).1, .int (1 + (topH e.1 : Nat))]) LL = some (.lst [.non, .int (l1 zs c).1, .int (1 + (topH e.1 : Nat))]) := upd_same
          have p12 := p11.same s12
          have LLp : LL ≠ p := p11.pool.free hLL
          refine ⟨_, rfl, p, 3, (l1 zs c).2, rfl, p12, by decide, by decide, fun H13 b13 p13 r130 r131 => ?_⟩
          have f5 : takeM (l1 zs c).2 3 = l2 zs c := rfl
          rw [f5] at p13 r130 r131 ⊢
          have b613 : But p H H13 := (b62.trans b11).trans ((But.of s12).trans b13)
          refine ⟨LL, _, _, _, rfl, rfl, .of (b13 _ _ LLp hL12), pick_lim r130 r131 r110, ?_⟩
          have kx13 : Keep [o, L, A, p] H H13 := ⟨lo, fun b u nb q => b613 _ _ (fun z => nb (by rw [z]; simp)) q⟩
          have kp13 : Keep [p] H H13 := Keep.of (fun b mb => by rw [List.mem_singleton.mp mb]; exact .lst hp.1) (hid_but b613 (by simp))
          have ses13 := ses.keep kp13 own
          have pst13 : Paired (PastV K H13) (us1 ++ [V.ref r0]) (es ++ [e]) := Paired.mapP past fun _ _ q => kp13.past q
          have A13 := b613 _ _ Ap hA
          have lok : LimOk (lmM zs c e.1) := lm_ok r111 (by have := top_le ok; omega)
          have hht := high_top (l := lmM zs c e.1) rel.eqs ok.nd rl.nd
          obtain ⟨dx2, _, _, o13, _⟩ := ses13.ex
          refine ⟨_, rfl, o, dx2, _, rfl, o13, sX_none (by decide) (by decide) (by decide) (by decide), _, rfl, o, L, [], ss, l, lmM zs c e.1, ds, 4 + 6 * k, 4 + 6 * k, rfl, ses13, lok, rl, by omega, dl2, fun hh H' kk hs' => ?_, fun hh dE H' sE hE hxE => ?_⟩
          · have eo : outM zs c e.1 e.2.1 (es.length + 1) = .done := by
              rw [eo, if_neg]
              intro z
              obtain ⟨q1, q2, q3⟩ := hht.mpr z
              rw [hh q1 q2] at q3
              cases q3
            have A' := kk.2 _ _ Aown A13
            refine ⟨_, rfl, .inl ⟨rfl, _, .of A'⟩, _, rfl, _, rfl, _, rfl, by show 3 ≤ sizeLine; decide, fun r2 hr2 => ⟨r2, _, rfl, upd_same, trivial, fun o3 => ?_⟩⟩
            have s3 : Same H' (upd (upd H' r2 (.lst [.ref d, limV (lmM zs c e.1), .ref a0])) r2 (.frz o3 (.lst [.ref d, limV (lmM zs c e.1), .ref a0]))) := Same.free2 (Same.new hr2) hr2
            have f3 : upd (upd H' r2 (.lst [.ref d, limV (lmM zs c e.1), .ref a0])) r2 (.frz o3 (.lst [.ref d, limV (lmM zs c e.1), .ref a0])) r2 = some (.frz o3 (.lst [.ref d, limV (lmM zs c e.1), .ref a0])) := upd_same
            generalize upd (upd H' r2 (.lst [.ref d, limV (lmM zs c e.1), .ref a0])) r2 (.frz o3 (.lst [.ref d, limV (lmM zs c e.1), .ref a0])) = H'' at s3 f3 ⊢
            have kall : Keep [o, L, A, p] H H'' := ⟨lo, fun b u nb q => s3 _ _ ((kown kx13 kk).2 _ _ nb q)⟩
            refine ⟨A, _, _, rfl, rfl, s3 _ _ A', by rw [List.length_append, List.length_singleton, sizeLine_eq]; have := paired_len pst1; omega, ?_⟩
            refine fin (e2 := (e.1, lmM zs c e.1, flatD ds)) (kown kx13 kk) hs' A' (Paired.mapP pst13 fun _ _ q => kk.past q) s3 hr2 ⟨r2, d, a0, us0, o3, o2, rfl, f3, ⟨oF, kvs, kall.2 _ _ (fun m => (lo _ m).2 _ _ h3) h3, kall.sk h3'⟩, kall.2 _ _ (fun m => (lo _ m).2 _ _ h4) h4, by rw [← es0]; exact kall.nsv h5⟩ (.more (tr.mono (Nat.le_succ _)) (rel.lim_ok lok)) (by rw [List.length_append, List.length_singleton]; omega) eo
          · have eo : outM zs c e.1 e.2.1 (es.length + 1) = .limit (lmM zs c e.1) := by
              rw [eo, if_pos (hht.mp hh)]
            have kf : Keep [o, L, A, p] H H' := ⟨lo, fun b u nb q => sE _ _ (kx13.2 _ _ nb q)⟩
            exact kE CL _ (.inr (.inl ⟨_, rfl, rfl, eo⟩)) dE H' kf (ses13.same sE) (sE _ _ A13) (Paired.mapP pst13 fun _ _ q => q.same sE) hxE
      · have w1 : ¬ (d1 c).1 = 1 := fun q => cw1 (decide_eq_true (congrArg V.int q))
        have eo : outM zs c e.1 e.2.1 (es.length + 1) = match perfI l (stM zs c e.1) ss with | some j => .failed j | none => .done := by
          rw [← perfI_same (l := l) (ns := stM zs c e.1) rel.eqs, ← l0]
          exact (if_neg w0).trans (if_neg w1)
        have rowF : ∀ {Hx : Hp} {ss2 : Sk}, Keep [o, L, A, p] H Hx → SesX K C none [] Hx o L (cleanS ss2) l (ds ++ [(stM zs c e.1, ss, l)]) → Hx A = some (.lst (us1 ++ [V.ref r0])) → Paired (PastV K Hx) (us1 ++ [V.ref r0]) (es ++ [e]) → (∀ s ∈ stM zs c e.1, NOk s) → (∀ s ∈ stM zs c e.1, s.2.1 ∈ NS2) → (stM zs c e.1).length ≤ 6 → perfS l (stM zs c e.1) ss = some ss2 →
            ∃ (hs2 : Sk), perfS l (stM zs c e.1) e.1 = some hs2 ∧ SkF K Hx d e.1 ∧ Hx a0 = some (.frz o2 (.lst us0)) ∧ NSV K Hx us0 (flatD ds) ∧ us0.length ≤ 10000 ∧ ∀ r2 H'', Same Hx H'' → Hx r2 = none → PastV K H'' (.ref r2) (hs2, l, flatD ds ++ stM zs c e.1) → H'' A = some (.lst (us1 ++ [V.ref r0])) ∧ (us1 ++ [V.ref r0]).length < sizeLine ∧ Q .non (upd H'' A (.lst (us1 ++ [V.ref r0] ++ [.ref r2]))) := by
          intro Hx ss2 kx hs' A' pst hok hnm hlen pp
          have eo : outM zs c e.1 e.2.1 (es.length + 1) = .done := by rw [eo, perfI_none pp]
          rcases perfS_same (l := l) (ns := stM zs c e.1) rel.eqs with ⟨_, z⟩ | ⟨hs2, b2, z1, z2, z3⟩
          · rw [pp] at z
            cases z
          · have nn : NSV K Hx us0 (flatD ds) := by rw [← es0]; exact kx.nsv h5
            refine ⟨hs2, z1, ⟨oF, kvs, kx.2 _ _ (fun m => (lo _ m).2 _ _ h3) h3, kx.sk h3'⟩, kx.2 _ _ (fun m => (lo _ m).2 _ _ h4) h4, nn, by have := paired_len nn; have := rel.len; omega, fun r2 H'' s'' hr2 row => ⟨s'' _ _ A', by rw [List.length_append, List.length_singleton, sizeLine_eq]; have := paired_len pst1; omega, fin kx hs' A' pst s'' hr2 row (.more (tr.mono (Nat.le_succ _)) (rel.steps_ok hok hnm hlen pp z1)) (by rw [List.length_append, List.length_singleton]; omega) eo⟩⟩
        have mk : ∀ {Hx : Hp}, Same H6 Hx → Keep [o, L, A, p] H Hx ∧ SesX K C none [] Hx o L ss l ds ∧ Hx A = some (.lst (us1 ++ [V.ref r0])) ∧ Paired (PastV K Hx) (us1 ++ [V.ref r0]) (es ++ [e]) := fun {Hx} sx => ⟨⟨lo, fun b u nb q => sx _ _ (kx6.2 _ _ nb q)⟩, ses6.same sx, sx _ _ A6, Paired.mapP pst6 fun _ _ q => q.same sx⟩
        refine ⟨_, rfl, _, _, rfl, rfl, _, rfl, ite2 (fun q5 => ?_) (fun q5 => ?_)⟩
        · have w5 : (d1 c).1 < 5 := of_decide_eq_true q5
          have es1 : stM zs c e.1 = [(true, nmM c, itM zs c)] := (if_neg (by omega)).trans (if_neg (by omega))
          rw [es1] at eo rowF
          refine ⟨_, rfl, _, rfl, by show 3 ≤ sizeLine; decide, fun t1 ht1 => ⟨by show 1 ≤ sizeLine; decide, fun L1 hL1 => ?_⟩⟩
          have s7 : Same H6 (upd H6 t1 (.tup [.str "push", .str (nmM c), .str (itM zs c)])) := Same.new ht1
          have ht7 : upd H6 t1 (.tup [.str "push", .str (nmM c), .str (itM zs c)]) t1 = some (.tup [.str "push", .str (nmM c), .str (itM zs c)]) := upd_same
          generalize upd H6 t1 (.tup [.str "push", .str (nmM c), .str (itM zs c)]) = H7 at s7 ht7 hL1 ⊢
          have s8 : Same H7 (upd H7 L1 (.lst [.ref t1])) := Same.new hL1
          have hL8 : upd H7 L1 (.lst [.ref t1]) L1 = some (.lst [.ref t1]) := upd_same
          generalize upd H7 L1 (.lst [.ref t1]) = H8 at s8 hL8 ⊢
          obtain ⟨kx8, ses8, A8, pst8⟩ := mk (s7.trans s8)
          have t8 : NStV K H8 (.ref t1) (true, nmM c, itM zs c) := ⟨t1, rfl, .of (s8 _ _ ht7)⟩
          obtain ⟨dx2, _, _, o8, _⟩ := ses8.ex
          have L1own : L1 ∉ ownS o L none := fun m => ses8.has L1 m |> fun _ => (by
            have q := (ses6.same s7).has L1 m
            exact q hL1)
          refine ⟨_, rfl, o, dx2, _, rfl, o8, sX_none (by decide) (by decide) (by decide) (by decide), _, rfl, _, rfl, o, L, nmM c, itM zs c, [], ss, l, ds, 4 + 6 * k, 4 + 6 * k, rfl, ses8, inm, iz, rl, by omega, by omega, dl2, by decide, fun ss2 pp H' kk hs' => ?_, fun pp dE H' kk hs' hE hxE => ?_⟩
          · have A' := kk.2 _ _ Aown A8
            obtain ⟨hs2, q1, q2, q3, q4, q5, qk⟩ := rowF (kown kx8 kk) hs' A' (Paired.mapP pst8 fun _ _ q => kk.past q) (fun s ms => by rw [List.mem_singleton.mp ms]; exact ⟨inm, iz⟩) (fun s ms => by rw [List.mem_singleton.mp ms]; exact nm) (by show 1 ≤ 6; decide) pp
            exact ⟨_, rfl, .inl ⟨rfl, _, .of A'⟩, L1, d, a0, l, [.ref t1], us0, _, flatD ds, e.1, hs2, _, _, o2, rfl, rfl, by rw [← l0]; rfl, rfl, .of (kk.2 _ _ L1own hL8), by show 1 ≤ 1000; decide, kk.nsv (.cons t8 .nil), fun s ms => by rw [List.mem_singleton.mp ms]; exact ⟨inm, iz⟩, q2, ok, by omega, by omega, q3, q4, q5, q1, fun r2 H'' s'' hr2 row => ⟨A, _, _, rfl, rfl, (qk r2 H'' s'' hr2 row).1, (qk r2 H'' s'' hr2 row).2.1, (qk r2 H'' s'' hr2 row).2.2⟩⟩
          · rw [perfI_one pp] at eo
            exact kE CE _ (.inr (.inr ⟨0, rfl, rfl, eo⟩)) dE H' (kown kx8 kk) hs' (kk.2 _ _ Aown A8) (Paired.mapP pst8 fun _ _ q => kk.past q) hxE
        · refine ⟨_, rfl, _, _, rfl, rfl, _, rfl, ite2 (fun q7 => ?_) (fun q7 => ?_)⟩
          · have w5 : ¬ (d1 c).1 < 5 := fun q => q5 (decide_eq_true q)
            have w7 : (d1 c).1 < 7 := of_decide_eq_true q7
            have es1 : stM zs c e.1 = [(false, nmM c, tpM zs c e.1)] := (if_neg (by omega)).trans (if_pos (by omega))
            rw [es1] at eo rowF
            refine ⟨_, rfl, _, rfl, by show 3 ≤ sizeLine; decide, fun t1 ht1 => ⟨by show 1 ≤ sizeLine; decide, fun L1 hL1 => ?_⟩⟩
            have s7 : Same H6 (upd H6 t1 (.tup [.str "pop", .str (nmM c), .str (tpM zs c e.1)])) := Same.new ht1
            have ht7 : upd H6 t1 (.tup [.str "pop", .str (nmM c), .str (tpM zs c e.1)]) t1 = some (.tup [.str "pop", .str (nmM c), .str (tpM zs c e.1)]) := upd_same
            generalize upd H6 t1 (.tup [.str "pop", .str (nmM c), .str (tpM zs c e.1)]) = H7 at s7 ht7 hL1 ⊢
            have s8 : Same H7 (upd H7 L1 (.lst [.ref t1])) := Same.new hL1
            have hL8 : upd H7 L1 (.lst [.ref t1]) L1 = some (.lst [.ref t1]) := upd_same
            generalize upd H7 L1 (.lst [.ref t1]) = H8 at s8 hL8 ⊢
            obtain ⟨kx8, ses8, A8, pst8⟩ := mk (s7.trans s8)
            have t8 : NStV K H8 (.ref t1) (false, nmM c, tpM zs c e.1) := ⟨t1, rfl, .of (s8 _ _ ht7)⟩
            obtain ⟨dx2, _, _, o8, _⟩ := ses8.ex
            have L1own : L1 ∉ ownS o L none := fun m => (ses6.same s7).has L1 m hL1
            refine ⟨_, rfl, o, dx2, _, rfl, o8, sX_none (by decide) (by decide) (by decide) (by decide), _, rfl, _, rfl, o, L, nmM c, tpM zs c e.1, [], ss, l, ds, 4 + 6 * k, 4 + 6 * k, rfl, ses8, inm, it, rl, by omega, by omega, dl2, by decide, fun ss2 pp H' kk hs' => ?_, fun pp dE H' kk hs' hE hxE => ?_⟩
            · have A' := kk.2 _ _ Aown A8
              obtain ⟨hs2, q1, q2, q3, q4, q5, qk⟩ := rowF (kown kx8 kk) hs' A' (Paired.mapP pst8 fun _ _ q => kk.past q) (fun s ms => by rw [List.mem_singleton.mp ms]; exact ⟨inm, it⟩) (fun s ms => by rw [List.mem_singleton.mp ms]; exact nm) (by show 1 ≤ 6; decide) pp
              exact ⟨_, rfl, .inl ⟨rfl, _, .of A'⟩, L1, d, a0, l, [.ref t1], us0, _, flatD ds, e.1, hs2, _, _, o2, rfl, rfl, by rw [← l0]; rfl, rfl, .of (kk.2 _ _ L1own hL8), by show 1 ≤ 1000; decide, kk.nsv (.cons t8 .nil), fun s ms => by rw [List.mem_singleton.mp ms]; exact ⟨inm, it⟩, q2, ok, by omega, by omega, q3, q4, q5, q1, fun r2 H'' s'' hr2 row => ⟨A, _, _, rfl, rfl, (qk r2 H'' s'' hr2 row).1, (qk r2 H'' s'' hr2 row).2.1, (qk r2 H'' s'' hr2 row).2.2⟩⟩
            · rw [perfI_one pp] at eo
              exact kE CE _ (.inr (.inr ⟨0, rfl, rfl, eo⟩)) dE H' (kown kx8 kk) hs' (kk.2 _ _ Aown A8) (Paired.mapP pst8 fun _ _ q => kk.past q) hxE
          · have w7 : ¬ (d1 c).1 < 7 := fun q => q7 (decide_eq_true q)
            have es1 : stM zs c e.1 = (wellN NS2 zs (s1 zs c).1.toNat (s1 zs c).2).2.1 := if_pos (by omega)
            refine ⟨_, rfl, _, rfl, _, rfl, _, rfl, p, 6, (d3 zs c).2, rfl, p6, by decide, by decide, fun H9 b9 p9 r90 r91 => ?_⟩
            have f6 : takeM (d3 zs c).2 6 = s1 zs c := rfl
            rw [f6] at p9 r90 r91 ⊢
            have b69 := b06.trans b9
            refine ⟨p, nl, il, (s1 zs c).1, NS2, zs, (s1 zs c).2, rfl, p9, np, b69 _ _ np hn, by simp, by decide, fun z mz => ?_, by decide +kernel, lp', b69 _ _ lp' hil, zne, z1, zI, r90, by omega, fun t us2 Hz bz pz ht tp htl hN hl hok => ?_⟩
            · rcases List.mem_cons.mp mz with q | q
              · rw [q]; exact it_lr.1
              · rw [List.mem_singleton.mp q]; exact it_lr.2
            · rw [← es1] at hN hl hok
              have b6z : But p H Hz := b69.trans bz
              have kxz : Keep [o, L, A, p] H Hz := ⟨lo, fun b u nb q => b6z _ _ (fun z => nb (by rw [z]; simp)) q⟩
              have kpz : Keep [p] H Hz := Keep.of (fun b mb => by rw [List.mem_singleton.mp mb]; exact .lst hp.1) (hid_but b6z (by simp))
              have kp9 : Keep [p] H H9 := Keep.of (fun b mb => by rw [List.mem_singleton.mp mb]; exact .lst hp.1) (hid_but b69 (by simp))
              have sesz := ses.keep kpz own
              have Az := b6z _ _ Ap hA
              have pstz : Paired (PastV K Hz) (us1 ++ [V.ref r0]) (es ++ [e]) := Paired.mapP past fun _ _ q => kpz.past q
              have town : t ∉ ownS o L none := fun m => (ses.keep kp9 own).has t m ht
              have lus : us2.length = (stM zs c e.1).length := paired_len hN
              have hl6 : (stM zs c e.1).length ≤ 6 := by omega
              have hok' : ∀ s ∈ stM zs c e.1, NOk s := fun s ms => (hok s ms).1
              refine ⟨_, rfl, t, us2, rfl, .inl (.of htl), fun L2 hL2 => ?_⟩
              have sa : Same Hz (upd Hz L2 (.lst us2)) := Same.new hL2
              have hLa : upd Hz L2 (.lst us2) L2 = some (.lst us2) := upd_same
              have L2own : L2 ∉ ownS o L none := fun m => sesz.has L2 m hL2
              have L2A : A ≠ L2 := ne_of_none Az hL2
              have L2t : t ≠ L2 := ne_of_none htl hL2
              have L2k : ∀ {b : Addr} {u : HO}, b ∉ [o, L, A, p] → H b = some u → b ≠ L2 := fun {b u} nb q z => by
                have := kxz.2 _ _ nb q
                rw [z, hL2] at this
                cases this
              generalize upd Hz L2 (.lst us2) = Ha at sa hLa ⊢
              have sesa := sesz.same sa
              obtain ⟨dx2, _, _, oa, _⟩ := sesa.ex
              refine ⟨_, rfl, o, dx2, _, rfl, oa, sX_none (by decide) (by decide) (by decide) (by decide), _, rfl, _, rfl, t, us2, rfl, .inl ⟨.of (sa _ _ htl), fun T hT => ⟨by show 2 ≤ sizeLine; decide, fun LL hLL => ?_⟩⟩⟩
              have sb : Same Ha (upd Ha T (.tup us2)) := Same.new hT
              have hTb : upd Ha T (.tup us2) T = some (.tup us2) := upd_same
              generalize upd Ha T (.tup us2) = Hb at sb hTb hLL ⊢
              have sc : Same Hb (upd Hb LL (.lst [.ref L2, .ref T])) := Same.new hLL
              have hLc : upd Hb LL (.lst [.ref L2, .ref T]) LL = some (.lst [.ref L2, .ref T]) := upd_same
              generalize upd Hb LL (.lst [.ref L2, .ref T]) = Hc at sc hLc ⊢
              have sac := sb.trans sc
              have szc := sa.trans sac
              obtain ⟨a, av, hav⟩ : ∃ a, atI [V.ref L2, V.ref T] ((d1 c).1 - 7) = some (.ref a) ∧ (SqL K Hc a us2 ∨ SqT K Hc a us2) := by
                by_cases q : (d1 c).1 = 7
                · exact ⟨L2, by rw [q]; exact atI_nat (j := 0) rfl, .inl (.of (sac _ _ hLa))⟩
                · rw [show (d1 c).1 = 8 by omega]
                  exact ⟨T, atI_nat (j := 1) rfl, .inr (.of (sc _ _ hTb))⟩
              have kxc : Keep [o, L, A, p] H Hc := ⟨lo, fun b u nb q => szc _ _ (kxz.2 _ _ nb q)⟩
              refine ⟨_, rfl, _, _, rfl, rfl, LL, _, _, _, rfl, rfl, .of hLc, av, o, L, a, [], ss, l, ds, us2, stM zs c e.1, 4 + 6 * k, 4 + 6 * k, rfl, sesa.same sac, hav, by omega, nsv_same hN.v szc, hok', rl, by omega, by omega, dl2, by decide, fun ss2 pp H' kk hs' => ?_, fun j s sj q1 q2 q3 dE H' kk hs' hE hxE => ?_⟩
              · have hL' := kk.2 _ _ L2own (sac _ _ hLa)
                refine ⟨_, rfl, .inl ⟨rfl, _, .of hL'⟩, L2, us2, rfl, rfl, hL', ?_⟩
                have kL : Keep [L2] H' (upd H' L2 (.lst [])) := Keep.of (fun b mb => by rw [List.mem_singleton.mp mb]; exact .lst hL') (hid_upd (by simp))
                have A' : upd H' L2 (.lst []) A = some (.lst (us1 ++ [V.ref r0])) := by
                  rw [upd_ne L2A]
                  exact kk.2 _ _ Aown (szc _ _ Az)
                have t' : upd H' L2 (.lst []) t = some (.lst us2) := by
                  rw [upd_ne L2t]
                  exact kk.2 _ _ town (szc _ _ htl)
                have kf : Keep [o, L, A, p] H (upd H' L2 (.lst [])) := ⟨lo, fun b u nb q => by rw [upd_ne (L2k nb q)]; exact (kown kxc kk).2 _ _ nb q⟩
                obtain ⟨hs2, q1, q2, q3, q4, q5, qk⟩ := rowF kf (hs'.keep kL fun b mb m => L2own (by rw [← List.mem_singleton.mp m]; exact mb)) A' (Paired.mapP pstz fun _ _ q => kL.past (kk.past (q.same szc))) hok' (fun s ms => (hok s ms).2) hl6 pp
                exact ⟨_, rfl, .inl ⟨rfl, _, .of A'⟩, t, d, a0, l, us2, us0, _, flatD ds, e.1, hs2, _, _, o2, rfl, rfl, by rw [← l0]; rfl, rfl, .of t', by omega, kL.nsv (kk.nsv (nsv_same hN.v szc)), hok', q2, ok, by omega, by omega, q3, q4, q5, q1, fun r2 H'' s'' hr2 row => ⟨A, _, _, rfl, rfl, (qk r2 H'' s'' hr2 row).1, (qk r2 H'' s'' hr2 row).2.1, (qk r2 H'' s'' hr2 row).2.2⟩⟩
              · rw [perfI_bad q1 q2 q3] at eo
                exact kE CE _ (.inr (.inr ⟨j, rfl, rfl, eo⟩)) dE H' (kown kxc kk) hs' (kk.2 _ _ Aown (szc _ _ Az)) (Paired.mapP pstz fun _ _ q => kk.past (q.same szc)) hxE
end
end SE
/-! Several clauses 'except C as e', all with the same name e. -/
namespace SE
open PySem PySem.Spec PyProof.Rows L2
abbrev Clause := Value × (Addr → Value → Option Addr → TS)
/-- the clauses' wishes: each passes on to the next what is not its own -/
def wAsL (K : PySem.W.Frag) (i : Nat) (out : WX) (D : Ends) : List Clause → WX
  | [] => out
  | (c, ts) :: more => wAs K c i ts (wAsL K i out D more) D
/-- each clause names its class and has its suite -/
inductive AsOk (X : Cx) (n : Str) : List ExceptHandler → List Clause → Prop
  | nil : AsOk X n [] []
  | cons {y : Str} {c : Value} {ts : Addr → Value → Option Addr → TS} {first : Stmt} {rest : List Stmt} {p1 p2 : Pos} {more : List ExceptHandler} {cl : List Clause} (name : Names X y c)
      (suite : ∀ (b : Addr) (ob : Obj) (cv : Value) (fld : Option Addr) (kept : List (Addr × Obj)),
        Zc cv fld ob → (∃ fs, ob.data = .fields fs) → PSs (X.suite b ((b, ob) :: kept)) (first :: rest) (ts b cv fld))
      (tail : AsOk X n more cl) :
      AsOk X n (.ExceptHandler (some (.Name y p1)) (some n) (first :: rest) p2 :: more) ((c, ts) :: cl)
section
variable {X : Cx} {n : Str} {i : Nat} {main : List Stmt} {top : ExceptHandler} {more : List ExceptHandler} {cl : List Clause} {at_ : Pos} {tm : WX → TS} {out : WX}
theorem ps_try_asL (e1 : X.stack = X.env :: X.outer) (e2 : X.env.frame = some X.env.locals) (nod : X.N.Nodup) (slot : X.N[i]? = some n) (lo : X.env.kindOf n = some .local) (up : Takes X out)
    (hm : ∀ (W : WX) (kept : List (Addr × Obj)) (x2 : Value → Shared → Prop),
      Takes (X.tr kept x2) W → PassesOwn (model X.prog X.w) X.A X.env x2 → PSs (X.tr kept x2) main (tm W))
    (ok : AsOk X n (top :: more) cl) : PS X (.Try main (top :: more) [] [] at_) (fun D σ H => tm (wAsL X.K i out D cl) D σ H) := by
  constructor
  intro pins s0 σ0 H0 D I0 w0
  have inv := I0.ok
  have frames : X.A.frames = some (X.env :: X.outer) := inv.frames.trans (by rw [e1])
  apply wpAny_Try_except
  have big := (hm (wAsL X.K i out D cl) (X.pn ++ pins)
    (fun ev t1 => wpAny (model X.prog X.w) X.A (noteFrame ev X.env)
      (fun _ t2 => wpAny (model X.prog X.w) X.A (setFlight ev none)
        (fun _ t3 => wpAny (model X.prog X.w) X.A
          (handleBy ev X.env (top :: more)) (SP X pins D) X.xe t3) X.xe t2) X.xe t1) ?takes PassesOwn.looking).run [] s0 σ0 H0 D (I0.toTry _) w0
  case takes =>
    rintro u t ⟨b, B, sB, pb, σ, H, cv, fld, rfl, Jt, nb, grow, sky, free, os, ag, wish⟩
    have J : Inv X pins σ H sB := Jt.ofTry inv
    rw [e1] at sky
    show wpAny (model X.prog X.w) X.A (noteFrame (.ref b) X.env) _ _ _
    refine Sky.land Zc.steady frames e2 sky (fun h5 land grow5 => ?_)
    have J5 : Inv X pins σ H { t with heap := h5 } := J.landed nb land.1 (grow.trans grow5) os ag
    obtain ⟨ob5, fs5, there5, zc5, data5⟩ := land.there
    have apart : b ∉ frs (X.env :: X.outer) := fun hin => by
      obtain ⟨_, o2, at2, no⟩ := land.2.2.1.mem hin
      rw [there5] at at2
      cases at2
      exact no _ data5
    have ne1 : b ≠ X.env.locals := fun e => apart (List.mem_filterMap.mpr ⟨X.env, List.mem_cons_self, by rw [e2, e]⟩)
    have ne2 : b ∉ X.fs := fun hin => by
      obtain ⟨v, hv, hq⟩ := List.mem_filterMap.mp hin
      exact apart (List.mem_filterMap.mpr ⟨v, List.mem_cons_of_mem _ hv, hq⟩)
    have S5 := J5.suite there5 data5 free ne1 ne2
    -- clause by clause
    suffices walk : ∀ {hs : List ExceptHandler} {cs : List Clause}, AsOk X n hs cs → wAsL X.K i out D cs cv fld σ H →
        wpAny (model X.prog X.w) X.A (handleBy (.ref b) X.env hs) (SP X pins D) X.xe { t with heap := h5 } from walk ok wish
    intro hs cs good
    induction good with
    | nil =>
      intro wish
      refine wpAny_handleBy_nil ?_
      obtain ⟨k1, k2, k3, o6, f6, T6, oT6, ts6, at6, z6, d6, first6, rest6⟩ := id land
      unfold PySem.passOn
      refine wpAny_bind (wpAny_field at6 d6 first6 ?_)
      rw [if_neg (show ¬ ((Value.ref T6 == Value.none) = true) from by simp)]
      have leave : wpAny (model X.prog X.w) X.A (setFlight (.ref b) X.env.frame)
          (fun _ t7 => wpAny (model X.prog X.w) X.A (throw (.ref b) : Sem Flow) (SP X pins D) X.xe t7) X.xe { t with heap := h5 } := by
        rw [e2]
        refine HandSPX.setFlight_upZ land fun h7 land7 grow7 => wpAny_throw (up _ _ ?_)
        refine ⟨b, B, sB, pins, σ, H, cv, fld, rfl, J, nb, (grow.trans grow5).trans grow7, .inr (.inr ?_), free, os, ag, wish⟩
        rw [e1]
        exact land7
      first
        | exact wpAny_bind (wpAny_pure (wpAny_bind leave))
        | exact wpAny_bind leave
    | @cons y c ts first rest p1 p2 more2 cl2 name suite tail ih =>
      intro wish
      obtain ⟨hit, match1, yes, no⟩ := wish
      refine wpAny_handleBy_cons (codeAny_handlers_test ?_) (fun q => by cases q)
      have kind : PySem.W.Looks (model X.prog X.w) h5 (typeOf (.ref b)) cv := fun A Q E s k q => by
        refine wpAny_typeOf_ref (k _ _ there5) ?_
        rw [zc5.1]
        exact q
      have found := PySem.W.exm_one (M := model X.prog X.w) J5.kIn kind match1
      have look : ∀ {Q E : Value → Shared → Prop}, Q c { t with heap := h5 } →
          wpAny (model X.prog X.w) (X.A.mark (some (.ref b))) (eval (.Name y p1) X.env) Q E { t with heap := h5 } := fun q => by
        obtain ⟨g1, g2, own | ⟨g3, g4, g5⟩⟩ := name
        · exact ld_glob (X := X.suite b ((b, ob5) :: (X.pn ++ pins))) S5 g1 own q g2
        · exact ld_blt (X := X.suite b ((b, ob5) :: (X.pn ++ pins))) S5 g1 g3 g4 q g5 g2
      refine look (found.here ?_)
      cases hit with
      | false => exact ih (no rfl)
      | true =>
        refine codeAny_handlers_suite_as (HandSPX.lands_againZ land fun h8 land8 grow8 => ?_)
        have J8 : Inv X pins σ H { t with heap := h8 } := J.landed nb land8.1 ((grow.trans grow5).trans grow8) os ag
        obtain ⟨ob8, fs8, there8, zc8, data8⟩ := land8.there
        have S8 := J8.suite there8 data8 free ne1 ne2
        refine store_ok (X := X.suite b ((b, ob8) :: (X.pn ++ pins))) (v := .ref b) S8 nod slot (.inl lo) rfl (fun t9 S9 => ?_) (.inr lo)
        have run := (suite b ob8 cv fld (X.pn ++ pins) zc8 ⟨_, data8⟩).run [] t9 _ H _ S9 (yes rfl b free)
        refine wpAny_mono run (fun fl tA done => ?_) (fun _ _ z => z.elim)
        have clear : ∀ {σA : L2.St} {HA : Hp} {Q : Shared → Prop}, Inv (X.suite b ((b, ob8) :: (X.pn ++ pins))) [] σA HA tA →
            (∀ tB, Inv X pins (σA.set i none) HA tB → Q tB) →
            wpAny (model X.prog X.w) X.A (do bindName X.env n .none; unbindBehindTheSuite X.env n p2) (fun _ tB => Q tB) X.xe tA :=
          fun SA goal => gone_ok (SA.unsuite inv) nod slot lo goal
        match fl, done with
        | .next, ⟨_, _, SA, q⟩ => exact clear SA fun tB JB => ⟨_, _, JB, q⟩
        | .brk, ⟨_, _, SA, q⟩ => exact clear SA fun tB JB => ⟨_, _, JB, q⟩
        | .cont, ⟨_, _, SA, q⟩ => exact clear SA fun tB JB => ⟨_, _, JB, q⟩
        | .ret u, ⟨_, _, _, SA, rel, q⟩ => exact clear SA fun tB JB => ⟨_, _, _, JB, rel, q⟩
  refine wpAny_mono big (fun fl t done => ?_) (fun _ _ z => z)
  match fl, done with
  | .next, ⟨_, _, J, q⟩ => exact wpAny_execs_nil ⟨_, _, J.ofTry inv, q⟩
  | .brk, ⟨_, _, J, q⟩ => exact ⟨_, _, J.ofTry inv, q⟩
  | .cont, ⟨_, _, J, q⟩ => exact ⟨_, _, J.ofTry inv, q⟩
  | .ret u, ⟨_, _, _, J, rel, q⟩ => exact ⟨_, _, _, J.ofTry inv, rel, q⟩
end
end SE
namespace SE
open PySem PySem.Spec PyProof.Rows L2
section
variable {P : Program} {w : World} {K : PySem.W.Frag} {mg : Str → Option Value} {base : Heap} {C CE CL CN : Addr} {bE bL bN : List Value}
/-! ### _law_told -/
structure ToX (P : Program) (w : World) (K : PySem.W.Frag) (mg : Str → Option Value) (base : Heap) (CE CL CN : Addr) (bE bL bN : List Value) : Prop where
  xe : XvC P w K mg base "StepFailed" "StepFailed.__init__" "index" CE bE
  xl : XvC P w K mg base "LimitExceeded" "LimitExceeded.__init__" "limit" CL bL
  xn : XvC P w K mg base "NothingToUndo" "NothingToUndo.__init__" "count" CN bN
  ee : PySem.W.exmOne K (.ref CE) (.ref CE) = some true
  ll : PySem.W.exmOne K (.ref CL) (.ref CL) = some true
  nn : PySem.W.exmOne K (.ref CN) (.ref CN) = some true
  le : PySem.W.exmOne K (.ref CL) (.ref CE) = some false
  ne : PySem.W.exmOne K (.ref CN) (.ref CE) = some false
  nl : PySem.W.exmOne K (.ref CN) (.ref CL) = some false
abbrev nTo : List Str := ["_law_pool_here", "_law_session", "_law_past", "_law_names", "_law_items_here", "e"]
theorem scTo : FnScope nTo pDe (defScope sLawTold) := ⟨rfl, rfl, rfl, by decide +kernel, rfl, by decide +kernel, by decide +kernel⟩
def tsE (K : PySem.W.Frag) (t f : Str) (CC : Addr) : Addr → Value → Option Addr → TS := fun a cls d => tRet (tLst (tCons (tC (.str t)) (tCons (tXf a cls d CC f (tVar 5)) tNil)))
def tbTo (K : PySem.W.Frag) (C CE CL CN : Addr) (W : WX) : TS := tDrop (tCallS (spDeed K C CE CL CN) (WE W) (tCons (tVar 0) (tCons (tVar 1) (tCons (tVar 2) (tCons (tVar 3) (tCons (tVar 4) tNil))))))
def spTo (K : PySem.W.Frag) (C : Addr) : Sp := fun vs H Q _ => ∃ (k : Nat) (p o L A nl il : Addr) (c : PC) (zs : List Str) (ss : Sk) (l : Lim) (ds : List Deed) (us : List V) (es : List PastE) (e : PastE), vs = [.ref p, .ref o, .ref A, .ref nl, .ref il] ∧ DeedIn K C k H p o L A nl il c zs ss l ds us (es ++ [e]) ∧
  ∀ t H' us' ps' ss' l' ds', Keep [o, L, A, p] H H' → SesX K C none [] H' o L ss' l' ds' → H' A = some (.lst us') → Paired (PastV K H') us' ps' → Tr (k + 1) ps' ss' l' ds' → ds'.length ≤ k + 1 → H' t = some (.lst (outV (outM zs c e.1 e.2.1 (es.length + 1)))) → t ≠ L → t ≠ A → Q (.ref t) H'
theorem has_told (D : Def K mg "_law_told" sLawTold) (X : ToX P w K mg base CE CL CN bE bL bN) (GD : HasX P w K mg base "_law_deed" 7 pDe [] (spDeed K C CE CL CN)) : Has P w K mg base "_law_told" 8 pDe [] (spTo K C) := by
  refine has_of D scTo (fun _ _ _ _ _ _ us hl => match us, hl with | [_, _, _, _, _], _ => rfl) (fun xs H Q E h => ?_) (fun f cv A' out s H xs Q E hr h => ?_)
  · obtain ⟨k, p, o, L, A, nl, il, c, zs, ss, l, ds, us, es, e, rfl, _⟩ := h
    rfl
  · obtain ⟨k, p, o, L, A, nl, il, c, zs, ss, l, ds, us, es, e, rfl, hd, kQ⟩ := h
    refine ⟨_, pss_cons (ps_try_asL (i := 5) (tm := tbTo K C CE CL CN) (cl := [(.ref CE, tsE K "failed" "index" CE), (.ref CL, tsE K "limit" "limit" CL), (.ref CN, tsE K "nothing" "count" CN)]) (out := fun _ _ _ _ => False) rfl rfl scTo.nd rfl rfl takes0
        (fun W pn xe tk _ => pss_one (ps_expr (pe_hasS GD hr tk (pa_cons (pv 0) (pa_cons (pv 1) (pa_cons (pv 2) (pa_cons (pv 3) (pa_cons (pv 4) pa_nil))))))))
        (.cons ⟨rfl, by decide, .inl X.xe.gC⟩ (fun a oe cls d pn hz hf => pss_one (ps_ret (pe_lst (pa_cons pe_str (pa_cons (pe_xf X.xe.xf X.xe.noF hz hf (pv 5)) pa_nil)))))
        (.cons ⟨rfl, by decide, .inl X.xl.gC⟩ (fun a oe cls d pn hz hf => pss_one (ps_ret (pe_lst (pa_cons pe_str (pa_cons (pe_xf X.xl.xf X.xl.noF hz hf (pv 5)) pa_nil)))))
        (.cons ⟨rfl, by decide, .inl X.xn.gC⟩ (fun a oe cls d pn hz hf => pss_one (ps_ret (pe_lst (pa_cons pe_str (pa_cons (pe_xf X.xn.xf X.xn.noF hz hf (pv 5)) pa_nil))))) .nil))))
      (pss_one (ps_ret (pe_lst (pa_cons pe_str pa_nil)))), ?_⟩
    have tL : ∀ {Hx : Hp} {ss' : Sk} {l' : Lim} {ds' : List Deed} {us' : List V} {t : Addr}, SesX K C none [] Hx o L ss' l' ds' → Hx A = some (.lst us') → Hx t = none → t ≠ L ∧ t ≠ A := fun {Hx ss' l' ds' us' t} hs hA ht => ⟨fun q => hs.has L (by simp [ownS]) (by rw [← q]; exact ht), fun q => by rw [q, hA] at ht; cases ht⟩
    have fin : ∀ {Hx : Hp} {ss' : Sk} {l' : Lim} {ds' : List Deed} {us' : List V} {ps' : List PastE}, Keep [o, L, A, p] H Hx → SesX K C none [] Hx o L ss' l' ds' → Hx A = some (.lst us') → Paired (PastV K Hx) us' ps' → Tr (k + 1) ps' ss' l' ds' → ds'.length ≤ k + 1 → (outV (outM zs c e.1 e.2.1 (es.length + 1))).length ≤ sizeLine ∧ ∀ t, Hx t = none → Q (.ref t) (upd Hx t (.lst (outV (outM zs c e.1 e.2.1 (es.length + 1))))) := by
      intro Hx ss' l' ds' us' ps' kx hs hA pst tr dl
      refine ⟨Nat.le_trans (out_sz _) (by decide), fun t ht => ?_⟩
      have s1 : Same Hx (upd Hx t (.lst (outV (outM zs c e.1 e.2.1 (es.length + 1))))) := Same.new ht
      exact kQ t _ us' ps' ss' l' ds' ⟨kx.1, fun b u nb q => s1 _ _ (kx.2 _ _ nb q)⟩ (hs.same s1) (s1 _ _ hA) (Paired.mapP pst fun _ _ q => q.same s1) tr dl upd_same (tL hs hA ht).1 (tL hs hA ht).2
    refine ⟨_, rfl, _, rfl, _, rfl, _, rfl, _, rfl, k, p, o, L, A, nl, il, c, zs, ss, l, ds, us, es, e, rfl, hd, fun eo H' us' ps' ss' l' ds' kk hs' hA' pst' tr' dl' => ?_, fun cl fs hcl d H' kk hs' hA' pst' hx => ?_⟩
    · have z := fin kk hs' hA' pst' tr' dl'
      rw [eo] at z
      exact z
    · have z := fin kk hs' hA' pst' (hd.tr.mono (Nat.le_succ _)) (Nat.le_succ_of_le hd.dl)
      rcases hcl with ⟨rfl, rfl, eo⟩ | ⟨lm, rfl, rfl, eo⟩ | ⟨j, rfl, rfl, eo⟩
      · rw [eo] at z
        refine ⟨false, X.ne, fun z => Bool.noConfusion z, fun _ => ⟨false, X.nl, fun z => Bool.noConfusion z, fun _ => ⟨true, X.nn, fun _ a na => ?_, fun z => Bool.noConfusion z⟩⟩⟩
        exact ⟨_, rfl, rfl, rfl, d, _, _, rfl, hx, by simp [List.lookup], z⟩
      · rw [eo] at z
        refine ⟨false, X.le, fun z => Bool.noConfusion z, fun _ => ⟨true, X.ll, fun _ a na => ?_, fun z => Bool.noConfusion z⟩⟩
        exact ⟨_, rfl, rfl, rfl, d, _, _, rfl, hx, by simp [List.lookup], z⟩
      · rw [eo] at z
        refine ⟨true, X.ee, fun _ a na => ?_, fun z => Bool.noConfusion z⟩
        exact ⟨_, rfl, rfl, rfl, d, _, _, rfl, hx, by simp [List.lookup], z⟩
end
end SE
/-! repr of plain data, of small ints and of None. -/
namespace SE
open PySem PySem.Spec PyProof.Rows L2
/-- the text of plain data as repr gives it -/
def rtext : PyData → Str
  | .none => "None"
  | .int i => toString i
  | d => d.shown
/-- data of which repr gives a text -/
inductive RepD (K : PySem.W.Frag) (H : Hp) : V → PyData → Prop
  | none : RepD K H .non .none
  | int (i : Int) : i.natAbs < 100000 → RepD K H (.int i) (.int i)
  | tup {a : Addr} {ds : List PyData} : Dp K H (.ref a) (.tuple ds) → (PyData.tuple ds).showable = true → (PyData.tuple ds).hasDict = false → (PyData.tuple ds).depth ≤ 20 → (PyData.tuple ds).shown.length ≤ sizeLine → RepD K H (.ref a) (.tuple ds)
  | lst {a : Addr} {ds : List PyData} : Dp K H (.ref a) (.list ds) → (PyData.list ds).showable = true → (PyData.list ds).hasDict = false → (PyData.list ds).depth ≤ 20 → (PyData.list ds).shown.length ≤ sizeLine → RepD K H (.ref a) (.list ds)
section
variable {X : Cx}
def rRepA (K : PySem.W.Frag) : List V → Hp → VK → Prop := fun xs H Q => ∃ (x : V) (d : PyData), xs = [x] ∧ RepD K H x d ∧ Q (.str (rtext d)) H
theorem call_repA (hgu : X.A.guards = some []) (hu : X.A.units + 64 < cLine) : CallR X (.builtin "repr") (rRepA X.K) := by
  intro pins s σ H xs us Q I r h
  obtain ⟨x, d, rfl, hd, q⟩ := h
  cases hd with
  | tup h1 h2 h3 h4 h5 => exact call_rep hgu hu pins s σ H _ us Q I r ⟨_, _, rfl, h1, ⟨_, rfl⟩, h2, h3, h4, h5, q⟩
  | lst h1 h2 h3 h4 h5 => exact call_rep hgu hu pins s σ H _ us Q I r ⟨_, _, rfl, h1, ⟨_, rfl⟩, h2, h3, h4, h5, q⟩
  | none =>
    cases r with
    | cons r1 r2 =>
      cases r2
      cases r1
      exact PySem.P.repr_of_none ⟨.str _, H, I.tok _, ⟨_, rfl⟩, q⟩
  | int i hi =>
    cases r with
    | cons r1 r2 =>
      cases r2
      obtain ⟨t, rfl⟩ := r1
      refine PySem.P.repr_of_int ?_ ⟨.str _, H, I.tok _, ⟨_, rfl⟩, q⟩
      by_cases c : i.natAbs = 0
      · rw [c]
        decide
      · have h17 := (Nat.log2_lt c (k := 17)).mpr (by omega)
        omega
end
end SE
namespace SE
open PySem PySem.Spec PyProof.Rows L2
/-! ### names in order -/
def canon (ys : List Str) : List Str := NS2.filter fun n => decide (n ∈ ys)
theorem canon_eq : ∀ {ys : List Str}, ys.Nodup → (∀ y ∈ ys, y ∈ NS2) → sortedS ys = true → ys = canon ys
  | [], _, _, _ => rfl
  | [a], _, h, _ => by
    rcases List.mem_cons.mp (h a List.mem_cons_self) with q | q
    · subst q; decide +kernel
    · rw [List.mem_singleton.mp q]; decide +kernel
  | [a, b], nd, h, s => by
    have ne : a ≠ b := by simpa using nd
    rcases List.mem_cons.mp (h a List.mem_cons_self) with q | q
    · rcases List.mem_cons.mp (h b (by simp)) with r | r
      · exact absurd (q.trans r.symm) ne
      · rw [q, List.mem_singleton.mp r]; decide +kernel
    · have q := List.mem_singleton.mp q
      rcases List.mem_cons.mp (h b (by simp)) with r | r
      · rw [q, r] at s
        exact absurd s (by decide +kernel)
      · exact absurd (q.trans (List.mem_singleton.mp r).symm) ne
  | a :: b :: c :: r, nd, h, _ => by
    have := nodup_le (zs := NS2) nd h
    simp at this
theorem canon_same {ys zs : List Str} (h : ∀ n, n ∈ ys ↔ n ∈ zs) : canon ys = canon zs := by
  unfold canon
  congr 1
  funext n
  by_cases c : n ∈ ys
  · rw [decide_eq_true c, decide_eq_true ((h n).mp c)]
  · rw [decide_eq_false c, decide_eq_false (fun q => c ((h n).mpr q))]
theorem key_clean {ss : Sk} (nd : (ss.map (·.1)).Nodup) (n : Str) : n ∈ (cleanS ss).map (·.1) ↔ getS ss n ≠ [] := by
  constructor
  · intro m
    obtain ⟨p, mp, rfl⟩ := List.mem_map.mp m
    obtain ⟨m1, m2⟩ := List.mem_filter.mp mp
    rw [getS_at nd m1]
    simpa using m2
  · intro h
    exact List.mem_map.mpr ⟨_, List.mem_filter.mpr ⟨getS_mem h, by simpa using h⟩, rfl⟩
theorem clean_id {ss : Sk} (h : ∀ p ∈ ss, p.2 ≠ []) : cleanS ss = ss := List.filter_eq_self.mpr fun p m => by simpa using h p m
theorem Rel.names {k : Nat} {e : PastE} {ss : Sk} {l : Lim} {ns : List NSt} (h : Rel k e ss l ns) {ys zs : List Str} (p1 : ys.Perm ((cleanS e.1).map (·.1))) (s1 : sortedS ys = true) (p2 : zs.Perm (ss.map (·.1))) (s2 : sortedS zs = true) : ys = zs := by
  have n1 : ((cleanS e.1).map (·.1)).Nodup := List.Nodup.sublist (List.Sublist.map _ List.filter_sublist) h.okh.nd
  have m1 : ∀ y ∈ ys, y ∈ NS2 := fun y my => by
    obtain ⟨p, mp, rfl⟩ := List.mem_map.mp (p1.mem_iff.mp my)
    exact h.nm.1 p (List.mem_filter.mp mp).1
  have m2 : ∀ y ∈ zs, y ∈ NS2 := fun y my => by
    obtain ⟨p, mp, rfl⟩ := List.mem_map.mp (p2.mem_iff.mp my)
    exact h.nm.2 p mp
  rw [canon_eq (p1.nodup_iff.mpr n1) m1 s1, canon_eq (p2.nodup_iff.mpr h.oks.nd) m2 s2]
  refine canon_same fun n => ?_
  rw [p1.mem_iff, p2.mem_iff, key_clean h.okh.nd, h.eqs, ← key_clean h.oks.nd, clean_id h.cl]
def EqHas (P : Program) (w : World) (K : PySem.W.Frag) (mg : Str → Option Value) (base : Heap) (C : Addr) : Prop := ∃ f fd, FnOk P w K mg base CX0 1 f fd ["self", "other"] (spEqB (rEff K C)) ∧ PySem.W.findIn K (.ref C) "__eq__" = some (some (.ref f)) ∧ PySem.W.isFn K (.ref f) = true ∧ Binds K fd ["self", "other"] [] ∧ PySem.W.findIn K (.ref C) "__ne__" = some (some (.builtin "object.__ne__"))
def LenHas (P : Program) (w : World) (K : PySem.W.Frag) (mg : Str → Option Value) (base : Heap) (C : Addr) (sp : Sp) : Prop := ∃ g, PySem.W.findIn K (.ref C) "__len__" = some (some (.ref g)) ∧ PySem.W.isFn K (.ref g) = true ∧ FnR P w K mg base CX0 1 g sp
abbrev NS3 : List Str := ["left", "right", "more"]
theorem it_more : Item ("more" : Str) := ⟨by decide +kernel, by decide +kernel, by decide +kernel⟩
def limD : Lim → PyData
  | none => .none
  | some n => .int (n : Nat)
theorem rep_lim {K : PySem.W.Frag} {H : Hp} : ∀ {l : Lim}, LimOk l → RepD K H (limV l) (limD l)
  | none, _ => .none
  | some n, h => .int _ (by have := h n rfl; omega)
section
variable {P : Program} {w : World} {K : PySem.W.Frag} {mg : Str → Option Value} {base : Heap} {C CF : Addr}
/-! ### _law_same -/
def spSame (K : PySem.W.Frag) (C : Addr) : Sp := fun vs H Q _ => ∃ (k : Nat) (o L A nl : Addr) (ss : Sk) (l : Lim) (ds : List Deed) (us : List V) (ps : List PastE), vs = [.ref o, .ref A, .ref nl] ∧ SesX K C none [] H o L ss l ds ∧ H A = some (.lst us) ∧ Paired (PastV K H) us ps ∧ Tr k ps ss l ds ∧ k ≤ 42 ∧ ds.length ≤ k ∧ H nl = some (.lst (NS2.map V.str)) ∧ ∀ H', Same H H' → Q (.bl true) H'
abbrev nSa : List Str := ["_law_session", "_law_past", "_law_names", "_law_heaps", "_law_bound", "_law_every", "_law_due_here", "_law_found", "_law_name_here", "_law_parts_here", "_law_action", "_law_own", "_law_item"]
theorem scSa : FnScope nSa ["_law_session", "_law_past", "_law_names"] (defScope sLawSame) := ⟨rfl, rfl, rfl, by decide +kernel, rfl, by decide +kernel, by decide +kernel⟩
theorem ghas_same (D : Def K mg "_law_same" sLawSame) (T : SCl K C) (T2 : EC K mg CF) (TI : EI K CF) (M : Makes P w K mg base CF) (EQ : EqHas P w K mg base CF) (LI : PropHas P w K mg base C "limit" 1 (spLi K C none)) (LN : LenHas P w K mg base C (spLn K C none)) (NM : MethHas P w K mg base C "names" 1 ["self"] (spNm K C none)) (ST : MethHas P w K mg base C "stack" 3 ["self", "name"] (spStk K C none)) (EF : MethHas P w K mg base C "effect" 8 ["self", "name"] (spEf K C CF none))
    (GE : Has P w K mg base "_law_effect" 1 ["_law_steps_here"] [] (spLEff K)) (B : Blt mg) (mp : mg "repr" = none) (ms : mg "sorted" = none) : GHas P w K mg base "_law_same" 9 ["_law_session", "_law_past", "_law_names"] (spSame K C) := by
  refine ghas_of D scSa (fun _ _ _ _ _ _ us hl => match us, hl with | [_, _, _], _ => rfl) (fun xs H Q E h => ?_) (fun f cv A' out s H xs Q E hgu hr h => ?_)
  · obtain ⟨k, o, L, A, nl, ss, l, ds, us, ps, rfl, _⟩ := h
    rfl
  · obtain ⟨k, o, L, A, nl, ss, l, ds, us, ps, rfl, ses, hA, past, tr, k42, dl, hn, kQ⟩ := h
    obtain ⟨FQ, fdq, FQ0, eq1, eq2, eq3, eq4⟩ := EQ
    obtain ⟨gL, ln1, ln2, FL⟩ := LN
    have hu := hu_of hr
    have hr1 : Room 1 _ := hr.mono (by decide)
    have hr2 : Room 2 _ := hr.mono (by decide)
    have hr3 : Room 3 _ := hr.mono (by decide)
    have hr5 : Room 5 _ := hr.mono (by decide)
    refine ⟨_, pss_cons (ps_asg (pe_ix ix_list (pv 1) (pe_un un_neg pe_int) (fun _ _ => rfl)) (pg_lst rfl (pgs_cons (pg_name (i := 3) scSa.nd rfl (.inr rfl)) (pgs_cons (pg_name (i := 4) scSa.nd rfl (.inl rfl)) (pgs_cons (pg_name (i := 5) scSa.nd rfl (.inl rfl)) pgs_nil)))))
      (pss_cons (ps_if (PW.pt (pw_or (pt_cmpR op_ne (pe_callB (call_repA hgu hr.units) (by rfl) mp (by decide +kernel) (pa_cons (pe_propH LI (pv 0) T.cl hr2) pa_nil)) (pe_callB (call_repA hgu hr.units) (by rfl) mp (by decide +kernel) (pa_cons (pv 4) pa_nil)) (nomark _))
          (pw_or1 (pt_cmpR op_ne (pe_callB (call_lenO ln1 ln2 FL hr2) (by rfl) B.len PySem.boot_len (pa_cons (pv 0) pa_nil)) (pe_op op_sub (pe_callB call_len_seq (by rfl) B.len PySem.boot_len (pa_cons (pv 1) pa_nil)) pe_int) (nomark _))))) (pss_one (ps_ret pe_bl)) pss_nil)
      (pss_cons (ps_set (i := 6) scSa.nd rfl (.inl rfl) (pe_callB cr_sortedS (by rfl) ms (by decide +kernel) (pa_cons
          (pe_lc (own := [("_law_name_here", 8)]) (g := gName 8) (tt := tTest (tOp (rNeD K) (tDGet (tVar 3) (tVar 8)) (tTup tNil))) (te := tVar 8) rfl scSa.nd (pi_keys (pv 3)) (blkOk_by (own := [("_law_name_here", 8)]) (N := nSa) (sc := defScope sLawSame) (by decide +kernel))
            (fun _ _ _ _ _ => pg_name (i := 8) scSa.nd rfl (.inl rfl)) (fun _ _ _ _ _ => pts_one (pt_cmpR (op_neD hr.units) (pe_dget hu (pv 3) (pv 8) (fun _ _ => rfl)) (pe_tup pa_nil) (nomark _))) (fun _ _ _ _ _ => pv 8)) pa_nil)))
      (pss_cons (ps_set (i := 7) scSa.nd rfl (.inl rfl) (pe_mH0 NM (pv 0) T.cl hr1))
      (pss_cons (ps_if (pt_cmpR (op_neD hr.units) (pv 7) (pv 6) (nomark _)) (pss_one (ps_ret pe_bl)) pss_nil)
      (pss_cons (ps_expr (pe_bm PySem.F.plainAttrs_list PySem.F.slot_list_append PySem.F.type_list_append mt_append (pv 7) (pa_cons pe_non pa_nil)))
      (pss_cons (ps_for PassesOwn.never rfl (pi_list (pe_op op_cat (pv 2) (pe_lst (pa_cons pe_str pa_nil)))) (pg_name (i := 8) scSa.nd rfl (.inr rfl))
        (pss_cons (ps_set (i := 9) scSa.nd rfl (.inl rfl) (pe_has GE hr1 (pa_cons
          (pe_lc (own := [("_law_action", 10), ("_law_own", 11), ("_law_item", 12)]) (g := gTup K 3 (gCons (gName 10) (gCons (gName 11) (gCons (gName 12) gNil)))) (tt := tTest (tOp rEq (tVar 11) (tVar 8))) (te := tTup (tCons (tVar 10) (tCons (tVar 12) tNil))) rfl scSa.nd (pi_list (pv 5)) (blkOk_by (own := [("_law_action", 10), ("_law_own", 11), ("_law_item", 12)]) (N := nSa) (sc := defScope sLawSame) (by decide +kernel))
            (fun _ _ _ _ _ => pg_tup (by rfl) (pgs_cons (pg_name (i := 10) scSa.nd rfl (.inl rfl)) (pgs_cons (pg_name (i := 11) scSa.nd rfl (.inl rfl)) (pgs_cons (pg_name (i := 12) scSa.nd rfl (.inl rfl)) pgs_nil)))) (fun _ _ _ _ _ => pts_one (pt_cmpR op_eq (pv 11) (pv 8) (nomark _))) (fun _ _ _ _ _ => pe_tup (pa_cons (pv 10) (pa_cons (pv 12) pa_nil)))) pa_nil)))
        (pss_cons (ps_if (pt_cmpR (op_neD hr.units) (pe_mH1 ST (pv 0) T.cl hr3 (pa_cons (pv 8) pa_nil)) (pe_dget2 hu (pv 3) (pv 8) (pe_tup pa_nil) ⟨rfl, rfl, rfl, rfl⟩) (nomark _)) (pss_one (ps_ret pe_bl)) pss_nil)
        (pss_one (ps_if (pt_cmpR (op_neE FQ0 eq1 eq2 eq3 TI.hm eq4 hr2) (pe_mH1 EF (pv 0) T.cl hr (pa_cons (pv 8) pa_nil)) (pe_effK M T2.mgE hr5 (pa_cons (pe_ix ix_tup (pv 9) pe_int (fun _ _ => rfl)) (pa_cons (pe_ix ix_tup (pv 9) pe_int (fun _ _ => rfl)) pa_nil)) (pe_ix ix_tup (pv 9) pe_int (fun _ _ => rfl))) (nomark _)) (pss_one (ps_ret pe_bl)) pss_nil)))))
      (pss_one (ps_ret (pe_cmpR (op_eqD hr.units) (pe_mH0 NM (pv 0) T.cl hr1) (pv 6) (nomark _)))))))))), ?_⟩
    obtain ⟨es, e, rfl, rel⟩ := tr.last
    obtain ⟨us1, v, rfl, pst1, hv⟩ := paired_last past
    have l0 := rel.lim
    subst l0
    have es0 := rel.steps
    have tl := tr.len
    have elen : es.length = ds.length := by rw [List.length_append] at tl; simpa using tl
    have ulen : us1.length = ds.length := (paired_len pst1).trans elen
    obtain ⟨r0, d, a0, us0, o1, o2, rfl, h1, ⟨oF, kvs, h3, h3'⟩, h4, h5⟩ := hv
    refine ⟨_, rfl, _, rfl, A, _, -1, _, rfl, rfl, .of hA, atI_last' us1 _, r0, _, rfl, .inl (.inr ⟨o1, h1⟩), rfl, _, _, rfl, _, _, rfl, _, _, rfl, rfl, ?_⟩
    obtain ⟨dx, F0, ws0, ho, _⟩ := ses.ex
    refine ⟨_, rfl, o, dx, _, rfl, ho, o, L, [], ss, e.2.1, ds, rfl, ses, _, limD e.2.1, rfl, rep_lim rel.lok, _, rfl, _, limD e.2.1, rfl, rep_lim rel.lok, rfl, _, rfl, ?_⟩
    rw [decide_eq_true rfl]
    refine iteF ⟨_, rfl, o, dx, _, rfl, ho, o, L, [], ss, e.2.1, ds, rfl, ses, ds.length, rfl, by omega, _, rfl, A, _, rfl, .inl (.of hA), _, _, rfl, rfl, rfl, _, rfl, ?_⟩
    rw [decide_eq_true (by
      refine congrArg V.int ?_
      rw [List.length_append, List.length_singleton, ulen]
      omega)]
    refine iteF ?_
    have ok := rel.okh
    have oks := rel.oks
    have n2 : e.1.length ≤ 2 := rel.nm.1.len ok.nd
    have n2s : ss.length ≤ 2 := rel.nm.2.len oks.nd
    refine ⟨_, rfl, d, oF, rfl, .inl ⟨kvs, h3, fun DD hDD => lc_it walk_keys (fun j H2 => H2 DD = some (.lst (((cleanS (e.1.take j)).map (·.1)).map V.str)) ∧ Same H H2) ⟨upd_same, Same.new hDD⟩ (fun j H2 _ q => q.2 _ _ h3) ?_ ?_⟩⟩
    · rintro j x H2 H3 hj ⟨h2, s2⟩ ⟨rfl, k', v', hkv, rfl⟩
      obtain ⟨p, hp, e1, t, e2, hT⟩ := paired_at h3' hkv
      have e1 : k' = Sum.inr p.1 := e1
      have e2 : v' = .ref t := e2
      subst e1 e2
      have pm := List.mem_of_getElem? hp
      obtain ⟨q1, q2, q3⟩ := ok.ok p pm
      have g : DGet H3 d (.str p.1) (some (.ref t)) := by
        refine .inl ⟨kvs, Sum.inr p.1, .inr ⟨oF, s2 _ _ h3⟩, rfl, ?_⟩
        have hv : valV kvs (Sum.inr p.1) = some (.ref t) := valV_of hkv (sF_nd h3' ok.nd)
        exact hv.symm
      refine ⟨rfl, _, rfl, _, rfl, d, _, rfl, g, by show 0 ≤ sizeLine; decide, fun U hU => ?_⟩
      have sU : Same H3 (upd H3 U (.tup [])) := Same.new hU
      refine ⟨.tuple (p.2.map .str), .tuple (([] : List Str).map .str), .tup (Same.tup (s2.trans sU) hT) (dp_strs _), .tup (.of upd_same) .nil, (nice_tuple (nice_strs q2)).shaped (by decide), rfl, _, rfl, ?_⟩
      rw [eqv_tupS, clean_take hp]
      by_cases c : p.2 = []
      · rw [if_pos c, decide_eq_true c]
        exact iteF ⟨sU _ _ h2, s2.trans sU⟩
      · rw [if_neg c, decide_eq_false c]
        refine iteT ⟨_, rfl, _, sU _ _ h2, ?_, ?_, Same.free2 (s2.trans sU) hDD⟩
        · rw [List.length_map, List.length_map]
          have l2 : (cleanS (e.1.take j)).length ≤ (e.1.take j).length := List.length_filter_le _ _
          rw [List.length_take] at l2
          rw [sizeLine_eq]
          omega
        · rw [upd_same, List.map_append, List.map_append]
          rfl
    rintro H2 ⟨h2, s2⟩
    have lk : kvs.length = e.1.length := paired_len h3'
    rw [lk, List.take_length] at h2
    refine ⟨DD, (cleanS e.1).map (·.1), rfl, .of h2, ?_, fun ys p6 hpm hst hn6 => ?_⟩
    · rw [List.length_map]
      have : (cleanS e.1).length ≤ e.1.length := List.length_filter_le _ _
      omega
    have s3 : Same H (upd H2 p6 (.lst (ys.map V.str))) := s2.trans (Same.new hn6)
    have h6 : upd H2 p6 (.lst (ys.map V.str)) p6 = some (.lst (ys.map V.str)) := upd_same
    generalize upd H2 p6 (.lst (ys.map V.str)) = H3 at s3 h6 ⊢
    refine ⟨_, rfl, o, dx, _, rfl, s3 _ _ ho, sX_none (by decide) (by decide) (by decide) (by decide), o, L, [], ss, e.2.1, ds, rfl, ses.same s3, by omega, fun p7 zs H4 s4 hn7 h7 hpm2 hst2 => ?_⟩
    have ez := rel.names hpm hst hpm2 hst2
    subst ez
    have yI : ∀ y ∈ ys, Item y := fun y my => by
      obtain ⟨p, mp, rfl⟩ := List.mem_map.mp (hpm2.mem_iff.mp my)
      exact (oks.ok p mp).1
    have shy : SeqAt.shaped (.list (ys.map PyData.str)) = true := (nice_list (nice_strs yI)).shaped (by decide)
    have lys : ys.length ≤ 2 := by rw [hpm2.length_eq, List.length_map]; exact n2s
    refine ⟨_, rfl, _, rfl, .list (ys.map .str), .list (ys.map .str), .lst (.of h7) (dp_strs _), .lst (.of (s4 _ _ h6)) (dp_strs _), shy, shy, _, rfl, ?_⟩
    rw [eqv_listS, decide_eq_true rfl]
    refine iteF ⟨_, rfl, .inl ⟨rfl, _, .of h7⟩, p7, _, _, rfl, rfl, h7, by rw [List.length_map, sizeLine_eq]; omega, ?_⟩
    have s5 : Same H3 (upd H4 p7 (.lst (ys.map V.str ++ [.non]))) := Same.free2 s4 hn7
    generalize upd H4 p7 (.lst (ys.map V.str ++ [.non])) = H5 at s5 ⊢
    have s05 := s3.trans s5
    have h65 := s5 _ _ h6
    refine ⟨_, rfl, by show 1 ≤ sizeLine; decide, fun q8 hq8 => ?_⟩
    have s6 : Same H5 (upd H5 q8 (.lst [.str "more"])) := Same.new hq8
    have h8 : upd H5 q8 (.lst [.str "more"]) q8 = some (.lst [.str "more"]) := upd_same
    generalize upd H5 q8 (.lst [.str "more"]) = H6 at s6 h8 ⊢
    refine ⟨nl, q8, _, _, rfl, rfl, s6 _ _ (s05 _ _ hn), h8, by show 3 ≤ sizeLine; decide, fun r9 hr9 => ?_⟩
    have s7 : Same H6 (upd H6 r9 (.lst (NS2.map V.str ++ [.str "more"]))) := Same.new hr9
    have h9 : upd H6 r9 (.lst (NS2.map V.str ++ [.str "more"])) r9 = some (.lst (NS3.map V.str)) := upd_same
    generalize upd H6 r9 (.lst (NS2.map V.str ++ [.str "more"])) = H7 at s7 h9 ⊢
    have s07 : Same H H7 := s05.trans (s6.trans s7)
    have h67 := (s6.trans s7) _ _ h65
    refine ⟨r9, rfl, ⟨_, .of h9⟩, for_list (K := K) (a := r9) (xs := NS3.map V.str) (fun j σ Hx => ∃ (y8 y9 : Option V), σ = [some (.ref o), some (.ref A), some (.ref nl), some (.ref d), some (limV e.2.1), some (.ref a0), some (.ref p6), some (.ref p7), y8, y9, none, none, none] ∧ Same H7 Hx) ⟨_, _, rfl, Same.refl _⟩ (fun j σ Hx _ q => ?_) ?_ ?_⟩
    · obtain ⟨_, _, _, sx⟩ := q
      exact .of (sx _ _ h9)
    · rintro j x σ Hx hx ⟨y8, y9, rfl, sx⟩
      rw [List.getElem?_map] at hx
      obtain ⟨n, hj, rfl⟩ := Option.map_eq_some_iff.mp hx
      have inn : Item n := by
        have := List.mem_of_getElem? hj
        simp only [List.mem_cons, List.mem_nil_iff, or_false] at this
        rcases this with rfl | rfl | rfl
        · exact it_lr.1
        · exact it_lr.2
        · exact it_more
      have s0x := s07.trans sx
      have ha0 := s0x _ _ h4
      have hN0 := nsv_same h5 s0x
      obtain ⟨xs, zs, pk0, hE⟩ := rel.eff n
      have stI : ∀ z ∈ ofN (flatD ds) n, Item z.2 := fun z m => (rel.ok _ (ofN_mem m)).i
      have ofl : (ofN (flatD ds) n).length ≤ 1000 := by
        have q1 : (ofN (flatD ds) n).length ≤ (flatD ds).length := by
          unfold ofN
          rw [List.length_map]
          exact List.length_filter_le _ _
        have := rel.len
        omega
      refine ⟨_, rfl, a0, rfl, ⟨us0, .inl (.inr ⟨o2, ha0⟩)⟩, fun DD hDD => lc_list (K := K) (a := a0) (xs := us0) (fun j H2 => ∃ ws, H2 DD = some (.lst ws) ∧ StepsV K H2 ws (ofN (e.2.2.take j) n) ∧ ws.length ≤ j ∧ Same Hx H2) ⟨[], upd_same, .nil, Nat.le_refl _, Same.new hDD⟩ (fun j H2 _ q => ?_) ?_ ?_⟩
      · obtain ⟨_, _, _, _, s2⟩ := q
        exact .inl (.inr ⟨o2, s2 _ _ ha0⟩)
      · rintro i x H2 hx2 ⟨ws, hw, hV, lw, s2⟩
        obtain ⟨⟨b, n', z⟩, hs, t2, rfl, hT⟩ := paired_at hN0 hx2
        have il := (List.getElem?_eq_some_iff.mp hs).1
        have lns : e.2.2.length ≤ 6 * k := by rw [es0]; exact rel.len
        refine ⟨t2, _, rfl, Same.tup s2 hT, rfl, _, _, rfl, _, _, rfl, _, _, rfl, rfl, rfl, _, rfl, _, rfl, rfl, _, rfl, ?_⟩
        rw [List.take_add_one, hs]
        show if decide (V.str n' = V.str n) = true then _ else _
        have e3 : ofN (e.2.2.take i ++ [(b, n', z)]) n = if n' = n then ofN (e.2.2.take i) n ++ [(b, z)] else ofN (e.2.2.take i) n := ofN_snoc _ _ _
        by_cases c : n' = n
        · rw [decide_eq_true (by rw [c])]
          rw [if_pos c] at e3
          refine iteT ⟨_, rfl, _, rfl, by show 2 ≤ sizeLine; decide, fun q hq => ?_⟩
          have sq : Same H2 (upd H2 q (.tup [.str (act b), .str z])) := Same.new hq
          have hw2 := sq _ _ hw
          refine ⟨ws, hw2, by rw [sizeLine_eq]; omega, ws ++ [.ref q], upd_same, ?_, by rw [List.length_append, List.length_singleton]; omega, Same.free2 (s2.trans sq) hDD⟩
          show StepsV K _ _ (ofN (e.2.2.take i ++ [(b, n', z)]) n)
          rw [e3]
          have ne : q ≠ DD := Ne.symm (ne_of_none hw hq)
          exact Paired.snoc2 (Paired.mapP hV fun v s' q2 => by
            obtain ⟨t3, q3, q4⟩ := q2
            exact ⟨t3, q3, tup_updL hw2 (Same.tup sq q4)⟩) ⟨q, rfl, .of (by rw [upd_ne ne]; exact upd_same)⟩
        · rw [decide_eq_false (fun q => c (V.str.inj q))]
          rw [if_neg c] at e3
          refine iteF ⟨ws, hw, ?_, by omega, s2⟩
          show StepsV K _ _ (ofN (e.2.2.take i ++ [(b, n', z)]) n)
          rw [e3]
          exact hV
      rintro H2 ⟨ws, hw, hV, lw, s2⟩
      have lu0 := paired_len hN0
      rw [lu0, List.take_length, es0] at hV
      refine ⟨DD, ws, ofN (flatD ds) n, rfl, .of hw, hV, stI, ofl, fun z => (by rw [hE] at z; cases z), fun xs' zs' pk' hE' t u v' H8 s8 ht hu8 hv8 => ?_⟩
      rw [hE] at hE'
      cases hE'
      have s08 := (s0x.trans s2).trans s8
      have sx8 := (sx.trans s2).trans s8
      -- the stack
      refine ⟨_, rfl, o, dx, _, rfl, s08 _ _ ho, sX_none (by decide) (by decide) (by decide) (by decide), _, rfl, o, L, n, [], ss, e.2.1, ds, rfl, ses.same s08, inn, fun t3 H9 s9 ht3 => ?_⟩
      have s09 := s08.trans s9
      refine ⟨_, rfl, d, rfl, .inl ⟨_, .inr ⟨oF, s09 _ _ h3⟩⟩, _, rfl, by show 0 ≤ sizeLine; decide, fun U hU => ?_⟩
      have sU : Same H9 (upd H9 U (.tup [])) := Same.new hU
      have hUU : upd H9 U (.tup []) U = some (.tup []) := upd_same
      generalize upd H9 U (.tup []) = H10 at sU hUU ⊢
      have s010 := s09.trans sU
      have sk10 := skH_same h3' s010
      refine ⟨_, .inl ⟨kvs, Sum.inr n, .inr ⟨oF, s010 _ _ h3⟩, rfl, rfl⟩, ?_⟩
      obtain ⟨q, eq, hq⟩ : ∃ q, (valV kvs (Sum.inr n)).getD (V.ref U) = V.ref q ∧ SqT K H10 q ((getS e.1 n).map V.str) := by
        unfold getS
        rcases skH_val (n := n) sk10 with ⟨z1, z2⟩ | ⟨p, t2, z1, z2, z3⟩
        · rw [z1, z2]
          exact ⟨U, rfl, .of hUU⟩
        · rw [z1, z2]
          exact ⟨t2, rfl, z3⟩
      rw [eq]
      obtain ⟨c1, c2, c3, c4, c5, c6, c7⟩ := eq_tups (Same.tup sU ht3) hq (oks.get n).1 (ok.get n).1
      refine ⟨c1, c2, c3, c4, c5, c6, _, rfl, ?_⟩
      rw [c7, decide_eq_true (rel.eqs n).symm]
      refine iteF ?_
      -- the effect
      refine ⟨_, rfl, o, dx, _, rfl, s010 _ _ ho, sX_none (by decide) (by decide) (by decide) (by decide), _, rfl, o, L, n, [], ss, e.2.1, ds, rfl, ses.same s010, inn, rel.ok, by omega, fun eA H11 s11 hEA => ?_⟩
      rw [hE] at hEA
      have s810 := (s9.trans sU).trans s11
      have ht' := s810 _ _ ht
      have hu' := s810 _ _ hu8
      have hv' := s810 _ _ hv8
      obtain ⟨pok, pl, pp⟩ := effM_ok stI hE
      have eok := effM_EffOk stI ofl
      rw [hE] at eok
      refine ⟨_, rfl, t, _, 0, _, rfl, rfl, .of ht', atI_nat (j := 0) rfl, _, rfl, t, _, 1, _, rfl, rfl, .of ht', atI_nat (j := 1) rfl, _, rfl, t, _, 2, _, rfl, rfl, .of ht', atI_nat (j := 2) rfl, ?_⟩
      refine ⟨u, v', xs, zs, some pk0, rfl, rfl, .of hu', .of hv', by have := eok.2.2.1; omega, by have := eok.2.2.2.1; omega, eok.1, eok.2.1, fun p0 q0 => (by cases q0; exact pok.lp), fun eB H12 s12 nB hEB => ?_⟩
      have hEB : EffV K CF H12 eB (some (xs, zs, pk0)) := hEB
      have hEA2 : EffV K CF H12 eA (some (xs, zs, pk0)) := EffV.same hEA s12
      obtain ⟨dA, fA, iA⟩ := EffV.ins hEA2
      obtain ⟨dB, fB, iB⟩ := EffV.ins hEB
      refine ⟨eA, eB, true, dA, dB, fA, fB, rfl, rfl, iA, iB, ⟨_, _, hEA2, hEB, eok, eok, (decide_eq_true rfl).symm⟩, fun H13 s13 => ⟨_, rfl, iteF ⟨_, _, rfl, ((sx8.trans (s9.trans sU)).trans s11).trans (s12.trans s13)⟩⟩⟩
    · rintro σ Hx ⟨y8, y9, rfl, sx⟩
      have s0x := s07.trans sx
      refine ⟨_, rfl, o, dx, _, rfl, s0x _ _ ho, sX_none (by decide) (by decide) (by decide) (by decide), o, L, [], ss, e.2.1, ds, rfl, ses.same s0x, by omega, fun p10 zs H8 s8 hn10 h10 hpm3 hst3 => ?_⟩
      have ez := rel.names hpm hst hpm3 hst3
      subst ez
      refine ⟨_, rfl, .list (ys.map .str), .list (ys.map .str), .lst (.of h10) (dp_strs _), .lst (.of (s8 _ _ (sx _ _ h67))) (dp_strs _), shy, shy, ?_⟩
      rw [eqv_listS, decide_eq_true rfl]
      exact kQ _ (s0x.trans s8)
end
end SE
namespace SE
open PySem PySem.Spec PyProof.Rows L2
def outD : Out → List PyData
  | .nothing => [.str "nothing", .int 0]
  | .done => [.str "done"]
  | .limit l => [.str "limit", limD l]
  | .failed j => [.str "failed", .int (j : Nat)]
theorem dp_out {K : PySem.W.Frag} {H : Hp} : ∀ o : Out, DpAll K H (outV o) (outD o)
  | .nothing => .cons (.str _) (.cons (.int _) .nil)
  | .done => .cons (.str _) .nil
  | .limit none => .cons (.str _) (.cons .non .nil)
  | .limit (some n) => .cons (.str _) (.cons (.int _) .nil)
  | .failed j => .cons (.str _) (.cons (.int _) .nil)
theorem out_sh (o : Out) : SeqAt.shaped (.list (outD o)) = true := by
  unfold SeqAt.shaped
  cases o with
  | nothing => simp [outD, PyData.canLay0, PyData.canLayAll0, PyData.depth, PyData.depthAll]; decide +kernel
  | done => simp [outD, PyData.canLay0, PyData.canLayAll0, PyData.depth, PyData.depthAll]; decide +kernel
  | limit l => cases l <;> (simp [outD, limD, PyData.canLay0, PyData.canLayAll0, PyData.depth, PyData.depthAll]; decide +kernel)
  | failed j => simp [outD, PyData.canLay0, PyData.canLayAll0, PyData.depth, PyData.depthAll]; decide +kernel
theorem out_eqv : ∀ o : Out, PyData.eqv (.list (outD o)) (.list (outD o)) = true
  | .nothing => by simp [outD, PyData.eqv, PyData.eqvAll]
  | .done => by simp [outD, PyData.eqv, PyData.eqvAll]
  | .limit none => by simp [outD, limD, PyData.eqv, PyData.eqvAll]
  | .limit (some n) => by simp [outD, limD, PyData.eqv, PyData.eqvAll]
  | .failed j => by simp [outD, PyData.eqv, PyData.eqvAll]
abbrev lrK (w1 w2 : Addr) : List (Key × V) := [(Sum.inr "left", .ref w1), (Sum.inr "right", .ref w2)]
theorem merge_lr (w1 w2 : Addr) : mergeK ([] : List (Key × V)) (lrK w1 w2) = lrK w1 w2 := by
  have ne : ¬ (Sum.inr ("left" : Str) : Key) = Sum.inr ("right" : Str) := fun q => absurd (Sum.inr.inj q) (by decide)
  simp [mergeK, putK, ne]
section
variable {P : Program} {w : World} {K : PySem.W.Frag} {mg : Str → Option Value} {base : Heap} {C CF : Addr}
def spLaw (K : PySem.W.Frag) : Sp := fun xs H Q _ => ∃ (a : Addr) (ns : List Int), xs = [.ref a] ∧ SqL K H a (ns.map V.int) ∧ ns.length ≤ 63 ∧ ∀ H', Q (.bl true) H'
abbrev nLaw : List Str := ["_law_script", "_law_pool_here", "_law_items_here", "_law_names", "_law_first", "_law_second", "_law_bound", "_law_session", "_law_past", "_law_k", "_law_due_here", "_law_told_here"]
theorem scLaw : FnScope nLaw ["_law_script"] (defScope sLaw) := ⟨rfl, rfl, rfl, by decide +kernel, rfl, by decide +kernel, by decide +kernel⟩
theorem ok_law {f : Addr} {fd : FuncData} (F : Fun K "law" "law" sLaw f fd) (SM : SesMakes3 P w K mg base C) (mgS : mg "Session" = some (.ref C)) (GPl : Has P w K mg base "_law_pool" 1 ["_law_script", "_law_k"] [] (spPool K)) (GPf : Has P w K mg base "_law_pool" 1 ["_law_script", "_law_k"] [] (spPoolF K)) (GT : Has P w K mg base "_law_take" 1 ["_law_pool_here", "_law_many"] [] spTake) (GI : Has P w K mg base "_law_items" 3 ["_law_pool_here", "_law_many"] [] spItems) (GW : Has P w K mg base "_law_word" 2 ["_law_pool_here", "_law_items_here", "_law_most"] [] spWord)
    (GD : Has P w K mg base "_law_due" 3 ["_law_pool_here", "_law_past", "_law_names", "_law_items_here"] [] (spDue K)) (GTo : Has P w K mg base "_law_told" 8 pDe [] (spTo K C)) (GS : GHas P w K mg base "_law_same" 9 ["_law_session", "_law_past", "_law_names"] (spSame K C)) (B : Blt mg) (mr : mg "range" = none) (mx : mg "max" = none) (mn : mg "min" = none) : GOk P w K mg base 10 f fd ["_law_script"] (spLaw K) := by
  refine gok_mk F scLaw (fun xs H Q E h => ?_) (fun cv A' out s H xs Q E hgu hr h => ?_)
  · obtain ⟨a, ns, rfl, _⟩ := h
    rfl
  · obtain ⟨a, ns, rfl, hS, hlen, k⟩ := h
    have hr1 : Room 1 _ := hr.mono (by decide)
    have hr2 : Room 2 _ := hr.mono (by decide)
    have hr3 : Room 3 _ := hr.mono (by decide)
    have hr6 : Room 6 _ := hr.mono (by decide)
    have hr8 : Room 8 _ := hr.mono (by decide)
    refine ⟨_, pss_cons (ps_set (i := 1) scLaw.nd rfl (.inl rfl) (pe_has GPl hr1 (pa_cons (pv 0) (pa_cons pe_int pa_nil))))
      (pss_cons (ps_par (i := 2) (j := 3) (by rfl) scLaw.nd rfl rfl (by decide) rfl rfl (pa_cons (pe_has GI hr3 (pa_cons (pv 1) (pa_cons (pe_op op_add pe_int (pe_has GT hr1 (pa_cons (pv 1) (pa_cons pe_int pa_nil)))) pa_nil))) (pa_cons (pe_lst (pa_cons pe_str (pa_cons pe_str pa_nil))) pa_nil)) (by rfl))
      (pss_cons (ps_par (i := 4) (j := 5) (by rfl) scLaw.nd rfl rfl (by decide) rfl rfl (pa_cons (pe_has GW hr2 (pa_cons (pv 1) (pa_cons (pv 2) (pa_cons pe_int pa_nil)))) (pa_cons (pe_has GW hr2 (pa_cons (pv 1) (pa_cons (pv 2) (pa_cons pe_int pa_nil)))) pa_nil)) (by rfl))
      (pss_cons (ps_set (i := 6) scLaw.nd rfl (.inl rfl) (pe_ix ix_list (pe_lst (pa_cons pe_non (pa_cons (pe_op op_add pe_int (pe_has GT hr1 (pa_cons (pv 1) (pa_cons pe_int pa_nil)))) pa_nil))) (pe_has GT hr1 (pa_cons (pv 1) (pa_cons pe_int pa_nil))) (fun _ _ => rfl)))
      (pss_cons (ps_set (i := 7) scLaw.nd rfl (.inl rfl) (pe_ses3 SM mgS hr6 (pk_cons (pv 6) (pk_cons (pv 4) (pk_cons (pv 5) pk_nil)))))
      (pss_cons (ps_set (i := 8) scLaw.nd rfl (.inl rfl) (pe_lst (pa_cons (pe_frz (pe_lst (pa_cons (pe_frz (pe_disp (pps_cons pe_str (pv 4) (pps_cons pe_str (pv 5) pps_nil)) rfl rfl (by decide) (by decide))) (pa_cons (pv 6) (pa_cons (pe_frz (pe_lst pa_nil)) pa_nil))))) pa_nil)))
      (pss_cons (ps_for PassesOwn.never rfl (pi_range2 (by rfl) mr (pa_cons pe_int (pa_cons (pe_callB (call_max2 rfl) (by rfl) mx (by decide +kernel) (pa_cons pe_int (pa_cons (pe_callB (call_min2 rfl) (by rfl) mn (by decide +kernel) (pa_cons (pe_callB call_len_seq (by rfl) B.len PySem.boot_len (pa_cons (pv 0) pa_nil)) (pa_cons pe_int pa_nil))) pa_nil))) pa_nil))) (pg_name (i := 9) scLaw.nd rfl (.inl rfl))
        (pss_cons (ps_set (i := 10) scLaw.nd rfl (.inl rfl) (pe_has GD hr3 (pa_cons (pe_has GPf hr1 (pa_cons (pv 0) (pa_cons (pv 9) pa_nil))) (pa_cons (pv 8) (pa_cons (pv 3) (pa_cons (pv 2) pa_nil))))))
        (pss_cons (ps_set (i := 11) scLaw.nd rfl (.inl rfl) (pe_has GTo hr8 (pa_cons (pe_has GPf hr1 (pa_cons (pv 0) (pa_cons (pv 9) pa_nil))) (pa_cons (pv 7) (pa_cons (pv 8) (pa_cons (pv 3) (pa_cons (pv 2) pa_nil)))))))
        (pss_cons (ps_if (pt_cmpR (op_neD hr.units) (pv 11) (pv 10) (nomark _)) (pss_one (ps_ret pe_bl)) pss_nil)
        (pss_one (ps_if (pt_not (pt_val (pe_ghas GS hgu hr (pa_cons (pv 7) (pa_cons (pv 8) (pa_cons (pv 3) pa_nil)))))) (pss_one (ps_ret pe_bl)) pss_nil))))))
      (pss_one (ps_ret pe_bl)))))))), ?_⟩
    refine ⟨_, rfl, a, ns, 0, rfl, hS, by decide, by decide, fun p H1 s1 hp0 hp1 => ?_⟩
    refine ⟨_, rfl, _, rfl, p, 3, rfl, hp1, by decide, by decide, fun r1 H2 b2 p2 r10 r11 => ?_⟩
    refine ⟨_, _, rfl, rfl, p, _, rfl, p2, by omega, by omega, fun il zs H3 b3 p3 il0 ilp hil zl zI => ?_⟩
    refine ⟨by show 2 ≤ sizeLine; decide, fun nl hnl => ?_⟩
    have s4 : Same H3 (upd H3 nl (.lst [.str "left", .str "right"])) := Same.new hnl
    have hn4 : upd H3 nl (.lst [.str "left", .str "right"]) nl = some (.lst (NS2.map V.str)) := upd_same
    generalize upd H3 nl (.lst [.str "left", .str "right"]) = H4 at s4 hn4 ⊢
    have hil4 := s4 _ _ hil
    have p4 := p3.same s4
    have nlp : nl ≠ p := p3.free hnl
    have zne : zs ≠ [] := fun q => by rw [q] at zl; simp at zl; omega
    have zl2 : zs.length ≤ 100 := by omega
    refine ⟨_, _, rfl, ?_⟩
    refine ⟨_, rfl, _, rfl, p, il, 3, zs, rfl, p4, ilp, hil4, zne, zl2, by decide, by decide, fun w1 xs H5 b5 p5 w10 hw1 xl xI => ?_⟩
    have hil5 := b5 _ _ ilp hil4
    refine ⟨_, rfl, _, rfl, p, il, 3, zs, rfl, p5, ilp, hil5, zne, zl2, by decide, by decide, fun w2 ys H6 b6 p6 w20 hw2 yl yI => ?_⟩
    have w1p : w1 ≠ p := p4.free w10
    have hw16 := b6 _ _ w1p hw1
    have hil6 := b6 _ _ ilp hil5
    have hn6 := b6 _ _ nlp (b5 _ _ nlp hn4)
    refine ⟨_, _, rfl, ?_⟩
    refine ⟨_, rfl, p, 4, rfl, p6, by decide, by decide, fun r2 H7 b7 p7 r20 r21 => ?_⟩
    refine ⟨_, _, rfl, rfl, by show 2 ≤ sizeLine; decide, fun LL hLL => ?_⟩
    have s8 : Same H7 (upd H7 LL (.lst [.non, .int (3 + r2)])) := Same.new hLL
    have hL8 : upd H7 LL (.lst [.non, .int (3 + r2)]) LL = some (.lst [.non, .int (3 + r2)]) := upd_same
    have LLp : LL ≠ p := p7.free hLL
    have p8 := p7.same s8
    generalize upd H7 LL (.lst [.non, .int (3 + r2)]) = H8 at s8 hL8 p8 ⊢
    refine ⟨_, rfl, p, 2, rfl, p8, by decide, by decide, fun r3 H9 b9 p9 r30 r31 => ?_⟩
    have hL9 := b9 _ _ LLp hL8
    obtain ⟨l, hl, lok, l3⟩ : ∃ l : Lim, atI [V.non, V.int (3 + r2)] r3 = some (limV l) ∧ LimOk l ∧ ∀ n, l = some n → 3 ≤ n := by
      by_cases q : r3 = 0
      · exact ⟨none, by rw [q]; exact atI_nat (j := 0) rfl, fun n e => (by cases e), fun n e => (by cases e)⟩
      · refine ⟨some (3 + r2).toNat, ?_, fun n e => (by cases e; omega), fun n e => (by cases e; omega)⟩
        rw [show r3 = 1 by omega]
        refine (atI_nat (j := 1) rfl).trans ?_
        show _ = some (V.int (((3 + r2).toNat : Nat) : Int))
        rw [Int.toNat_of_nonneg (by omega)]
    refine ⟨LL, _, r3, _, rfl, rfl, .of hL9, hl, ?_⟩
    -- the heap ahead of the session
    have b69 := (b7.trans (But.of s8)).trans b9
    have w2p : w2 ≠ p := p5.free w20
    have hw19 := b69 _ _ w1p hw16
    have hw29 := b69 _ _ w2p hw2
    have hil9 := b69 _ _ ilp hil6
    have hn9 := b69 _ _ nlp hn6
    have hS9 : SqL K H9 a (ns.map V.int) := by
      have b19 : But p H1 H9 := (b2.trans b3).trans ((But.of s4).trans ((b5.trans b6).trans b69))
      exact Same.seq (Same.but3 s1 hp0 b19) hS
    have xI2 : ∀ z ∈ xs, Item z := fun z m => zI z (xI z m)
    have yI2 : ∀ z ∈ ys, Item z := fun z m => zI z (yI z m)
    have hhi : ∀ {ws : List Str}, (ws.length : Int) ≤ 3 → high l ws.length = false := fun {ws} h => by
      cases l with
      | none => rfl
      | some n =>
        have := l3 n rfl
        exact decide_eq_false (by omega)
    refine ⟨_, rfl, _, rfl, _, rfl, l, w1, w2, xs, ys, rfl, .of hw19, .of hw29, lok, xI2, yI2, by omega, by omega, hhi xl, hhi yl, fun o L H10 s10 ho0 hL0 oL ses10 => ?_⟩
    clear b7 b9 s8 hL8 hL9 hLL p7 p8
    intro d hd0
    refine ⟨_, rfl, _, rfl, upd_same, lrK w1 w2, rfl, by show 2 ≤ 15; decide, ?_⟩
    rw [merge_lr]
    refine ⟨d, _, rfl, upd_same, trivial, fun od => ?_⟩
    have s11 : Same H10 (upd (upd (upd H10 d (.dK [])) d (.dK (lrK w1 w2))) d (.frz od (.dK (lrK w1 w2)))) := Same.free2 (Same.free2 (Same.new hd0) hd0) hd0
    have hd11 : upd (upd (upd H10 d (.dK [])) d (.dK (lrK w1 w2))) d (.frz od (.dK (lrK w1 w2))) d = some (.frz od (.dK (lrK w1 w2))) := upd_same
    generalize upd (upd (upd H10 d (.dK [])) d (.dK (lrK w1 w2))) d (.frz od (.dK (lrK w1 w2))) = H11 at s11 hd11 ⊢
    refine ⟨_, rfl, by show 0 ≤ sizeLine; decide, fun e1 he1 => ⟨e1, _, rfl, upd_same, trivial, fun oe => ?_⟩⟩
    have s12 : Same H11 (upd (upd H11 e1 (.lst [])) e1 (.frz oe (.lst []))) := Same.free2 (Same.new he1) he1
    have he12 : upd (upd H11 e1 (.lst [])) e1 (.frz oe (.lst [])) e1 = some (.frz oe (.lst [])) := upd_same
    generalize upd (upd H11 e1 (.lst [])) e1 (.frz oe (.lst [])) = H12 at s12 he12 ⊢
    refine ⟨by show 3 ≤ sizeLine; decide, fun rr hrr => ⟨rr, _, rfl, upd_same, trivial, fun o3 => ?_⟩⟩
    have s13 : Same H12 (upd (upd H12 rr (.lst [.ref d, limV l, .ref e1])) rr (.frz o3 (.lst [.ref d, limV l, .ref e1]))) := Same.free2 (Same.new hrr) hrr
    have hr13 : upd (upd H12 rr (.lst [.ref d, limV l, .ref e1])) rr (.frz o3 (.lst [.ref d, limV l, .ref e1])) rr = some (.frz o3 (.lst [.ref d, limV l, .ref e1])) := upd_same
    generalize upd (upd H12 rr (.lst [.ref d, limV l, .ref e1])) rr (.frz o3 (.lst [.ref d, limV l, .ref e1])) = H13 at s13 hr13 ⊢
    refine ⟨by show 1 ≤ sizeLine; decide, fun A hA0 => ?_⟩
    have s14 : Same H13 (upd H13 A (.lst [.ref rr])) := Same.new hA0
    have hA14 : upd H13 A (.lst [.ref rr]) A = some (.lst [.ref rr]) := upd_same
    generalize upd H13 A (.lst [.ref rr]) = H14 at s14 hA14 ⊢
    have s1014 : Same H10 H14 := ((s11.trans s12).trans s13).trans s14
    have s914 : Same H9 H14 := s10.trans s1014
    have hA9 : H9 A = none := (s10.trans ((s11.trans s12).trans s13)).free hA0
    have ses14 := ses10.same s1014
    have AL : A ≠ L := fun q => by
      have := (ses10.same ((s11.trans s12).trans s13)).has L (by simp [ownS])
      rw [← q] at this
      exact this hA0
    let e0 : PastE := (LR xs ys, l, [])
    have ok0 : SkOk (LR xs ys) 4 4 := ⟨by unfold LR; simp; decide, fun p mp => by
      unfold LR at mp
      rcases List.mem_cons.mp mp with rfl | mp
      · exact ⟨it_lr.1, xI2, by dsimp only; omega⟩
      · rw [List.mem_singleton.mp mp]
        exact ⟨it_lr.2, yI2, by dsimp only; omega⟩, by show 2 ≤ 4; decide⟩
    have nm0 : Nm2 (LR xs ys) := fun p mp => by
      unfold LR at mp
      rcases List.mem_cons.mp mp with rfl | mp
      · exact List.mem_cons_self
      · rw [List.mem_singleton.mp mp]
        exact List.mem_cons_of_mem _ List.mem_cons_self
    have rel0 : Rel 0 e0 (cleanS (LR xs ys)) l [] := ⟨fun n => (getS_clean ok0.nd n).symm, rfl, rfl, ok0, (clean_ok ok0).1, (clean_ok ok0).2, lok, fun s m => (by cases m), Nat.le_refl _, ⟨cleanS (LR xs ys), fun n => rfl⟩, nm0, fun p mp => nm0 p (List.mem_filter.mp mp).1⟩
    have past0 : Paired (PastV K H14) [.ref rr] [e0] := .cons ⟨rr, d, e1, [], o3, oe, rfl, s14 _ _ hr13, ⟨od, _, ((s12.trans s13).trans s14) _ _ hd11, .cons ⟨rfl, w1, rfl, .of ((s10.trans s1014) _ _ hw19)⟩ (.cons ⟨rfl, w2, rfl, .of ((s10.trans s1014) _ _ hw29)⟩ .nil)⟩, (s13.trans s14) _ _ he12, .nil⟩ .nil
    have nlL : nl ≠ L := fun q => by rw [q, hL0] at hn9; cases hn9
    have nlA : nl ≠ A := fun q => by rw [q, hA9] at hn9; cases hn9
    have ilL : il ≠ L := fun q => by rw [q, hL0] at hil9; cases hil9
    have ilA : il ≠ A := fun q => by rw [q, hA9] at hil9; cases hil9
    have hS14 : SqL K H14 a (ns.map V.int) := Same.seq s914 hS9
    have hi41 : (if (if (41 : Int) < ((ns.map V.int).length : Int) then (41 : Int) else ((ns.map V.int).length : Int)) > 9 then (if (41 : Int) < ((ns.map V.int).length : Int) then (41 : Int) else ((ns.map V.int).length : Int)) else 9) ≤ 41 := by
      split
      · split <;> omega
      · omega
    have hi9 : 9 ≤ (if (if (41 : Int) < ((ns.map V.int).length : Int) then (41 : Int) else ((ns.map V.int).length : Int)) > 9 then (if (41 : Int) < ((ns.map V.int).length : Int) then (41 : Int) else ((ns.map V.int).length : Int)) else 9) := by
      split
      · omega
      · omega
    refine ⟨_, rfl, a, _, rfl, .inl hS14, _, _, rfl, _, _, rfl, _, _, rfl, ⟨by decide, by decide, by omega, by omega⟩, ?_⟩
    generalize (if (if (41 : Int) < ((ns.map V.int).length : Int) then (41 : Int) else ((ns.map V.int).length : Int)) > 9 then (if (41 : Int) < ((ns.map V.int).length : Int) then (41 : Int) else ((ns.map V.int).length : Int)) else 9) = hi at hi41 hi9 ⊢
    refine for_range (lo := 1) (n := (hi - 1).toNat) (fun j σ Hx => ∃ (ss : Sk) (l' : Lim) (ds : List Deed) (us : List V) (ps : List PastE) (y9 y10 y11 : Option V), σ = [some (.ref a), some (.ref p), some (.ref il), some (.ref nl), some (.ref w1), some (.ref w2), some (limV l), some (.ref o), some (.ref A), y9, y10, y11] ∧ SesX K C none [] Hx o L ss l' ds ∧ Hx A = some (.lst us) ∧ Paired (PastV K Hx) us ps ∧ Tr j ps ss l' ds ∧ ds.length ≤ j ∧ Same H9 Hx) ⟨_, _, _, _, _, _, _, _, rfl, ses14, hA14, past0, .one rel0, Nat.le_refl _, s914⟩ ?_ ?_
    · rintro j σ Hx hj ⟨ss, l', ds, us, ps, y9, y10, y11, rfl, ses, hA, past, tr, dl, sx⟩
      have j40 : j < 40 := by omega
      obtain ⟨es, e, rfl, rel⟩ := tr.last
      obtain ⟨us1, v, rfl, pst1, hv⟩ := paired_last past
      have ulen : us1.length = es.length := paired_len pst1
      have hSx := Same.seq sx hS9
      refine ⟨_, rfl, _, rfl, a, ns, 1 + (j : Int), rfl, hSx, by omega, by omega, fun q1 Hy sy hq0 hpv => ?_⟩
      have hny := (sx.trans sy) _ _ hn9
      have hily := (sx.trans sy) _ _ hil9
      have hAy := sy _ _ hA
      refine ⟨_, rfl, _, rfl, _, rfl, q1, A, nl, il, poolM ns (1 + (j : Int)), zs, us1, v, e, _, _, rfl, hpv, ne_of_none (sx _ _ hn9) hq0, hny, ne_of_none (sx _ _ hil9) hq0, hily, zne, zl2, zI, ne_of_none hA hq0, hAy, hv.same sy, rel.okh, by omega, by omega, fun t2 Hz bt ht20 t2q ht2 => ?_⟩
      have sxz : Same Hx Hz := Same.but3 sy hq0 bt
      have s9z := sx.trans sxz
      have sesz := ses.same sxz
      have hAz := sxz _ _ hA
      refine ⟨_, rfl, _, rfl, a, ns, 1 + (j : Int), rfl, Same.seq sxz hSx, by omega, by omega, fun q2 Hu su hq20 hpv2 => ?_⟩
      have s9u := s9z.trans su
      have sesu := sesz.same su
      have Lq : L ≠ q2 := fun q => sesz.has L (by simp [ownS]) (by rw [q]; exact hq20)
      refine ⟨_, rfl, _, rfl, _, rfl, _, rfl, j, q2, o, L, A, nl, il, poolM ns (1 + (j : Int)), zs, ss, l', ds, us1 ++ [v], es, e, rfl, ⟨hpv2, ⟨s9u _ _ hn9, ne_of_none (s9z _ _ hn9) hq20, nlL, nlA⟩, ⟨s9u _ _ hil9, ne_of_none (s9z _ _ hil9) hq20, ilL, ilA⟩, zne, zl2, zI, sesu, su _ _ hAz, Paired.mapP past fun _ _ q => (q.same sxz).same su, tr, ne_of_none hAz hq20, Lq, AL, by omega, dl⟩, fun t1 Hw us' ps' ss' l2 ds' kk ses' A' past' tr' dl' ht1 t1L t1A => ?_⟩
      have s9w : Same H9 Hw := fun b u hb => kk.2 b u (fun m => by
        simp only [List.mem_cons, List.mem_nil_iff, or_false] at m
        rcases m with rfl | rfl | rfl | rfl
        · rw [ho0] at hb; cases hb
        · rw [hL0] at hb; cases hb
        · rw [hA9] at hb; cases hb
        · rw [s9z.free hq20] at hb; cases hb) (s9u b u hb)
      have ht2w : Hw t2 = some (.lst (outV (outM zs (poolM ns (1 + (j : Int))) e.1 e.2.1 (us1.length + 1)))) := kk.2 _ _ (fun m => by
        simp only [List.mem_cons, List.mem_nil_iff, or_false] at m
        rcases m with rfl | rfl | rfl | rfl
        · obtain ⟨dx, F, ws, g1, _⟩ := sesz.ex
          rw [ht2] at g1
          cases g1
        · exact (ses.same sy).has _ (by simp [ownS]) ht20
        · rw [hAy] at ht20; cases ht20
        · rw [ht2] at hq20; cases hq20) (su _ _ ht2)
      rw [← ulen] at ht1
      refine ⟨_, rfl, _, rfl, .list (outD _), .list (outD _), .lst (.of ht1) (dp_out _), .lst (.of ht2w) (dp_out _), out_sh _, out_sh _, _, rfl, ?_⟩
      rw [out_eqv]
      refine iteF ⟨_, rfl, _, rfl, _, rfl, j + 1, o, L, A, nl, ss', l2, ds', us', ps', rfl, ses', A', past', tr', by omega, dl', s9w _ _ hn9, fun Hv sv => ⟨true, rfl, iteF ⟨ss', l2, ds', us', ps', _, _, _, rfl, ses'.same sv, sv _ _ A', Paired.mapP past' fun _ _ q => q.same sv, tr', dl', s9w.trans sv⟩⟩⟩
    · rintro σ Hx ⟨ss, l', ds, us, ps, y9, y10, y11, rfl, ses, hA, past, tr, dl, sx⟩
      exact k _
end
end SE
namespace SE
open PySem PySem.Spec PyProof.Rows L2
section
/-! ### what the top has left -/
theorem scI_StepFailed : FnScope ["self", "index"] ["self", "index"] (defScope (inClass sStepfailed 0)) := ⟨rfl, rfl, rfl, by decide +kernel, rfl, by decide +kernel, by decide +kernel⟩
theorem scI_LimitExceeded : FnScope ["self", "limit"] ["self", "limit"] (defScope (inClass sLimitexceeded 0)) := ⟨rfl, rfl, rfl, by decide +kernel, rfl, by decide +kernel, by decide +kernel⟩
theorem scI_NothingToUndo : FnScope ["self", "count"] ["self", "count"] (defScope (inClass sNothingtoundo 0)) := ⟨rfl, rfl, rfl, by decide +kernel, rfl, by decide +kernel, by decide +kernel⟩
theorem def_mk {K : PySem.W.Frag} {h : Heap} {mg : Str → Option Value} {x : Str} {st : Stmt} {f : Addr} {oc : Value} {od an : Option Addr} {osl : Array (Option Value)} {kV doc pm cdv ct : Value} (X : K.In h) (G : h.Ns mainGlobals mg)
    (a : PySem.W.nsIn K mainGlobals x = some (some (.ref f))) (l : K.lookup f = some ⟨oc, od, .func (PySem.W.fnOf x x (defArgs st) (defBody st) (defScope st) .none kV doc pm an cdv ct), osl⟩)
    (c : PySem.W.codeIn K cdv x = true) (k : PySem.W.keepIn K (.ref f) = true) : Def K mg x st := ⟨f, _, fun_mk l c k, PySem.W.mg_of X G a⟩
theorem defk_mk {K : PySem.W.Frag} {h : Heap} {mg : Str → Option Value} {x y : Str} {st : Stmt} {f d : Addr} {oc : Value} {od an : Option Addr} {osl : Array (Option Value)} {doc pm cdv ct : Value} (X : K.In h) (G : h.Ns mainGlobals mg)
    (a : PySem.W.nsIn K mainGlobals x = some (some (.ref f))) (l : K.lookup f = some ⟨oc, od, .func (PySem.W.fnOf x x (defArgs st) (defBody st) (defScope st) .none (.ref d) doc pm an cdv ct), osl⟩)
    (c : PySem.W.codeIn K cdv x = true) (k : PySem.W.keepIn K (.ref f) = true) (n : PySem.W.nsIn K d y = some (some .none)) : DefK K mg x st [(y, .non)] := by
  refine ⟨f, _, fun_mk l c k, ⟨⟨oc, od, .none, .ref d, doc, pm, an, cdv, ct, osl, rfl, l, c, .inl ⟨rfl, rfl⟩, .inr ⟨d, rfl, fun q hq => ?_⟩⟩, k⟩, PySem.W.mg_of X G a⟩
  rw [List.mem_singleton.mp hq]
  exact ⟨.none, n, rfl⟩
theorem init_mk {K : PySem.W.Frag} {x q y : Str} {st : Stmt} {f d : Addr} {oc : Value} {od an : Option Addr} {osl : Array (Option Value)} {doc pm cdv ct : Value}
    (l : K.lookup f = some ⟨oc, od, .func (PySem.W.fnOf x q (defArgs st) (defBody st) (defScope st) .none (.ref d) doc pm an cdv ct), osl⟩) (c : PySem.W.codeIn K cdv q = true) (k : PySem.W.keepIn K (.ref f) = true) (n : PySem.W.nsIn K d y = some (some .none)) :
    FunD K x q (defArgs st) (defBody st) (defScope st) [] [(y, .non)] f (PySem.W.fnOf x q (defArgs st) (defBody st) (defScope st) .none (.ref d) doc pm an cdv ct) := by
  refine ⟨⟨oc, od, .none, .ref d, doc, pm, an, cdv, ct, osl, rfl, l, c, .inl ⟨rfl, rfl⟩, .inr ⟨d, rfl, fun z hz => ?_⟩⟩, k⟩
  rw [List.mem_singleton.mp hz]
  exact ⟨.none, n, rfl⟩
theorem all_mk {l : PySem.W.OpenLaw} {w : World} {K : PySem.W.Frag} {h : Heap} {mg : Str → Option Value} {fa gI dI C D fL gM0 qM0 gQ gQI dQI Z gQA gQP gQN gQS gQM gQH gQO gQU gQL gQE CX0 gX0 NX0 CX1 gX1 NX1 CX2 gX2 NX2 gZP qZP gLN : Addr} {tk1 tk2 tk3 tk4 : Tok} (X : K.In h) (G : h.Ns mainGlobals mg) (hfa : mg "law" = some (.ref fa))
    {odI anI : Option Addr} {slI : Array (Option Value)} {ocI dcI pmI cdI ctI : Value}
    {odM0 anM0 : Option Addr} {slM0 : Array (Option Value)} {ocM0 kVM0 dcM0 pmM0 cdM0 ctM0 : Value}
    {rM0 : List Value}
    {odQ anQ : Option Addr} {slQ : Array (Option Value)} {ocQ kVQ dcQ pmQ cdQ ctQ : Value}
    {odQI anQI : Option Addr} {slQI : Array (Option Value)} {ocQI dcQI pmQI cdQI ctQI : Value}
    {odQA anQA : Option Addr} {slQA : Array (Option Value)} {ocQA kVQA dcQA pmQA cdQA ctQA : Value}
    {odQP anQP : Option Addr} {slQP : Array (Option Value)} {ocQP kVQP dcQP pmQP cdQP ctQP : Value}
    {odQN anQN : Option Addr} {slQN : Array (Option Value)} {ocQN kVQN dcQN pmQN cdQN ctQN : Value}
    {odQS anQS : Option Addr} {slQS : Array (Option Value)} {ocQS kVQS dcQS pmQS cdQS ctQS : Value}
    {odQM anQM : Option Addr} {slQM : Array (Option Value)} {ocQM kVQM dcQM pmQM cdQM ctQM : Value}
    {odQH anQH : Option Addr} {slQH : Array (Option Value)} {ocQH kVQH dcQH pmQH cdQH ctQH : Value}
    {odQO anQO : Option Addr} {slQO : Array (Option Value)} {ocQO kVQO dcQO pmQO cdQO ctQO : Value}
    {odQU anQU : Option Addr} {slQU : Array (Option Value)} {ocQU kVQU dcQU pmQU cdQU ctQU : Value}
    {odQL anQL : Option Addr} {slQL : Array (Option Value)} {ocQL kVQL dcQL pmQL cdQL ctQL : Value}
    {odQE anQE : Option Addr} {slQE : Array (Option Value)} {ocQE kVQE dcQE pmQE cdQE ctQE : Value}
    {nmX0 qX0 : Str} {bsX0 : List Value} {snX0 : List Str} {subX0 : List Value} {abX0 : Bool} {colX0 : Option Bool} {ddX0 odX0 anX0 : Option Addr} {m0X0 m1X0 m2X0 m3X0 m5X0 : Option Value} {slX0 : Array (Option Value)} {ocX0 kVX0 dcX0 pmX0 cdX0 ctX0 : Value}
    {nmX1 qX1 : Str} {bsX1 : List Value} {snX1 : List Str} {subX1 : List Value} {abX1 : Bool} {colX1 : Option Bool} {ddX1 odX1 anX1 : Option Addr} {m0X1 m1X1 m2X1 m3X1 m5X1 : Option Value} {slX1 : Array (Option Value)} {ocX1 kVX1 dcX1 pmX1 cdX1 ctX1 : Value}
    {nmX2 qX2 : Str} {bsX2 : List Value} {snX2 : List Str} {subX2 : List Value} {abX2 : Bool} {colX2 : Option Bool} {ddX2 odX2 anX2 : Option Addr} {m0X2 m1X2 m2X2 m3X2 m5X2 : Option Value} {slX2 : Array (Option Value)} {ocX2 kVX2 dcX2 pmX2 cdX2 ctX2 : Value}
    {odZP anZP : Option Addr} {slZP : Array (Option Value)} {ocZP kVZP dcZP pmZP cdZP ctZP : Value}
    {rZP : List Value}
    {odLN anLN : Option Addr} {slLN : Array (Option Value)} {ocLN kVLN dcLN pmLN cdLN ctLN : Value}
    {odL anL : Option Addr} {slL : Array (Option Value)} {ocL kVL dcL pmL cdL ctL : Value} {es : Array DictEntry} {n : Nat} {uP uQ : Value}
    (d_is_whole : Def K mg "is_whole" sIsWhole)
    (d_is_between : Def K mg "is_between" sIsBetween)
    (d_is_item : Def K mg "is_item" sIsItem)
    (d_is_word : Def K mg "is_word" sIsWord)
    (d_is_step : Def K mg "is_step" sIsStep)
    (d_may_hold_steps : Def K mg "may_hold_steps" sMayHold)
    (d_is_limit : Def K mg "is_limit" sIsLimit)
    (d_check_word : Def K mg "check_word" sChkWord)
    (d_check_limit : Def K mg "check_limit" sChkLimit)
    (d_is_too_high : Def K mg "is_too_high" sTooHigh)
    (d_after_step : Def K mg "after_step" sAfter)
    (d_least_peak : Def K mg "least_peak" sLeastPeak)
    (d_joined : Def K mg "joined" sJoined)
    (d_parts_of_step : Def K mg "parts_of_step" sPartsOfStep)
    (d_is_named_step : Def K mg "is_named_step" sIsNamedStep)
    (d_check_named_steps : Def K mg "check_named_steps" sCheckNamedSteps)
    (d_are_stacks : Def K mg "are_stacks" sAreStacks)
    (d_check_stacks : Def K mg "check_stacks" sCheckStacks)
    (d_check_name : Def K mg "check_name" sCheckName)
    (d_check_heights : Def K mg "check_heights" sCheckHeights)
    (d_without_empty : Def K mg "without_empty" sWithoutEmpty)
    (d__law_pool : Def K mg "_law_pool" sPool)
    (d__law_take : Def K mg "_law_take" sTake)
    (d__law_name : Def K mg "_law_name" sName)
    (d__law_items : Def K mg "_law_items" sItems)
    (d__law_word : Def K mg "_law_word" sWord)
    (d__law_named_well : Def K mg "_law_named_well" sLawNamedWell)
    (d__law_effect : Def K mg "_law_effect" sLawEffect)
    (d__law_performed : Def K mg "_law_performed" sLawPerformed)
    (d__law_deed : Def K mg "_law_deed" sLawDeed)
    (d__law_due : Def K mg "_law_due" sLawDue)
    (d__law_told : Def K mg "_law_told" sLawTold)
    (d__law_same : Def K mg "_law_same" sLawSame)
    (z_isinstance : PySem.W.nsIn K mainGlobals "isinstance" = some none)
    (z_str : PySem.W.nsIn K mainGlobals "str" = some none)
    (z_len : PySem.W.nsIn K mainGlobals "len" = some none)
    (z_all : PySem.W.nsIn K mainGlobals "all" = some none)
    (z_any : PySem.W.nsIn K mainGlobals "any" = some none)
    (z_tuple : PySem.W.nsIn K mainGlobals "tuple" = some none)
    (z_list : PySem.W.nsIn K mainGlobals "list" = some none)
    (z_enumerate : PySem.W.nsIn K mainGlobals "enumerate" = some none)
    (z_range : PySem.W.nsIn K mainGlobals "range" = some none)
    (z_abs : PySem.W.nsIn K mainGlobals "abs" = some none)
    (z_int : PySem.W.nsIn K mainGlobals "int" = some none)
    (z_bool : PySem.W.nsIn K mainGlobals "bool" = some none)
    (z_max : PySem.W.nsIn K mainGlobals "max" = some none)
    (z_min : PySem.W.nsIn K mainGlobals "min" = some none)
    (z_sorted : PySem.W.nsIn K mainGlobals "sorted" = some none)
    (z_dict : PySem.W.nsIn K mainGlobals "dict" = some none)
    (z_repr : PySem.W.nsIn K mainGlobals "repr" = some none)
    (cL : PySem.W.nsIn K mainGlobals "LETTERS" = some (some (.str abc tk1)))
    (cM : PySem.W.nsIn K mainGlobals "MOST_LETTERS" = some (some (.int 8 tk2)))
    (cS : PySem.W.nsIn K mainGlobals "MOST_STEPS" = some (some (.int 1000 tk3)))
    (cLm : PySem.W.nsIn K mainGlobals "MOST_LIMIT" = some (some (.int 1000 tk4)))
    (cO : PySem.W.nsIn K mainGlobals "OPPOSITES" = some (some (.ref D)))
    (lO : K.lookup D = some ⟨.type "dict", none, .dict es n, #[]⟩)
    (kO : PySem.W.KeysLit w.params es.toList)
    (wO : (D == sysModules) = false)
    (pO : PySem.W.nsIn K D "push" = some (some uP))
    (qO : PySem.W.nsIn K D "pop" = some (some uQ))
    (rP : RelV (.str "pop") uP)
    (rQ : RelV (.str "push") uQ)
    (aC : PySem.W.nsIn K mainGlobals "Effect" = some (some (.ref C)))
    (pg : PySem.W.plainGet K C Str.empty = true)
    (hd : PySem.W.hasDictIn K C = true)
    (po : PySem.W.plainOver K C = true)
    (sa : PySem.W.findIn K (.ref C) "__setattr__" = some (some (.builtin "object.__setattr__")))
    (nN : PySem.W.findIn K (.ref C) "needs" = some none)
    (nL : PySem.W.findIn K (.ref C) "leaves" = some none)
    (nH : PySem.W.findIn K (.ref C) "highest" = some none)
    (mkC : PySem.W.makesIn K C = true)
    (keC : PySem.W.keepIn K (.ref C) = true)
    (aI : PySem.W.findIn K (.ref C) "__init__" = some (some (.ref gI)))
    (iI : PySem.W.isFn K (.ref gI) = true)
    (lI : K.lookup gI = some ⟨ocI, odI, .func (PySem.W.fnOf "__init__" "Effect.__init__" (defArgs sInit) (defBody sInit) (defScope sInit) .none (.ref dI) dcI pmI anI cdI ctI), slI⟩)
    (cI : PySem.W.codeIn K cdI "Effect.__init__" = true)
    (kI : PySem.W.keepIn K (.ref gI) = true)
    (nI : PySem.W.nsIn K dI "peak" = some (some .none))
    (rdC : PySem.W.readsIn K C (.type "type") = true)
    (gaC : PySem.W.specialIn K (.ref C) "__getattribute__" = some (some (.builtin "type.__getattribute__")))
    (aM0 : PySem.W.findCls K (.ref C) (.type "type") "never" = some (.get (.builtin "classmethod.__get__") (.ref qM0) .none (.ref C)))
    (uM0 : PySem.W.recIn K qM0 "classmethod" = some (.ref gM0 :: rM0))
    (fM0 : PySem.W.fnIn K gM0 = true)
    (lM0 : K.lookup gM0 = some ⟨ocM0, odM0, .func (PySem.W.fnOf "never" "Effect.never" (defArgs sNever) (defBody sNever) (defScope sNever) .none kVM0 dcM0 pmM0 anM0 cdM0 ctM0), slM0⟩)
    (cM0 : PySem.W.codeIn K cdM0 "Effect.never" = true)
    (kM0 : PySem.W.keepIn K (.ref gM0) = true)
    (aQ : PySem.W.findIn K (.ref C) "__eq__" = some (some (.ref gQ)))
    (iQ : PySem.W.isFn K (.ref gQ) = true)
    (lQ : K.lookup gQ = some ⟨ocQ, odQ, .func (PySem.W.fnOf "__eq__" "Effect.__eq__" (defArgs sEq) (defBody sEq) (defScope sEq) .none kVQ dcQ pmQ anQ cdQ ctQ), slQ⟩)
    (cQ : PySem.W.codeIn K cdQ "Effect.__eq__" = true)
    (kQ : PySem.W.keepIn K (.ref gQ) = true)
    (aNE : PySem.W.findIn K (.ref C) "__ne__" = some (some (.builtin "object.__ne__")))
    (e1 : PySem.W.findIn K (.ref C) "__class__" = some (some (.builtin "object.__class__")))
    (e2 : PySem.W.specialIn K (.builtin "object.__class__") "__get__" = some (some (.builtin "getset_descriptor.__get__")))
    (e3 : PySem.W.takesIn K (.builtin "object.__class__") = some true)
    (e4 : PySem.W.mroIn K C (.type "object") = some true)
    (aZ : PySem.W.nsIn K mainGlobals "Session" = some (some (.ref Z)))
    (pgZ : PySem.W.plainGet K Z Str.empty = true)
    (hdZ : PySem.W.hasDictIn K Z = true)
    (poZ : PySem.W.plainOver K Z = true)
    (saZ : PySem.W.findIn K (.ref Z) "__setattr__" = some (some (.builtin "object.__setattr__")))
    (nFZ : PySem.W.findIn K (.ref Z) "filled" = some none)
    (nHZ : PySem.W.findIn K (.ref Z) "highest_allowed" = some none)
    (nDZ : PySem.W.findIn K (.ref Z) "deeds" = some none)
    (mkZ : PySem.W.makesIn K Z = true)
    (keZ : PySem.W.keepIn K (.ref Z) = true)
    (aQI : PySem.W.findIn K (.ref Z) "__init__" = some (some (.ref gQI)))
    (iQI : PySem.W.isFn K (.ref gQI) = true)
    (lQI : K.lookup gQI = some ⟨ocQI, odQI, .func (PySem.W.fnOf "__init__" "Session.__init__" (defArgs sSInit) (defBody sSInit) (defScope sSInit) .none (.ref dQI) dcQI pmQI anQI cdQI ctQI), slQI⟩)
    (cQI : PySem.W.codeIn K cdQI "Session.__init__" = true)
    (kQI : PySem.W.keepIn K (.ref gQI) = true)
    (nQI : PySem.W.nsIn K dQI "limit" = some (some .none))
    (aQA : PySem.W.findIn K (.ref Z) "add_deed" = some (some (.ref gQA)))
    (iQA : PySem.W.isFn K (.ref gQA) = true)
    (lQA : K.lookup gQA = some ⟨ocQA, odQA, .func (PySem.W.fnOf "add_deed" "Session.add_deed" (defArgs sSAddDeed) (defBody sSAddDeed) (defScope sSAddDeed) .none kVQA dcQA pmQA anQA cdQA ctQA), slQA⟩)
    (cQA : PySem.W.codeIn K cdQA "Session.add_deed" = true)
    (kQA : PySem.W.keepIn K (.ref gQA) = true)
    (aQP : PySem.W.findIn K (.ref Z) "perform" = some (some (.ref gQP)))
    (iQP : PySem.W.isFn K (.ref gQP) = true)
    (lQP : K.lookup gQP = some ⟨ocQP, odQP, .func (PySem.W.fnOf "perform" "Session.perform" (defArgs sSPerform) (defBody sSPerform) (defScope sSPerform) .none kVQP dcQP pmQP anQP cdQP ctQP), slQP⟩)
    (cQP : PySem.W.codeIn K cdQP "Session.perform" = true)
    (kQP : PySem.W.keepIn K (.ref gQP) = true)
    (aQN : PySem.W.findIn K (.ref Z) "note_failure" = some (some (.ref gQN)))
    (iQN : PySem.W.isFn K (.ref gQN) = true)
    (lQN : K.lookup gQN = some ⟨ocQN, odQN, .func (PySem.W.fnOf "note_failure" "Session.note_failure" (defArgs sSNote) (defBody sSNote) (defScope sSNote) .none kVQN dcQN pmQN anQN cdQN ctQN), slQN⟩)
    (cQN : PySem.W.codeIn K cdQN "Session.note_failure" = true)
    (kQN : PySem.W.keepIn K (.ref gQN) = true)
    (aQS : PySem.W.findIn K (.ref Z) "stack" = some (some (.ref gQS)))
    (iQS : PySem.W.isFn K (.ref gQS) = true)
    (lQS : K.lookup gQS = some ⟨ocQS, odQS, .func (PySem.W.fnOf "stack" "Session.stack" (defArgs sSStack) (defBody sSStack) (defScope sSStack) .none kVQS dcQS pmQS anQS cdQS ctQS), slQS⟩)
    (cQS : PySem.W.codeIn K cdQS "Session.stack" = true)
    (kQS : PySem.W.keepIn K (.ref gQS) = true)
    (aQM : PySem.W.findIn K (.ref Z) "names" = some (some (.ref gQM)))
    (iQM : PySem.W.isFn K (.ref gQM) = true)
    (lQM : K.lookup gQM = some ⟨ocQM, odQM, .func (PySem.W.fnOf "names" "Session.names" (defArgs sSNames) (defBody sSNames) (defScope sSNames) .none kVQM dcQM pmQM anQM cdQM ctQM), slQM⟩)
    (cQM : PySem.W.codeIn K cdQM "Session.names" = true)
    (kQM : PySem.W.keepIn K (.ref gQM) = true)
    (aQH : PySem.W.findIn K (.ref Z) "push" = some (some (.ref gQH)))
    (iQH : PySem.W.isFn K (.ref gQH) = true)
    (lQH : K.lookup gQH = some ⟨ocQH, odQH, .func (PySem.W.fnOf "push" "Session.push" (defArgs sSPush) (defBody sSPush) (defScope sSPush) .none kVQH dcQH pmQH anQH cdQH ctQH), slQH⟩)
    (cQH : PySem.W.codeIn K cdQH "Session.push" = true)
    (kQH : PySem.W.keepIn K (.ref gQH) = true)
    (aQO : PySem.W.findIn K (.ref Z) "pop" = some (some (.ref gQO)))
    (iQO : PySem.W.isFn K (.ref gQO) = true)
    (lQO : K.lookup gQO = some ⟨ocQO, odQO, .func (PySem.W.fnOf "pop" "Session.pop" (defArgs sSPop) (defBody sSPop) (defScope sSPop) .none kVQO dcQO pmQO anQO cdQO ctQO), slQO⟩)
    (cQO : PySem.W.codeIn K cdQO "Session.pop" = true)
    (kQO : PySem.W.keepIn K (.ref gQO) = true)
    (aQU : PySem.W.findIn K (.ref Z) "undo" = some (some (.ref gQU)))
    (iQU : PySem.W.isFn K (.ref gQU) = true)
    (lQU : K.lookup gQU = some ⟨ocQU, odQU, .func (PySem.W.fnOf "undo" "Session.undo" (defArgs sSUndo) (defBody sSUndo) (defScope sSUndo) .none kVQU dcQU pmQU anQU cdQU ctQU), slQU⟩)
    (cQU : PySem.W.codeIn K cdQU "Session.undo" = true)
    (kQU : PySem.W.keepIn K (.ref gQU) = true)
    (aQL : PySem.W.findIn K (.ref Z) "set_limit" = some (some (.ref gQL)))
    (iQL : PySem.W.isFn K (.ref gQL) = true)
    (lQL : K.lookup gQL = some ⟨ocQL, odQL, .func (PySem.W.fnOf "set_limit" "Session.set_limit" (defArgs sSSetLimit) (defBody sSSetLimit) (defScope sSSetLimit) .none kVQL dcQL pmQL anQL cdQL ctQL), slQL⟩)
    (cQL : PySem.W.codeIn K cdQL "Session.set_limit" = true)
    (kQL : PySem.W.keepIn K (.ref gQL) = true)
    (aQE : PySem.W.findIn K (.ref Z) "effect" = some (some (.ref gQE)))
    (iQE : PySem.W.isFn K (.ref gQE) = true)
    (lQE : K.lookup gQE = some ⟨ocQE, odQE, .func (PySem.W.fnOf "effect" "Session.effect" (defArgs sSEffect) (defBody sSEffect) (defScope sSEffect) .none kVQE dcQE pmQE anQE cdQE ctQE), slQE⟩)
    (cQE : PySem.W.codeIn K cdQE "Session.effect" = true)
    (kQE : PySem.W.keepIn K (.ref gQE) = true)
    (aX0 : PySem.W.nsIn K mainGlobals "StepFailed" = some (some (.ref CX0)))
    (xX0 : K.lookup CX0 = some (excClassObj nmX0 qX0 CX0 NX0 bsX0 [.type "RuntimeError", .type "Exception", .type "BaseException", .type "object"] true snX0 subX0 abX0 colX0 ddX0 m0X0 m1X0 m2X0 m3X0 m5X0 "RuntimeError.__new__"))
    (saX0 : PySem.W.findIn K (.ref CX0) "__setattr__" = some (some (.builtin "object.__setattr__")))
    (gaX0 : PySem.W.findIn K (.ref CX0) "__getattribute__" = some (some (.builtin "BaseException.__getattribute__")))
    (ggX0 : PySem.W.findIn K (.ref CX0) "__getattr__" = some none)
    (nfX0 : PySem.W.findIn K (.ref CX0) "index" = some none)
    (iiX0 : PySem.W.findIn K (.ref CX0) "__init__" = some (some (.ref gX0)))
    (tiX0 : PySem.W.typeIn K (.ref gX0) = some (.type "function"))
    (lX0 : K.lookup gX0 = some ⟨ocX0, odX0, .func (PySem.W.fnOf "__init__" "StepFailed.__init__" (defArgs (inClass sStepfailed 0)) (defBody (inClass sStepfailed 0)) (defScope (inClass sStepfailed 0)) .none kVX0 dcX0 pmX0 anX0 cdX0 ctX0), slX0⟩)
    (cX0 : PySem.W.codeIn K cdX0 "StepFailed.__init__" = true)
    (kX0 : PySem.W.keepIn K (.ref gX0) = true)
    (kCX0 : PySem.W.keepIn K (.ref CX0) = true)
    (ccX0 : PySem.W.findIn K (.ref CX0) "__class__" = some (some (.builtin "object.__class__")))
    (aX1 : PySem.W.nsIn K mainGlobals "LimitExceeded" = some (some (.ref CX1)))
    (xX1 : K.lookup CX1 = some (excClassObj nmX1 qX1 CX1 NX1 bsX1 [.type "OverflowError", .type "ArithmeticError", .type "Exception", .type "BaseException", .type "object"] true snX1 subX1 abX1 colX1 ddX1 m0X1 m1X1 m2X1 m3X1 m5X1 "OverflowError.__new__"))
    (saX1 : PySem.W.findIn K (.ref CX1) "__setattr__" = some (some (.builtin "object.__setattr__")))
    (gaX1 : PySem.W.findIn K (.ref CX1) "__getattribute__" = some (some (.builtin "BaseException.__getattribute__")))
    (ggX1 : PySem.W.findIn K (.ref CX1) "__getattr__" = some none)
    (nfX1 : PySem.W.findIn K (.ref CX1) "limit" = some none)
    (iiX1 : PySem.W.findIn K (.ref CX1) "__init__" = some (some (.ref gX1)))
    (tiX1 : PySem.W.typeIn K (.ref gX1) = some (.type "function"))
    (lX1 : K.lookup gX1 = some ⟨ocX1, odX1, .func (PySem.W.fnOf "__init__" "LimitExceeded.__init__" (defArgs (inClass sLimitexceeded 0)) (defBody (inClass sLimitexceeded 0)) (defScope (inClass sLimitexceeded 0)) .none kVX1 dcX1 pmX1 anX1 cdX1 ctX1), slX1⟩)
    (cX1 : PySem.W.codeIn K cdX1 "LimitExceeded.__init__" = true)
    (kX1 : PySem.W.keepIn K (.ref gX1) = true)
    (kCX1 : PySem.W.keepIn K (.ref CX1) = true)
    (ccX1 : PySem.W.findIn K (.ref CX1) "__class__" = some (some (.builtin "object.__class__")))
    (aX2 : PySem.W.nsIn K mainGlobals "NothingToUndo" = some (some (.ref CX2)))
    (xX2 : K.lookup CX2 = some (excClassObj nmX2 qX2 CX2 NX2 bsX2 [.type "LookupError", .type "Exception", .type "BaseException", .type "object"] true snX2 subX2 abX2 colX2 ddX2 m0X2 m1X2 m2X2 m3X2 m5X2 "LookupError.__new__"))
    (saX2 : PySem.W.findIn K (.ref CX2) "__setattr__" = some (some (.builtin "object.__setattr__")))
    (gaX2 : PySem.W.findIn K (.ref CX2) "__getattribute__" = some (some (.builtin "BaseException.__getattribute__")))
    (ggX2 : PySem.W.findIn K (.ref CX2) "__getattr__" = some none)
    (nfX2 : PySem.W.findIn K (.ref CX2) "count" = some none)
    (iiX2 : PySem.W.findIn K (.ref CX2) "__init__" = some (some (.ref gX2)))
    (tiX2 : PySem.W.typeIn K (.ref gX2) = some (.type "function"))
    (lX2 : K.lookup gX2 = some ⟨ocX2, odX2, .func (PySem.W.fnOf "__init__" "NothingToUndo.__init__" (defArgs (inClass sNothingtoundo 0)) (defBody (inClass sNothingtoundo 0)) (defScope (inClass sNothingtoundo 0)) .none kVX2 dcX2 pmX2 anX2 cdX2 ctX2), slX2⟩)
    (cX2 : PySem.W.codeIn K cdX2 "NothingToUndo.__init__" = true)
    (kX2 : PySem.W.keepIn K (.ref gX2) = true)
    (kCX2 : PySem.W.keepIn K (.ref CX2) = true)
    (ccX2 : PySem.W.findIn K (.ref CX2) "__class__" = some (some (.builtin "object.__class__")))
    (aZP : PySem.W.findIn K (.ref Z) "limit" = some (some (.ref qZP)))
    (bZP : PySem.W.specialIn K (.ref qZP) "__get__" = some (some (.builtin "property.__get__")))
    (tZP : PySem.W.takesIn K (.ref qZP) = some true)
    (uZP : PySem.W.recIn K qZP "property" = some (.ref gZP :: rZP))
    (lZP : K.lookup gZP = some ⟨ocZP, odZP, .func (PySem.W.fnOf "limit" "Session.limit" (defArgs sSLimit) (defBody sSLimit) (defScope sSLimit) .none kVZP dcZP pmZP anZP cdZP ctZP), slZP⟩)
    (cZP : PySem.W.codeIn K cdZP "Session.limit" = true)
    (kZP : PySem.W.keepIn K (.ref gZP) = true)
    (aLN : PySem.W.findIn K (.ref Z) "__len__" = some (some (.ref gLN)))
    (iLN : PySem.W.isFn K (.ref gLN) = true)
    (lLN : K.lookup gLN = some ⟨ocLN, odLN, .func (PySem.W.fnOf "__len__" "Session.__len__" (defArgs sSLen) (defBody sSLen) (defScope sSLen) .none kVLN dcLN pmLN anLN cdLN ctLN), slLN⟩)
    (cLN : PySem.W.codeIn K cdLN "Session.__len__" = true)
    (kLN : PySem.W.keepIn K (.ref gLN) = true)
    (hCX0 : PySem.W.hasDictIn K CX0 = true)
    (hCX1 : PySem.W.hasDictIn K CX1 = true)
    (hCX2 : PySem.W.hasDictIn K CX2 = true)
    (n10 : PySem.W.subIn K (.ref CX1) (.ref CX0) = some false)
    (n20 : PySem.W.subIn K (.ref CX2) (.ref CX0) = some false)
    (n21 : PySem.W.subIn K (.ref CX2) (.ref CX1) = some false)
    (aL : PySem.W.nsIn K mainGlobals "law" = some (some (.ref fL)))
    (lL : K.lookup fL = some ⟨ocL, odL, .func (PySem.W.fnOf "law" "law" (defArgs sLaw) (defBody sLaw) (defScope sLaw) .none kVL dcL pmL anL cdL ctL), slL⟩)
    (ckL : PySem.W.codeIn K cdL "law" = true)
    (kL : PySem.W.keepIn K (.ref fL) = true) :
    ∃ fd : FuncData, (∀ (s : Shared) (v : Value), BindsTo s fd ⟨[v], []⟩ [("_law_script", v)]) ∧ ∀ base : Heap, K.In base → base.Ns mainGlobals mg → GOk l.prog w K mg base 10 fa fd ["_law_script"] (spLaw K) := by
  have e := hfa.symm.trans (PySem.W.mg_of X G aL)
  cases e
  have F := fun_mk (st := sLaw) lL ckL kL
  have m_isinstance : mg "isinstance" = none := PySem.W.mg_none_of X G z_isinstance
  have m_str : mg "str" = none := PySem.W.mg_none_of X G z_str
  have m_len : mg "len" = none := PySem.W.mg_none_of X G z_len
  have m_all : mg "all" = none := PySem.W.mg_none_of X G z_all
  have m_any : mg "any" = none := PySem.W.mg_none_of X G z_any
  have m_tuple : mg "tuple" = none := PySem.W.mg_none_of X G z_tuple
  have m_list : mg "list" = none := PySem.W.mg_none_of X G z_list
  have m_enumerate : mg "enumerate" = none := PySem.W.mg_none_of X G z_enumerate
  have m_range : mg "range" = none := PySem.W.mg_none_of X G z_range
  have m_abs : mg "abs" = none := PySem.W.mg_none_of X G z_abs
  have m_int : mg "int" = none := PySem.W.mg_none_of X G z_int
  have m_bool : mg "bool" = none := PySem.W.mg_none_of X G z_bool
  have m_max : mg "max" = none := PySem.W.mg_none_of X G z_max
  have m_min : mg "min" = none := PySem.W.mg_none_of X G z_min
  have m_sorted : mg "sorted" = none := PySem.W.mg_none_of X G z_sorted
  have m_dict : mg "dict" = none := PySem.W.mg_none_of X G z_dict
  have m_repr : mg "repr" = none := PySem.W.mg_none_of X G z_repr
  have B : Blt mg := ⟨m_isinstance, m_str, m_len, m_all, m_tuple, m_list, m_enumerate⟩
  have Co : Cons K w mg := ⟨⟨_, PySem.W.mg_of X G cL⟩, ⟨_, PySem.W.mg_of X G cM⟩, ⟨_, PySem.W.mg_of X G cS⟩, ⟨D, es, n, uP, uQ, PySem.W.mg_of X G cO, ⟨lO, kO, wO⟩, pO, rP, qO, rQ⟩⟩
  have T : EC K mg C := ⟨⟨pg, hd, po, sa⟩, nN, nL, nH, PySem.W.mg_of X G aC⟩
  refine ⟨PySem.W.fnOf "law" "law" (defArgs sLaw) (defBody sLaw) (defScope sLaw) .none kVL dcL pmL anL cdL ctL, fun s v => .of_eq rfl, fun base _ _ => ?_⟩
  have gTake := has_take (P := l.prog) (w := w) (base := base) d__law_take
  have gTakeF := has_takeF (P := l.prog) (w := w) (base := base) d__law_take
  have gPool := has_pool (P := l.prog) (w := w) (base := base) d__law_pool m_len m_abs m_int
  have gPoolF := has_poolF (P := l.prog) (w := w) (base := base) d__law_pool m_len m_abs m_int
  have gName := has_name d__law_name gTake m_range
  have gItems := has_items d__law_items gName m_range
  have gWord := has_word d__law_word gTake m_range m_len m_tuple
  have gItem := has_isItem (P := l.prog) (w := w) (base := base) d_is_item B Co
  have gIsWord := has_isWord d_is_word gItem B
  have gCw := has_chkWord d_check_word gIsWord
  have gIsStep := has_isStep d_is_step gItem B Co
  have gMay := has_may (P := l.prog) (w := w) (base := base) d_may_hold_steps B Co
  have gWh := has_whole (P := l.prog) (w := w) (base := base) d_is_whole B m_int m_bool
  have gBe := has_bet d_is_between gWh
  have gIl := has_lim d_is_limit gBe ⟨_, PySem.W.mg_of X G cLm⟩
  have gCl := has_chkLim d_check_limit gIl
  have gHi := has_highL (P := l.prog) (w := w) (base := base) d_is_too_high
  have gLe := has_least (P := l.prog) (w := w) (base := base) d_least_peak B m_max
  have gM := (⟨gI, _, ⟨mkC, aI, iI, keC⟩, ok_init (fun_mk lI cI kI) T gCw gLe gWh, init_mk lI cI kI nI⟩ : Makes l.prog w K mg base C)
  have fNe := ok_never (fun_mk lM0 cM0 kM0) T gM
  have bNe := (fun_mk (st := sNever) lM0 cM0 kM0).binds (ps := ["cls"]) fun _ _ _ _ _ _ us hl => match us, hl with | [_], _ => rfl
  have gNe := (⟨.type "type", qM0, gM0, ⟨rdC, gaC⟩, ⟨aM0, ⟨_, uM0⟩, fM0⟩, (fNe.raw bNe .nil).imp fun vs H Q E h => by rw [List.append_nil]; exact h⟩ : NeverHas l.prog w K mg base C)
  have gPart := has_part (P := l.prog) (w := w) (base := base) d_parts_of_step
  have gJn := has_join d_joined T gM gNe B m_max m_min
  have TI := (⟨e1, e2, e3, e4, if_pos (beq_self_eq_true _)⟩ : EI K C)
  have gEq := (⟨gQ, _, ok_eq (fun_mk lQ cQ kQ) T TI B, aQ, iQ, (fun_mk lQ cQ kQ).binds (ps := ["self", "other"]) fun _ _ _ _ _ _ us hl => match us, hl with | [_, _], _ => rfl, aNE⟩ : EqHas l.prog w K mg base C)
  have gIn := has_isN d_is_named_step gItem gIsStep B
  have gCn := has_chkN d_check_named_steps gMay gIn B
  have gWlF := has_wellF d__law_named_well gTakeF m_len m_dict m_range
  have gLEff := has_leff (P := l.prog) (w := w) (base := base) d__law_effect m_max m_len m_tuple
  have gLP := has_lp (P := l.prog) (w := w) (base := base) d__law_performed B m_dict
  have gAf := has_afterL d_after_step gHi B
  have gWe := has_we (P := l.prog) (w := w) (base := base) d_without_empty
  have gAr := has_are d_are_stacks gItem gIsWord B m_dict
  have gCk := has_cks d_check_stacks gAr
  have gCh := has_ckh d_check_heights gHi B m_any
  have TS := (⟨⟨pgZ, hdZ, poZ, saZ⟩, nFZ, nHZ, nDZ⟩ : SCl K Z)
  have FX0 := fun_mk (st := inClass sStepfailed 0) lX0 cX0 kX0
  have vStepFailed := (xv_mk (PySem.W.mg_of X G aX0) xX0 tail_RE (by simp [List.contains_cons]) saX0 gaX0 ggX0 nfX0 iiX0 tiX0 kCX0 ccX0 FX0 scI_StepFailed rfl (.inl rfl) (.inl rfl) (by decide) (by decide) (fun _ _ _ _ _ _ us ws hl hw => match us, ws, hl, hw with | [_, _], [], _, _ => rfl) (fun _ _ _ _ _ _ us ws hl hw => match us, ws, hl, hw with | [_], [_], _, _ => rfl) : XvC l.prog w K mg base "StepFailed" "StepFailed.__init__" "index" CX0 [.type "RuntimeError", .type "Exception", .type "BaseException", .type "object"])
  have FX1 := fun_mk (st := inClass sLimitexceeded 0) lX1 cX1 kX1
  have vLimitExceeded := (xv_mk (PySem.W.mg_of X G aX1) xX1 tail_OE (by simp [List.contains_cons]) saX1 gaX1 ggX1 nfX1 iiX1 tiX1 kCX1 ccX1 FX1 scI_LimitExceeded rfl (.inl rfl) (.inl rfl) (by decide) (by decide) (fun _ _ _ _ _ _ us ws hl hw => match us, ws, hl, hw with | [_, _], [], _, _ => rfl) (fun _ _ _ _ _ _ us ws hl hw => match us, ws, hl, hw with | [_], [_], _, _ => rfl) : XvC l.prog w K mg base "LimitExceeded" "LimitExceeded.__init__" "limit" CX1 [.type "OverflowError", .type "ArithmeticError", .type "Exception", .type "BaseException", .type "object"])
  have FX2 := fun_mk (st := inClass sNothingtoundo 0) lX2 cX2 kX2
  have vNothingToUndo := (xv_mk (PySem.W.mg_of X G aX2) xX2 tail_LE (by simp [List.contains_cons]) saX2 gaX2 ggX2 nfX2 iiX2 tiX2 kCX2 ccX2 FX2 scI_NothingToUndo rfl (.inl rfl) (.inl rfl) (by decide) (by decide) (fun _ _ _ _ _ _ us ws hl hw => match us, ws, hl, hw with | [_, _], [], _, _ => rfl) (fun _ _ _ _ _ _ us ws hl hw => match us, ws, hl, hw with | [_], [_], _, _ => rfl) : XvC l.prog w K mg base "NothingToUndo" "NothingToUndo.__init__" "count" CX2 [.type "LookupError", .type "Exception", .type "BaseException", .type "object"])
  have gChX := hasX_ch d_check_heights gHi vLimitExceeded B m_any
  have mAd := (⟨gQA, _, ⟨aQA, iQA, kQA⟩, ok_ad (fun_mk lQA cQA kQA) TS, (fun_mk lQA cQA kQA).binds (ps := ["self", "steps", "stacks", "limit"]) fun _ _ _ _ _ _ us hl => match us, hl with | [_, _, _, _], _ => rfl⟩ : MethHas l.prog w K mg base Z "add_deed" 1 ["self", "steps", "stacks", "limit"] (spAd K Z none))
  have mNf := (⟨gQN, _, ⟨aQN, iQN, kQN⟩, ok_nf (fun_mk lQN cQN kQN), (fun_mk lQN cQN kQN).binds (ps := ["self", "name"]) fun _ _ _ _ _ _ us hl => match us, hl with | [_, _], _ => rfl⟩ : MethHas l.prog w K mg base Z "note_failure" 1 ["self", "name"] (spNf K Z none))
  have mPx := (⟨gQP, _, ⟨aQP, iQP, kQP⟩, okX_pf (fun_mk lQP cQP kQP) TS vStepFailed mNf gCn gAf gWe mAd B m_dict, (fun_mk lQP cQP kQP).binds (ps := ["self", "steps"]) fun _ _ _ _ _ _ us hl => match us, hl with | [_, _], _ => rfl⟩ : MethHasX l.prog w K mg base Z "perform" 5 ["self", "steps"] (spPf K Z CX0 none))
  have mPu := (⟨gQH, _, ⟨aQH, iQH, kQH⟩, ok_spush (fun_mk lQH cQH kQH) TS mPx, (fun_mk lQH cQH kQH).binds (ps := ["self", "name", "item"]) fun _ _ _ _ _ _ us hl => match us, hl with | [_, _, _], _ => rfl⟩ : MethHasX l.prog w K mg base Z "push" 6 ["self", "name", "item"] (spPp K Z CX0 none true))
  have mPo := (⟨gQO, _, ⟨aQO, iQO, kQO⟩, ok_spop (fun_mk lQO cQO kQO) TS mPx, (fun_mk lQO cQO kQO).binds (ps := ["self", "name", "item"]) fun _ _ _ _ _ _ us hl => match us, hl with | [_, _, _], _ => rfl⟩ : MethHasX l.prog w K mg base Z "pop" 6 ["self", "name", "item"] (spPp K Z CX0 none false))
  have mUn := (⟨gQU, _, ⟨aQU, iQU, kQU⟩, ok_undo (fun_mk lQU cQU kQU) TS vNothingToUndo B, (fun_mk lQU cQU kQU).binds (ps := ["self"]) fun _ _ _ _ _ _ us hl => match us, hl with | [_], _ => rfl⟩ : MethHasX l.prog w K mg base Z "undo" 3 ["self"] (spUn K Z CX2 none))
  have mSl := (⟨gQL, _, ⟨aQL, iQL, kQL⟩, ok_setl (fun_mk lQL cQL kQL) TS gCl gChX mAd, (fun_mk lQL cQL kQL).binds (ps := ["self", "value"]) fun _ _ _ _ _ _ us hl => match us, hl with | [_, _], _ => rfl⟩ : MethHasX l.prog w K mg base Z "set_limit" 5 ["self", "value"] (spSl K Z CX1 none))
  have gCkn := has_ckn d_check_name gItem
  have mNm := (⟨gQM, _, ⟨aQM, iQM, kQM⟩, ok_nm (fun_mk lQM cQM kQM) TS m_sorted, (fun_mk lQM cQM kQM).binds (ps := ["self"]) fun _ _ _ _ _ _ us hl => match us, hl with | [_], _ => rfl⟩ : MethHas l.prog w K mg base Z "names" 1 ["self"] (spNm K Z none))
  have mSt := (⟨gQS, _, ⟨aQS, iQS, kQS⟩, ok_stk (fun_mk lQS cQS kQS) TS gCkn, (fun_mk lQS cQS kQS).binds (ps := ["self", "name"]) fun _ _ _ _ _ _ us hl => match us, hl with | [_, _], _ => rfl⟩ : MethHas l.prog w K mg base Z "stack" 3 ["self", "name"] (spStk K Z none))
  have mEf := (⟨gQE, _, ⟨aQE, iQE, kQE⟩, ok_ef (fun_mk lQE cQE kQE) TS gCkn gPart gJn, (fun_mk lQE cQE kQE).binds (ps := ["self", "name"]) fun _ _ _ _ _ _ us hl => match us, hl with | [_, _], _ => rfl⟩ : MethHas l.prog w K mg base Z "effect" 8 ["self", "name"] (spEf K Z C none))
  have gLi := (⟨qZP, gZP, _, ⟨aZP, bZP, tZP, rZP, uZP⟩, ok_limit (fun_mk lZP cZP kZP) TS, (fun_mk lZP cZP kZP).binds (ps := ["self"]) fun _ _ _ _ _ _ us hl => match us, hl with | [_], _ => rfl⟩ : PropHas l.prog w K mg base Z "limit" 1 (spLi K Z none))
  have gLen := (⟨gLN, aLN, iLN, ((ok_len (fun_mk lLN cLN kLN) TS B).raw ((fun_mk lLN cLN kLN).binds (ps := ["self"]) fun _ _ _ _ _ _ us hl => match us, hl with | [_], _ => rfl) .nil).imp fun vs H Q E h => by rw [List.append_nil]; exact h⟩ : LenHas l.prog w K mg base Z (spLn K Z none))
  have gToX := (⟨vStepFailed, vLimitExceeded, vNothingToUndo, PySem.W.exm_ref ((sub_mr vStepFailed.mr _).trans (by simp [List.contains_cons])) hCX0 vStepFailed.tC ((sub_mr vStepFailed.mr _).trans (by simp [List.contains_cons])), PySem.W.exm_ref ((sub_mr vLimitExceeded.mr _).trans (by simp [List.contains_cons])) hCX1 vLimitExceeded.tC ((sub_mr vLimitExceeded.mr _).trans (by simp [List.contains_cons])), PySem.W.exm_ref ((sub_mr vNothingToUndo.mr _).trans (by simp [List.contains_cons])) hCX2 vNothingToUndo.tC ((sub_mr vNothingToUndo.mr _).trans (by simp [List.contains_cons])), PySem.W.exm_ref ((sub_mr vStepFailed.mr _).trans (by simp [List.contains_cons])) hCX0 vStepFailed.tC n10, PySem.W.exm_ref ((sub_mr vStepFailed.mr _).trans (by simp [List.contains_cons])) hCX0 vStepFailed.tC n20, PySem.W.exm_ref ((sub_mr vLimitExceeded.mr _).trans (by simp [List.contains_cons])) hCX1 vLimitExceeded.tC n21⟩ : ToX l.prog w K mg base CX0 CX1 CX2 _ _ _)
  have gSM := (⟨gQI, ⟨mkZ, aQI, iQI, keZ⟩, fk_sinit lQI cQI TS gCl gCk gCh gWe⟩ : SesMakes3 l.prog w K mg base Z)
  have gDu := has_due d__law_due gTakeF gWlF gLP B m_max m_int
  have gDe := hasX_deed d__law_deed TS gTakeF gWlF gLP mUn mSl mPu mPo mPx B m_max
  have gTo := has_told d__law_told gToX gDe
  have gSa := ghas_same d__law_same TS T TI gM gEq gLi gLen mNm mSt mEf gLEff B m_repr m_sorted
  exact ok_law F gSM (PySem.W.mg_of X G aZ) gPool gPoolF gTake gItems gWord gDu gTo gSa B m_range m_max m_min
end
end SE
open PySem PySem.W PyProof.Rows
set_option maxHeartbeats 0 in
theorem PySem.Challenge.cw_stackeffect_k63_sessions_led_by_deeds_holds : PySem.Challenge.rw_stackeffect_k63_sessions_led_by_deeds.Holds := by
  w_on; o_law; k_head; (case hw => w_witness2)
  k_fill
  refine SE.walkG (l := PySem.Challenge.rw_stackeffect_k63_sessions_led_by_deeds) (n := 63) (k := 10) (x := "_law_script") (sp := SE.spLaw) rfl (by decide) rfl ⟨rfl, by decide, by decide⟩ (fun w h Y => PySem.W.kIn_of Y) ?F (fun _ _ a ns hl hS => ⟨a, ns, rfl, hS, hl, fun _ => rfl⟩)
  case F =>
    intro w mg fa h KX G hmg
    refine' SE.all_mk KX G hmg ?d_is_whole ?d_is_between ?d_is_item ?d_is_word ?d_is_step ?d_may_hold_steps ?d_is_limit ?d_check_word ?d_check_limit ?d_is_too_high ?d_after_step ?d_least_peak ?d_joined ?d_parts_of_step ?d_is_named_step ?d_check_named_steps ?d_are_stacks ?d_check_stacks ?d_check_name ?d_check_heights ?d_without_empty ?d__law_pool ?d__law_take ?d__law_name ?d__law_items ?d__law_word ?d__law_named_well ?d__law_effect ?d__law_performed ?d__law_deed ?d__law_due ?d__law_told ?d__law_same ?z_isinstance ?z_str ?z_len ?z_all ?z_any ?z_tuple ?z_list ?z_enumerate ?z_range ?z_abs ?z_int ?z_bool ?z_max ?z_min ?z_sorted ?z_dict ?z_repr ?cL ?cM ?cS ?cLm ?cO ?lO ?kO ?wO ?pO ?qO ?rP ?rQ ?aC ?pg ?hd ?po ?sa ?nN ?nL ?nH ?mkC ?keC ?aI ?iI ?lI ?cI ?kI ?nI ?rdC ?gaC ?aM0 ?uM0 ?fM0 ?lM0 ?cM0 ?kM0 ?aQ ?iQ ?lQ ?cQ ?kQ ?aNE ?e1 ?e2 ?e3 ?e4 ?aZ ?pgZ ?hdZ ?poZ ?saZ ?nFZ ?nHZ ?nDZ ?mkZ ?keZ ?aQI ?iQI ?lQI ?cQI ?kQI ?nQI ?aQA ?iQA ?lQA ?cQA ?kQA ?aQP ?iQP ?lQP ?cQP ?kQP ?aQN ?iQN ?lQN ?cQN ?kQN ?aQS ?iQS ?lQS ?cQS ?kQS ?aQM ?iQM ?lQM ?cQM ?kQM ?aQH ?iQH ?lQH ?cQH ?kQH ?aQO ?iQO ?lQO ?cQO ?kQO ?aQU ?iQU ?lQU ?cQU ?kQU ?aQL ?iQL ?lQL ?cQL ?kQL ?aQE ?iQE ?lQE ?cQE ?kQE ?aX0 ?xX0 ?saX0 ?gaX0 ?ggX0 ?nfX0 ?iiX0 ?tiX0 ?lX0 ?cX0 ?kX0 ?kCX0 ?ccX0 ?aX1 ?xX1 ?saX1 ?gaX1 ?ggX1 ?nfX1 ?iiX1 ?tiX1 ?lX1 ?cX1 ?kX1 ?kCX1 ?ccX1 ?aX2 ?xX2 ?saX2 ?gaX2 ?ggX2 ?nfX2 ?iiX2 ?tiX2 ?lX2 ?cX2 ?kX2 ?kCX2 ?ccX2 ?aZP ?bZP ?tZP ?uZP ?lZP ?cZP ?kZP ?aLN ?iLN ?lLN ?cLN ?kLN ?hCX0 ?hCX1 ?hCX2 ?n10 ?n20 ?n21 ?aL ?lL ?ckL ?kL
    (case d_is_whole => refine' SE.def_mk KX G ?a ?l ?c ?k; (case a => k_is); (case l => k_is); (case c => k_is); (case k => k_is))
    (case d_is_between => refine' SE.def_mk KX G ?a ?l ?c ?k; (case a => k_is); (case l => k_is); (case c => k_is); (case k => k_is))
    (case d_is_item => refine' SE.def_mk KX G ?a ?l ?c ?k; (case a => k_is); (case l => k_is); (case c => k_is); (case k => k_is))
    (case d_is_word => refine' SE.def_mk KX G ?a ?l ?c ?k; (case a => k_is); (case l => k_is); (case c => k_is); (case k => k_is))
    (case d_is_step => refine' SE.def_mk KX G ?a ?l ?c ?k; (case a => k_is); (case l => k_is); (case c => k_is); (case k => k_is))
    (case d_may_hold_steps => refine' SE.def_mk KX G ?a ?l ?c ?k; (case a => k_is); (case l => k_is); (case c => k_is); (case k => k_is))
    (case d_is_limit => refine' SE.def_mk KX G ?a ?l ?c ?k; (case a => k_is); (case l => k_is); (case c => k_is); (case k => k_is))
    (case d_check_word => refine' SE.def_mk KX G ?a ?l ?c ?k; (case a => k_is); (case l => k_is); (case c => k_is); (case k => k_is))
    (case d_check_limit => refine' SE.def_mk KX G ?a ?l ?c ?k; (case a => k_is); (case l => k_is); (case c => k_is); (case k => k_is))
    (case d_is_too_high => refine' SE.def_mk KX G ?a ?l ?c ?k; (case a => k_is); (case l => k_is); (case c => k_is); (case k => k_is))
    (case d_after_step => refine' SE.def_mk KX G ?a ?l ?c ?k; (case a => k_is); (case l => k_is); (case c => k_is); (case k => k_is))
    (case d_least_peak => refine' SE.def_mk KX G ?a ?l ?c ?k; (case a => k_is); (case l => k_is); (case c => k_is); (case k => k_is))
    (case d_joined => refine' SE.def_mk KX G ?a ?l ?c ?k; (case a => k_is); (case l => k_is); (case c => k_is); (case k => k_is))
    (case d_parts_of_step => refine' SE.def_mk KX G ?a ?l ?c ?k; (case a => k_is); (case l => k_is); (case c => k_is); (case k => k_is))
    (case d_is_named_step => refine' SE.def_mk KX G ?a ?l ?c ?k; (case a => k_is); (case l => k_is); (case c => k_is); (case k => k_is))
    (case d_check_named_steps => refine' SE.def_mk KX G ?a ?l ?c ?k; (case a => k_is); (case l => k_is); (case c => k_is); (case k => k_is))
    (case d_are_stacks => refine' SE.def_mk KX G ?a ?l ?c ?k; (case a => k_is); (case l => k_is); (case c => k_is); (case k => k_is))
    (case d_check_stacks => refine' SE.def_mk KX G ?a ?l ?c ?k; (case a => k_is); (case l => k_is); (case c => k_is); (case k => k_is))
    (case d_check_name => refine' SE.def_mk KX G ?a ?l ?c ?k; (case a => k_is); (case l => k_is); (case c => k_is); (case k => k_is))
    (case d_check_heights => refine' SE.def_mk KX G ?a ?l ?c ?k; (case a => k_is); (case l => k_is); (case c => k_is); (case k => k_is))
    (case d_without_empty => refine' SE.def_mk KX G ?a ?l ?c ?k; (case a => k_is); (case l => k_is); (case c => k_is); (case k => k_is))
    (case d__law_pool => refine' SE.def_mk KX G ?a ?l ?c ?k; (case a => k_is); (case l => k_is); (case c => k_is); (case k => k_is))
    (case d__law_take => refine' SE.def_mk KX G ?a ?l ?c ?k; (case a => k_is); (case l => k_is); (case c => k_is); (case k => k_is))
    (case d__law_name => refine' SE.def_mk KX G ?a ?l ?c ?k; (case a => k_is); (case l => k_is); (case c => k_is); (case k => k_is))
    (case d__law_items => refine' SE.def_mk KX G ?a ?l ?c ?k; (case a => k_is); (case l => k_is); (case c => k_is); (case k => k_is))
    (case d__law_word => refine' SE.def_mk KX G ?a ?l ?c ?k; (case a => k_is); (case l => k_is); (case c => k_is); (case k => k_is))
    (case d__law_named_well => refine' SE.def_mk KX G ?a ?l ?c ?k; (case a => k_is); (case l => k_is); (case c => k_is); (case k => k_is))
    (case d__law_effect => refine' SE.def_mk KX G ?a ?l ?c ?k; (case a => k_is); (case l => k_is); (case c => k_is); (case k => k_is))
    (case d__law_performed => refine' SE.def_mk KX G ?a ?l ?c ?k; (case a => k_is); (case l => k_is); (case c => k_is); (case k => k_is))
    (case d__law_deed => refine' SE.def_mk KX G ?a ?l ?c ?k; (case a => k_is); (case l => k_is); (case c => k_is); (case k => k_is))
    (case d__law_due => refine' SE.def_mk KX G ?a ?l ?c ?k; (case a => k_is); (case l => k_is); (case c => k_is); (case k => k_is))
    (case d__law_told => refine' SE.def_mk KX G ?a ?l ?c ?k; (case a => k_is); (case l => k_is); (case c => k_is); (case k => k_is))
    (case d__law_same => refine' SE.def_mk KX G ?a ?l ?c ?k; (case a => k_is); (case l => k_is); (case c => k_is); (case k => k_is))
    (case z_isinstance => k_is)
    (case z_str => k_is)
    (case z_len => k_is)
    (case z_all => k_is)
    (case z_any => k_is)
    (case z_tuple => k_is)
    (case z_list => k_is)
    (case z_enumerate => k_is)
    (case z_range => k_is)
    (case z_abs => k_is)
    (case z_int => k_is)
    (case z_bool => k_is)
    (case z_max => k_is)
    (case z_min => k_is)
    (case z_sorted => k_is)
    (case z_dict => k_is)
    (case z_repr => k_is)
    (case cL => k_is)
    (case cM => k_is)
    (case cS => k_is)
    (case cLm => k_is)
    (case cO => k_is)
    (case lO => k_is)
    (case kO => exact ⟨⟨_, _, rfl, rfl⟩, ⟨_, _, rfl, rfl⟩, trivial⟩)
    (case wO => rfl)
    (case pO => k_is)
    (case qO => k_is)
    (case rP => exact ⟨_, rfl⟩)
    (case rQ => exact ⟨_, rfl⟩)
    (case aC => k_is)
    (case pg => k_is)
    (case hd => k_is)
    (case po => k_is)
    (case sa => k_is)
    (case nN => k_is)
    (case nL => k_is)
    (case nH => k_is)
    (case mkC => k_is)
    (case keC => k_is)
    (case aI => k_is)
    (case iI => k_is)
    (case lI => k_is)
    (case cI => k_is)
    (case kI => k_is)
    (case nI => k_is)
    (case rdC => k_is)
    (case gaC => k_is)
    (case aM0 => k_is)
    (case uM0 => k_is)
    (case fM0 => k_is)
    (case lM0 => k_is)
    (case cM0 => k_is)
    (case kM0 => k_is)
    (case aQ => k_is)
    (case iQ => k_is)
    (case lQ => k_is)
    (case cQ => k_is)
    (case kQ => k_is)
    (case aNE => k_is)
    (case e1 => k_is)
    (case e2 => k_is)
    (case e3 => k_is)
    (case e4 => k_is)
    (case aZ => k_is)
    (case pgZ => k_is)
    (case hdZ => k_is)
    (case poZ => k_is)
    (case saZ => k_is)
    (case nFZ => k_is)
    (case nHZ => k_is)
    (case nDZ => k_is)
    (case mkZ => k_is)
    (case keZ => k_is)
    (case aQI => k_is)
    (case iQI => k_is)
    (case lQI => k_is)
    (case cQI => k_is)
    (case kQI => k_is)
    (case nQI => k_is)
    (case aQA => k_is)
    (case iQA => k_is)
    (case lQA => k_is)
    (case cQA => k_is)
    (case kQA => k_is)
    (case aQP => k_is)
    (case iQP => k_is)
    (case lQP => k_is)
    (case cQP => k_is)
    (case kQP => k_is)
    (case aQN => k_is)
    (case iQN => k_is)
    (case lQN => k_is)
    (case cQN => k_is)
    (case kQN => k_is)
    (case aQS => k_is)
    (case iQS => k_is)
    (case lQS => k_is)
    (case cQS => k_is)
    (case kQS => k_is)
    (case aQM => k_is)
    (case iQM => k_is)
    (case lQM => k_is)
    (case cQM => k_is)
    (case kQM => k_is)
    (case aQH => k_is)
    (case iQH => k_is)
    (case lQH => k_is)
    (case cQH => k_is)
    (case kQH => k_is)
    (case aQO => k_is)
    (case iQO => k_is)
    (case lQO => k_is)
    (case cQO => k_is)
    (case kQO => k_is)
    (case aQU => k_is)
    (case iQU => k_is)
    (case lQU => k_is)
    (case cQU => k_is)
    (case kQU => k_is)
    (case aQL => k_is)
    (case iQL => k_is)
    (case lQL => k_is)
    (case cQL => k_is)
    (case kQL => k_is)
    (case aQE => k_is)
    (case iQE => k_is)
    (case lQE => k_is)
    (case cQE => k_is)
    (case kQE => k_is)
    (case aX0 => k_is)
    (case xX0 => k_is)
    (case saX0 => k_is)
    (case gaX0 => k_is)
    (case ggX0 => k_is)
    (case nfX0 => k_is)
    (case iiX0 => k_is)
    (case tiX0 => k_is)
    (case lX0 => k_is)
    (case cX0 => k_is)
    (case kX0 => k_is)
    (case kCX0 => k_is)
    (case ccX0 => k_is)
    (case aX1 => k_is)
    (case xX1 => k_is)
    (case saX1 => k_is)
    (case gaX1 => k_is)
    (case ggX1 => k_is)
    (case nfX1 => k_is)
    (case iiX1 => k_is)
    (case tiX1 => k_is)
    (case lX1 => k_is)
    (case cX1 => k_is)
    (case kX1 => k_is)
    (case kCX1 => k_is)
    (case ccX1 => k_is)
    (case aX2 => k_is)
    (case xX2 => k_is)
    (case saX2 => k_is)
    (case gaX2 => k_is)
    (case ggX2 => k_is)
    (case nfX2 => k_is)
    (case iiX2 => k_is)
    (case tiX2 => k_is)
    (case lX2 => k_is)
    (case cX2 => k_is)
    (case kX2 => k_is)
    (case kCX2 => k_is)
    (case ccX2 => k_is)
    (case aZP => k_is)
    (case bZP => k_is)
    (case tZP => k_is)
    (case uZP => k_is)
    (case lZP => k_is)
    (case cZP => k_is)
    (case kZP => k_is)
    (case aLN => k_is)
    (case iLN => k_is)
    (case lLN => k_is)
    (case cLN => k_is)
    (case kLN => k_is)
    (case hCX0 => k_is)
    (case hCX1 => k_is)
    (case hCX2 => k_is)
    (case n10 => k_is)
    (case n20 => k_is)
    (case n21 => k_is)
    (case aL => k_is)
    (case lL => k_is)
    (case ckL => k_is)
    (case kL => k_is)
