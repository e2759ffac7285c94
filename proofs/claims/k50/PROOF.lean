import PyProof.Rows.All
import Wide.All
import OpenK.AllK
import Wide.FinOn
import PyProof.EqAt
import PyProof.EqKinds
import PyProof.TupleCall
import HandS.Base
import HandS.Call
import HandS.List
import HandS.Ends
import HandS.Words
import HandS.Comp
import HandS.Dict
import HandS.Iter
import HandS.Text
import HandS.WordsList
import HandS.Defaults
import PyProof.EnumMake
import PyProof.Draws
import KE.GoesMore
import KE.KRevSl
import PyProof.ReprLen
import PyProof.ReprText
import HandS.More
import HandS.Evl
import HandS.Walk
import HandS.IsInst
import HandS.TupAny
import HandS.Style
import HandS.TupMul
import HandS.Strs
import HandS.Set
import HandS.GenBody
import HandS.GenYield
import HandS.GenCall
import HandS.GenList
import PyProof.GenComp
import HandS.Property
import HandS.ClsMeth
import HandS.MakeKwOnly
import HandS.SetKeys
import HandS.DictComp
import HandS.Deep
import PyProof.ReprRoads
import PyProof.ReprDict
import PyProof.CallFns
import PyProof.FactsAll.dict
import HandS.Exc
import HandS.ExcOwn
import HandS.ExcInit
import HandS.ExcField
import HandS.ExcIs
import HandS.WordsExc
import KE.KExcIs
import HandS.ListItems
import PySem.Challenge.RW_stackeffect_k50_steps_of_several_stacks
set_option Elab.async false
set_option linter.all false
set_option maxRecDepth 100000
set_option maxHeartbeats 4000000
/-! Defs called where no repr is under way: their promise (GOk), their call, the law's head, and repr of plain data. -/
namespace SE
open PySem PySem.Spec PyProof.Rows L2

/-- the promise of a def whose caller has no repr under way -/
structure GOk (P : Program) (w : World) (K : PySem.W.Frag) (mg : Str → Option Value) (base : Heap) (k : Nat) (f : Addr) (fd : FuncData) (ps : List Str) (sp : Sp) : Prop where
  len : ∀ xs H Q E, sp xs H Q E → xs.length = ps.length
  run : ∀ (A : Around) (out : List Env) (s : Shared) (H : Hp) (args : Args) (us : List Value) (xs : List V) (Q : VK) (E : XK), A.guards = some [] → Room k A → Env0 P w K mg base A out s H →
    BindsTo s fd args (ps.zip us) → Vals xs us → sp xs H Q E → codeAny (model P w) A (.call (.ref f) args) (CR (fun _ _ _ _ _ _ => False) out P w H s Q E) s

section
variable {P : Program} {w : World} {K : PySem.W.Frag} {mg : Str → Option Value} {base : Heap}
theorem gok_of {k : Nat} {f : Addr} {nm ql : Str} {pars : Arguments} {bd : List Stmt} {sc : Scope} {dV kV doc pm cv ct oc : Value} {an od : Option Addr}
    {osl : Array (Option Value)} {N ps : List Str} {sp : Sp} (look : K.lookup f = some ⟨oc, od, .func (PySem.W.fnOf nm ql pars bd sc dV kV doc pm an cv ct), osl⟩) (hcode : PySem.W.codeIn K cv ql = true) (S : FnScope N ps sc)
    (len : ∀ xs H Q E, sp xs H Q E → xs.length = ps.length)
    (hbd : ∀ (A : Around) (out : List Env) (s : Shared) (H : Hp) (xs : List V) (Q : VK) (E : XK), A.guards = some [] → Room k (A.deeper (envOfC ql sc s.heap.objs.size f cv)) → sp xs H Q E →
      ∃ t, PSs (cxOf (fun _ _ _ _ _ _ => False) P w K mg base N ql sc f cv A out s H E) bd t ∧ t { nx := fun _ H2 => Q .non H2, rt := Q } (start N xs) H) :
    GOk P w K mg base (k + 1) f (PySem.W.fnOf nm ql pars bd sc dV kV doc pm an cv ct) ps sp := by
  constructor
  · exact len
  intro A out s H args us xs Q E hgu hroom env hbind hvals hpre
  have hlen := len _ _ _ _ hpre
  have kin : K.In s.heap := env.mod.kin.keeps fun b o z => (env.bs b o z).1
  have nolim : s.heap.NoLimit := env.mod.nolimit.keeps fun b o z => (env.bs b o z).1
  have kinds : ∀ y ∈ ps.zip us, sc.names.lookup y.1 = some .local ∨ (sc.names.lookup y.1 = some .cell ∧ ((cellsFrom (s.heap.objs.size + 1) sc.names []).lookup y.1).isSome = true) := by
    rintro ⟨n, v⟩ hy
    rcases S.par n (List.of_mem_zip hy).1 with q | q
    · exact .inl q
    · exact .inr ⟨q, PySem.W.cellsFrom_some _ _ _ (.inl q)⟩
  apply codeAny_call_function hroom.depth (kin _ _ look) rfl S.co S.gen rfl (PySem.W.codeRec_of kin hcode)
  apply hbind
  refine wpAny_newFunctionEnv_cells S.kind kinds fun ev hev s2 inc => ?_
  subst hev
  refine ⟨nolim.keeps inc.toInCall.keep, codeAny_func ?_⟩
  obtain ⟨t, der, rd⟩ := hbd A out s H xs Q E hgu (hroom.deeper _) hpre
  have J0 : Inv (cxOf (fun _ _ _ _ _ _ => False) P w K mg base N ql sc f cv A out s H E) [] (start N xs) H s2 := inv_start S hroom.hd env hlen hvals inc
  refine wpAny_mono (der.run [] s2 (start N xs) H _ J0 rd) (fun fl s3 hs => ?_) fun e s3 hs => hs
  cases fl with
  | ret u =>
    obtain ⟨v, σ3, H3, J, rv, q⟩ := hs
    exact ⟨v, H3, J.os, J.bare, J.base, J.hok, rv, q⟩
  | next =>
    obtain ⟨σ3, H3, J, q⟩ := hs
    exact ⟨V.non, H3, J.os, J.bare, J.base, J.hok, rfl, q⟩
  | brk => exact hs.elim fun _ z => z.elim fun _ z => z.2.elim
  | cont => exact hs.elim fun _ z => z.elim fun _ z => z.2.elim
theorem gok_mk {x ql : Str} {st : Stmt} {f : Addr} {fd : FuncData} {N ps : List Str} {k : Nat} {sp : Sp} (F : Fun K x ql st f fd) (S : FnScope N ps (defScope st)) (len : ∀ xs H Q E, sp xs H Q E → xs.length = ps.length)
    (hbd : ∀ (cv : Value) (A : Around) (out : List Env) (s : Shared) (H : Hp) (xs : List V) (Q : VK) (E : XK), A.guards = some [] → Room k (A.deeper (envOfC ql (defScope st) s.heap.objs.size f cv)) → sp xs H Q E →
      ∃ t, PSs (cxOf CX0 P w K mg base N ql (defScope st) f cv A out s H E).nox (defBody st) t ∧ t { nx := fun _ H2 => Q .non H2, rt := Q } (start N xs) H) : GOk P w K mg base (k + 1) f fd ps sp := by
  obtain ⟨oc, od, kV, doc, pm, an, cv, ct, osl, rfl, look, hcode⟩ := F.ex
  refine gok_of look hcode S len fun A out s H xs Q E hgu hr hpre => ?_
  obtain ⟨t, a, b⟩ := hbd cv A out s H xs Q E hgu hr hpre
  exact ⟨t, a.nox, b⟩
end

section
variable {X : Cx} {k : Nat} {f : Addr} {fd : FuncData} {ps : List Str} {sp : Sp} {x : Str} {p pos : Pos} {e : Expr} {es : List Expr} {t : TA}
theorem pe_callG (F : GOk X.prog X.w X.K X.mg X.base k f fd ps sp) (hgu : X.A.guards = some []) (hr : Room k X.A) (hg : Gl X x) (hm : X.mg x = some (.ref f)) (hk : PySem.W.keepIn X.K (.ref f) = true) (hb : Binds X.K fd ps [])
    (ha : PA X (e :: es) t) (hdb : (x == ("__debug__" : Str)) = false := by decide) (he : starEach (e :: es) X.env = (false, eval e X.env) :: starEach es X.env := by rfl) (hpl : (backTo pos (starEach es X.env)).any (·.1) = false := by rfl) :
    PE X (.Call (.Name x p) (e :: es) [] pos) (tCall sp [] (fun _ _ _ => False) t) := by
  constructor
  intro pins s σ H Q I h
  apply wpAny_Call_Name_kw
  apply ld_glob I hg hm _ hdb
  refine PySem.W.callWith_K (h₀ := X.base) I.ok.mod.kin hk (thn (ha.run pos pins s σ H _ I h) fun us s1 hh => ?_) he hpl
  obtain ⟨xs, H1, I1, r, q⟩ := hh
  refine ⟨I1.kIn, ?_⟩
  have q' : sp xs H1 Q (fun _ _ _ => False) := by rw [List.append_nil] at q; exact q
  have hl : us.length = ps.length := by rw [← r.length]; exact F.len _ _ _ _ q'
  have hb' := hb s1 us I1.kIn (by rw [List.append_nil]; exact hl)
  rw [List.append_nil] at hb'
  refine wpAny_call (codeAny_mono (F.run X.A X.stack s1 H1 ⟨us, []⟩ us xs Q _ hgu hr I1.env0 hb' r q') fun r2 s2 hq => ?_)
  cases r2 with
  | error _ => exact hq.elim
  | ok fl =>
    cases fl with
    | ret _ => exact I1.after hq
    | next => exact hq.elim
    | brk => exact hq.elim
    | cont => exact hq.elim
end

section
variable {X : Cx}
/-- repr(x), x plain data -/
def rRep (K : PySem.W.Frag) : List V → Hp → VK → Prop := fun xs H Q => ∃ (x : V) (d : PyData), xs = [x] ∧ Dp K H x d ∧ (∃ a, x = .ref a) ∧ d.showable = true ∧ d.hasDict = false ∧ d.depth ≤ 20 ∧ d.shown.length ≤ sizeLine ∧ Q (.str d.shown) H
theorem call_rep (hgu : X.A.guards = some []) (hu : X.A.units + 64 < cLine) : CallR X (.builtin "repr") (rRep X.K) := by
  intro pins s σ H xs us Q I r h
  obtain ⟨x, d, rfl, hd, ⟨a, rfl⟩, hs, hn, hdep, hz, q⟩ := h
  cases r with
  | cons r1 r2 =>
    cases r2
    cases r1
    obtain ⟨as, rd⟩ := Dp.reads I d (.ref a) (.ref a) hd rfl
    refine repr_of_reads' rd hs (PyData.noDict_hsm hn) hgu (by omega) (fun _ _ z => z) (fun h' u tk hk => ?_) hz
    exact ⟨.str d.shown, H, I.kept (t' := tk) hk, ⟨_, rfl⟩, q⟩
end
/-! ### the law's head -/
theorem lawG {P : Program} {w : World} {K : PySem.W.Frag} {mg mb : Str → Option Value} {k : Nat} {fa a : Addr} {fd : FuncData} {x : Str} {sp : Sp} {s1 : Shared} {vs : List Value} {ns : List Int}
    (kin : K.In s1.heap) (hns : s1.heap.Ns mainGlobals mg) (hbn : s1.heap.Ns builtinsNs mb) (hbb : ∀ x : Str, x ≠ "__name__" → mb x = bootBuiltins x) (nolim : s1.heap.NoLimit) (hg : s1.gens = #[])
    (hobj : s1.heap.get? a = some { cls := .type "list", data := .seq vs.toArray }) (hi : IntsAre vs ns) (hz : ns.length ≤ sizeLine) (hr : Room k callerA)
    (F : ∀ base : Heap, K.In base → base.Ns mainGlobals mg → GOk P w K mg base k fa fd [x] sp) (hbind : ∀ (s : Shared) (u : Value), BindsTo s fd ⟨[u], []⟩ [(x, u)])
    (hsp : ∀ H : Hp, SqL K H a (ns.map V.int) → sp [.ref a] H (fun v _ => v = .bl true) fun _ _ _ => False) :
    codeAny (model P w) callerA (.call (.ref fa) ⟨[.ref a], []⟩) (fun r s2 => r = .ok (.ret (.bool true)) ∧ OldK s1.heap s2.heap ∧ s2.os = s1.os ∧ AllBare s2.gens) s1 := by
  have rel := vals_ints hi
  have same := hi.length
  have go : ∀ H : Hp, (∀ b u, H b = some u → b = a ∧ K.lookup a = none ∧ ∃ o xs, u = .frz o (.lst xs)) → SqL K H a (ns.map V.int) → HOk P w H s1.heap →
      codeAny (model P w) callerA (.call (.ref fa) ⟨[.ref a], []⟩) (fun r s2 => r = .ok (.ret (.bool true)) ∧ OldK s1.heap s2.heap ∧ s2.os = s1.os ∧ AllBare s2.gens) s1 := by
    intro H only hS hok
    have free : ∀ {b : Addr}, b ≠ a → H b = none := fun {b} hb => by
      cases q : H b with
      | none => rfl
      | some u => exact absurd (only b u q).1 hb
    have freeD : ∀ {b : Addr} {o : Obj} {es : Array DictEntry} {ep : Nat}, s1.heap.get? b = some o → o.data = .dict es ep → H b = none := fun {b o es ep} e d => by
      by_cases hb : b = a
      · subst hb
        rw [hobj] at e
        cases e
        cases d
      · exact free hb
    have ns2 : ∀ {b : Addr} {m : Str → Option Value}, s1.heap.Ns b m → (hidT s1.heap H).Ns b m := by
      rintro b m ⟨o, es, ep, e, d, r⟩
      exact ⟨o, es, ep, hidT_get e (freeD e d), d, r⟩
    have kin2 : K.In (hidT s1.heap H) := by
      intro b o e
      refine hidT_get (kin b o e) ?_
      cases q : H b with
      | none => rfl
      | some u =>
        obtain ⟨eb, nk, _⟩ := only b u q
        subst eb
        rw [nk] at e
        cases e
    have mod : Mod K mg (hidT s1.heap H) := by
      refine ⟨kin2, ns2 hns, ⟨mb, ns2 hbn, hbb⟩, ?_⟩
      obtain ⟨mc, h1, h2⟩ := nolim
      exact ⟨mc, ns2 h1, h2⟩
    have env : Env0 P w K mg (hidT s1.heap H) callerA [] s1 H :=
      ⟨rfl, mod, fun b o e => of_hidT e, Nat.le_of_eq (hidT_size _ _), trivial, fun b hb => (by cases (show b ∈ ([] : List Addr) from hb)), hok, .of_eq hg⟩
    have runs := (F _ kin2 (ns2 hns)).run callerA [] s1 H ⟨[.ref a], []⟩ [.ref a] [.ref a] (fun v _ => v = .bl true) (fun _ _ _ => False) rfl hr env (hbind s1 (.ref a)) (.cons rfl .nil) (hsp H hS)
    refine codeAny_mono runs fun r s2 h => ?_
    cases r with
    | error _ => exact h.elim
    | ok fl =>
      cases fl with
      | next => exact h.elim
      | brk => exact h.elim
      | cont => exact h.elim
      | ret u =>
        obtain ⟨v, H2, os, bare, un, hok2, r2, q⟩ := h
        have q2 : v = .bl true := q
        subst q2
        obtain rfl : u = Value.bool true := r2
        refine ⟨rfl, OldK.of_keep fun b o e => ?_, os, bare⟩
        cases z : H b with
        | none => exact un.keep b o e z (fun m => by cases (show b ∈ ([] : List Addr) from m)) (fun m => by cases m)
        | some u2 =>
          obtain ⟨_, _, ob, ys, eu⟩ := only b u2 z
          subst eu
          obtain ⟨e1, _⟩ := hok b _ z
          obtain ⟨e2, _⟩ := hok2 b _ (un.frzs b ob _ z)
          rw [e] at e1
          cases e1
          exact e2
  cases hk : K.lookup a with
  | some o =>
    have e := kin a o hk
    rw [hobj] at e
    cases e
    refine go (fun _ => none) (fun b u z => nomatch z) (.inr ⟨_, vs.toArray, _, hk, rfl, rfl, rfl, by rw [List.size_toArray, same]; exact hz, by simpa using rel⟩) (fun b u z => nomatch z)
  | none =>
    have at1 : ∀ {b : Addr} {u : HO}, (if b = a then some (HO.frz { cls := .type "list", data := .seq vs.toArray } (.lst (ns.map V.int))) else none) = some u → b = a ∧ u = .frz { cls := .type "list", data := .seq vs.toArray } (.lst (ns.map V.int)) := fun {b u} z => by
      by_cases hb : b = a
      · rw [if_pos hb] at z
        cases z
        exact ⟨hb, rfl⟩
      · rw [if_neg hb] at z
        cases z
    refine go (fun b => if b = a then some (.frz { cls := .type "list", data := .seq vs.toArray } (.lst (ns.map V.int))) else none) (fun b u z => ?_) (.inl (.inr ⟨{ cls := .type "list", data := .seq vs.toArray }, if_pos rfl⟩)) (fun b u z => ?_)
    · obtain ⟨e1, e2⟩ := at1 z
      exact ⟨e1, hk, _, _, e2⟩
    · obtain ⟨e1, e2⟩ := at1 z
      subst e1
      subst e2
      exact ⟨hobj, by rw [List.length_map]; exact hz, vs, _, rel, hobj⟩
theorem walkG {l : PySem.W.OpenLaw} {n k : Nat} {q : Program} {loose : List Str} {XP : (Str → Option Value) → Heap → Prop} {YP : World → Heap → Prop} {d : DefRec} {K : Params → PySem.W.Frag} {sp : PySem.W.Frag → Sp} {x : Str}
    (hn : l.most = some n) (hn2 : n ≤ sizeLine) (hdf : d.params.defaults = []) (hr : Room k callerA) (hY : ∀ (w : World) (h : Heap), YP w h → (K w.params).In h)
    (F : ∀ (w : World) (mg : Str → Option Value) (fa : Addr) (h : Heap), (K w.params).In h → h.Ns mainGlobals mg → mg d.name = some (.ref fa) →
      ∃ fd : FuncData, (∀ (s : Shared) (u : Value), BindsTo s fd ⟨[u], []⟩ [(x, u)]) ∧ ∀ base : Heap, (K w.params).In base → base.Ns mainGlobals mg → GOk l.prog w (K w.params) mg base k fa fd [x] (sp (K w.params)))
    (hsp : ∀ (K : PySem.W.Frag) (H : Hp) (a : Addr) (ns : List Int), ns.length ≤ n → SqL K H a (ns.map V.int) → sp K [.ref a] H (fun v _ => v = .bl true) fun _ _ _ => False) :
    PySem.W.WalkO q loose XP YP l.row.toRowW d [] (fun f vs => PySem.call f vs) := by
  apply Att.attach_call hn hdf
  intro w s0 s1 mg mb fa o pm cd doc a vs ns G Y ho hd hcd hmg hobj hints hlen hg
  have kin := hY w _ Y
  obtain ⟨fd, hb, hF⟩ := F w mg fa _ kin G.T.g hmg
  exact lawG kin G.T.g G.T.b G.T.builtins G.T.nolimit hg hobj hints (Nat.le_trans hlen hn2) hr hF hb fun H hS => hsp _ H a ns hlen hS
end SE
/-! Defs by their names. -/
namespace SE
open PySem PySem.Spec PyProof.Rows L2
section
variable {P : Program} {w : World} {K : PySem.W.Frag} {mg : Str → Option Value} {base : Heap}
/-- the def st stands under its name -/
def Def (K : PySem.W.Frag) (mg : Str → Option Value) (x : Str) (st : Stmt) : Prop := ∃ f fd, Fun K x x st f fd ∧ mg x = some (.ref f)
/-- a def that keeps the promise sp stands under the name x; dvs: the values of its defaults -/
def Has (P : Program) (w : World) (K : PySem.W.Frag) (mg : Str → Option Value) (base : Heap) (x : Str) (k : Nat) (ps : List Str) (dvs : List V) (sp : Sp) : Prop :=
  ∃ f fd ds, FnOk P w K mg base CX0 k f fd ps sp ∧ mg x = some (.ref f) ∧ PySem.W.keepIn K (.ref f) = true ∧ Binds K fd ps ds ∧ Vals dvs ds ∧ ∃ st, Fun K x x st f fd
def GHas (P : Program) (w : World) (K : PySem.W.Frag) (mg : Str → Option Value) (base : Heap) (x : Str) (k : Nat) (ps : List Str) (sp : Sp) : Prop :=
  ∃ f fd, GOk P w K mg base k f fd ps sp ∧ mg x = some (.ref f) ∧ PySem.W.keepIn K (.ref f) = true ∧ Binds K fd ps []
abbrev Bx (P : Program) (w : World) (K : PySem.W.Frag) (mg : Str → Option Value) (base : Heap) (N : List Str) (x : Str) (st : Stmt) (f : Addr) (cv : Value) (A : Around) (out : List Env) (s : Shared) (H : Hp) (E : XK) : Cx :=
  (cxOf CX0 P w K mg base N x (defScope st) f cv A out s H E).nox
theorem has_of {x : Str} {st : Stmt} {N ps : List Str} {k : Nat} {sp : Sp} (D : Def K mg x st) (S : FnScope N ps (defScope st))
    (hb : ∀ (kV doc pm : Value) (an : Option Addr) (cv ct : Value) (us : List Value), us.length = ps.length → bindArgs (PySem.W.fnOf x x (defArgs st) (defBody st) (defScope st) .none kV doc pm an cv ct) ⟨us, []⟩ = pure (ps.zip us))
    (len : ∀ xs H Q E, sp xs H Q E → xs.length = ps.length)
    (hbd : ∀ (f : Addr) (cv : Value) (A : Around) (out : List Env) (s : Shared) (H : Hp) (xs : List V) (Q : VK) (E : XK), Room k (A.deeper (envOfC x (defScope st) s.heap.objs.size f cv)) → sp xs H Q E →
      ∃ t, PSs (Bx P w K mg base N x st f cv A out s H E) (defBody st) t ∧ t { nx := fun _ H2 => Q .non H2, rt := Q } (start N xs) H) : Has P w K mg base x (k + 1) ps [] sp := by
  obtain ⟨f, fd, F, hm⟩ := D
  exact ⟨f, fd, [], F.ok S len fun cv A out s H xs Q E hr h => hbd f cv A out s H xs Q E hr h, hm, F.kp, F.binds hb, .nil, st, F⟩
theorem ghas_of {x : Str} {st : Stmt} {N ps : List Str} {k : Nat} {sp : Sp} (D : Def K mg x st) (S : FnScope N ps (defScope st))
    (hb : ∀ (kV doc pm : Value) (an : Option Addr) (cv ct : Value) (us : List Value), us.length = ps.length → bindArgs (PySem.W.fnOf x x (defArgs st) (defBody st) (defScope st) .none kV doc pm an cv ct) ⟨us, []⟩ = pure (ps.zip us))
    (len : ∀ xs H Q E, sp xs H Q E → xs.length = ps.length)
    (hbd : ∀ (f : Addr) (cv : Value) (A : Around) (out : List Env) (s : Shared) (H : Hp) (xs : List V) (Q : VK) (E : XK), A.guards = some [] → Room k (A.deeper (envOfC x (defScope st) s.heap.objs.size f cv)) → sp xs H Q E →
      ∃ t, PSs (Bx P w K mg base N x st f cv A out s H E) (defBody st) t ∧ t { nx := fun _ H2 => Q .non H2, rt := Q } (start N xs) H) : GHas P w K mg base x (k + 1) ps sp := by
  obtain ⟨f, fd, F, hm⟩ := D
  exact ⟨f, fd, gok_mk F S len fun cv A out s H xs Q E hg hr h => hbd f cv A out s H xs Q E hg hr h, hm, F.kp, F.binds hb⟩
theorem Has.mono {x : Str} {j k : Nat} {ps : List Str} {dvs : List V} {sp : Sp} (h : Has P w K mg base x j ps dvs sp) (hk : j ≤ k) : Has P w K mg base x k ps dvs sp := by
  obtain ⟨f, fd, ds, F, r⟩ := h
  exact ⟨f, fd, ds, F.mono hk, r⟩
theorem Has.fun {x : Str} {k : Nat} {ps : List Str} {dvs : List V} {sp : Sp} {st : Stmt} (h : Has P w K mg base x k ps dvs sp) (D : Def K mg x st) : ∃ f fd, FnOk P w K mg base CX0 k f fd ps sp ∧ mg x = some (.ref f) ∧ PySem.W.keepIn K (.ref f) = true ∧ Fun K x x st f fd := by
  obtain ⟨f, fd, ds, G, hm, hk, hb, hd, st2, F2⟩ := h
  obtain ⟨g, fe, F, hg⟩ := D
  have e : f = g := by
    rw [hm] at hg
    cases hg
    rfl
  subst e
  have e2 : fd = fe := by
    obtain ⟨_, _, _, _, _, _, _, _, _, _, l1, _⟩ := F.ex
    obtain ⟨_, _, _, _, _, _, _, _, _, _, l2, _⟩ := F2.ex
    rw [l1] at l2
    cases l2
    rfl
  subst e2
  exact ⟨f, fd, G, hm, hk, F⟩
end
section
variable {X : Cx} {k : Nat} {ps : List Str} {sp : Sp} {x : Str} {p pos : Pos} {e : Expr} {es : List Expr} {t : TA} {dvs : List V}
theorem pe_has (h : Has X.prog X.w X.K X.mg X.base x k ps dvs sp) (hr : Room k X.A) (ha : PA X (e :: es) t) (hg : Gl X x := by rfl) (hdb : (x == ("__debug__" : Str)) = false := by decide)
    (he : starEach (e :: es) X.env = (false, eval e X.env) :: starEach es X.env := by rfl) (hpl : (backTo pos (starEach es X.env)).any (·.1) = false := by rfl) : PE X (.Call (.Name x p) (e :: es) [] pos) (tCall sp dvs E0 t) := by
  obtain ⟨f, fd, ds, F, hm, hk, hb, hd, _⟩ := h
  exact pe_call F hr hg hm hk hb hd pass0 ha hdb he hpl
theorem pe_ghas (h : GHas X.prog X.w X.K X.mg X.base x k ps sp) (hgu : X.A.guards = some []) (hr : Room k X.A) (ha : PA X (e :: es) t) (hg : Gl X x := by rfl) (hdb : (x == ("__debug__" : Str)) = false := by decide)
    (he : starEach (e :: es) X.env = (false, eval e X.env) :: starEach es X.env := by rfl) (hpl : (backTo pos (starEach es X.env)).any (·.1) = false := by rfl) : PE X (.Call (.Name x p) (e :: es) [] pos) (tCall sp [] E0 t) := by
  obtain ⟨f, fd, F, hm, hk, hb⟩ := h
  exact pe_callG F hgu hr hg hm hk hb ha hdb he hpl
end
/-! ### heaps -/
theorem Same.tup {K : PySem.W.Frag} {H H' : Hp} {a : Addr} {xs : List V} (e : Same H H') (h : SqT K H a xs) : SqT K H' a xs := by
  rcases h with (h | ⟨o, h⟩) | h
  · exact .inl (.inl (e _ _ h))
  · exact .inl (.inr ⟨o, e _ _ h⟩)
  · exact .inr h
theorem Same.new {H : Hp} {p : Addr} {o : HO} (h : H p = none) : Same H (upd H p o) := fun b u z => by
  rw [upd_ne (ne_of_none z h)]
  exact z
/-- all but what stands at p -/
def But (p : Addr) (H H' : Hp) : Prop := ∀ b o, b ≠ p → H b = some o → H' b = some o
theorem But.refl (p : Addr) (H : Hp) : But p H H := fun _ _ _ h => h
theorem But.trans {p : Addr} {H H1 H2 : Hp} (a : But p H H1) (b : But p H1 H2) : But p H H2 := fun c o n h => b c o n (a c o n h)
theorem But.of {p : Addr} {H H1 : Hp} (a : Same H H1) : But p H H1 := fun c o _ h => a c o h
theorem But.at {p : Addr} {H : Hp} {o : HO} : But p H (upd H p o) := fun c u n h => by
  rw [upd_ne n]
  exact h
/-- what H does not know may change -/
theorem But.free {p q : Addr} {H H1 : Hp} {o : HO} (a : But p H H1) (h : H q = none) : But p H (upd H1 q o) := fun c u n z => by
  rw [upd_ne (ne_of_none z h)]
  exact a c u n z
theorem Same.free2 {q : Addr} {H H1 : Hp} {o : HO} (a : Same H H1) (h : H q = none) : Same H (upd H1 q o) := fun c u z => by
  rw [upd_ne (ne_of_none z h)]
  exact a c u z
theorem But.none {p q : Addr} {H H1 : Hp} (a : But p H H1) (n : q ≠ p) (h : H1 q = Option.none) : H q = Option.none := by
  cases z : H q with
  | none => rfl
  | some o =>
    rw [a q o n z] at h
    cases h
/-! ### the drawn numbers -/
/-- a pool: two numbers -/
structure Pool (H : Hp) (p : Addr) : Prop where
  ex : ∃ m s : Int, H p = some (.lst [.int m, .int s]) ∧ 0 ≤ m ∧ 0 ≤ s ∧ s < 2147483647
theorem Pool.ne {H : Hp} {p t : Addr} {xs : List V} (h : Pool H p) (ht : H t = some (.tup xs)) : t ≠ p := by
  obtain ⟨m, s, e, _⟩ := h.ex
  intro z
  rw [z, e] at ht
  cases ht
theorem Pool.free {H : Hp} {p q : Addr} (h : Pool H p) (hq : H q = none) : q ≠ p := by
  obtain ⟨m, s, e, _⟩ := h.ex
  intro z
  rw [z, e] at hq
  cases hq
theorem Pool.same {H H' : Hp} {p : Addr} (h : Pool H p) (s : Same H H') : Pool H' p := by
  obtain ⟨m, n, e, r⟩ := h.ex
  exact ⟨m, n, s _ _ e, r⟩
theorem Pool.upd {H : Hp} {p q : Addr} {o : HO} (h : Pool H p) (n : q ≠ p) : Pool (L2.upd H q o) p := by
  obtain ⟨m, k, e, r⟩ := h.ex
  exact ⟨m, k, by rw [upd_ne (Ne.symm n)]; exact e, r⟩
end SE
/-! enumerate(t) and t[::-1] of a tuple. -/
namespace SE
open PySem PySem.Spec PyProof.Rows L2
section
open Sem (wp)
open AutoSeq1 (wpAny_loadPart')
theorem meets_enum_newT (t : Addr) (items : Array Value) (n : Nat) (dct : Option Addr) (sl : Array (Option Value)) :
    Meets (Builtin.«enumerate.__new__» ⟨[.type "enumerate", .ref t], []⟩) (fun _ R s => s.heap.get? t = some { cls := .type "tuple", dict := dct, data := .seq items n, slots := sl } ∧
      R (.ok (.ret (.ref (s.heap.push { cls := .type "tuple_iterator", data := .fields #[.ref t, .int 0 0] }).objs.size)))
        { s with heap := (s.heap.push { cls := .type "tuple_iterator", data := .fields #[.ref t, .int 0 0] }).push { cls := .type "enumerate", data := .fields #[.none, .bool false, .ref s.heap.objs.size, rawInt 0, .none, .none] } }) := by
  refine .of_wp fun prog w A R s h => ?_
  obtain ⟨hp, g, d, tk, os⟩ := s
  obtain ⟨ht, h⟩ := h
  have hsub := sub_enumerate
  have hT : Heap.IsTuple (Shared.heap ⟨hp, g, d, tk, os⟩) t items := ⟨_, ht, rfl, n, rfl⟩
  wp_walk using wpAny_loadPart' ht
  refine wpAny_stack_any fun st => wpAny_pure ?_
  split
  · rename_i c _ _ _ _ _
    cases (c == Value.type "enumerate")
    · wp_walk using wpAny_loadPart' ht, wpAny_pyIter_tuple hT
      exact ⟨_, rfl, h⟩
    · wp_walk using wpAny_loadPart' ht, wpAny_pyIter_tuple hT
      exact ⟨_, rfl, h⟩
  · wp_walk using wpAny_loadPart' ht, wpAny_pyIter_tuple hT
    exact ⟨_, rfl, h⟩
end
section
variable {prog : Program} {w : World} {A : Around} {E : Value → Shared → Prop} {s : Shared}
theorem call_enumT {t : Addr} {items : Array Value} {Q : Value → Shared → Prop} (hT : s.heap.IsTuple t items)
    (h : ∀ h', IsEnum h' (s.heap.objs.size + 1) s.heap.objs.size 0 .none → h'.IsTupleIter s.heap.objs.size t 0 → (∀ b o, s.heap.get? b = some o → h'.get? b = some o) → Q (.ref (s.heap.objs.size + 1)) { s with heap := h' }) :
    wpAny (model prog w) A (call (.type "enumerate") [.ref t]) Q E s := by
  obtain ⟨⟨c, dct, dt, sl⟩, ht, hc, n, hd⟩ := hT
  simp only at hc hd
  subst hc hd
  refine callType_new F.called_enumerate (by decide) (F.typeCall_enumerate_1 _) (F.newCall_enumerate_1 _) (fun obj => F.args_object_init_2 obj _) F.entry_enumerate_new (meets_enum_newT t items n dct sl) ⟨ht, ?_⟩
  have hz : (s.heap.push { cls := .type "tuple_iterator", data := .fields #[.ref t, .int 0 0] }).objs.size = s.heap.objs.size + 1 := Heap.size_push ..
  show _ ∧ _
  rw [hz]
  have he : IsEnum ((s.heap.push { cls := .type "tuple_iterator", data := .fields #[.ref t, .int 0 0] }).push
      { cls := .type "enumerate", data := .fields #[.none, .bool false, .ref s.heap.objs.size, rawInt 0, .none, .none] }) (s.heap.objs.size + 1) s.heap.objs.size 0 .none := by
    have z := Heap.get?_push_size (s.heap.push { cls := .type "tuple_iterator", data := .fields #[.ref t, .int 0 0] })
      (o := { cls := .type "enumerate", data := .fields #[.none, .bool false, .ref s.heap.objs.size, rawInt 0, .none, .none] }) rfl
    rw [hz] at z
    exact z
  exact ⟨⟨_, he, rfl⟩, h _ he ⟨_, Heap.get?_push_of_some _ (Heap.get?_push_size _ rfl), rfl, rfl⟩ fun b o x => Heap.get?_push_of_some _ (Heap.get?_push_of_some _ x)⟩
end
/-- the tuple at a, each item in a new pair -/
def ItE (K : PySem.W.Frag) (a : Addr) : It :=
  ⟨fun i H => ∃ (xs : List V) (x : V), SqT K H a xs ∧ xs[i]? = some x, fun i H v H' => ∃ T x, v = .ref T ∧ H T = none ∧ H' = upd H T (.tup [.int (i : Nat), x]) ∧ ∀ xs, SqT K H a xs → xs[i]? = some x, fun i H => ∃ xs : List V, SqT K H a xs ∧ xs.length ≤ i⟩
theorem turn_enumT {P : Program} {w : World} {K : PySem.W.Frag} {elts : List Expr} {kk : Nat} {tpos : Pos} (a e it : Addr) :
    Turn P w K (.Tuple elts kk tpos) (ItE K a) [e, it] e (fun i h => (∃ old, IsEnum h e it ((i : Nat) : Int) old) ∧ h.IsTupleIter it a i ∧ e ≠ it ∧ a ≠ it ∧ a ≠ e) where
  mem := by simp
  obj := fun i h st b hb => by
    obtain ⟨⟨old, he⟩, ⟨o, ho, hc, hd⟩, _⟩ := st
    have ee : b = e ∨ b = it := by simpa using hb
    rcases ee with z | z
    · rw [z]
      exact ⟨_, he, fun v q => nomatch q⟩
    · rw [z]
      exact ⟨o, ho, fun v q => by rw [hd] at q; cases q⟩
  keep := fun i h h' st k => by
    obtain ⟨⟨old, he⟩, hi, hne⟩ := st
    exact ⟨⟨old, k e (by simp) _ he⟩, (let ⟨o, ho, r⟩ := hi; ⟨o, k it (by simp) o ho, r⟩), hne⟩
  item := by
    intro X hP hw hK hc i pins s σ H E I hf st hg
    subst hP hw hK
    obtain ⟨⟨old, he⟩, hit, hne, hai, hae⟩ := st
    obtain ⟨xs, x, hq, hx⟩ := hg
    obtain ⟨its, rv, p, hz⟩ := I.tuple hq
    obtain ⟨u, hu, ru⟩ := rv.get hx
    have hel : e < s.heap.objs.size := Heap.lt_size he
    have hil : it < s.heap.objs.size := by
      obtain ⟨_, q, _⟩ := hit
      exact Heap.lt_size q
    have hlt : i < its.toArray.size := by
      rw [List.size_toArray, ← rv.length]
      exact (List.getElem?_eq_some_iff.mp hx).1
    have D : Draws X.prog X.w X.A.in1 it [it, a] its.toArray.size (fun j v => its.toArray[j]? = some v) (fun j h => h.IsTupleIter it a j ∧ h.IsTuple a its.toArray) := Draws.tuple (A := X.A.in1) (I.ok.hd hc) it a hai its.toArray
    refine wpAny_pyNext_enum_itemD D he ⟨hit, p⟩ hlt hne (by simp [Ne.symm hae, hne]) fun v h1 tk hv ho hit1 hT hsz hk => ?_
    have ev : v = u := by
      have z : some v = some u := by rw [← hv]; simpa using hu
      exact Option.some.inj z
    subst ev
    refine ⟨_, rfl, wpAny_letOwnedTupleGo_enum (s := { s with heap := h1, toks := tk + 1 }) ho fun h2 he2 sb => ?_⟩
    have hT2 : h2.get? s.heap.objs.size = some { cls := .type "tuple", data := .seq #[.int i tk, v] } := (sb.2 _ (Nat.ne_of_gt hel)).trans hT
    have new : ObjOk X.prog X.w (upd H s.heap.objs.size (.tup [.int (i : Nat), x])) h2 s.heap.objs.size (.tup [.int (i : Nat), x]) :=
      ⟨by show 2 ≤ sizeLine; decide, [.int i tk, v], .cons ⟨_, rfl⟩ (.cons ru .nil), ⟨_, hT2, rfl, _, rfl⟩⟩
    have J : Inv X pins σ (upd H s.heap.objs.size (.tup [.int (i : Nat), x])) { s with heap := h2, toks := tk + 1 } :=
      I.turnedNew (ch := [e, it]) (fun b ob hb q => (sb.2 b (fun z => hb (by simp [z]))).trans (hk b ob (fun z => hb (by simp [z])) (fun z => hb (by simp [z])) q)) hf (Nat.le_refl _) new
    refine ⟨.ref s.heap.objs.size, _, J, rfl, ⟨_, x, rfl, I.hok.fresh (Nat.le_refl _), rfl, fun ys hy => by rw [I.tuple_inj hy hq]; exact hx⟩, ⟨⟨v, ?_⟩, ?_, hne, hai, hae⟩, fun b hb => ?_⟩
    · have e1 : ((i + 1 : Nat) : Int) = (i : Int) + 1 := by omega
      rw [e1]
      exact he2
    · obtain ⟨o, ho2, r⟩ := hit1.1
      exact ⟨o, (sb.2 it (Ne.symm hne)).trans ho2, r⟩
    · have hb2 : b < s.heap.objs.size := by
        have ee : b = e ∨ b = it := by simpa using hb
        rcases ee with z | z
        · rw [z]; exact hel
        · rw [z]; exact hil
      rw [upd_ne (Nat.ne_of_lt hb2)]
      exact (hf b hb).1
  done := by
    intro X hP hw hK hc i pins s σ H E I hf st hg
    subst hP hw hK
    obtain ⟨⟨old, he⟩, hit, hne, hai, hae⟩ := st
    obtain ⟨xs, hq, hx⟩ := hg
    obtain ⟨its, rv, p, hz⟩ := I.tuple hq
    obtain ⟨f0, f1, f2, f3, f4, f5⟩ := hf it (by simp)
    have hl := rv.length
    have D : Draws X.prog X.w X.A.in1 it [it, a] i (fun j v => its.toArray[j]? = some v) (fun j h => j = i ∧ h.IsTupleIter it a i ∧ h.IsTuple a its.toArray ∧ its.toArray.size ≤ i) := by
      have D0 := Draws.tuple (prog := X.prog) (w := X.w) (A := X.A.in1) (I.ok.hd hc) it a hai its.toArray
      refine ⟨fun j h z => D0.live i h ⟨z.2.1, z.2.2.1⟩, fun j h h' z k => ⟨z.1, (D0.frame i h h' ⟨z.2.1, z.2.2.1⟩ k).1, (D0.frame i h h' ⟨z.2.1, z.2.2.1⟩ k).2, z.2.2.2⟩, fun j s Q E hj z k => ?_, fun s Q E z k => ?_⟩
      · exact absurd z.1 (Nat.ne_of_lt hj)
      · exact wpAny_nextOf_tuple_end (I.ok.hd hc) z.2.1 z.2.2.1 (Array.getElem?_eq_none z.2.2.2) k
    exact wpAny_pyNext_enum_endD D he ⟨rfl, hit, p, by rw [List.size_toArray]; omega⟩ fun h' eb => ⟨rfl, I.turned (t' := s.toks) (fun b o hb q => eb b o hb q) f0 f1 f3 f4 f5⟩
  self := fun A i s Q E st h => let ⟨⟨_, he⟩, _⟩ := st; wpAny_pyIter_enum he h
def iEnumT (K : PySem.W.Frag) (ta : TA) : TI := fun σ H R => ta σ H fun vs H1 => ∃ a xs, vs = [.ref a] ∧ SqT K H1 a xs ∧ R (ItE K a) H1
theorem pi_enumT {X : Cx} {e : Expr} {ta : TA} {p pos tpos : Pos} {elts : List Expr} {kk : Nat} (hg : Gl X "enumerate") (hm : X.mg "enumerate" = none) (ha : PA X [e] ta) (hs : starEach [e] X.env = [(false, eval e X.env)] := by rfl) :
    PI X (.Tuple elts kk tpos) (.Call (.Name "enumerate" p) [e] [] pos) (iEnumT X.K ta) := by
  constructor
  intro pins s σ H R I h
  refine Call_ (ld_blt I hg hm boot_enumerate (PyProof.Rows.callWith_type1 (thn (ha.run pos pins s σ H _ I h) fun us s1 hh => ?_) hs rfl))
  obtain ⟨vs, H1, I1, r1, a, xs, ex, hq, q⟩ := hh
  subst ex
  cases r1 with
  | cons r rr =>
    cases rr
    cases r
    obtain ⟨its, rv, p2, hz⟩ := I1.tuple hq
    refine call_enumT p2 fun h2 he hit hk => wpAny_pyIter_enum he ?_
    have I2 : Inv X pins σ H1 { s1 with heap := h2 } := I1.kept (t' := s1.toks) hk
    have hlt : a < s1.heap.objs.size := p2.lt
    refine ⟨s1.heap.objs.size + 1, [s1.heap.objs.size + 1, s1.heap.objs.size], _, _, H1, rfl, I2, turn_enumT a (s1.heap.objs.size + 1) s1.heap.objs.size, ⟨⟨.none, he⟩, hit, Nat.succ_ne_self _, Nat.ne_of_lt hlt, Nat.ne_of_lt (Nat.lt_succ_of_lt hlt)⟩, fun b hb => ?_, q⟩
    have ee : b = s1.heap.objs.size + 1 ∨ b = s1.heap.objs.size := by simpa using hb
    have hle : s1.heap.objs.size ≤ b := by
      rcases ee with z | z
      · rw [z]; exact Nat.le_add_right _ _
      · rw [z]; exact Nat.le_refl _
    exact I1.fpOk hle (I1.hok.fresh hle)
/-! ### t[::-1] -/
section
variable {prog : Program} {w : World} {A : Around} {E : Value → Shared → Prop} {s : Shared}
theorem back_pick (xs : Array Value) (n : Nat) (hn : n = xs.size) : (List.range n).filterMap (fun (m : Nat) => xs[(((n : Int) - 1) + (m : Int) * (-1)).toNat]?) = xs.toList.reverse := by
  subst hn
  have e : (fun (m : Nat) => xs[(((xs.size : Nat) : Int) - 1 + (m : Int) * (-1)).toNat]?) = fun m => xs[xs.size - 1 - m]? := by
    funext m
    have z : (((xs.size : Nat) : Int) - 1 + (m : Int) * (-1)).toNat = xs.size - 1 - m := by omega
    rw [z]
  rw [e]
  have a := PySem.W.krv_pick xs
  have b : PySem.slicePick xs none none (some (-1)) = ((List.range xs.size).filterMap fun m => xs[xs.size - 1 - m]?).toArray := by
    unfold PySem.slicePick
    rw [PySem.W.krv_bounds]
    show ((PySem.sliceRange ((xs.size : Int) - 1) (-1) (-1)).filterMap (xs[·]?)).toArray = _
    rw [PySem.W.krv_sliceRange, List.filterMap_map]
    rfl
  have c := a.symm.trans b
  have d := congrArg Array.toList c
  exact d.symm
theorem applied_back {sl : Addr} {vs : Value} {n : Nat} {Q : Int × Int × Nat → Shared → Prop} (hs : s.heap.IsSliceOf sl .none .none vs) (pv : IsPart vs (some (-1)))
    (h : Q ((n : Int) - 1, -1, n) s) : wpAny (model prog w) A (Builtin.Slice.sliceApplied (.ref sl) (pure (n : Int))) Q E s := by
  obtain ⟨os, hos, hcs, hds⟩ := id hs
  unfold Builtin.Slice.sliceApplied Builtin.Slice.sliceFields
  refine wpAny_bind (wpAny_bind (wpAny_field hos hds (x := .none) rfl (wpAny_bind (wpAny_field hos hds (x := .none) rfl (wpAny_bind (wpAny_field hos hds (x := vs) rfl (wpAny_pure ?_)))))))
  refine wpAny_bind (HT.slicePart_ pv ?_)
  show wpAny _ _ (if ((-1 : Int) == 0) = true then _ else _) _ _ s
  rw [if_neg (by decide)]
  refine wpAny_bind (HT.slicePart_ .none (wpAny_bind (HT.slicePart_ .none (wpAny_bind (wpAny_pure ?_)))))
  show wpAny _ _ (pure ((n : Int) - 1, (-1 : Int), Builtin.Slice.slicePlaces ((n : Int) - 1) (-1) (-1))) _ _ s
  have e : Builtin.Slice.slicePlaces ((n : Int) - 1) (-1) (-1) = n := by
    unfold Builtin.Slice.slicePlaces
    rw [if_neg (by decide)]
    by_cases hn : (n : Int) - 1 > -1
    · rw [if_pos hn, show (- -1 : Int) = 1 by decide, Int.ediv_one]
      omega
    · rw [if_neg hn]
      omega
  rw [e]
  exact wpAny_pure h
theorem item_back {t sl : Addr} {items : Array Value} {vs : Value} {Q : Value → Shared → Prop} (ht : IsTup s.heap t items) (hs : s.heap.IsSliceOf sl .none .none vs) (pv : IsPart vs (some (-1)))
    (h : Q (.ref s.heap.objs.size) { s with heap := s.heap.push { cls := .type "tuple", data := .seq items.toList.reverse.toArray } }) (hsz : items.size ≤ sizeLine) : wpAny (model prog w) A (getItem (.ref t) (.ref sl)) Q E s := by
  have hok : sizeOk (.seq items.toList.reverse.toArray) := by
    show items.toList.reverse.toArray.size ≤ sizeLine
    rw [List.size_toArray, List.length_reverse, Array.length_toList]
    exact hsz
  obtain ⟨os, hos, hcs, hds⟩ := id hs
  have hTs : s.TypeIs (.ref sl) "slice" := ⟨os, hos, hcs⟩
  unfold getItem
  try with_reducible refine wpAny_holding ?_
  first | refine wpAny_bind (wpAny_pure ?_) | skip
  refine wpAny_bind (wpAny_sequenceKey ht.typeIs (by decide) ?_)
  refine wpAny_bind (wpAny_callSpecial?_slot (name := Str.ofString "__getitem__") ht.typeIs PyProof.Rows.slot_tuple_getitem (wpAny_call_entry PyProof.Rows.slot_tuple_getitem ht.typeIs entry_tuple_getitem ?_ (args_tuple_getitem _ _)))
  show wpAny _ _ (Builtin.Tuple.tupleItemsOf (.ref t) >>= _) _ _ s
  refine wpAny_bind (tupleItemsOf_ ht ?_)
  refine wpAny_bind (wpAny_typeOf hTs ?_)
  rw [if_pos (by decide)]
  refine wpAny_bind (applied_back hs pv ?_)
  have hno : ¬ ((((items.size : Int) - 1) == 0 && (-1 : Int) == 1 && items.size == items.size) = true) := by
    intro q
    rw [Bool.and_eq_true, Bool.and_eq_true] at q
    exact absurd q.1.2 (by decide)
  show wpAny _ _ (if (((items.size : Int) - 1) == 0 && (-1 : Int) == 1 && items.size == items.size) = true then _ else _) _ _ s
  rw [if_neg hno, back_pick items items.size rfl]
  first
    | exact wpAny_bind (m := Builtin.Tuple.tupleExact _) (wpAny_newObj_type (wpAny_pure ⟨_, rfl, wpAny_pure h⟩) hok)
    | exact wpAny_bind (m := Builtin.Tuple.tupleExact _) (wpAny_newObj_type (wpAny_bind (wpAny_pure (wpAny_pure ⟨_, rfl, wpAny_pure h⟩))) hok)
    | exact wpAny_bind (wpAny_bind (m := Builtin.Tuple.tupleExact _) (wpAny_newObj_type (wpAny_pure (wpAny_pure ⟨_, rfl, wpAny_pure h⟩)) hok))
    | exact wpAny_bind (wpAny_bind (m := Builtin.Tuple.tupleExact _) (wpAny_newObj_type (wpAny_pure ⟨_, rfl, wpAny_pure h⟩) hok))
end
def tRevT (K : PySem.W.Frag) (te : TE) : TE := fun σ H Q => te σ H fun x H1 => ∃ a xs, x = .ref a ∧ SqT K H1 a xs ∧ ∀ p, H1 p = none → Q (.ref p) (upd H1 p (.tup xs.reverse))
theorem pe_revT {X : Cx} {e : Expr} {te : TE} {k : Nat} {p1 p2 p3 pos : Pos} (he : PE X e te) : PE X (.Subscript e (.Slice none none (some (.UnaryOp .USub (.Constant (.int 1) k p1) p2)) p3) pos) (tRevT X.K te) := by
  constructor
  intro pins s σ H Q I h
  refine Subscript_ (thn (he.run pins s σ H _ I h) fun v s1 hh => ?_)
  obtain ⟨x, H1, I1, r1, a, xs, ex, hx, q⟩ := hh
  subst ex
  cases r1
  have hst : PO X (some (.UnaryOp .USub (.Constant (.int 1) k p1) p2)) (tPart (tUn (rU fun i => .int (-i)) (tC (.int 1)))) := po_some (pe_un un_neg pe_int)
  refine wpAny_Slice (thn (po_none.run pins s1 σ H1 (fun o H2 => o = none ∧ H2 = H1) I1 ⟨rfl, rfl⟩) fun vl s2 hl => ?_)
  obtain ⟨l, H2, I2, pl, el, e2⟩ := hl
  subst el e2
  refine thn (po_none.run pins s2 σ H2 (fun o H3 => o = none ∧ H3 = H2) I2 ⟨rfl, rfl⟩) fun vu s3 hu => ?_
  obtain ⟨u, H3, I3, pu, eu, e3⟩ := hu
  subst eu e3
  refine thn (hst.run pins s3 σ H3 (fun o H4 => o = some (-1) ∧ H4 = H3) I3 ⟨1, rfl, -1, rfl, rfl, rfl⟩) fun vs s4 ho => ?_
  obtain ⟨o, H4, I4, ps, eo, e4⟩ := ho
  subst eo e4
  cases pl
  cases pu
  have I5 : Inv X pins σ H4 { s4 with heap := s4.heap.push { cls := .type "slice", data := .fields #[.none, .none, vs] } } := I4.kept (t' := s4.toks) fun b ob q => Heap.get?_push_of_some _ q
  obtain ⟨its, r, ht, hz⟩ := I5.tuple hx
  have hlen := r.length
  show wpAny (model X.prog X.w) X.A (subscriptTail e (.Slice none none (some (.UnaryOp .USub (.Constant (.int 1) k p1) p2)) p3) (.ref a) (.ref s4.heap.objs.size)) (EP X pins σ Q) X.xe { s4 with heap := s4.heap.push { cls := .type "slice", data := .fields #[.none, .none, vs] } }
  refine tail_any (ops := [.ref a, .ref s4.heap.objs.size]) ht.typeIs (PyProof.Rows.slot_tuple_getitem.lookup) ?_ (by with_unfolding_all rfl)
  refine item_back ht (Heap.IsSliceOf.new _ .none .none vs) ps ?_ (by rw [List.size_toArray]; omega)
  refine ⟨.ref _, _, I5.laid (t' := s4.toks) (o := .tup xs.reverse) (fun b ob q => Heap.get?_push_of_some _ q) (Nat.le_refl _) ?_, rfl, q _ (I5.hok.fresh (Nat.le_refl _))⟩
  exact ⟨by rw [List.length_reverse]; exact hz, _, r.reverse, IsTup.new _ _⟩
end SE
/-! Plain data: texts, steps; when they are equal, how they are shown. -/
namespace SE
open PySem PySem.Spec PyProof.Rows L2
/-- a text that is an item -/
structure Item (z : Str) : Prop where
  pos : 1 ≤ z.length
  most : z.length ≤ 8
  low : ∀ c ∈ z.cps.toList, 97 ≤ c ∧ c ≤ 122
/-- data that may be compared and shown: its depth, its weight -/
structure Nice (k B : Nat) (d : PyData) : Prop where
  lay : d.canLay0 = true
  dep : d.depth ≤ k
  sh : d.showable = true
  nd : d.hasDict = false
  ish : d.intsShort 13 = true
  wt : d.weight ≤ B
theorem Nice.mono {k j B C : Nat} {d : PyData} (h : Nice k B d) (hk : k ≤ j) (hB : B ≤ C) : Nice j C d := ⟨h.lay, Nat.le_trans h.dep hk, h.sh, h.nd, h.ish, Nat.le_trans h.wt hB⟩
theorem nice_str {z : Str} {B : Nat} (hc : ∀ c ∈ z.cps.toList, c < 0x110000) (hB : z.length ≤ B) : Nice 0 B (.str z) := by
  refine ⟨?_, ?_, ?_, ?_, ?_, ?_⟩
  · simp only [PyData.canLay0, PyData.strOk]
    rw [← Array.all_toList, List.all_eq_true]
    intro c h
    exact decide_eq_true (hc c h)
  · simp only [PyData.depth]
    exact Nat.le_refl _
  · simp only [PyData.showable]
  · simp only [PyData.hasDict]
  · simp only [PyData.intsShort]
  · simp only [PyData.weight]
    exact hB
theorem Item.nice {z : Str} (h : Item z) : Nice 0 8 (.str z) := nice_str (fun c hc => by have := (h.low c hc).2; omega) h.most
theorem nice_all {k B : Nat} : ∀ {ds : List PyData}, (∀ d ∈ ds, Nice k B d) → PyData.canLayAll0 ds = true ∧ PyData.depthAll ds ≤ k ∧ PyData.showableAll ds = true ∧ PyData.hasDictAll ds = false ∧ PyData.intsShortAll 13 ds = true ∧ PyData.weightAll ds ≤ ds.length * (B + 1)
  | [], _ => by
    refine ⟨?_, ?_, ?_, ?_, ?_, ?_⟩
    · simp only [PyData.canLayAll0]
    · simp only [PyData.depthAll]
      exact Nat.zero_le _
    · simp only [PyData.showableAll]
    · simp only [PyData.hasDictAll]
    · simp only [PyData.intsShortAll]
    · simp only [PyData.weightAll]
      exact Nat.zero_le _
  | d :: ds, h => by
    obtain ⟨a1, a2, a3, a4, a5, a6⟩ := nice_all (ds := ds) fun x hx => h x (List.mem_cons_of_mem _ hx)
    have q := h d List.mem_cons_self
    refine ⟨?_, ?_, ?_, ?_, ?_, ?_⟩
    · simp only [PyData.canLayAll0, q.lay, a1, Bool.and_self]
    · simp only [PyData.depthAll]
      exact Nat.max_le.mpr ⟨q.dep, a2⟩
    · simp only [PyData.showableAll, q.sh, a3, Bool.and_self]
    · simp only [PyData.hasDictAll, q.nd, a4, Bool.or_self]
    · simp only [PyData.intsShortAll, q.ish, a5, Bool.and_self]
    · simp only [PyData.weightAll, List.length_cons]
      have := q.wt
      rw [Nat.add_mul]
      omega
theorem nice_list {k B : Nat} {ds : List PyData} (h : ∀ d ∈ ds, Nice k B d) : Nice (k + 1) (ds.length * (B + 1)) (.list ds) := by
  obtain ⟨a1, a2, a3, a4, a5, a6⟩ := nice_all h
  exact ⟨by simp only [PyData.canLay0]; exact a1, by simp only [PyData.depth]; omega, by simp only [PyData.showable]; exact a3, by simp only [PyData.hasDict]; exact a4, by simp only [PyData.intsShort]; exact a5, by simp only [PyData.weight]; exact a6⟩
theorem nice_tuple {k B : Nat} {ds : List PyData} (h : ∀ d ∈ ds, Nice k B d) : Nice (k + 1) (ds.length * (B + 1)) (.tuple ds) := by
  obtain ⟨a1, a2, a3, a4, a5, a6⟩ := nice_all h
  exact ⟨by simp only [PyData.canLay0]; exact a1, by simp only [PyData.depth]; omega, by simp only [PyData.showable]; exact a3, by simp only [PyData.hasDict]; exact a4, by simp only [PyData.intsShort]; exact a5, by simp only [PyData.weight]; exact a6⟩
theorem Nice.shaped {k B : Nat} {d : PyData} (h : Nice k B d) (hk : k ≤ 64) : SeqAt.shaped d = true := by
  unfold SeqAt.shaped
  rw [h.lay, Bool.true_and]
  exact decide_eq_true (Nat.le_trans h.dep hk)
theorem Nice.shown {k B : Nat} {d : PyData} (h : Nice k B d) (hk : k ≤ 64) (hB : B ≤ 2 ^ 20) : d.shown.length ≤ sizeLine := by
  refine PyData.shown_fits_of_layable0 (B := 13) (by decide) (by decide) ?_ h.ish
  unfold PyData.layable0
  rw [h.lay, Bool.true_and, Bool.and_eq_true]
  exact ⟨decide_eq_true (Nat.le_trans h.dep hk), decide_eq_true (Nat.le_trans h.wt hB)⟩
theorem Nice.eqv {k B : Nat} {d : PyData} (h : Nice k B d) : PyData.eqv d d = true := SeqAt.eqv_refl d h.lay
/-! ### texts -/
theorem dp_strs {K : PySem.W.Frag} {H : Hp} : ∀ zs : List Str, DpAll K H (zs.map V.str) (zs.map PyData.str)
  | [] => .nil
  | z :: zs => .cons (.str z) (dp_strs zs)
theorem eqvAll_strs : ∀ a b : List Str, PyData.eqvAll (a.map .str) (b.map .str) = decide (a = b)
  | [], [] => by simp [PyData.eqvAll]
  | [], y :: b => by simp [PyData.eqvAll]
  | x :: a, [] => by simp [PyData.eqvAll]
  | x :: a, y :: b => by
    rw [List.map_cons, List.map_cons]
    unfold PyData.eqvAll
    rw [eqvAll_strs a b]
    unfold PyData.eqv
    by_cases e : x = y
    · subst e
      simp
    · simp [e]
theorem eqv_listS (a b : List Str) : PyData.eqv (.list (a.map .str)) (.list (b.map .str)) = decide (a = b) := by
  unfold PyData.eqv
  exact eqvAll_strs a b
theorem eqv_tupS (a b : List Str) : PyData.eqv (.tuple (a.map .str)) (.tuple (b.map .str)) = decide (a = b) := by
  unfold PyData.eqv
  exact eqvAll_strs a b
theorem nice_strs {zs : List Str} (h : ∀ z ∈ zs, Item z) : ∀ d ∈ zs.map PyData.str, Nice 0 8 d := by
  intro d hd
  obtain ⟨z, hz, rfl⟩ := List.mem_map.mp hd
  exact (h z hz).nice
/-! ### steps -/
abbrev Stp := Bool × Str
def act (b : Bool) : Str := if b then "push" else "pop"
theorem act_nice (b : Bool) : Nice 0 8 (.str (act b)) := by
  cases b
  · exact nice_str (by decide +kernel) (by decide +kernel)
  · exact nice_str (by decide +kernel) (by decide +kernel)
def stepD (s : Stp) : PyData := .tuple [.str (act s.1), .str s.2]
theorem stepD_nice {s : Stp} (h : Item s.2) : Nice 1 18 (stepD s) := by
  refine (nice_tuple (k := 0) (B := 8) (ds := [.str (act s.1), .str s.2]) ?_).mono (Nat.le_refl _) (by show 2 * 9 ≤ 18; decide)
  intro d hd
  rcases List.mem_cons.mp hd with q | q
  · rw [q]
    exact act_nice _
  · rw [List.mem_singleton.mp q]
    exact h.nice
/-- a step -/
def StepV (K : PySem.W.Frag) (H : Hp) (v : V) (s : Stp) : Prop := ∃ t, v = .ref t ∧ SqT K H t [.str (act s.1), .str s.2]
abbrev StepsV (K : PySem.W.Frag) (H : Hp) : List V → List Stp → Prop := Paired (StepV K H)
theorem StepV.same {K : PySem.W.Frag} {H H' : Hp} {v : V} {s : Stp} (h : StepV K H v s) (e : Same H H') : StepV K H' v s := by
  obtain ⟨t, rfl, q⟩ := h
  exact ⟨t, rfl, Same.tup e q⟩
theorem StepsV.same {K : PySem.W.Frag} {H H' : Hp} {xs : List V} {ss : List Stp} (h : StepsV K H xs ss) (e : Same H H') : StepsV K H' xs ss := Paired.mapP h fun _ _ q => q.same e
theorem StepsV.at {K : PySem.W.Frag} {H : Hp} : ∀ {xs : List V} {ss : List Stp} {i : Nat} {v : V}, StepsV K H xs ss → xs[i]? = some v → ∃ s, ss[i]? = some s ∧ StepV K H v s
  | _, _, _, _, .nil, h => by simp at h
  | _, _, 0, _, .cons a _, h => by
    have e := Option.some.inj h
    subst e
    exact ⟨_, rfl, a⟩
  | _, _, i + 1, _, .cons _ r, h => StepsV.at (i := i) r h
theorem dp_steps {K : PySem.W.Frag} {H : Hp} : ∀ {xs : List V} {ss : List Stp}, StepsV K H xs ss → DpAll K H xs (ss.map stepD)
  | _, _, .nil => .nil
  | _, _, .cons a r => by
    obtain ⟨t, rfl, q⟩ := a
    exact .cons (.tup q (.cons (.str _) (.cons (.str _) .nil))) (dp_steps r)
theorem nice_steps {ss : List Stp} (h : ∀ s ∈ ss, Item s.2) : ∀ d ∈ ss.map stepD, Nice 1 18 d := by
  intro d hd
  obtain ⟨s, hs, rfl⟩ := List.mem_map.mp hd
  exact stepD_nice (h s hs)
theorem StepsV.rev {K : PySem.W.Frag} {H : Hp} : ∀ {xs : List V} {ss : List Stp}, StepsV K H xs ss → StepsV K H xs.reverse ss.reverse
  | _, _, .nil => .nil
  | _, _, .cons a r => by
    rw [List.reverse_cons, List.reverse_cons]
    exact (StepsV.rev r).snoc a
/-- the exchange of push and pop -/
def flip1 (s : Stp) : Stp := (!s.1, s.2)
def revM (ss : List Stp) : List Stp := ss.reverse.map flip1
/-- what a step makes of a stack -/
def stepM (s : Stp) (zs : List Str) : Option (List Str) := if s.1 then some (s.2 :: zs) else match zs with
  | [] => none
  | z :: r => if z = s.2 then some r else none
def runM : List Stp → List Str → Option (List Str)
  | [], zs => some zs
  | s :: ss, zs => match stepM s zs with
    | none => none
    | some ws => runM ss ws
theorem runM_append : ∀ (a b : List Stp) (zs : List Str), runM (a ++ b) zs = (runM a zs).bind (runM b)
  | [], b, zs => rfl
  | s :: a, b, zs => by
    show (match stepM s zs with | none => none | some ws => runM (a ++ b) ws) = (match stepM s zs with | none => none | some ws => runM a ws).bind (runM b)
    cases stepM s zs with
    | none => rfl
    | some ws => exact runM_append a b ws
theorem stepM_flip {s : Stp} {zs ws : List Str} (h : stepM s zs = some ws) : stepM (flip1 s) ws = some zs := by
  obtain ⟨b, x⟩ := s
  cases b with
  | true =>
    have e : x :: zs = ws := by
      have q : some (x :: zs) = some ws := h
      exact Option.some.inj q
    subst e
    show (if x = x then some zs else none) = some zs
    rw [if_pos rfl]
  | false =>
    cases zs with
    | nil => exact absurd h (by intro q; cases q)
    | cons z r =>
      have q : (if z = x then some r else none) = some ws := h
      by_cases e : z = x
      · rw [if_pos e] at q
        have e2 := Option.some.inj q
        subst e2
        subst e
        rfl
      · rw [if_neg e] at q
        cases q
theorem runM_rev : ∀ (ss : List Stp) (zs ws : List Str), runM ss zs = some ws → runM (revM ss) ws = some zs
  | [], zs, ws, h => by
    have e : zs = ws := Option.some.inj h
    subst e
    rfl
  | s :: ss, zs, ws, h => by
    have h' : (match stepM s zs with | none => none | some ys => runM ss ys) = some ws := h
    cases e : stepM s zs with
    | none =>
      rw [e] at h'
      cases h'
    | some ys =>
      rw [e] at h'
      have ih := runM_rev ss ys ws h'
      show runM ((s :: ss).reverse.map flip1) ws = some zs
      rw [List.reverse_cons, List.map_append, runM_append]
      have ih' : runM (ss.reverse.map flip1) ws = some ys := ih
      rw [ih']
      show (match stepM (flip1 s) ys with | none => none | some ws => runM [] ws) = some zs
      rw [stepM_flip e]
      rfl
theorem revM_revM (ss : List Stp) : revM (revM ss) = ss := by
  unfold revM
  rw [← List.map_reverse, List.reverse_reverse, List.map_map]
  have e : flip1 ∘ flip1 = id := by
    funext s
    obtain ⟨b, x⟩ := s
    cases b <;> rfl
  rw [e, List.map_id]
theorem revM_items {ss : List Stp} (h : ∀ s ∈ ss, Item s.2) : ∀ s ∈ revM ss, Item s.2 := by
  intro s hs
  obtain ⟨t, ht, rfl⟩ := List.mem_map.mp hs
  exact h t (List.mem_reverse.mp ht)
theorem stepM_items {s : Stp} {zs ws : List Str} (h : stepM s zs = some ws) (hs : Item s.2) (hz : ∀ z ∈ zs, Item z) : ∀ z ∈ ws, Item z := by
  obtain ⟨b, x⟩ := s
  cases b with
  | true =>
    have e : x :: zs = ws := Option.some.inj (show some (x :: zs) = some ws from h)
    subst e
    intro z m
    rcases List.mem_cons.mp m with q | q
    · rw [q]
      exact hs
    · exact hz z q
  | false =>
    cases zs with
    | nil => exact absurd h (by intro q; cases q)
    | cons y r =>
      have q : (if y = x then some r else none) = some ws := h
      by_cases e : y = x
      · rw [if_pos e] at q
        have e2 := Option.some.inj q
        subst e2
        exact fun z m => hz z (List.mem_cons_of_mem _ m)
      · rw [if_neg e] at q
        cases q
theorem stepM_len {s : Stp} {zs ws : List Str} (h : stepM s zs = some ws) : ws.length ≤ zs.length + 1 := by
  obtain ⟨b, x⟩ := s
  cases b with
  | true =>
    have e : x :: zs = ws := Option.some.inj (show some (x :: zs) = some ws from h)
    subst e
    exact Nat.le_refl _
  | false =>
    cases zs with
    | nil => exact absurd h (by intro q; cases q)
    | cons y r =>
      have q : (if y = x then some r else none) = some ws := h
      by_cases e : y = x
      · rw [if_pos e] at q
        have e2 := Option.some.inj q
        subst e2
        rw [List.length_cons]
        omega
      · rw [if_neg e] at q
        cases q
end SE
namespace SE
open PySem PySem.Spec PyProof.Rows L2
def topS (i : Nat) : Stmt := PySem.Challenge.pw_stackeffect_k50_steps_of_several_stacks.main.body.getD i (.Pass ⟨0, 0, 0, 0⟩)
abbrev sWall : Stmt := topS 0
abbrev sStackerror : Stmt := topS 2
abbrev sInvalidword : Stmt := topS 3
abbrev sInvalidsteps : Stmt := topS 4
abbrev sInvalidnumber : Stmt := topS 5
abbrev sInvalidstacks : Stmt := topS 6
abbrev sIsWhole : Stmt := topS 8
abbrev sChoose : Stmt := topS 10
abbrev sIsItem : Stmt := topS 16
abbrev sIsWord : Stmt := topS 17
abbrev sIsStep : Stmt := topS 18
abbrev sMayHold : Stmt := topS 19
abbrev sChkSteps : Stmt := topS 20
abbrev sChkWord : Stmt := topS 21
abbrev sTooHigh : Stmt := topS 22
abbrev sAfter : Stmt := topS 23
abbrev sFollow : Stmt := topS 24
abbrev sLeastPeak : Stmt := topS 26
abbrev sEffect : Stmt := topS 27
abbrev sJoined : Stmt := topS 28
abbrev sPartsOfStep : Stmt := topS 29
abbrev sEffectOf : Stmt := topS 30
abbrev sIsNamedStep : Stmt := topS 32
abbrev sCheckNamedSteps : Stmt := topS 33
abbrev sAreStacks : Stmt := topS 34
abbrev sCheckStacks : Stmt := topS 35
abbrev sSplit : Stmt := topS 36
abbrev sEffectsOf : Stmt := topS 37
abbrev sRunAll : Stmt := topS 38
abbrev sInterleavings : Stmt := topS 39
abbrev sPool : Stmt := topS 41
abbrev sTake : Stmt := topS 42
abbrev sName : Stmt := topS 43
abbrev sItems : Stmt := topS 44
abbrev sSteps : Stmt := topS 45
abbrev sWord : Stmt := topS 46
abbrev sLawNamed : Stmt := topS 47
abbrev sLawNamedWell : Stmt := topS 48
abbrev sLawParts : Stmt := topS 49
abbrev sLawTold : Stmt := topS 50
abbrev sRight : Stmt := topS 51
abbrev sLaw : Stmt := topS 52
end SE
namespace SE
open PySem PySem.Spec PyProof.Rows L2
section
variable {P : Program} {w : World} {K : PySem.W.Frag} {mg : Str → Option Value} {base : Heap}
/-! ### _law_take -/
def spTake : Sp := fun xs H Q _ => ∃ (p : Addr) (n : Int), xs = [.ref p, .int n] ∧ Pool H p ∧ 1 ≤ n ∧ n ≤ 100000 ∧
  ∀ (r : Int) (H' : Hp), But p H H' → Pool H' p → 0 ≤ r → r < n → Q (.int r) H'
theorem scTake : FnScope ["_law_pool_here", "_law_many", "_law_found"] ["_law_pool_here", "_law_many"] (defScope sTake) := ⟨rfl, rfl, rfl, by decide +kernel, rfl, by decide +kernel, by decide +kernel⟩
theorem has_take (D : Def K mg "_law_take" sTake) : Has P w K mg base "_law_take" 1 ["_law_pool_here", "_law_many"] [] spTake := by
  refine has_of D scTake (fun _ _ _ _ _ _ us hl => match us, hl with | [_, _], _ => rfl) (fun xs H Q E h => ?_) (fun f cv A out s H xs Q E hr h => ?_)
  · obtain ⟨p, n, rfl, _⟩ := h
    rfl
  · obtain ⟨p, n, rfl, hp, h1, h2, k⟩ := h
    obtain ⟨m, z, e, hm, hz0, hz1⟩ := hp.ex
    have a0 : atI [V.int m, V.int z] 0 = some (.int m) := atI_nat (j := 0) rfl
    refine ⟨_, pss_cons (ps_if (pt_cmpR op_gt (pe_ix ix_list (pv 0) pe_int (fun _ _ => rfl)) pe_int (nomark _))
        (pss_cons (ps_set (i := 2) scTake.nd rfl (.inl rfl) (pe_op op_modN (pe_ix ix_list (pv 0) pe_int (fun _ _ => rfl)) (pv 1)))
        (pss_cons (ps_asg (pe_op op_fdivN (pe_ix ix_list (pv 0) pe_int (fun _ _ => rfl)) (pv 1)) (pg_sub (pv 0) pe_int set_list))
        (pss_one (ps_ret (pv 2))))) pss_nil)
      (pss_cons (ps_asg (pe_op op_mod (pe_op op_add (pe_op op_mul (pe_ix ix_list (pv 0) pe_int (fun _ _ => rfl)) pe_int) pe_int) pe_int) (pg_sub (pv 0) pe_int set_list))
      (pss_one (ps_ret (pe_op op_modN (pe_op op_fdiv (pe_op op_mod (pe_op op_mul (pe_ix ix_list (pv 0) pe_int (fun _ _ => rfl)) (pe_ix ix_list (pv 0) pe_int (fun _ _ => rfl))) pe_int) pe_int) (pv 1))))), ?_⟩
    refine ⟨.ref p, rfl, p, _, 0, _, rfl, rfl, .of e, a0, m, 0, rfl, rfl, _, rfl, ite2 (fun c => ?_) (fun c => ?_)⟩
    · refine ⟨.ref p, rfl, p, _, 0, _, rfl, rfl, .of e, a0, .int n, rfl, m, n, rfl, rfl, (by omega), ?_⟩
      refine ⟨.ref p, rfl, p, _, 0, _, rfl, rfl, .of e, a0, .int n, rfl, m, n, rfl, rfl, ⟨by omega, by omega⟩, .ref p, rfl, p, _, 0, 0, rfl, rfl, e, rfl, ?_⟩
      refine ⟨_, rfl, k _ _ .at ⟨m.fdiv n, z, upd_same, ?_, hz0, hz1⟩ ?_ ?_⟩
      · rw [Int.fdiv_eq_ediv_of_nonneg _ (by omega)]
        exact Int.ediv_nonneg hm (by omega)
      · rw [Int.fmod_eq_emod_of_nonneg _ (by omega)]
        exact Int.emod_nonneg _ (by omega)
      · rw [Int.fmod_eq_emod_of_nonneg _ (by omega)]
        exact Int.emod_lt_of_pos _ (by omega)
    · have a1 : atI [V.int m, V.int z] 1 = some (.int z) := atI_nat (j := 1) rfl
      refine ⟨.ref p, rfl, p, _, 1, _, rfl, rfl, .of e, a1, z, 48271, rfl, rfl, .inl ⟨by omega, by omega⟩, _, 11, rfl, rfl, _, 2147483647, rfl, rfl, (by show (0 : Int) < 2147483647; decide), .ref p, rfl, p, _, 1, 1, rfl, rfl, e, rfl, ?_⟩
      have q0 : 0 ≤ (z * 48271 + 11) % 2147483647 := Int.emod_nonneg _ (by omega)
      have q1 : (z * 48271 + 11) % 2147483647 < 2147483647 := Int.emod_lt_of_pos _ (by omega)
      have e' : (upd H p (.lst ([V.int m, V.int z].set 1 (.int ((z * 48271 + 11) % 2147483647))))) p = some (.lst [V.int m, .int ((z * 48271 + 11) % 2147483647)]) := upd_same
      have a1' : atI [V.int m, V.int ((z * 48271 + 11) % 2147483647)] 1 = some (.int ((z * 48271 + 11) % 2147483647)) := atI_nat (j := 1) rfl
      refine ⟨.ref p, rfl, p, _, 1, _, rfl, rfl, .of e', a1', .ref p, rfl, p, _, 1, _, rfl, rfl, .of e', a1', ((z * 48271 + 11) % 2147483647), ((z * 48271 + 11) % 2147483647), rfl, rfl, .inl ⟨by omega, by omega⟩, _, 2147483629, rfl, rfl, (by show (0 : Int) < 2147483629; decide), _, 64, rfl, rfl, ⟨by decide, by decide⟩, .int n, rfl, _, n, rfl, rfl, (by omega), ?_⟩
      refine k _ _ .at ⟨m, ((z * 48271 + 11) % 2147483647), upd_same, hm, q0, q1⟩ ?_ ?_
      · rw [Int.fmod_eq_emod_of_nonneg _ (by omega)]
        exact Int.emod_nonneg _ (by omega)
      · rw [Int.fmod_eq_emod_of_nonneg _ (by omega)]
        exact Int.emod_lt_of_pos _ (by omega)
/-! ### _law_pool -/
def spPool (K : PySem.W.Frag) : Sp := fun xs H Q _ => ∃ (a : Addr) (ns : List Int) (i : Int), xs = [.ref a, .int i] ∧ SqL K H a (ns.map V.int) ∧ 0 ≤ i ∧ i ≤ 63 ∧
  ∀ (p : Addr) (H' : Hp), Same H H' → H p = none → Pool H' p → Q (.ref p) H'
theorem scPool : FnScope ["_law_script", "_law_k", "_law_cell", "_law_size", "_law_seed"] ["_law_script", "_law_k"] (defScope sPool) := ⟨rfl, rfl, rfl, by decide +kernel, rfl, by decide +kernel, by decide +kernel⟩
theorem has_pool (D : Def K mg "_law_pool" sPool) (ml : mg "len" = none) (ma : mg "abs" = none) (mi : mg "int" = none) : Has P w K mg base "_law_pool" 1 ["_law_script", "_law_k"] [] (spPool K) := by
  refine has_of D scPool (fun _ _ _ _ _ _ us hl => match us, hl with | [_, _], _ => rfl) (fun xs H Q E h => ?_) (fun f cv A out s H xs Q E hr h => ?_)
  · obtain ⟨a, ns, i, rfl, _⟩ := h
    rfl
  · obtain ⟨a, ns, i, rfl, hS, h0, h1, k⟩ := h
    refine ⟨_, pss_cons (ps_set (i := 2) scPool.nd rfl (.inl rfl) pe_int)
      (Evl.pss_cut (ps_if (pt_cmpR op_lt (pv 1) (pe_callB call_len_seq (by rfl) ml PySem.boot_len (pa_cons (pv 0) pa_nil)) (nomark _))
        (pss_one (ps_set (i := 2) scPool.nd rfl (.inl rfl) (pe_ix ix_list (pv 0) (pv 1) (fun _ _ => rfl)))) pss_nil)
      (pss_cons (ps_set (i := 3) scPool.nd rfl (.inl rfl) (pe_callB call_abs (by rfl) ma (by decide +kernel) (pa_cons (pv 2) pa_nil)))
      (pss_cons (ps_set (i := 4) scPool.nd rfl (.inl rfl) (pe_op op_mod (pe_op op_pow (pe_op op_add (pe_op op_add (pe_op op_add (pe_op op_mod (pv 2) pe_int) (pe_op op_mul (pe_op op_mul pe_int (pv 1)) (pv 1))) (pe_op op_mul pe_int (pv 1))) pe_int) pe_int) pe_int))
      (pss_one (ps_ret (pe_lst (pa_cons (pe_op op_mul (pv 3) (pe_callTy call_int1 (by rfl) mi (by decide +kernel) (pa_cons (pe_cmpR op_ge (pv 3) (pe_op op_pow pe_int pe_int) (nomark _)) pa_nil))) (pa_cons (pv 4) pa_nil)))))))), ?_⟩
    refine ⟨fun σ H2 => H2 = H ∧ ∃ c : Int, σ = [some (.ref a), some (.int i), some (.int c), none, none], ?_, ?_⟩
    · refine ⟨_, rfl, .ref a, rfl, a, _, rfl, .inl hS, i, _, rfl, rfl, _, rfl, ite2 (fun c => ?_) (fun c => ?_)⟩
      · have hi : i < ((ns.map V.int).length : Int) := of_decide_eq_true c
        rw [List.length_map] at hi
        have hj : i.toNat < ns.length := by omega
        refine ⟨.ref a, rfl, .int i, rfl, a, _, i, .int ns[i.toNat], rfl, rfl, hS, at_of (j := i.toNat) (by omega) ?_, rfl, ns[i.toNat], rfl⟩
        rw [List.getElem?_map, List.getElem?_eq_getElem hj]
        rfl
      · exact ⟨rfl, 0, rfl⟩
    · rintro σ H2 ⟨rfl, c, rfl⟩
      refine ⟨_, rfl, c, rfl, ?_⟩
      refine ⟨_, rfl, c, 2147483629, rfl, rfl, (by show (0 : Int) < 2147483629; decide), _, rfl, 104729, i, rfl, rfl, .inl ⟨by decide, by decide⟩, _, rfl, _, i, rfl, rfl, .inr ⟨by omega, by omega⟩, _, _, rfl, rfl, _, rfl, 7919, i, rfl, rfl, .inl ⟨by decide, by decide⟩, _, _, rfl, rfl, _, 11, rfl, rfl, _, 3, rfl, rfl, ⟨by decide, by decide, ?_⟩, _, 2147483647, rfl, rfl, (by show (0 : Int) < 2147483647; decide), ?_⟩
      · have b0 : 0 ≤ c % 2147483629 := Int.emod_nonneg _ (by omega)
        have b1 : c % 2147483629 < 2147483629 := Int.emod_lt_of_pos _ (by omega)
        have b2 : 0 ≤ 104729 * i * i := Int.mul_nonneg (by omega) h0
        have b3 : 104729 * i * i ≤ 104729 * 63 * 63 := Int.mul_le_mul (by omega) h1 h0 (by omega)
        omega
      · have t0 : ∀ y : Int, 0 ≤ y ^ 3 % 2147483647 ∧ y ^ 3 % 2147483647 < 2147483647 := fun y => ⟨Int.emod_nonneg _ (by omega), Int.emod_lt_of_pos _ (by omega)⟩
        have u0 : 0 ≤ (if c < 0 then -c else c) := by
          split <;> omega
        refine ⟨_, rfl, _, rfl, 10, 18, rfl, rfl, ⟨by decide, by decide, by decide⟩, _, _, rfl, rfl, .inr ⟨_, rfl, ?_⟩⟩
        have b01 : ∀ b : Bool, (0 : Int) ≤ (if b = true then 1 else 0) ∧ (if b = true then (1 : Int) else 0) ≤ 1 := fun b => by cases b <;> decide
        have g := b01 (decide (10 ^ Int.toNat 18 ≤ if c < 0 then -c else c))
        refine ⟨_, _, rfl, rfl, .inr ⟨by omega, by omega⟩, _, rfl, (by show 2 ≤ sizeLine; decide), fun p hp => k p _ (Same.new hp) hp ⟨_, _, upd_same, Int.mul_nonneg u0 g.1, (t0 _).1, (t0 _).2⟩⟩
end
end SE
namespace SE
open PySem PySem.Spec PyProof.Rows L2
theorem len_add (x y : Str) : (x ++ y).length = x.length + y.length := by
  show (x.cps ++ y.cps).size = _
  rw [Array.size_append]
  rfl
theorem cps_add (x y : Str) : (x ++ y).cps.toList = x.cps.toList ++ y.cps.toList := by
  show (x.cps ++ y.cps).toList = _
  exact Array.toList_append
abbrev abc : Str := Str.ofString "abcdefghijklmnopqrstuvwxyz"
theorem abc_len : abc.length = 26 := by decide +kernel
theorem abc_at (i : Nat) (h : i < 26) : ∃ c, abc.cps[i]? = some c ∧ 97 ≤ c ∧ c ≤ 122 := by
  have q : ∀ j : Fin 26, (abc.cps[j.1]?).any (fun c => decide (97 ≤ c) && decide (c ≤ 122)) = true := by decide +kernel
  have z := q ⟨i, h⟩
  simp only [Option.any_eq_true, Bool.and_eq_true, decide_eq_true_eq] at z
  obtain ⟨c, h1, h2, h3⟩ := z
  exact ⟨c, h1, h2, h3⟩
section
variable {P : Program} {w : World} {K : PySem.W.Frag} {mg : Str → Option Value} {base : Heap}
/-! ### _law_name -/
def spName : Sp := fun xs H Q _ => ∃ (p : Addr), xs = [.ref p] ∧ Pool H p ∧ ∀ (z : Str) (H' : Hp), But p H H' → Pool H' p → Item z → Q (.str z) H'
theorem scName : FnScope ["_law_pool_here", "_law_letters", "_law_found", "_law_turn"] ["_law_pool_here"] (defScope sName) := ⟨rfl, rfl, rfl, by decide +kernel, rfl, by decide +kernel, by decide +kernel⟩
theorem has_name (D : Def K mg "_law_name" sName) (GT : Has P w K mg base "_law_take" 1 ["_law_pool_here", "_law_many"] [] spTake) (mr : mg "range" = none) : Has P w K mg base "_law_name" 2 ["_law_pool_here"] [] spName := by
  refine has_of D scName (fun _ _ _ _ _ _ us hl => match us, hl with | [_], _ => rfl) (fun xs H Q E h => ?_) (fun f cv A out s H xs Q E hr h => ?_)
  · obtain ⟨p, rfl, _⟩ := h
    rfl
  · obtain ⟨p, rfl, hp, k⟩ := h
    refine ⟨_, pss_cons (ps_set (i := 1) scName.nd rfl (.inl rfl) pe_str)
      (pss_cons (ps_set (i := 2) scName.nd rfl (.inl rfl) (pe_item_str (pv 1) (pe_has GT hr (pa_cons (pv 0) (pa_cons pe_int pa_nil))) (fun _ _ => rfl)))
      (pss_cons (ps_for PassesOwn.never rfl (pi_range1 (by rfl) mr (pa_cons (pe_has GT hr (pa_cons (pv 0) (pa_cons pe_int pa_nil))) pa_nil)) (pg_name (i := 3) scName.nd rfl (.inl rfl))
        (pss_one (ps_set (i := 2) scName.nd rfl (.inl rfl) (pe_op op_add_str (pv 2) (pe_item_str (pv 1) (pe_has GT hr (pa_cons (pv 0) (pa_cons pe_int pa_nil))) (fun _ _ => rfl))))))
      (pss_one (ps_ret (pv 2))))), ?_⟩
    refine ⟨_, rfl, _, rfl, p, 26, rfl, hp, by decide, by decide, fun r H1 b1 p1 r0 r1 => ?_⟩
    obtain ⟨c, hc, c0, c1⟩ := abc_at r.toNat (by omega)
    refine ⟨abc, r, c, rfl, rfl, r0, by omega, ?_, hc, ?_⟩
    · have := abc_len
      rw [this]
      omega
    refine ⟨_, rfl, p, 8, rfl, p1, by decide, by decide, fun n H2 b2 p2 n0 n1 => ?_⟩
    refine ⟨n, rfl, by omega, by omega, for_range (lo := 0) (n := n.toNat) (fun i σ H3 => ∃ (z : Str) (y : Option V), σ = [some (.ref p), some (.str abc), some (.str z), y] ∧ But p H H3 ∧ Pool H3 p ∧ z.length = i + 1 ∧ ∀ c ∈ z.cps.toList, 97 ≤ c ∧ c ≤ 122) ?_ ?_ ?_⟩
    · refine ⟨⟨#[c]⟩, none, rfl, b1.trans b2, p2, rfl, fun d hd => ?_⟩
      obtain rfl : d = c := by simpa using hd
      exact ⟨c0, c1⟩
    · rintro i σ H3 hi ⟨z, y, rfl, b3, p3, hz, hl⟩
      refine ⟨_, rfl, _, rfl, _, rfl, p, 26, rfl, p3, by decide, by decide, fun r2 H4 b4 p4 s0 s1 => ?_⟩
      obtain ⟨d, hd, d0, d1⟩ := abc_at r2.toNat (by omega)
      refine ⟨abc, r2, d, rfl, rfl, s0, by omega, ?_, hd, z, ⟨#[d]⟩, rfl, rfl, ?_, z ++ ⟨#[d]⟩, _, rfl, b3.trans b4, p4, ?_, fun e he => ?_⟩
      · have := abc_len
        rw [this]
        omega
      · rw [hz]
        exact Nat.le_of_lt (small1000 (show i + 1 + 1 ≤ 1000 by omega))
      · rw [len_add, hz]
        rfl
      · rw [cps_add] at he
        rcases List.mem_append.mp he with q | q
        · exact hl e q
        · obtain rfl : e = d := by simpa using q
          exact ⟨d0, d1⟩
    · rintro σ H3 ⟨z, y, rfl, b3, p3, hz, hl⟩
      exact ⟨_, rfl, k z H3 b3 p3 ⟨by omega, by omega, hl⟩⟩
end
end SE
namespace SE
open PySem PySem.Spec PyProof.Rows L2
theorem nodup_le {α : Type} [DecidableEq α] : ∀ {ys zs : List α}, ys.Nodup → (∀ y ∈ ys, y ∈ zs) → ys.length ≤ zs.length
  | [], _, _, _ => Nat.zero_le _
  | y :: ys, zs, nd, h => by
    obtain ⟨n1, n2⟩ := List.nodup_cons.mp nd
    have hy : y ∈ zs := h y List.mem_cons_self
    have ih := nodup_le (zs := zs.erase y) n2 fun x hx => (List.mem_erase_of_ne (fun e => n1 (by rw [← e]; exact hx))).mpr (h x (List.mem_cons_of_mem _ hx))
    rw [List.length_erase_of_mem hy] at ih
    have : 0 < zs.length := List.length_pos_of_mem hy
    rw [List.length_cons]
    omega
theorem yes_in {σ : L2.St} {H : Hp} {F G : Hp → Prop} (h : F H) : tYes σ H (fun b H3 => if b = true then F H3 else G H3) := by
  show if true = true then F H else G H
  exact iteT h
theorem eqV_str (a b : Str) : eqV (.str a) (.str b) = (a == b) := by
  unfold eqV
  rfl
theorem inV_str (z : Str) : ∀ zs : List Str, inV (.str z) (zs.map V.str) = decide (z ∈ zs)
  | [] => by simp [inV]
  | y :: zs => by
    have ih := inV_str z zs
    unfold inV at ih ⊢
    rw [List.map_cons, List.any_cons, ih, eqV_str]
    by_cases e : y = z
    · subst e
      simp
    · have e2 : ¬ z = y := fun q => e q.symm
      simp [e, e2]
theorem flat_strs : ∀ zs : List Str, (zs.map V.str).all flatV = true
  | [] => rfl
  | y :: zs => by
    rw [List.map_cons, List.all_cons, flat_strs zs]
    rfl
/-- the names that are taken where one is drawn twice -/
def spare : List Str := abc.cps.toList.map fun c => (⟨#[c]⟩ : Str) ++ "zz"
theorem spare_len : spare.length = 26 := by decide +kernel
theorem spare_nd : spare.Nodup := by decide +kernel
theorem spare_item {z : Str} (h : z ∈ spare) : Item z := by
  have q : ∀ y ∈ spare, (decide (1 ≤ y.length) && decide (y.length ≤ 8) && y.cps.toList.all fun c => decide (97 ≤ c) && decide (c ≤ 122)) = true := by decide +kernel
  have e := q z h
  simp only [Bool.and_eq_true, decide_eq_true_eq, List.all_eq_true] at e
  exact ⟨e.1.1, e.1.2, e.2⟩
theorem spare_at {i c : Nat} (h : abc.cps[i]? = some c) : spare[i]? = some ((⟨#[c]⟩ : Str) ++ "zz") := by
  unfold spare
  rw [List.getElem?_map, Array.getElem?_toList, h]
  rfl
theorem abc_size : abc.cps.size = 26 := by decide +kernel
section
variable {P : Program} {w : World} {K : PySem.W.Frag} {mg : Str → Option Value} {base : Heap}
/-! ### _law_items -/
def spItems : Sp := fun xs H Q _ => ∃ (p : Addr) (n : Int), xs = [.ref p, .int n] ∧ Pool H p ∧ 0 ≤ n ∧ n ≤ 20 ∧
  ∀ (l : Addr) (zs : List Str) (H' : Hp), But p H H' → Pool H' p → H l = none → l ≠ p → H' l = some (.lst (zs.map V.str)) → zs.length = n.toNat → (∀ z ∈ zs, Item z) → Q (.ref l) H'
theorem scItems : FnScope ["_law_pool_here", "_law_many", "_law_found", "_law_at", "_law_name_here", "_law_some", "_law_one"] ["_law_pool_here", "_law_many"] (defScope sItems) := ⟨rfl, rfl, rfl, by decide +kernel, rfl, by decide +kernel, by decide +kernel⟩
abbrev nItems : List Str := ["_law_pool_here", "_law_many", "_law_found", "_law_at", "_law_name_here", "_law_some", "_law_one"]
theorem has_items (D : Def K mg "_law_items" sItems) (GN : Has P w K mg base "_law_name" 2 ["_law_pool_here"] [] spName) (mr : mg "range" = none) : Has P w K mg base "_law_items" 3 ["_law_pool_here", "_law_many"] [] spItems := by
  refine has_of D scItems (fun _ _ _ _ _ _ us hl => match us, hl with | [_, _], _ => rfl) (fun xs H Q E h => ?_) (fun f cv A out s H xs Q E hr h => ?_)
  · obtain ⟨p, n, rfl, _⟩ := h
    rfl
  · obtain ⟨p, n, rfl, hp, h0, h1, k⟩ := h
    refine ⟨_, pss_cons (ps_set (i := 2) scItems.nd rfl (.inr rfl) (pe_lst pa_nil))
      (pss_cons (ps_for PassesOwn.never rfl (pi_range1 (by rfl) mr (pa_cons (pv 1) pa_nil)) (pg_name (i := 3) scItems.nd rfl (.inl rfl))
        (pss_cons (ps_set (i := 4) scItems.nd rfl (.inl rfl) (pe_has GN hr (pa_cons (pv 0) pa_nil)))
        (Evl.pss_cut (ps_if (pt_cmpR op_in_seq (pv 4) (pv 2) (by rfl))
          (pss_cons (ps_setLc (i := 5) (own := [("_law_one", 6)]) (g := gName 6) (tt := tYes) rfl scItems.nd rfl rfl (sw_true rfl rfl rfl (by decide +kernel)) (pi_str pe_str) (blkOk_by (own := [("_law_one", 6)]) (N := nItems) (sc := defScope sItems) (by decide +kernel))
              (fun _ _ _ _ _ => pg_name (i := 6) scItems.nd rfl (.inl rfl)) (fun _ _ _ _ _ => pts_nil) (fun _ _ _ _ _ => pe_op op_add_str (pv 6) pe_str))
          (pss_one (ps_set (i := 4) scItems.nd rfl (.inl rfl) (pe_ix ix_list (pe_lc (own := [("_law_one", 6)]) (g := gName 6) (tt := tTest (tOp (rIn K true) (tVar 6) (tVar 2))) (te := tVar 6) rfl scItems.nd (pi_list (pv 5)) (blkOk_by (own := [("_law_one", 6)]) (N := nItems) (sc := defScope sItems) (by decide +kernel))
              (fun _ _ _ _ _ => pg_name (i := 6) scItems.nd rfl (.inl rfl)) (fun _ _ _ _ _ => pts_one (pt_cmpR op_notIn_seq (pv 6) (pv 2) (by rfl))) (fun _ _ _ _ _ => pv 6)) pe_int (fun _ _ => rfl))))) pss_nil)
        (pss_one (ps_expr (pe_bm PySem.F.plainAttrs_list PySem.F.slot_list_append PySem.F.type_list_append mt_append (pv 2) (pa_cons (pv 4) pa_nil)))))))
      (pss_one (ps_ret (pv 2)))), ?_⟩
    refine ⟨Nat.zero_le _, fun l hl => ?_⟩
    have lp : l ≠ p := hp.free hl
    refine ⟨_, rfl, n, rfl, by omega, by omega, for_range (lo := 0) (n := n.toNat) (fun i σ H3 => ∃ (zs : List Str) (y3 y4 y5 y6 : Option V), σ = [some (.ref p), some (.int n), some (.ref l), y3, y4, y5, y6] ∧ But p H H3 ∧ Pool H3 p ∧ H3 l = some (.lst (zs.map V.str)) ∧ zs.length = i ∧ ∀ z ∈ zs, Item z) ?_ ?_ ?_⟩
    · exact ⟨[], none, none, none, none, rfl, .of (Same.new hl), hp.upd lp, upd_same, rfl, fun z h => nomatch h⟩
    · rintro i σ H3 hi ⟨zs, y3, y4, y5, y6, rfl, b3, p3, hl3, hz, hI⟩
      refine ⟨_, rfl, p, rfl, p3, fun z H4 b4 p4 iz => ?_⟩
      have hl4 : H4 l = some (.lst (zs.map V.str)) := b4 l _ lp hl3
      have bb := b3.trans b4
      refine ⟨fun σ H5 => ∃ (z : Str) (y5 y6 : Option V), σ = [some (.ref p), some (.int n), some (.ref l), some (.int (0 + i)), some (.str z), y5, y6] ∧ But p H H5 ∧ Pool H5 p ∧ H5 l = some (.lst (zs.map V.str)) ∧ Item z, ?_, ?_⟩
      · refine ⟨_, rfl, _, rfl, l, _, rfl, .inl (.of hl4), rfl, flat_strs _, _, rfl, ite2 (fun c => ?_) (fun c => ?_)⟩
        · refine ⟨abc, rfl, fun D hD => lc_it walk_str (fun j H5 => H5 D = some (.lst ((spare.take j).map V.str)) ∧ But p H H5 ∧ Pool H5 p ∧ H5 l = some (.lst (zs.map V.str))) ?_ (fun _ _ _ _ => trivial) ?_ ?_⟩
          · have Dp : D ≠ p := p4.free hD
            exact ⟨upd_same, bb.free (bb.none Dp hD), p4.upd Dp, by rw [upd_ne (ne_of_none hl4 hD)]; exact hl4⟩
          · rintro j x H5 H6 hj ⟨hD5, b5, p5, hl5⟩ ⟨rfl, d, hd, rfl⟩
            have Dp : D ≠ p := p4.free hD
            refine ⟨rfl, yes_in ⟨_, rfl, ⟨#[d]⟩, "zz", rfl, rfl, (by show 1 + 2 ≤ sizeLine; decide), _, hD5, ?_, ?_, b5.free (bb.none Dp hD), p5.upd Dp, ?_⟩⟩
            · rw [List.length_map, List.length_take, spare_len]
              exact small1000 (by omega)
            · rw [upd_same, List.take_add_one, spare_at hd, List.map_append]
              rfl
            · rw [upd_ne (ne_of_none hl4 hD)]
              exact hl5
          · rintro H5 ⟨hD5, b5, p5, hl5⟩
            have full : spare.take abc.cps.size = spare := List.take_of_length_le (by rw [spare_len, abc_size]; omega)
            rw [full] at hD5
            have Dp : D ≠ p := p4.free hD
            have Dl : l ≠ D := ne_of_none hl4 hD
            refine ⟨_, rfl, D, rfl, ⟨_, .of hD5⟩, fun E2 hE => lc_list (K := K) (a := D) (xs := spare.map V.str) (fun j H6 => H6 D = some (.lst (spare.map V.str)) ∧ H6 E2 = some (.lst (((spare.take j).filter fun y => !decide (y ∈ zs)).map V.str)) ∧ But p H H6 ∧ Pool H6 p ∧ H6 l = some (.lst (zs.map V.str))) ?_ (fun _ _ _ q => .of q.1) ?_ ?_⟩
            · have Ep : E2 ≠ p := p5.free hE
              refine ⟨?_, upd_same, b5.free (b5.none Ep hE), p5.upd Ep, ?_⟩
              · rw [upd_ne (ne_of_none hD5 hE)]
                exact hD5
              · rw [upd_ne (ne_of_none hl5 hE)]
                exact hl5
            · rintro j x H6 hj ⟨hD6, hE6, b6, p6, hl6⟩
              have Ep : E2 ≠ p := p5.free hE
              rw [List.getElem?_map] at hj
              obtain ⟨y, hy, rfl⟩ : ∃ y, spare[j]? = some y ∧ V.str y = x := by
                cases e : spare[j]? with
                | none => rw [e] at hj; cases hj
                | some y => rw [e] at hj; exact ⟨y, rfl, Option.some.inj hj⟩
              have tk : spare.take (j + 1) = spare.take j ++ [y] := by
                rw [List.take_add_one, hy]
                rfl
              refine ⟨rfl, _, rfl, _, rfl, l, _, rfl, .inl (.of hl6), rfl, flat_strs _, _, rfl, ?_⟩
              rw [if_pos rfl, inV_str]
              by_cases m : y ∈ zs
              · rw [decide_eq_true m]
                refine iteF ⟨hD6, ?_, b6, p6, hl6⟩
                rw [tk, List.filter_append, List.filter_cons_of_neg (by simp [m]), List.filter_nil, List.append_nil]
                exact hE6
              · rw [decide_eq_false m]
                refine iteT ⟨_, rfl, _, hE6, ?_, ?_, ?_, b6.free (b5.none Ep hE), p6.upd Ep, ?_⟩
                · rw [List.length_map]
                  have z1 := List.length_filter_le (fun y => !decide (y ∈ zs)) (spare.take j)
                  have z2 : (spare.take j).length ≤ 26 := by
                    rw [List.length_take, spare_len]
                    omega
                  exact small1000 (by omega)
                · rw [upd_ne (ne_of_none hD5 hE)]
                  exact hD6
                · rw [upd_same, tk, List.filter_append, List.filter_cons_of_pos (by simp [m]), List.filter_nil, List.map_append]
                  rfl
                · rw [upd_ne (ne_of_none hl5 hE)]
                  exact hl6
            · rintro H6 ⟨hD6, hE6, b6, p6, hl6⟩
              rw [List.length_map, List.take_length] at hE6
              have some1 : ∃ y0 r, (spare.filter fun y => !decide (y ∈ zs)) = y0 :: r := by
                cases e : spare.filter fun y => !decide (y ∈ zs) with
                | cons y0 r => exact ⟨y0, r, rfl⟩
                | nil =>
                  have all : ∀ y ∈ spare, y ∈ zs := fun y hy => by
                    by_cases m : y ∈ zs
                    · exact m
                    · have q : y ∈ spare.filter fun y => !decide (y ∈ zs) := List.mem_filter.mpr ⟨hy, by simp [m]⟩
                      rw [e] at q
                      cases q
                  have q := nodup_le spare_nd all
                  rw [spare_len] at q
                  omega
              obtain ⟨y0, r, e0⟩ := some1
              have y0s : y0 ∈ spare := (List.mem_filter.mp (show y0 ∈ spare.filter fun y => !decide (y ∈ zs) by rw [e0]; exact List.mem_cons_self)).1
              rw [e0] at hE6
              exact ⟨E2, _, 0, .str y0, rfl, rfl, .of hE6, atI_nat (j := 0) rfl, y0, _, _, rfl, b6, p6, hl6, spare_item y0s⟩
        · exact ⟨z, _, _, rfl, bb, p4, hl4, iz⟩
      · rintro σ H5 ⟨z, y5, y6, rfl, b5, p5, hl5, iz⟩
        refine ⟨.ref l, rfl, .inl ⟨rfl, _, .inl (.inl hl5)⟩, _, rfl, l, _, _, rfl, rfl, hl5, ?_, zs ++ [z], _, _, _, _, rfl, b5.free hl, p5.upd lp, ?_, ?_, ?_⟩
        · rw [List.length_map, hz]
          exact small1000 (by omega)
        · rw [upd_same, List.map_append]
          rfl
        · rw [List.length_append, hz]
          rfl
        · intro y hy
          rcases List.mem_append.mp hy with q | q
          · exact hI y q
          · rw [List.mem_singleton.mp q]
            exact iz
    · rintro σ H3 ⟨zs, y3, y4, y5, y6, rfl, b3, p3, hl3, hz, hI⟩
      exact ⟨_, rfl, k l zs H3 b3 p3 hl lp hl3 hz hI⟩
end
end SE
namespace SE
open PySem PySem.Spec PyProof.Rows L2
section
variable {P : Program} {w : World} {K : PySem.W.Frag} {mg : Str → Option Value} {base : Heap}
/-! ### _law_word -/
def spWord : Sp := fun xs H Q _ => ∃ (p l : Addr) (m : Int) (zs : List Str), xs = [.ref p, .ref l, .int m] ∧ Pool H p ∧ l ≠ p ∧ H l = some (.lst (zs.map V.str)) ∧ zs ≠ [] ∧ zs.length ≤ 100 ∧ 0 ≤ m ∧ m ≤ 900 ∧
  ∀ (t : Addr) (ws : List Str) (H' : Hp), But p H H' → Pool H' p → H t = none → H' t = some (.tup (ws.map V.str)) → (ws.length : Int) ≤ m → (∀ z ∈ ws, z ∈ zs) → Q (.ref t) H'
abbrev nWord : List Str := ["_law_pool_here", "_law_items_here", "_law_most", "_law_turn"]
theorem scWord : FnScope nWord ["_law_pool_here", "_law_items_here", "_law_most"] (defScope sWord) := ⟨rfl, rfl, rfl, by decide +kernel, rfl, by decide +kernel, by decide +kernel⟩
theorem pick_str {zs : List Str} {r : Int} (h0 : 0 ≤ r) (h1 : r < (zs.length : Int)) : ∃ z, z ∈ zs ∧ atI (zs.map V.str) r = some (.str z) := by
  have hj : r.toNat < zs.length := by omega
  refine ⟨zs[r.toNat], List.getElem_mem hj, at_of (j := r.toNat) (by omega) ?_⟩
  rw [List.getElem?_map, List.getElem?_eq_getElem hj]
  rfl
theorem has_word (D : Def K mg "_law_word" sWord) (GT : Has P w K mg base "_law_take" 1 ["_law_pool_here", "_law_many"] [] spTake) (mr : mg "range" = none) (ml : mg "len" = none) (mt : mg "tuple" = none) : Has P w K mg base "_law_word" 2 ["_law_pool_here", "_law_items_here", "_law_most"] [] spWord := by
  refine has_of D scWord (fun _ _ _ _ _ _ us hl => match us, hl with | [_, _, _], _ => rfl) (fun xs H Q E h => ?_) (fun f cv A out s H xs Q E hr h => ?_)
  · obtain ⟨p, l, m, zs, rfl, _⟩ := h
    rfl
  · obtain ⟨p, l, m, zs, rfl, hp, lp, hl, hne, hz, h0, h1, k⟩ := h
    refine ⟨_, pss_one (ps_ret (pe_callTy call_tuple_of (by rfl) mt (by decide +kernel) (pa_cons
      (pe_lc (own := [("_law_turn", 3)]) (g := gName 3) (tt := tYes) (te := tOp (rIxL K) (tVar 1) (tCall spTake [] E0 (tCons (tVar 0) (tCons (tCB (Evl.rLenS K) (tCons (tVar 1) tNil)) tNil)))) rfl scWord.nd
        (pi_range1 (by rfl) mr (pa_cons (pe_has GT hr (pa_cons (pv 0) (pa_cons (pe_op op_add (pv 2) pe_int) pa_nil))) pa_nil)) (blkOk_by (own := [("_law_turn", 3)]) (N := nWord) (sc := defScope sWord) (by decide +kernel))
        (fun _ _ _ _ _ => pg_name (i := 3) scWord.nd rfl (.inl rfl)) (fun _ _ _ _ _ => pts_nil)
        (fun _ _ _ _ _ => pe_ix ix_list (pv 1) (pe_has GT hr (pa_cons (pv 0) (pa_cons (pe_callB call_len_seq (by rfl) ml PySem.boot_len (pa_cons (pv 1) pa_nil)) pa_nil))) (fun _ _ => rfl))) pa_nil))), ?_⟩
    refine ⟨_, rfl, _, rfl, m, 1, rfl, rfl, p, m + 1, rfl, hp, by omega, by omega, fun n H1 b1 p1 n0 n1 => ?_⟩
    have hl1 : H1 l = some (.lst (zs.map V.str)) := b1 l _ lp hl
    refine ⟨n, rfl, by omega, by omega, fun D hD => lc_range (lo := 0) (n := n.toNat) (fun i H2 => ∃ ws : List Str, H2 D = some (.lst (ws.map V.str)) ∧ ws.length = i ∧ (∀ z ∈ ws, z ∈ zs) ∧ But p H H2 ∧ Pool H2 p ∧ H2 l = some (.lst (zs.map V.str))) ?_ ?_ ?_⟩
    · have Dp : D ≠ p := p1.free hD
      exact ⟨[], upd_same, rfl, fun z q => (by cases q), b1.free (b1.none Dp hD), p1.upd Dp, by rw [upd_ne (ne_of_none hl1 hD)]; exact hl1⟩
    · rintro i H2 hi ⟨ws, hw, wl, wz, b2, p2, hl2⟩
      have Dp : D ≠ p := p1.free hD
      have Dl : l ≠ D := ne_of_none hl1 hD
      have hzp : 0 < zs.length := List.length_pos_iff.mpr hne
      refine ⟨rfl, yes_in ⟨_, rfl, _, rfl, _, rfl, l, _, rfl, .inl (.of hl2), p, _, rfl, p2, ?_, ?_, fun r H3 b3 p3 r0 r1 => ?_⟩⟩
      · rw [List.length_map]
        omega
      · rw [List.length_map]
        omega
      · rw [List.length_map] at r1
        obtain ⟨z, zm, az⟩ := pick_str r0 r1
        have hl3 : H3 l = some (.lst (zs.map V.str)) := b3 l _ lp hl2
        have hD3 : H3 D = some (.lst (ws.map V.str)) := b3 D _ Dp hw
        refine ⟨l, _, r, _, rfl, rfl, .of hl3, az, _, hD3, ?_, ws ++ [z], ?_, ?_, ?_, (b2.trans b3).free (b1.none Dp hD), p3.upd Dp, ?_⟩
        · rw [List.length_map, wl]
          exact small1000 (by omega)
        · rw [upd_same, List.map_append]
          rfl
        · rw [List.length_append, wl]
          rfl
        · intro y hy
          rcases List.mem_append.mp hy with q | q
          · exact wz y q
          · rw [List.mem_singleton.mp q]
            exact zm
        · rw [upd_ne Dl]
          exact hl3
    · rintro H2 ⟨ws, hw, wl, wz, b2, p2, hl2⟩
      refine ⟨D, _, rfl, .inl ⟨.of hw, fun t ht => ?_⟩⟩
      have tp : t ≠ p := p2.free ht
      refine k t ws _ (b2.free (b2.none tp ht)) (p2.upd tp) (b2.none tp ht) upd_same ?_ wz
      omega
end
end SE
namespace SE
open PySem PySem.Spec PyProof.Rows L2
/-- a test whose ways meet -/
def tCutT (t : TT) : TT := fun σ H Q => ∃ M : Bool → Hp → Prop, t σ H M ∧ ∀ b H2, M b H2 → Q b H2
theorem pt_cut {X : Cx} {e : Expr} {t : TT} (h : PT X e t) : PT X e (tCutT t) := ⟨fun pins s σ H Q I hw => by
  obtain ⟨M, h1, h2⟩ := hw
  refine thn (h.run pins s σ H M I h1) fun b s2 z => ?_
  obtain ⟨H2, I2, q⟩ := z
  exact ⟨H2, I2, h2 b H2 q⟩⟩
theorem cut_map {α : Type} (f : α → V) (hs : List α) (lo hi : Option Int) : cutV (hs.map f) lo hi = ((hs.drop (HT.sIx hs.length 0 lo)).take (HT.sIx hs.length hs.length hi - HT.sIx hs.length 0 lo)).map f := by
  unfold cutV
  rw [List.length_map, List.map_take, List.map_drop]
theorem cut_mem {α : Type} {x : α} {hs : List α} {a b : Nat} (h : x ∈ (hs.drop a).take b) : x ∈ hs := List.mem_of_mem_drop (List.mem_of_mem_take h)
/-- steps whose tuples stand in the heap -/
abbrev StepsH (H : Hp) : List V → List Stp → Prop := Paired fun v s => ∃ t, v = .ref t ∧ H t = some (.tup [.str (act s.1), .str s.2])
theorem StepsH.v {K : PySem.W.Frag} {H : Hp} {xs : List V} {ss : List Stp} (h : StepsH H xs ss) : StepsV K H xs ss := Paired.mapP h fun _ _ q => by
  obtain ⟨t, e, z⟩ := q
  exact ⟨t, e, .of z⟩
theorem StepsH.but {H H' : Hp} {p : Addr} {xs : List V} {ss : List Stp} (h : StepsH H xs ss) (hp : Pool H p) (b : But p H H') : StepsH H' xs ss := Paired.mapP h fun _ _ q => by
  obtain ⟨t, e, z⟩ := q
  exact ⟨t, e, b t _ (hp.ne z) z⟩
theorem StepsH.upd {H : Hp} {q : Addr} {o : HO} {xs : List V} {ss : List Stp} (h : StepsH H xs ss) (hq : ∀ ys, H q ≠ some (.tup ys)) : StepsH (upd H q o) xs ss := Paired.mapP h fun _ _ r => by
  obtain ⟨t, e, z⟩ := r
  refine ⟨t, e, ?_⟩
  rw [upd_ne (fun w => hq _ (by rw [← w]; exact z))]
  exact z
structure SI (p l f h : Addr) (zs : List Str) (H H3 : Hp) (xs : List V) (ss : List Stp) (hs : List Str) : Prop where
  b : But p H H3
  pl : Pool H3 p
  it : H3 l = some (.lst (zs.map V.str))
  fl : H3 f = some (.lst xs)
  st : StepsH H3 xs ss
  sz : ∀ s ∈ ss, s.2 ∈ zs
  hl : H3 h = some (.lst (hs.map V.str))
  hz : ∀ z ∈ hs, z ∈ zs
  lp : l ≠ p
  fp : f ≠ p
  fn : H f = none
  hp : h ≠ p
  hn : H h = none
  hf : h ≠ f
  hnl : h ≠ l
  lf : l ≠ f
section
variable {p l f h : Addr} {zs : List Str} {H H3 : Hp} {xs : List V} {ss : List Stp} {hs : List Str}
theorem SI.new (a : SI p l f h zs H H3 xs ss hs) {q : Addr} {o : HO} (hq : H3 q = none) : SI p l f h zs H (upd H3 q o) xs ss hs := by
  have qp : q ≠ p := a.pl.free hq
  exact ⟨a.b.free (a.b.none qp hq), a.pl.upd qp, by rw [upd_ne (ne_of_none a.it hq)]; exact a.it, by rw [upd_ne (ne_of_none a.fl hq)]; exact a.fl, a.st.upd (fun ys z => by rw [hq] at z; cases z), a.sz,
    by rw [upd_ne (ne_of_none a.hl hq)]; exact a.hl, a.hz, a.lp, a.fp, a.fn, a.hp, a.hn, a.hf, a.hnl, a.lf⟩
theorem SI.draw (a : SI p l f h zs H H3 xs ss hs) {H4 : Hp} (b : But p H3 H4) (q : Pool H4 p) : SI p l f h zs H H4 xs ss hs :=
  ⟨a.b.trans b, q, b _ _ a.lp a.it, b _ _ a.fp a.fl, a.st.but a.pl b, a.sz, b _ _ a.hp a.hl, a.hz, a.lp, a.fp, a.fn, a.hp, a.hn, a.hf, a.hnl, a.lf⟩
theorem SI.app (a : SI p l f h zs H H3 xs ss hs) {t : Addr} {c : Bool} {z : Str} (ht : H3 t = some (.tup [.str (act c), .str z])) (hz : z ∈ zs) : SI p l f h zs H (upd H3 f (.lst (xs ++ [.ref t]))) (xs ++ [.ref t]) (ss ++ [(c, z)]) hs := by
  have tf : t ≠ f := ne_of ht a.fl (by intro w; cases w)
  refine ⟨a.b.free a.fn, a.pl.upd a.fp, by rw [upd_ne a.lf]; exact a.it, upd_same, (a.st.upd (fun ys w => by rw [a.fl] at w; cases w)).snoc ⟨t, rfl, by rw [upd_ne tf]; exact ht⟩, fun s hs' => ?_, by rw [upd_ne a.hf]; exact a.hl, a.hz, a.lp, a.fp, a.fn, a.hp, a.hn, a.hf, a.hnl, a.lf⟩
  rcases List.mem_append.mp hs' with q | q
  · exact a.sz s q
  · rw [List.mem_singleton.mp q]
    exact hz
theorem SI.hset (a : SI p l f h zs H H3 xs ss hs) {ys : List Str} (hy : ∀ z ∈ ys, z ∈ zs) : SI p l f h zs H (upd H3 h (.lst (ys.map V.str))) xs ss ys :=
  ⟨a.b.free a.hn, a.pl.upd a.hp, by rw [upd_ne (Ne.symm a.hnl)]; exact a.it, by rw [upd_ne (Ne.symm a.hf)]; exact a.fl, a.st.upd (fun us w => by rw [a.hl] at w; cases w), a.sz, upd_same, hy, a.lp, a.fp, a.fn, a.hp, a.hn, a.hf, a.hnl, a.lf⟩
theorem SI.hnew (a : SI p l f h zs H H3 xs ss hs) {q : Addr} {ys : List Str} (hq : H3 q = none) (hy : ∀ z ∈ ys, z ∈ zs) : SI p l f q zs H (upd H3 q (.lst (ys.map V.str))) xs ss ys := by
  have b := a.new (o := .lst (ys.map V.str)) hq
  have qp : q ≠ p := a.pl.free hq
  exact ⟨b.b, b.pl, b.it, b.fl, b.st, b.sz, upd_same, hy, a.lp, a.fp, a.fn, qp, a.b.none qp hq, Ne.symm (ne_of_none a.fl hq), Ne.symm (ne_of_none a.it hq), a.lf⟩
end
section
variable {P : Program} {w : World} {K : PySem.W.Frag} {mg : Str → Option Value} {base : Heap}
/-! ### _law_steps -/
def spSteps : Sp := fun xs H Q _ => ∃ (p l : Addr) (m : Int) (zs : List Str), xs = [.ref p, .ref l, .int m] ∧ Pool H p ∧ l ≠ p ∧ H l = some (.lst (zs.map V.str)) ∧ zs ≠ [] ∧ zs.length ≤ 100 ∧ (∀ z ∈ zs, Item z) ∧ 0 ≤ m ∧ m ≤ 100 ∧
  ∀ (t : Addr) (us : List V) (ss : List Stp) (H' : Hp), But p H H' → Pool H' p → H t = none → H' t = some (.lst us) → StepsH H' us ss → ss.length = m.toNat → (∀ s ∈ ss, s.2 ∈ zs) → Q (.ref t) H'
abbrev nSteps : List Str := ["_law_pool_here", "_law_items_here", "_law_many", "_law_found", "_law_held", "_law_turn", "_law_way", "_law_item"]
theorem scSteps : FnScope nSteps ["_law_pool_here", "_law_items_here", "_law_many"] (defScope sSteps) := ⟨rfl, rfl, rfl, by decide +kernel, rfl, by decide +kernel, by decide +kernel⟩
theorem has_steps (D : Def K mg "_law_steps" sSteps) (GT : Has P w K mg base "_law_take" 1 ["_law_pool_here", "_law_many"] [] spTake) (mr : mg "range" = none) (ml : mg "len" = none) : Has P w K mg base "_law_steps" 2 ["_law_pool_here", "_law_items_here", "_law_many"] [] spSteps := by
  refine has_of D scSteps (fun _ _ _ _ _ _ us hl => match us, hl with | [_, _, _], _ => rfl) (fun xs H Q E h => ?_) (fun f cv A out s H xs Q E hr h => ?_)
  · obtain ⟨p, l, m, zs, rfl, _⟩ := h
    rfl
  · obtain ⟨p, l, m, zs, rfl, hp, lp, hl, hne, hz, hI, h0, h1, k⟩ := h
    refine ⟨_, pss_cons (ps_par (i := 3) (j := 4) (by rfl) scSteps.nd rfl rfl (by decide) rfl rfl (pa_cons (pe_lst pa_nil) (pa_cons (pe_lst pa_nil) pa_nil)) (by rfl))
      (pss_cons (ps_for PassesOwn.never rfl (pi_range1 (by rfl) mr (pa_cons (pv 2) pa_nil)) (pg_name (i := 5) scSteps.nd rfl (.inl rfl))
        (pss_cons (ps_set (i := 6) scSteps.nd rfl (.inl rfl) (pe_has GT hr (pa_cons (pv 0) (pa_cons pe_int pa_nil))))
        (pss_cons (ps_set (i := 7) scSteps.nd rfl (.inl rfl) (pe_ix ix_list (pv 1) (pe_has GT hr (pa_cons (pv 0) (pa_cons (pe_callB call_len_seq (by rfl) ml PySem.boot_len (pa_cons (pv 1) pa_nil)) pa_nil))) (fun _ _ => rfl)))
        (pss_one (ps_if (pt_cut (PW.pt (pw_and (pt_cmpR op_lt (pv 6) pe_int (nomark _)) (pw_and1 (pt_cmpR (op_neD hr.units) (pv 4) (pe_lst pa_nil) (nomark _))))))
          (pss_cons (ps_set (i := 7) scSteps.nd rfl (.inl rfl) (pe_bm0 PySem.F.plainAttrs_list PySem.F.slot_list_pop PySem.F.type_list_pop mt_pop (pv 4)))
          (pss_one (ps_expr (pe_bm PySem.F.plainAttrs_list PySem.F.slot_list_append PySem.F.type_list_append mt_append (pv 3) (pa_cons (pe_tup (pa_cons pe_str (pa_cons (pv 7) pa_nil))) pa_nil)))))
          (pss_one (ps_if (pt_cut (PW.pt (pw_or (pt_cmpR op_eq (pv 6) pe_int (nomark _)) (pw_or1 (PW.pt (pw_and (pt_cmpR op_eq (pv 6) pe_int (nomark _)) (pw_and1 (pt_cmpR (op_eqD hr.units) (pv 4) (pe_lst pa_nil) (nomark _)))))))))
            (pss_cons (ps_expr (pe_bm PySem.F.plainAttrs_list PySem.F.slot_list_append PySem.F.type_list_append mt_append (pv 3) (pa_cons (pe_tup (pa_cons pe_str (pa_cons (pv 7) pa_nil))) pa_nil)))
            (pss_one (ps_set (i := 4) scSteps.nd rfl (.inl rfl) (pe_ifExp (pt_cut (pt_cmpR (op_eqD hr.units) (pe_slice sl_list (pv 4) (po_some (pe_un un_neg pe_int)) po_none) (pe_lst (pa_cons (pv 7) pa_nil)) (nomark _))) (pe_slice sl_list (pv 4) po_none (po_some (pe_un un_neg pe_int))) (pv 4)))))
            (pss_cons (ps_expr (pe_bm PySem.F.plainAttrs_list PySem.F.slot_list_append PySem.F.type_list_append mt_append (pv 3) (pa_cons (pe_tup (pa_cons pe_str (pa_cons (pv 7) pa_nil))) pa_nil)))
            (pss_one (ps_expr (pe_bm PySem.F.plainAttrs_list PySem.F.slot_list_append PySem.F.type_list_append mt_append (pv 4) (pa_cons (pv 7) pa_nil)))))))))))
      ) (pss_one (ps_ret (pv 3)))), ?_⟩
    refine ⟨Nat.zero_le _, fun g hg => ⟨Nat.zero_le _, fun h0' hh => ⟨_, _, rfl, ?_⟩⟩⟩
    have gp : g ≠ p := hp.free hg
    have hh0 : H h0' = none := (Same.new hg).free hh
    have hgne : g ≠ h0' := ne_of_none upd_same hh
    have ofz : ∀ {hs : List Str}, (∀ z ∈ hs, z ∈ zs) → SeqAt.shaped (.list (hs.map PyData.str)) = true := fun {hs} q => (nice_list (nice_strs fun z m => hI z (q z m))).shaped (by decide)
    refine ⟨_, rfl, m, rfl, by omega, by omega, for_range (lo := 0) (n := m.toNat) (fun i σ H3 => ∃ (h : Addr) (xs : List V) (ss : List Stp) (hs : List Str) (y5 y6 y7 : Option V), σ = [some (.ref p), some (.ref l), some (.int m), some (.ref g), some (.ref h), y5, y6, y7] ∧ SI p l g h zs H H3 xs ss hs ∧ ss.length = i ∧ xs.length = i ∧ hs.length ≤ i) ?_ ?_ ?_⟩
    · refine ⟨h0', [], [], [], none, none, none, rfl, ⟨(But.of (Same.new hg)).free hh0, (hp.upd gp).upd (hp.free hh0), ?_, ?_, .nil, fun s q => (by cases q), upd_same, fun z q => (by cases q), lp, gp, hg, hp.free hh0, hh0, Ne.symm hgne, Ne.symm (ne_of_none hl hh0), ne_of_none hl hg⟩, rfl, rfl, Nat.le_refl _⟩
      · rw [upd_ne (ne_of_none hl hh0), upd_ne (ne_of_none hl hg)]
        exact hl
      · rw [upd_ne hgne]
        exact upd_same
    · rintro i σ H3 hi ⟨h, xs, ss, hs, y5, y6, y7, rfl, a, hsl, hxl, hhl⟩
      refine ⟨_, rfl, p, 8, rfl, a.pl, by decide, by decide, fun r H4 b4 p4 r0 r1 => ?_⟩
      have a4 := a.draw b4 p4
      have hzp : 0 < zs.length := List.length_pos_iff.mpr hne
      refine ⟨_, rfl, _, rfl, _, rfl, l, _, rfl, .inl (.of a4.it), p, _, rfl, a4.pl, ?_, ?_, fun r2 H5 b5 p5 s0 s1 => ?_⟩
      · rw [List.length_map]
        omega
      · rw [List.length_map]
        omega
      rw [List.length_map] at s1
      obtain ⟨z, zm, az⟩ := pick_str s0 s1
      have a5 := a4.draw b5 p5
      refine ⟨l, _, r2, _, rfl, rfl, .of a5.it, az, ?_⟩
      -- way < 3 and held != []
      refine ⟨fun b H6 => SI p l g h zs H H6 xs ss hs ∧ (b = true → hs ≠ []), ?_, ?_⟩
      · refine ⟨_, rfl, r, 3, rfl, rfl, _, rfl, ite2 (fun c => ?_) (fun c => ?_)⟩
        · refine ⟨_, rfl, Nat.zero_le _, fun q hq => ⟨.list (hs.map .str), .list (([] : List Str).map .str), .lst (.of (a5.new hq).hl) (dp_strs hs), .lst (.of upd_same) .nil, ofz a5.hz, ofz (fun z w => (by cases w)), _, rfl, a5.new hq, fun e => ?_⟩⟩
          rw [eqv_listS] at e
          intro z
          rw [z] at e
          exact absurd e (by decide)
        · exact ⟨a5, fun e => (by cases e)⟩
      rintro b H6 ⟨a6, hb⟩
      cases b with
      | true =>
        have hs0 : hs ≠ [] := hb rfl
        refine iteT ?_
        have hlast : (hs.map V.str)[(hs.map V.str).length - 1]? = some (.str (hs.getLast hs0)) := by
          rw [List.length_map, List.getElem?_map, ← List.getLast?_eq_getElem?, List.getLast?_eq_getLast hs0]
          rfl
        have hmem : hs.getLast hs0 ∈ zs := a6.hz _ (List.getLast_mem hs0)
        have a7 : SI p l g h zs H (upd H6 h (.lst (hs.dropLast.map V.str))) xs ss hs.dropLast := a6.hset fun z m => a6.hz z ((List.dropLast_sublist hs).subset m)
        refine ⟨.ref h, rfl, .inl ⟨rfl, _, .of a6.hl⟩, h, _, _, rfl, rfl, a6.hl, hlast, ?_⟩
        rw [← List.map_dropLast]
        refine ⟨.ref g, rfl, .inl ⟨rfl, _, .of a7.fl⟩, _, rfl, (by show 2 ≤ sizeLine; decide), fun t ht => ⟨g, _, _, rfl, rfl, (a7.new ht).fl, ?_, ?_⟩⟩
        · rw [hxl]
          exact small1000 (by omega)
        · refine ⟨h, _, ss ++ [(false, hs.getLast hs0)], _, _, _, _, rfl, (a7.new ht).app (c := false) upd_same hmem, ?_, ?_, ?_⟩
          · rw [List.length_append, hsl]
            rfl
          · rw [List.length_append, hxl]
            rfl
          · rw [List.length_dropLast]
            omega
      | false =>
        refine iteF ?_
        -- the other ways
        refine ⟨fun b H7 => SI p l g h zs H H7 xs ss hs, ?_, ?_⟩
        · refine ⟨_, rfl, rfl, _, rfl, ite2 (fun c => ?_) (fun c => ?_)⟩
          · exact a6
          · refine ⟨_, rfl, rfl, _, rfl, ite2 (fun c2 => ?_) (fun c2 => ?_)⟩
            · exact ⟨_, rfl, Nat.zero_le _, fun q hq => ⟨.list (hs.map .str), .list (([] : List Str).map .str), .lst (.of (a6.new hq).hl) (dp_strs hs), .lst (.of upd_same) .nil, ofz a6.hz, ofz (fun z w => (by cases w)), _, rfl, a6.new hq⟩⟩
            · exact a6
        rintro b H7 a7
        cases b with
        | true =>
          refine iteT ?_
          refine ⟨.ref g, rfl, .inl ⟨rfl, _, .of a7.fl⟩, _, rfl, (by show 2 ≤ sizeLine; decide), fun t ht => ⟨g, _, _, rfl, rfl, (a7.new ht).fl, ?_, ?_⟩⟩
          · rw [hxl]
            exact small1000 (by omega)
          have a8 := (a7.new ht).app (c := false) upd_same zm
          have fin : ∀ (v : Addr) (H9 : Hp) (ks : List Str), SI p l g v zs H H9 (xs ++ [.ref t]) (ss ++ [(false, z)]) ks → ks.length ≤ i → ∃ (h : Addr) (xs : List V) (ss : List Stp) (hs : List Str) (y5 y6 y7 : Option V), [some (.ref p), some (.ref l), some (.int m), some (.ref g), some (.ref v), some (.int (0 + i)), some (.int r), some (.str z)] = [some (V.ref p), some (.ref l), some (.int m), some (.ref g), some (.ref h), y5, y6, y7] ∧ SI p l g h zs H H9 xs ss hs ∧ ss.length = i + 1 ∧ xs.length = i + 1 ∧ hs.length ≤ i + 1 := by
            intro v H9 ks a9 kl
            refine ⟨v, _, _, ks, _, _, _, rfl, a9, ?_, ?_, by omega⟩
            · rw [List.length_append, hsl]
              rfl
            · rw [List.length_append, hxl]
              rfl
          refine ⟨fun b H8 => SI p l g h zs H H8 (xs ++ [.ref t]) (ss ++ [(false, z)]) hs, ?_, ?_⟩
          · refine ⟨_, rfl, 1, rfl, -1, rfl, h, _, rfl, .of a8.hl, fun q hq => ⟨_, rfl, (by show 1 ≤ sizeLine; decide), fun q2 hq2 => ?_⟩⟩
            have a9 := (a8.new hq (o := .lst (cutV (hs.map V.str) (some (-1)) none))).new hq2 (o := .lst [.str z])
            have ne2 : q ≠ q2 := ne_of_none upd_same hq2
            refine ⟨.list (((hs.drop (HT.sIx hs.length 0 (some (-1)))).take (HT.sIx hs.length hs.length none - HT.sIx hs.length 0 (some (-1)))).map .str), .list ([z].map .str), .lst (.of ?_) (dp_strs _), .lst (.of upd_same) (dp_strs [z]), ofz (fun y m => a8.hz y (cut_mem m)), ofz (fun y m => (by rw [List.mem_singleton.mp m]; exact zm)), _, rfl, a9⟩
            rw [upd_ne ne2, upd_same, cut_map]
          rintro b H8 a9
          cases b with
          | true =>
            refine iteT ?_
            refine ⟨_, rfl, 1, rfl, -1, rfl, h, _, rfl, .of a9.hl, fun q hq => ?_⟩
            rw [cut_map]
            refine fin q _ _ (a9.hnew hq fun y m => a9.hz y (cut_mem m)) ?_
            rw [List.length_take, List.length_drop]
            omega
          | false =>
            refine iteF ?_
            exact ⟨_, rfl, fin h H8 hs a9 hhl⟩
        | false =>
          refine iteF ?_
          refine ⟨.ref g, rfl, .inl ⟨rfl, _, .of a7.fl⟩, _, rfl, (by show 2 ≤ sizeLine; decide), fun t ht => ⟨g, _, _, rfl, rfl, (a7.new ht).fl, ?_, ?_⟩⟩
          · rw [hxl]
            exact small1000 (by omega)
          have a8 := (a7.new ht).app (c := true) upd_same zm
          refine ⟨.ref h, rfl, .inl ⟨rfl, _, .of a8.hl⟩, _, rfl, h, _, _, rfl, rfl, a8.hl, ?_, ?_⟩
          · rw [List.length_map]
            exact small1000 (by omega)
          · have a9 : SI p l g h zs H (upd _ h (.lst ((hs ++ [z]).map V.str))) (xs ++ [.ref t]) (ss ++ [(true, z)]) (hs ++ [z]) := a8.hset fun y m => by
              rcases List.mem_append.mp m with q | q
              · exact a8.hz y q
              · rw [List.mem_singleton.mp q]
                exact zm
            rw [List.map_append] at a9
            refine ⟨h, _, _, _, _, _, _, rfl, a9, ?_, ?_, ?_⟩
            · rw [List.length_append, hsl]
              rfl
            · rw [List.length_append, hxl]
              rfl
            · rw [List.length_append]
              show hs.length + 1 ≤ i + 1
              omega
    · rintro σ H3 ⟨h, xs, ss, hs, y5, y6, y7, rfl, a, hsl, hxl, hhl⟩
      exact ⟨_, rfl, k g xs ss H3 a.b a.pl hg a.fl a.st hsl a.sz⟩
end
end SE
namespace SE
open PySem PySem.Spec PyProof.Rows L2
/-! ### what is never reached; types -/
theorem pe_never {X : Cx} {e : Expr} : PE X e (fun _ _ _ => False) := ⟨fun _ _ _ _ _ _ h => h.elim⟩
theorem ty_tup {K : PySem.W.Frag} {H : Hp} {a : Addr} {xs : List V} (h : SqT K H a xs) : TyX K H (.ref a) (.type "tuple") := by
  rcases h with (h | ⟨o, h⟩) | ⟨o, its, n, h1, h2, _⟩
  · exact .base (.tup h)
  · exact .fTuple h
  · exact .kTuple h1 h2
theorem ty_lst {K : PySem.W.Frag} {H : Hp} {a : Addr} {xs : List V} (h : SqL K H a xs) : TyX K H (.ref a) (.type "list") := by
  rcases h with (h | ⟨o, h⟩) | ⟨o, its, n, h1, h2, _⟩
  · exact .base (.lst h)
  · exact .base (.frz h)
  · exact .kList h1 h2
theorem bl_snoc (n : Nat) : (List.replicate n true).map V.bl ++ [V.bl true] = (List.replicate (n + 1) true).map V.bl := by
  rw [List.replicate_succ', List.map_append]
  rfl
theorem all_true (n : Nat) : (List.replicate n true).all id = true := by
  rw [List.all_eq_true]
  intro b hb
  rw [(List.mem_replicate.mp hb).2]
  rfl
theorem abc_has {c : Nat} (h : 97 ≤ c ∧ c ≤ 122) : c ∈ abc.cps.toList := by
  have q : ∀ j : Fin 26, (97 + j.1) ∈ abc.cps.toList := by decide +kernel
  have z := q ⟨c - 97, by omega⟩
  have e : 97 + (c - 97) = c := by omega
  rw [← e]
  exact z
/-- the module's constants -/
structure Cons (K : PySem.W.Frag) (w : World) (mg : Str → Option Value) : Prop where
  let_ : ∃ t, mg "LETTERS" = some (.str abc t)
  ml : ∃ t, mg "MOST_LETTERS" = some (.int 8 t)
  ms : ∃ t, mg "MOST_STEPS" = some (.int 1000 t)
  opp : ∃ (d : Addr) (es : Array DictEntry) (n : Nat) (u v : Value), mg "OPPOSITES" = some (.ref d) ∧ KDict K w d es n ∧ PySem.W.nsIn K d "push" = some (some u) ∧ RelV (.str "pop") u ∧ PySem.W.nsIn K d "pop" = some (some v) ∧ RelV (.str "push") v
/-- built-in names that the module leaves as they are -/
structure Blt (mg : Str → Option Value) : Prop where
  isi : mg "isinstance" = none
  str : mg "str" = none
  len : mg "len" = none
  all : mg "all" = none
  tup : mg "tuple" = none
  lst : mg "list" = none
  enu : mg "enumerate" = none
section
variable {P : Program} {w : World} {K : PySem.W.Frag} {mg : Str → Option Value} {base : Heap}
/-! ### is_item -/
def spIsItem : Sp := fun xs H Q _ => ∃ (z : Str), xs = [.str z] ∧ Item z ∧ ∀ H', Same H H' → Q (.bl true) H'
theorem scIsItem : FnScope ["value", "letter"] ["value"] (defScope sIsItem) := ⟨rfl, rfl, rfl, by decide +kernel, rfl, by decide +kernel, by decide +kernel⟩
theorem has_isItem (D : Def K mg "is_item" sIsItem) (B : Blt mg) (C : Cons K w mg) : Has P w K mg base "is_item" 1 ["value"] [] spIsItem := by
  obtain ⟨tl, hL⟩ := C.let_
  obtain ⟨tm, hM⟩ := C.ml
  refine has_of D scIsItem (fun _ _ _ _ _ _ us hl => match us, hl with | [_], _ => rfl) (fun xs H Q E h => ?_) (fun f cv A out s H xs Q E hr h => ?_)
  · obtain ⟨z, rfl, _⟩ := h
    rfl
  · obtain ⟨z, rfl, iz, k⟩ := h
    refine ⟨_, pss_cons (ps_if (PW.pt (pw_or (pt_not (pt_val (pe_callB call_isi (by rfl) B.isi (by decide +kernel) (pa_cons (pv 0) (pa_cons (pe_bltn (v := .ty "str") (by rfl) B.str (by decide +kernel) rfl) pa_nil)))))
        (pw_or1 (pt_not (pt_chain op_le op_le pe_int (pe_callB call_len_str (by rfl) B.len PySem.boot_len (pa_cons (pv 0) pa_nil)) (pe_glob (v := .int 8) rfl hM ⟨_, rfl⟩)))))) (pss_one (ps_ret pe_bl)) pss_nil)
      (pss_one (ps_ret (pe_callB (cr_all rfl) (by rfl) B.all (by decide +kernel) (pa_cons
        (pe_lc (own := [("letter", 1)]) (g := gName 1) (tt := tYes) rfl scIsItem.nd (pi_str (pv 0)) (blkOk_by (own := [("letter", 1)]) (N := ["value", "letter"]) (sc := defScope sIsItem) (by decide +kernel))
          (fun _ _ _ _ _ => pg_name (i := 1) scIsItem.nd rfl (.inl rfl)) (fun _ _ _ _ _ => pts_nil) (fun _ _ _ _ _ => pe_cmpR op_in_sign (pv 1) (pe_glob (v := .str abc) rfl hL ⟨_, rfl⟩) (by rfl))) pa_nil)))), ?_⟩
    refine ⟨_, rfl, _, .ty "str", .type "str", .type "str", true, rfl, .ty _, .base (.str z), kit_ty (by decide +kernel), true, rfl, iteF ?_⟩
    have p1 : (1 : Int) ≤ (z.length : Int) := by have := iz.pos; omega
    have p2 : (z.length : Int) ≤ 8 := by have := iz.most; omega
    refine ⟨_, rfl, z, rfl, Nat.le_of_lt (small1000 (by have := iz.most; omega)), 1, _, rfl, rfl, true, congrArg V.bl (decide_eq_true p1), iteT ⟨_, 8, rfl, rfl, true, congrArg V.bl (decide_eq_true p2), iteF ?_⟩⟩
    refine ⟨_, rfl, z, rfl, fun D hD => lc_it walk_str (fun j H2 => H2 D = some (.lst ((List.replicate j true).map V.bl)) ∧ Same H H2) ⟨upd_same, Same.new hD⟩ (fun _ _ _ _ => trivial) ?_ ?_⟩
    · rintro j x H2 H3 hj ⟨h2, s2⟩ ⟨rfl, c, hc, rfl⟩
      refine ⟨rfl, yes_in ⟨_, rfl, c, abc, rfl, rfl, _, h2, ?_, ?_, ?_⟩⟩
      · rw [List.length_map, List.length_replicate]
        have : j < z.length := hj
        have := iz.most
        exact small1000 (by omega)
      · have cm : c ∈ z.cps.toList := by
          have q : z.cps.toList[j]? = some c := by rw [Array.getElem?_toList]; exact hc
          exact List.mem_of_getElem? q
        rw [upd_same, decide_eq_true (abc_has (iz.low c cm)), bl_snoc]
      · exact Same.free2 s2 hD
    · rintro H2 ⟨h2, s2⟩
      refine ⟨D, _, rfl, .of h2, ?_⟩
      rw [all_true]
      exact k H2 s2
/-! ### is_word -/
def spIsWord (K : PySem.W.Frag) : Sp := fun xs H Q _ => ∃ (a : Addr) (zs : List Str), xs = [.ref a] ∧ SqT K H a (zs.map V.str) ∧ zs.length ≤ 5000 ∧ (∀ z ∈ zs, Item z) ∧ ∀ H', Same H H' → Q (.bl true) H'
theorem scIsWord : FnScope ["value", "item"] ["value"] (defScope sIsWord) := ⟨rfl, rfl, rfl, by decide +kernel, rfl, by decide +kernel, by decide +kernel⟩
theorem has_isWord (D : Def K mg "is_word" sIsWord) (G : Has P w K mg base "is_item" 1 ["value"] [] spIsItem) (B : Blt mg) : Has P w K mg base "is_word" 2 ["value"] [] (spIsWord K) := by
  refine has_of D scIsWord (fun _ _ _ _ _ _ us hl => match us, hl with | [_], _ => rfl) (fun xs H Q E h => ?_) (fun f cv A out s H xs Q E hr h => ?_)
  · obtain ⟨a, zs, rfl, _⟩ := h
    rfl
  · obtain ⟨a, zs, rfl, hT, hz, hI, k⟩ := h
    refine ⟨_, pss_one (ps_ret (pe_and (pe_callB call_isi (by rfl) B.isi (by decide +kernel) (pa_cons (pv 0) (pa_cons (pe_bltn (v := .ty "tuple") (by rfl) B.tup (by decide +kernel) rfl) pa_nil)))
      (pe_one (pe_callB (cr_all rfl) (by rfl) B.all (by decide +kernel) (pa_cons
        (pe_lc (own := [("item", 1)]) (g := gName 1) (tt := tYes) (te := tCall spIsItem [] E0 (tCons (tVar 1) tNil)) rfl scIsWord.nd (pi_tup (pv 0)) (blkOk_by (own := [("item", 1)]) (N := ["value", "item"]) (sc := defScope sIsWord) (by decide +kernel))
          (fun _ _ _ _ _ => pg_name (i := 1) scIsWord.nd rfl (.inl rfl)) (fun _ _ _ _ _ => pts_nil) (fun _ _ _ _ _ => pe_has G hr (pa_cons (pv 1) pa_nil))) pa_nil))))), ?_⟩
    refine ⟨_, rfl, _, .ty "tuple", .type "tuple", .type "tuple", true, rfl, .ty _, ty_tup hT, kit_ty (by decide +kernel), true, rfl, iteT ?_⟩
    refine ⟨_, rfl, a, rfl, ⟨_, hT⟩, fun D hD => lc_tup (K := K) (a := a) (xs := zs.map V.str) (fun j H2 => H2 D = some (.lst ((List.replicate j true).map V.bl)) ∧ Same H H2) ⟨upd_same, Same.new hD⟩ (fun _ _ _ q => Same.tup q.2 hT) ?_ ?_⟩
    · rintro j x H2 hj ⟨h2, s2⟩
      have jl : j < zs.length := by
        have := (List.getElem?_eq_some_iff.mp hj).1
        rwa [List.length_map] at this
      rw [List.getElem?_map, List.getElem?_eq_getElem jl] at hj
      have e := Option.some.inj hj
      subst e
      refine ⟨rfl, yes_in ⟨_, rfl, zs[j], rfl, hI _ (List.getElem_mem jl), fun H3 s3 => ⟨_, s3 _ _ h2, ?_, ?_, ?_⟩⟩⟩
      · rw [List.length_map, List.length_replicate]
        exact Nat.lt_of_lt_of_le jl (Nat.le_trans hz (by decide))
      · rw [upd_same, bl_snoc]
      · exact Same.free2 (s2.trans s3) hD
    · rintro H2 ⟨h2, s2⟩
      refine ⟨D, _, rfl, .of h2, ?_⟩
      rw [all_true]
      exact k H2 s2
/-! ### is_step -/
def spIsStep (K : PySem.W.Frag) : Sp := fun xs H Q _ => ∃ (v : V) (s : Stp), xs = [v] ∧ StepV K H v s ∧ Item s.2 ∧ ∀ H', Same H H' → Q (.bl true) H'
theorem scIsStep : FnScope ["value", "action", "item"] ["value"] (defScope sIsStep) := ⟨rfl, rfl, rfl, by decide +kernel, rfl, by decide +kernel, by decide +kernel⟩
theorem has_isStep (D : Def K mg "is_step" sIsStep) (G : Has P w K mg base "is_item" 1 ["value"] [] spIsItem) (B : Blt mg) (C : Cons K w mg) : Has P w K mg base "is_step" 2 ["value"] [] (spIsStep K) := by
  obtain ⟨d, es, n, u1, u2, hO, KD, n1, r1, n2, r2⟩ := C.opp
  refine has_of D scIsStep (fun _ _ _ _ _ _ us hl => match us, hl with | [_], _ => rfl) (fun xs H Q E h => ?_) (fun f cv A out s H xs Q E hr h => ?_)
  · obtain ⟨v, st, rfl, _⟩ := h
    rfl
  · obtain ⟨v, st, rfl, ⟨t, rfl, hT⟩, iz, k⟩ := h
    refine ⟨_, pss_cons (ps_if (PW.pt (pw_or (pt_not (pt_val (pe_callB call_isi (by rfl) B.isi (by decide +kernel) (pa_cons (pv 0) (pa_cons (pe_bltn (v := .ty "tuple") (by rfl) B.tup (by decide +kernel) rfl) pa_nil)))))
        (pw_or1 (pt_cmpR op_ne (pe_callB call_len_seq (by rfl) B.len PySem.boot_len (pa_cons (pv 0) pa_nil)) pe_int (nomark _))))) (pss_one (ps_ret pe_bl)) pss_nil)
      (pss_cons (ps_asg (pv 0) (pg_tup (by rfl) (pgs_cons (pg_name (i := 1) scIsStep.nd rfl (.inl rfl)) (pgs_cons (pg_name (i := 2) scIsStep.nd rfl (.inl rfl)) pgs_nil))))
      (pss_one (ps_ret (pe_and (pe_callB call_isi (by rfl) B.isi (by decide +kernel) (pa_cons (pv 1) (pa_cons (pe_bltn (v := .ty "str") (by rfl) B.str (by decide +kernel) rfl) pa_nil)))
        (pe_and (pe_cmpR (op_in_kd KD) (pv 1) (pe_glob (v := .ref d) rfl hO rfl) (by rfl)) (pe_one (pe_has G hr (pa_cons (pv 2) pa_nil)))))))), ?_⟩
    refine ⟨_, rfl, _, .ty "tuple", .type "tuple", .type "tuple", true, rfl, .ty _, ty_tup hT, kit_ty (by decide +kernel), true, rfl, iteF ?_⟩
    refine ⟨_, rfl, t, _, rfl, .inr hT, rfl, _, rfl, iteF ?_⟩
    refine ⟨_, rfl, t, _, rfl, hT, rfl, _, _, rfl, _, _, rfl, rfl, ?_⟩
    refine ⟨_, rfl, _, .ty "str", .type "str", .type "str", true, rfl, .ty _, .base (.str _), kit_ty (by decide +kernel), true, rfl, iteT ?_⟩
    have inO : ∃ r, PySem.W.nsIn K d (act st.1) = some r ∧ r.isSome = true := by
      cases e : st.1 with
      | true => exact ⟨some u1, n1, rfl⟩
      | false => exact ⟨some u2, n2, rfl⟩
    obtain ⟨r, hr1, hr2⟩ := inO
    refine ⟨_, rfl, act st.1, r, rfl, rfl, hr1, r.isSome, rfl, ?_⟩
    rw [hr2]
    exact iteT ⟨_, rfl, st.2, rfl, iz, k⟩
end
end SE
namespace SE
open PySem PySem.Spec PyProof.Rows L2
section
variable {P : Program} {w : World} {K : PySem.W.Frag} {mg : Str → Option Value} {base : Heap}
/-! ### may_hold_steps -/
def spMay (K : PySem.W.Frag) : Sp := fun xs H Q _ => ∃ (a : Addr) (ys : List V), xs = [.ref a] ∧ (SqL K H a ys ∨ SqT K H a ys) ∧ ys.length ≤ 1000 ∧ ∀ H', Same H H' → Q (.bl true) H'
theorem scMay : FnScope ["value"] ["value"] (defScope sMayHold) := ⟨rfl, rfl, rfl, by decide +kernel, rfl, by decide +kernel, by decide +kernel⟩
theorem has_may (D : Def K mg "may_hold_steps" sMayHold) (B : Blt mg) (C : Cons K w mg) : Has P w K mg base "may_hold_steps" 1 ["value"] [] (spMay K) := by
  obtain ⟨tm, hM⟩ := C.ms
  refine has_of D scMay (fun _ _ _ _ _ _ us hl => match us, hl with | [_], _ => rfl) (fun xs H Q E h => ?_) (fun f cv A out s H xs Q E hr h => ?_)
  · obtain ⟨a, ys, rfl, _⟩ := h
    rfl
  · obtain ⟨a, ys, rfl, hS, hl, k⟩ := h
    refine ⟨_, pss_one (ps_ret (pe_and (pe_callB call_isiT (by rfl) B.isi (by decide +kernel) (pa_cons (pv 0) (pa_cons (pe_tup (pa_cons (pe_bltn (v := .ty "list") (by rfl) B.lst (by decide +kernel) rfl) (pa_cons (pe_bltn (v := .ty "tuple") (by rfl) B.tup (by decide +kernel) rfl) pa_nil))) pa_nil)))
      (pe_one (pe_cmpR op_le (pe_callB call_len_seq (by rfl) B.len PySem.boot_len (pa_cons (pv 0) pa_nil)) (pe_glob (v := .int 1000) rfl hM ⟨_, rfl⟩) (nomark _))))), ?_⟩
    refine ⟨_, rfl, (by show 2 ≤ sizeLine; decide), fun t ht => ?_⟩
    have s1 : Same H (upd H t (.tup [.ty "list", .ty "tuple"])) := Same.new ht
    have p1 : (ys.length : Int) ≤ 1000 := by omega
    have ty : ∃ T, TyX K (upd H t (.tup [.ty "list", .ty "tuple"])) (.ref a) T ∧ PySem.W.kitAny K T [.type "list", .type "tuple"] = some true := by
      rcases hS with q | q
      · exact ⟨_, ty_lst (Same.seq s1 q), kitAny_cons (b := true) (kit_ty (by decide +kernel)) (fun z => (by cases z)) (fun _ => rfl)⟩
      · exact ⟨_, ty_tup (Same.tup s1 q), kitAny_cons (b := false) (kit_ty (by decide +kernel)) (fun _ => kitAny_cons (b := true) (kit_ty (by decide +kernel)) (fun z => (by cases z)) (fun _ => rfl)) (fun z => (by cases z))⟩
    obtain ⟨T, ty1, ty2⟩ := ty
    refine ⟨_, t, _, T, _, true, rfl, upd_same, .cons (.ty _) (.cons (.ty _) .nil), ty1, ty2, true, rfl, iteT ?_⟩
    refine ⟨_, rfl, a, ys, rfl, hS.imp (Same.seq s1) (Same.tup s1), _, 1000, rfl, rfl, ?_⟩
    show Q (V.bl (decide ((ys.length : Int) ≤ 1000))) _
    rw [decide_eq_true p1]
    exact k _ s1
/-! ### check_steps -/
def spChkSteps (K : PySem.W.Frag) : Sp := fun xs H Q _ => ∃ (a : Addr) (ys : List V) (ss : List Stp), xs = [.ref a] ∧ (SqL K H a ys ∨ SqT K H a ys) ∧ ys.length ≤ 1000 ∧ StepsV K H ys ss ∧ (∀ s ∈ ss, Item s.2) ∧ ∀ H', Same H H' → Q .non H'
theorem scChk : FnScope ["steps", "index", "step"] ["steps"] (defScope sChkSteps) := ⟨rfl, rfl, rfl, by decide +kernel, rfl, by decide +kernel, by decide +kernel⟩
theorem walk_enumT {K : PySem.W.Frag} {a : Addr} {xs : List V} : Walk (ItE K a) xs.length (fun H => SqT K H a xs) (YPair (fun i => some (.int (i : Nat))) (fun i => xs[i]?)) := by
  refine ⟨fun i _ hi q => ⟨xs, xs[i], q, by simp [hi]⟩, fun _ q => ⟨xs, q, Nat.le_refl _⟩, fun i H v H2 _ q y => ?_⟩
  obtain ⟨T, x, h1, h2, h3, h4⟩ := y
  exact ⟨T, .int (i : Nat), x, h1, h2, h3, rfl, h4 xs q⟩
theorem has_chkSteps (D : Def K mg "check_steps" sChkSteps) (GM : Has P w K mg base "may_hold_steps" 1 ["value"] [] (spMay K)) (GS : Has P w K mg base "is_step" 2 ["value"] [] (spIsStep K)) (B : Blt mg) : Has P w K mg base "check_steps" 3 ["steps"] [] (spChkSteps K) := by
  refine has_of D scChk (fun _ _ _ _ _ _ us hl => match us, hl with | [_], _ => rfl) (fun xs H Q E h => ?_) (fun f cv A out s H xs Q E hr h => ?_)
  · obtain ⟨a, ys, ss, rfl, _⟩ := h
    rfl
  · obtain ⟨a, ys, ss, rfl, hS, hl, hV, hI, k⟩ := h
    have hr1 : Room 1 _ := hr.mono (by decide)
    have one : ∀ {i : Nat} {y : V} {H2 : Hp}, ys[i]? = some y → Same H H2 → ∃ s, StepV K H2 y s ∧ Item s.2 := by
      intro i y H2 hy s2
      obtain ⟨st, h1, h2⟩ := StepsV.at hV hy
      exact ⟨st, h2.same s2, hI st (List.mem_of_getElem? h1)⟩
    rcases hS with hS | hS
    · refine ⟨_, pss_cons (ps_if (pt_not (pt_val (pe_has GM hr1 (pa_cons (pv 0) pa_nil)))) pss_never pss_nil)
        (pss_one (ps_for PassesOwn.never rfl (pi_enum (by rfl) B.enu (pa_cons (pv 0) pa_nil)) (pg_tup (by rfl) (pgs_cons (pg_name (i := 1) scChk.nd rfl (.inl rfl)) (pgs_cons (pg_name (i := 2) scChk.nd rfl (.inl rfl)) pgs_nil)))
          (pss_one (ps_if (pt_not (pt_val (pe_has GS hr (pa_cons (pv 2) pa_nil)))) pss_never pss_nil)))), ?_⟩
      refine ⟨_, rfl, a, ys, rfl, .inl hS, hl, fun H1 s1 => ⟨true, rfl, iteF ?_⟩⟩
      refine ⟨_, rfl, a, ys, rfl, Same.seq s1 hS, for_it (walk_enum (K := K) (a := a) (xs := ys)) (fun i σ H2 => ∃ y1 y2, σ = [some (.ref a), y1, y2] ∧ Same H H2) ⟨none, none, rfl, s1⟩ (fun i σ H2 _ q => ?_) ?_ ?_⟩
      · obtain ⟨_, _, _, s2⟩ := q
        exact Same.seq s2 hS
      · rintro i x σ H2 H3 hi ⟨y1, y2, rfl, s2⟩ ⟨T, p, y, rfl, nT, rfl, hp, hy⟩
        refine ⟨T, _, rfl, .of upd_same, rfl, _, _, rfl, _, _, rfl, rfl, ?_⟩
        have s3 : Same H (upd H2 T (.tup [p, y])) := Same.free2 s2 (s2.free nT)
        obtain ⟨st, h1, h2⟩ := one hy s3
        exact ⟨_, rfl, y, st, rfl, h1, h2, fun H4 s4 => ⟨true, rfl, iteF ⟨_, _, rfl, s3.trans s4⟩⟩⟩
      · rintro σ H2 ⟨y1, y2, rfl, s2⟩
        exact k H2 s2
    · refine ⟨_, pss_cons (ps_if (pt_not (pt_val (pe_has GM hr1 (pa_cons (pv 0) pa_nil)))) pss_never pss_nil)
        (pss_one (ps_for PassesOwn.never rfl (pi_enumT (by rfl) B.enu (pa_cons (pv 0) pa_nil)) (pg_tup (by rfl) (pgs_cons (pg_name (i := 1) scChk.nd rfl (.inl rfl)) (pgs_cons (pg_name (i := 2) scChk.nd rfl (.inl rfl)) pgs_nil)))
          (pss_one (ps_if (pt_not (pt_val (pe_has GS hr (pa_cons (pv 2) pa_nil)))) pss_never pss_nil)))), ?_⟩
      refine ⟨_, rfl, a, ys, rfl, .inr hS, hl, fun H1 s1 => ⟨true, rfl, iteF ?_⟩⟩
      refine ⟨_, rfl, a, ys, rfl, Same.tup s1 hS, for_it (walk_enumT (K := K) (a := a) (xs := ys)) (fun i σ H2 => ∃ y1 y2, σ = [some (.ref a), y1, y2] ∧ Same H H2) ⟨none, none, rfl, s1⟩ (fun i σ H2 _ q => ?_) ?_ ?_⟩
      · obtain ⟨_, _, _, s2⟩ := q
        exact Same.tup s2 hS
      · rintro i x σ H2 H3 hi ⟨y1, y2, rfl, s2⟩ ⟨T, p, y, rfl, nT, rfl, hp, hy⟩
        refine ⟨T, _, rfl, .of upd_same, rfl, _, _, rfl, _, _, rfl, rfl, ?_⟩
        have s3 : Same H (upd H2 T (.tup [p, y])) := Same.free2 s2 (s2.free nT)
        obtain ⟨st, h1, h2⟩ := one hy s3
        exact ⟨_, rfl, y, st, rfl, h1, h2, fun H4 s4 => ⟨true, rfl, iteF ⟨_, _, rfl, s3.trans s4⟩⟩⟩
      · rintro σ H2 ⟨y1, y2, rfl, s2⟩
        exact k H2 s2
/-! ### check_word, is_limit, check_limit, check_run, is_too_high -/
def spChkWord (K : PySem.W.Frag) : Sp := fun xs H Q _ => ∃ (a : Addr) (zs : List Str), xs = [.ref a] ∧ SqT K H a (zs.map V.str) ∧ zs.length ≤ 5000 ∧ (∀ z ∈ zs, Item z) ∧ ∀ H', Same H H' → Q .non H'
theorem scCw : FnScope ["word"] ["word"] (defScope sChkWord) := ⟨rfl, rfl, rfl, by decide +kernel, rfl, by decide +kernel, by decide +kernel⟩
theorem has_chkWord (D : Def K mg "check_word" sChkWord) (G : Has P w K mg base "is_word" 2 ["value"] [] (spIsWord K)) : Has P w K mg base "check_word" 3 ["word"] [] (spChkWord K) := by
  refine has_of D scCw (fun _ _ _ _ _ _ us hl => match us, hl with | [_], _ => rfl) (fun xs H Q E h => ?_) (fun f cv A out s H xs Q E hr h => ?_)
  · obtain ⟨a, zs, rfl, _⟩ := h
    rfl
  · obtain ⟨a, zs, rfl, hT, hz, hI, k⟩ := h
    refine ⟨_, pss_one (ps_if (pt_not (pt_val (pe_has G hr (pa_cons (pv 0) pa_nil)))) pss_never pss_nil), ?_⟩
    exact ⟨_, rfl, a, zs, rfl, hT, hz, hI, fun H1 s1 => ⟨true, rfl, iteF (k H1 s1)⟩⟩
end
end SE
namespace SE
open PySem PySem.Spec PyProof.Rows L2
/-- a def with keyword-only defaults alone -/
def DefK (K : PySem.W.Frag) (mg : Str → Option Value) (x : Str) (st : Stmt) (kws : List (Str × V)) : Prop := ∃ f fd, Fun K x x st f fd ∧ FunD K x x (defArgs st) (defBody st) (defScope st) [] kws f fd ∧ mg x = some (.ref f)
end SE
namespace SE
open PySem PySem.Spec PyProof.Rows L2
section
variable {P : Program} {w : World} {K : PySem.W.Frag} {mg : Str → Option Value} {base : Heap}
/-! ### is_whole, is_between, check_between -/
def spWhole : Sp := fun xs H Q _ => ∃ n : Int, xs = [.int n] ∧ Q (.bl true) H
theorem scWh : FnScope ["value"] ["value"] (defScope sIsWhole) := ⟨rfl, rfl, rfl, by decide +kernel, rfl, by decide +kernel, by decide +kernel⟩
theorem has_whole (D : Def K mg "is_whole" sIsWhole) (B : Blt mg) (mi : mg "int" = none) (mb : mg "bool" = none) : Has P w K mg base "is_whole" 1 ["value"] [] spWhole := by
  refine has_of D scWh (fun _ _ _ _ _ _ us hl => match us, hl with | [_], _ => rfl) (fun xs H Q E h => ?_) (fun f cv A out s H xs Q E hr h => ?_)
  · obtain ⟨n, rfl, _⟩ := h
    rfl
  · obtain ⟨n, rfl, k⟩ := h
    refine ⟨_, pss_one (ps_ret (pe_and (pe_callB call_isi (by rfl) B.isi (by decide +kernel) (pa_cons (pv 0) (pa_cons (pe_bltn (v := .ty "int") (by rfl) mi (by decide +kernel) rfl) pa_nil)))
      (pe_one (pe_not (pe_callB call_isi (by rfl) B.isi (by decide +kernel) (pa_cons (pv 0) (pa_cons (pe_bltn (v := .ty "bool") (by rfl) mb (by decide +kernel) rfl) pa_nil))))))), ?_⟩
    refine ⟨_, rfl, _, .ty "int", .type "int", .type "int", true, rfl, .ty _, .base (.int n), kit_ty (by decide +kernel), true, rfl, iteT ?_⟩
    exact ⟨_, rfl, _, .ty "bool", .type "int", .type "bool", false, rfl, .ty _, .base (.int n), kit_ty (by decide +kernel), false, rfl, k⟩
end
end SE
/-! (x,) * n for n up to 5000. -/
namespace SE
open PySem PySem.Spec PyProof.Rows L2
def rRepB (K : PySem.W.Frag) : R2 := fun x y H Q => ∃ (l : Addr) (k : Int) (v : V), x = .ref l ∧ y = .int k ∧ SqT K H l [v] ∧ 2 ≤ k ∧ k ≤ 5000 ∧ ∀ p, H p = none → Q (.ref p) (upd H p (.tup (List.replicate k.toNat v)))
theorem op_repB {X : Cx} : OpR X (binaryOp .Mult) (rRepB X.K) := by
  intro pins s σ H x y a u Q I rx ry h
  obtain ⟨l, k, v, rfl, rfl, hT, h1, h2, q⟩ := h
  cases rx
  obtain ⟨t, rfl⟩ := ry
  obtain ⟨its, r, ⟨⟨cls, dd, data, sl⟩, ho, hc, n, hd⟩, hs⟩ := I.tuple hT
  simp only at hc hd
  subst hc hd
  obtain ⟨w, rfl⟩ : ∃ w, its = [w] := by
    cases r with
    | cons r1 r2 =>
      cases r2
      exact ⟨_, rfl⟩
  have sz : (([w] : List Value).toArray.size : Int) * k = k := by
    show ((1 : Nat) : Int) * k = k
    omega
  have rep : ∀ {α : Type} (z : α), (List.replicate k.toNat [z]).flatten = List.replicate k.toNat z := fun z => List.flatten_replicate_singleton
  have big : k.toNat ≤ sizeLine := by
    rw [sizeLine_eq]
    omega
  refine wpAny_binaryOp_repeat_ref (T := "tuple") (U := "int") (by decide) ⟨_, ho, rfl⟩ (fun s2 => typeIs_int s2 k t) noFill_tuple_mul F.fills_int_mul F.slot_int_rmul repeat_tuple F.slot_int_index.lookup ?_
  refine call_meets F.slot_int_rmul (typeIs_int s k t) F.entry_int_rmul (F.args_int_rmul_2 _ _) (int_rmul_tuple k t l _ n dd sl) ⟨ho, rfl, ⟨_, ho, rfl⟩, ?_⟩
  refine call_meets F.slot_tuple_mul ⟨_, ho, rfl⟩ F.entry_tuple_mul (F.args_tuple_mul_2 _ _) (tuple_mulW l _ n dd sl k t ?_ ?_ ?_ ?_ ?_ ?_) ⟨ho, ?_⟩
  · rw [decide_eq_false (by omega), decide_eq_false (by omega)]
    rfl
  · show (false || k == 1) = false
    rw [Bool.false_or]
    exact beq_eq_false_iff_ne.mpr (by omega)
  · show (decide (k ≤ 0) || false) = false
    rw [Bool.or_false]
    exact decide_eq_false (by omega)
  · rw [sz]
    omega
  · rw [sz]
    unfold Builtin.Tuple.tupleTooMany
    rw [sizeLine_eq]
    exact decide_eq_false (by omega)
  · rw [size_rep, List.size_toArray, rep, List.length_replicate]
    exact big
  · rw [size_rep, rep]
    refine ⟨.ref s.heap.objs.size, _, I.laid (t' := s.toks) (o := .tup (List.replicate k.toNat v)) (fun b ob e => Heap.get?_push_of_some _ e) (Nat.le_refl _) ?_, rfl, q _ (I.hok.fresh (Nat.le_refl _))⟩
    refine ⟨by rw [List.length_replicate]; exact big, _, ?_, IsTup.new _ _⟩
    have z := r.rep k.toNat
    rw [rep, rep] at z
    exact z
end SE
/-! Tuples: t * n, t + u, t[a:b] whichever object comes out; len(set(t)) of texts. -/
namespace SE
open PySem PySem.Spec PyProof.Rows L2
section
variable {X : Cx}
theorem tmul_one (l : Addr) (w : Value) (n : Nat) (dd : Option Addr) (sl : Array (Option Value)) (u : Tok) :
    Meets (Builtin.«tuple.__mul__» ⟨[.ref l, .int 1 u], []⟩) (fun _ R s => s.heap.get? l = some { cls := .type "tuple", dict := dd, data := .seq #[w] n, slots := sl } ∧ R (.ok (.ret (Value.ref l))) s) :=
  .of_wp fun prog wd A R s h => by
    obtain ⟨hp, g, d, tk, os⟩ := s
    obtain ⟨hl, h⟩ := h
    have f1 := AutoSeq1.idx_int
    wp_walk using AutoSeq1.wpAny_loadPart' hl
    exact ⟨_, rfl, h⟩
theorem tmul_none (l : Addr) (w : Value) (n : Nat) (dd : Option Addr) (sl : Array (Option Value)) (k : Int) (u : Tok) (h0 : -1000000 ≤ k) (h1 : k ≤ 0) :
    Meets (Builtin.«tuple.__mul__» ⟨[.ref l, .int k u], []⟩) (fun _ R s => s.heap.get? l = some { cls := .type "tuple", dict := dd, data := .seq #[w] n, slots := sl } ∧
      R (.ok (.ret (Value.ref s.heap.objs.size))) { s with heap := s.heap.push { cls := .type "tuple", data := .seq #[] } }) :=
  .of_wp fun prog wd A R s h => by
    obtain ⟨hp, g, d, tk, os⟩ := s
    obtain ⟨hl, h⟩ := h
    have f1 := AutoSeq1.idx_int
    have c0 : (decide (k < -(2 ^ 63)) || decide (k ≥ 2 ^ 63)) = false := by
      rw [decide_eq_false (by omega), decide_eq_false (by omega)]
      rfl
    have c1 : ((#[w] : Array Value).isEmpty || k == 1) = false := by
      show (false || k == 1) = false
      rw [Bool.false_or]
      exact beq_eq_false_iff_ne.mpr (by omega)
    have c2 : (decide (k ≤ 0) || (#[w] : Array Value).isEmpty) = true := by
      rw [decide_eq_true h1]
      rfl
    wp_walk using AutoSeq1.wpAny_loadPart' hl
    repeat (first
      | (refine wpAny_ite_false (decide_eq_false (by rw [c0]; exact Bool.false_ne_true)) ?_; wp_walk using AutoSeq1.wpAny_loadPart' hl)
      | (refine wpAny_ite_false (decide_eq_false (by rw [c1]; exact Bool.false_ne_true)) ?_; wp_walk using AutoSeq1.wpAny_loadPart' hl)
      | (refine wpAny_ite_true (decide_eq_true (by rw [c2])) ?_; wp_walk using AutoSeq1.wpAny_loadPart' hl))
    exact ⟨_, rfl, h⟩
/-- (x,) * k, any k -/
def rRepS (K : PySem.W.Frag) : R2 := fun x y H Q => ∃ (l : Addr) (k : Int) (v : V), x = .ref l ∧ y = .int k ∧ SqT K H l [v] ∧ -1000000 ≤ k ∧ k ≤ 5000 ∧ ∀ (p : Addr) (H' : Hp), Same H H' → SqT K H' p (List.replicate k.toNat v) → Q (.ref p) H'
theorem op_repS : OpR X (binaryOp .Mult) (rRepS X.K) := by
  intro pins s σ H x y a u Q I rx ry h
  obtain ⟨l, k, v, rfl, rfl, hT, h1, h2, q⟩ := h
  by_cases c : 2 ≤ k
  · exact op_repB pins s σ H _ _ a u Q I rx ry ⟨l, k, v, rfl, rfl, hT, c, h2, fun p hp => q p _ (Same.new hp) (.of upd_same)⟩
  cases rx
  obtain ⟨t, rfl⟩ := ry
  obtain ⟨its, r, ⟨⟨cls, dd, data, sl⟩, ho, hc, n, hd⟩, hs⟩ := I.tuple hT
  simp only at hc hd
  subst hc hd
  obtain ⟨w, rfl⟩ : ∃ w, its = [w] := by
    cases r with
    | cons r1 r2 =>
      cases r2
      exact ⟨_, rfl⟩
  refine wpAny_binaryOp_repeat_ref (T := "tuple") (U := "int") (by decide) ⟨_, ho, rfl⟩ (fun s2 => typeIs_int s2 k t) noFill_tuple_mul F.fills_int_mul F.slot_int_rmul repeat_tuple F.slot_int_index.lookup ?_
  refine call_meets F.slot_int_rmul (typeIs_int s k t) F.entry_int_rmul (F.args_int_rmul_2 _ _) (int_rmul_tuple k t l _ n dd sl) ⟨ho, rfl, ⟨_, ho, rfl⟩, ?_⟩
  by_cases c1 : k = 1
  · subst c1
    refine call_meets F.slot_tuple_mul ⟨_, ho, rfl⟩ F.entry_tuple_mul (F.args_tuple_mul_2 _ _) (tmul_one l w n dd sl t) ⟨ho, ?_⟩
    exact ⟨.ref l, H, I, rfl, q l H (Same.refl H) hT⟩
  · have k0 : k ≤ 0 := by omega
    refine call_meets F.slot_tuple_mul ⟨_, ho, rfl⟩ F.entry_tuple_mul (F.args_tuple_mul_2 _ _) (tmul_none l w n dd sl k t h1 k0) ⟨ho, ?_⟩
    refine ⟨.ref s.heap.objs.size, _, I.laid (t' := s.toks) (o := .tup []) (fun b ob e => Heap.get?_push_of_some _ e) (Nat.le_refl _) ?_, rfl, q _ _ (Same.new (I.hok.fresh (Nat.le_refl _))) ?_⟩
    · exact ⟨Nat.zero_le _, [], .nil, IsTup.new _ _⟩
    · rw [show k.toNat = 0 by omega]
      exact .of upd_same
/-- t + u -/
def rCatS (K : PySem.W.Frag) : R2 := fun x y H Q => ∃ (a b : Addr) (xs ys : List V), x = .ref a ∧ y = .ref b ∧ SqT K H a xs ∧ SqT K H b ys ∧ xs.length + ys.length ≤ sizeLine ∧ ∀ (p : Addr) (H' : Hp), Same H H' → SqT K H' p (xs ++ ys) → Q (.ref p) H'
theorem op_catS : OpR X (binaryOp .Add) (rCatS X.K) := by
  intro pins s σ H x y v u Q I rx ry h
  obtain ⟨a, b, xs, ys, rfl, rfl, ha, hb, hz, q⟩ := h
  refine op_catA pins s σ H _ _ v u Q I rx ry ⟨a, b, xs, ys, rfl, rfl, ha, hb, hz, fun e => ?_, fun _ e => ?_, fun _ _ p hp => q p _ (Same.new hp) (.of upd_same)⟩
  · subst e
    exact q b H (Same.refl H) hb
  · subst e
    exact q a H (Same.refl H) (by rw [List.append_nil]; exact ha)
/-- t[lo:hi] -/
def rSlS (K : PySem.W.Frag) : V → Option Int → Option Int → Hp → VK → Prop := fun x lo hi H Q => ∃ (a : Addr) (xs : List V), x = .ref a ∧ SqT K H a xs ∧ ∀ (p : Addr) (H' : Hp), Same H H' → SqT K H' p (cutV xs lo hi) → Q (.ref p) H'
theorem sl_tupS : SlR X (rSlS X.K) := by
  intro pins s σ H x v vl vu lo hi sl Q I rx hs pl pu h
  obtain ⟨a, xs, rfl, hx, q⟩ := h
  refine sl_tupA pins s σ H _ v vl vu lo hi sl Q I rx hs pl pu ⟨a, xs, rfl, hx, fun e => q a H (Same.refl H) ?_, fun _ p hp => q p _ (Same.new hp) (.of upd_same)⟩
  have e2 : cutV xs lo hi = xs := by
    unfold cutV
    rw [e.1, e.2, List.drop_zero, Nat.sub_zero, List.take_length]
  rw [e2]
  exact hx
end
end SE
/-! A for in a generator's body; a generator def called with keywords. -/
namespace SE
open PySem PySem.Spec PyProof.Rows L2 GenW
section
variable {X : Cx}
def tGFor (wi : TI) (g : TG) (tb : TGn) : TGn := fun D ys σ H => wi σ H fun J H1 => ∃ W : Nat → Nat → List V → L2.St → Hp → Prop, (∃ m, W 0 m ys σ H1) ∧ ∀ i m ys σ H, W i m ys σ H →
  (J.stop i H ∧ D.nx ys σ H) ∨ (J.go i H ∧ ∃ N : List V → L2.St → Hp → Prop, (∀ zs σ2 H2, N zs σ2 H2 → ∃ j, j < m ∧ W (i + 1) j zs σ2 H2) ∧ ∀ x H2, J.yld i H x H2 → g x σ H2 fun σ3 H3 => tb { D with nx := N, ct := N, bk := D.nx } ys σ3 H3)
theorem gs_for {tg iter : Expr} {body : List Stmt} {pos : Pos} {wi : TI} {g : TG} {tb : TGn} (hp : PassesOwn (model X.prog X.w) X.A X.env X.xe) (hc : X.calm = true) (hi : PI X tg iter wi) (hg : PG X tg g) (hb : GSs X body tb)
    (hs : ∀ x, foldedSetIterable iter X.env x = pure x := by intro _; rfl) : GS X (.For tg iter body [] pos) (tGFor wi g tb) := by
  constructor
  intro A S ip R n ys s₀ c fs K J gd lv s σ H D gc hn k hI ht
  obtain ⟨acc, cc, r, I⟩ := hI
  rw [exec_For]
  refine seg_bind_wrap (wpAny_standAt ?_)
  refine seg_bind_wrap ?_
  rw [gc.over]
  refine wpAny_mono (hi.run _ s σ H _ I ht) (fun v s1 h1 => ?_) fun x s2 hx => k.exc n s₀ x s2 hx
  refine seg_bind_wrap (wpAny_of_eq (hs v) ?_)
  refine seg_bind_wrap (wpAny_standAt ?_)
  refine seg_bind_wrap (wpAny_holding ?_)
  rw [gc.over]
  refine wpAny_mono h1 (fun itv s2 h2 => ?_) fun x s3 hx => k.exc n s₀ x s3 hx
  obtain ⟨it, fp, tn, Jt, H2, e2, I2, T, st2, f2, W, ⟨m0, w0⟩, turn⟩ := h2
  subst e2
  refine seg_call fun p => ?_
  have gl := fun (kk : Result → Sem PySem.Fin) => gc_loop (X := X) (k := kk) (c' := .forLoop tg (.ref it) body [] X.env) (l := lv []) (kp := []) (p := p) gc rfl rfl
  have apart : ∀ b ∈ fp, b ≠ S := fun b hb z => by
    obtain ⟨_, _, _, _, _, q⟩ := f2 b hb
    exact q (S, lstObj acc cc) (List.mem_append_right _ List.mem_cons_self) z.symm
  have fpok : ∀ {acc2 : Array Value} {c2 : Nat} {H3 : Hp}, (∀ b ∈ fp, H3 b = none) → ∀ b ∈ fp, FpOk X ((S, lstObj acc2 c2) :: ip) H3 b := by
    intro acc2 c2 H3 hn3 b hb
    obtain ⟨_, a2, a3, a4, a5, a6⟩ := f2 b hb
    refine ⟨hn3 b hb, a2, a3, a4, a5, fun q hq => ?_⟩
    rcases List.mem_append.mp hq with z | z
    · exact a6 q (List.mem_append_left _ z)
    · rcases List.mem_cons.mp z with y | y
      · rw [y]
        exact Ne.symm (apart b hb)
      · exact a6 q (List.mem_append_right _ (List.mem_cons_of_mem _ y))
  have loop : ∀ (m n i : Nat) (ys : List V) (s₀ s : Shared) (σ : L2.St) (H : Hp), n + ys.length = sizeLine → W i m ys σ H → GI X S ip ys σ H s → tn i s.heap → (∀ b ∈ fp, H b = none) →
      Seg (model X.prog X.w) A R (GY X S) n s₀ (.forLoop tg (.ref it) body [] X.env) ((model X.prog X.w).den (.forLoop tg (.ref it) body [] X.env))
        (.ret (fun r => ((match r with | .ok f => (.pure f : Sem Flow) | .error e => .raise e).onRaise (cameBack X.env)).wrap K J gd lv) none (gd false) (lv []) c p [] :: fs) s := by
    intro m
    induction m using Nat.strongRecOn with
    | ind m ih =>
      intro n i ys s₀ s σ H hn w hI st fr
      have ee : ∀ (n : Nat) (s₀ : Shared) (x : Value) (s4 : Shared), X.xe x s4 → Seg (model X.prog X.w) A R (GY X S) n s₀ (.forLoop tg (.ref it) body [] X.env)
          ((do noteFrame x X.env; theTreesLotGoes x : Sem Unit).bind fun _ => .raise x)
          (.ret (fun r => ((match r with | .ok f => (.pure f : Sem Flow) | .error e => .raise e).onRaise (cameBack X.env)).wrap K J gd lv) none (gd false) (lv []) c p [] :: fs) s4 := fun n s₀ x s4 hx => by
        rw [Sem.bind_eq_wrap]
        refine seg_wrap ?_
        rw [(gl _).over]
        refine wpAny_bind (wpAny_mono (hp x s4 hx) (fun _ s5 hcb => wpAny_theTreesLotGoes ?_) fun y s5 hcb => ?_)
        · exact seg_leaf (.error x) (seg_cameBack gc k hcb)
        · exact seg_leaf (.error y) (seg_cameBack gc k hcb)
      show Seg _ A R _ n s₀ _ ((forTurn tg (.ref it) body [] X.env).onRaise (fun x => do noteFrame x X.env; theTreesLotGoes x)) _ s
      unfold forTurn
      rw [Sem.onRaise_eq_wrap]
      refine seg_bind_wrap (wpAny_standAt ?_)
      refine seg_bind_wrap ?_
      rw [(gl _).over]
      obtain ⟨acc3, c3, r3, I3⟩ := hI
      rcases turn i m ys σ H w with ⟨stop, qn⟩ | ⟨go, N, hN, step⟩
      · refine wpAny_onRaise (wpAny_mono (T.done X rfl rfl rfl hc i _ s σ H X.xe I3 (fpok fr) st stop) (fun rr s4 hh => ?_) fun x s4 hx => wpAny_standAt (ee n s₀ x s4 hx))
        obtain ⟨hr, I4⟩ := hh
        subst hr
        refine seg_again rfl ?_
        show Seg _ A R _ n s₀ _ (do return Fin.done (← (execs [] X.env).onRaise (fun x => do noteFrame x X.env; theTreesLotGoes x))) _ s4
        exact seg_leaf (.ok .next) (k.ok n ys s₀ s4 .next hn ⟨σ, H, ⟨acc3, c3, r3, I4⟩, qn⟩)
      · refine wpAny_onRaise (wpAny_mono (T.item X rfl rfl rfl hc i _ s σ H X.xe I3 (fpok fr) st go) (fun rr s4 hh => ?_) fun x s4 hx => wpAny_standAt (ee n s₀ x s4 hx))
        obtain ⟨u, hr, h4⟩ := hh
        subst hr
        refine seg_bind_wrap ?_
        rw [(gl _).over]
        refine wpAny_mono h4 (fun _ s5 hh => ?_) fun x s5 hx => ee n s₀ x s5 hx
        obtain ⟨x, H5, I5, r5, y5, st5, fr5⟩ := hh
        have I6 := I5.pinned (fpok fr5) (T.obj _ _ st5)
        refine seg_bind_wrap ?_
        rw [(gl _).over]
        refine wpAny_mono (hg.run _ s5 σ H5 x u _ I6 r5 (step x H5 y5)) (fun _ s6 hh => ?_) fun x s6 hx => ee n s₀ x s6 hx
        obtain ⟨σ6, H6, I7, q6⟩ := hh
        have gb : GC X S (ip ++ pinsAt fp s5.heap) A (.forLoop tg (.ref it) body [] X.env) (.ret (fun r => ((match r with | .ok f => (.pure f : Sem Flow) | .error e => .raise e).onRaise (cameBack X.env)).wrap K J gd lv) none (gd false) (lv []) c p [] :: fs) id := by
          have q := gl (fun r => ((match r with | .ok f => (.pure f : Sem Flow) | .error e => .raise e).onRaise (cameBack X.env)).wrap K J gd lv)
          refine ⟨q.pn, fun z hz => ?_, q.apart, q.over, q.split, q.guard, q.gd⟩
          rcases List.mem_append.mp hz with y | y
          · exact q.ip z y
          · exact apart z.1 (of_pinsAt y).1
        rw [Sem.bind_eq_wrap', Sem.wrap_wrap]
        refine hb.run A S (ip ++ pinsAt fp s5.heap) R n ys s₀ _ _ _ _ id id s6 σ6 H6 { D with nx := N, ct := N, bk := D.nx } gb hn ⟨fun n2 zs s7 s8 f hn2 hs8 => ?_, fun n2 s7 x s8 hx => ee n2 s7 x s8 hx⟩ ⟨acc3, c3, r3, I7⟩ q6
        have again : ∀ {σ8 : L2.St} {H8 : Hp}, GI X S (ip ++ pinsAt fp s5.heap) zs σ8 H8 s8 → N zs σ8 H8 → Seg (model X.prog X.w) A R (GY X S) n2 s7 (.forLoop tg (.ref it) body [] X.env) ((model X.prog X.w).den (.forLoop tg (.ref it) body [] X.env))
            (.ret (fun r => ((match r with | .ok f => (.pure f : Sem Flow) | .error e => .raise e).onRaise (cameBack X.env)).wrap K J gd lv) none (gd false) (lv []) c p [] :: fs) s8 := by
          intro σ8 H8 G8 n8
          obtain ⟨j, hj, w8⟩ := hN zs σ8 H8 n8
          obtain ⟨acc8, c8, r8, I8⟩ := G8
          have pin8 : ∀ b ∈ fp, ∀ o, s5.heap.get? b = some o → s8.heap.get? b = some o ∧ H8 b = none := fun b hb o e => by
            have q := I8.pin (b, o) (List.mem_append_right _ (List.mem_cons_of_mem _ (List.mem_append_right _ (mem_pinsAt hb e))))
            exact ⟨q.1, q.2.1⟩
          refine ih j hj n2 (i + 1) zs s7 s8 σ8 H8 hn2 w8 ⟨acc8, c8, r8, I8.pins_of fun q hq => I8.pin q (List.mem_append_right _ ?_)⟩ (T.keep _ _ _ st5 fun b hb o e => (pin8 b hb o e).1) fun b hb => ?_
          · rcases List.mem_cons.mp hq with y | y
            · rw [y]
              exact List.mem_cons_self
            · exact List.mem_cons_of_mem _ (List.mem_append_left _ y)
          · obtain ⟨o, e, _⟩ := T.obj _ _ st5 b hb
            exact (pin8 b hb o e).2
        have thin : ∀ {σ8 : L2.St} {H8 : Hp}, GI X S (ip ++ pinsAt fp s5.heap) zs σ8 H8 s8 → GI X S ip zs σ8 H8 s8 := by
          intro σ8 H8 G8
          obtain ⟨acc8, c8, r8, I8⟩ := G8
          refine ⟨acc8, c8, r8, I8.pins_of fun q hq => I8.pin q (List.mem_append_right _ ?_)⟩
          rcases List.mem_cons.mp hq with y | y
          · rw [y]
            exact List.mem_cons_self
          · exact List.mem_cons_of_mem _ (List.mem_append_left _ y)
        cases f with
        | next =>
          obtain ⟨σ8, H8, G8, n8⟩ := hs8
          exact seg_again rfl (again G8 n8)
        | cont =>
          obtain ⟨σ8, H8, G8, n8⟩ := hs8
          exact seg_again rfl (again G8 n8)
        | brk =>
          obtain ⟨σ8, H8, G8, n8⟩ := hs8
          exact seg_leaf (.ok .next) (k.ok n2 zs s7 s8 .next hn2 ⟨σ8, H8, thin G8, n8⟩)
        | ret v =>
          obtain ⟨x8, σ8, H8, G8, r8, n8⟩ := hs8
          exact seg_leaf (.ok (.ret v)) (k.ok n2 zs s7 s8 (.ret v) hn2 ⟨x8, σ8, H8, thin G8, r8, n8⟩)
  exact loop m0 n 0 ys s₀ s2 σ H2 hn w0 ⟨acc, cc, r, I2⟩ st2 fun b hb => (f2 b hb).1
end
end SE
/-! Calls by keywords. -/
namespace SE
open PySem PySem.Spec PyProof.Rows L2 GenW
section
variable {K : PySem.W.Frag} {x qual : Str} {params : Arguments} {body : List Stmt} {scope : Scope} {kws : List (Str × V)} {f : Addr} {fd : FuncData} {ps : List Str}
/-- keyword-only defaults alone; ms: those that lack -/
theorem kb_some (F : FunD K x qual params body scope [] kws f fd) (n : Nat) (ks : List Str) (ms : List (Str × V)) (g : {α : Type} → List α → List α → List α → List α) (hk : kws ≠ []) (hms : ∀ q ∈ ms, q ∈ kws)
    (hrel : ∀ {vs mz zs : List V} {us mv ws : List Value}, Vals vs us → Vals mz mv → Vals zs ws → Vals (g vs mz zs) (g us mv ws))
    (h : ∀ (D : Addr) (doc pm : Value) (an : Option Addr) (cv ct : Value) (us mv ws : List Value), us.length = n → mv.length = ms.length → ws.length = ks.length →
      KwChain D ((ms.map (·.1)).zip mv) (bindArgs (PySem.W.fnOf x qual params body scope .none (.ref D) doc pm an cv ct) ⟨us, ks.zip ws⟩) (ps.zip (g us mv ws))) :
    ∃ mv : List Value, KBn K fd ps n ks (fun us ws => g us mv ws) (fun vs zs => g vs (ms.map (·.2)) zs) := by
  obtain ⟨oc, od, dV, kV, doc, pm, an, cv, ct, osl, rfl, look, hc, hD, hK⟩ := F.ex
  rcases hD with ⟨_, rfl⟩ | ⟨e, _⟩
  · rcases hK with e | ⟨D, rfl, hq⟩
    · exact absurd e hk
    · obtain ⟨mv, hl, rk, hks⟩ := kwd_vals (ms := ms) fun q hm => hq q (hms q hm)
      exact ⟨mv, fun s us ws X l1 l2 => BindsTo.of_looks fun M => KwChain.looks X hks (h D doc pm an cv ct us mv ws l1 hl l2), fun r1 r2 => hrel r1 rk r2⟩
  · exact absurd rfl e
theorem kb_all {st : Stmt} (F : Fun K x qual st f fd) (n : Nat) (ks : List Str) (g : {α : Type} → List α → List α → List α)
    (hrel : ∀ {vs zs : List V} {us ws : List Value}, Vals vs us → Vals zs ws → Vals (g vs zs) (g us ws))
    (h : ∀ (kV doc pm : Value) (an : Option Addr) (cv ct : Value) (us ws : List Value), us.length = n → ws.length = ks.length → bindArgs (PySem.W.fnOf x qual (defArgs st) (defBody st) (defScope st) .none kV doc pm an cv ct) ⟨us, ks.zip ws⟩ = pure (ps.zip (g us ws))) :
    KBn K fd ps n ks (fun us ws => g us ws) (fun vs zs => g vs zs) := by
  obtain ⟨oc, od, kV, doc, pm, an, cv, ct, osl, rfl, look, hc⟩ := F.ex
  exact ⟨fun s us ws X l1 l2 => .of_eq (h kV doc pm an cv ct us ws l1 l2), fun r1 r2 => hrel r1 r2⟩
end
section
variable {X : Cx} {k n : Nat} {f : Addr} {fd : FuncData} {ps ks : List Str} {sp : Sp} {E : XK} {x : Str} {p pos : Pos} {e : Expr} {es : List Expr} {kws : List Keyword} {t tk : TA} {g : List Value → List Value → List Value} {gV : List V → List V → List V}
/-- f(k = v, ..) -/
theorem pe_kw0 (F : FnOk X.prog X.w X.K X.mg X.base CX0 k f fd ps sp) (hr : Room k X.A) (hg : Gl X x) (hm : X.mg x = some (.ref f)) (hk : PySem.W.keepIn X.K (.ref f) = true) (hb : KBn X.K fd ps 0 ks g gV)
    (hkw : PK X kws tk) (hall : (backToKw pos (keywordEach kws X.env)).all (·.1.isSome) = true := by rfl) (hks : (backToKw pos (keywordEach kws X.env)).filterMap (·.1) = ks := by rfl)
    (hdb : (x == ("__debug__" : Str)) = false := by decide) (hpl : ((backTo pos (starEach [] X.env)).any (·.1) || (backToKw pos (keywordEach kws X.env)).any (·.1.isNone)) = false := by rfl) :
    PE X (.Call (.Name x p) [] kws pos) (tCallN 0 ks.length sp gV E0 tNil tk) := by
  constructor
  intro pins s σ H Q I h
  apply wpAny_Call_Name_kw
  apply ld_glob I hg hm _ hdb
  refine PySem.W.callWith_KW0 (h₀ := X.base) I.ok.mod.kin hk hall (thn (hkw.run pos pins s σ H _ I h) fun ws s2 hh => ?_) hpl
  obtain ⟨zs, H2, I2, rz, l1, l2, q2⟩ := hh
  refine ⟨I2.kIn, ?_⟩
  rw [hks]
  exact run_fnN F hr hb pass0 I2 .nil rz l1 l2 q2
/-! ### generators -/
variable {sg : SpG}
theorem run_gkw {pins : List (Addr × Obj)} {σ : L2.St} {H : Hp} {s : Shared} {us ws : List Value} {vs zs : List V} {cont : List V → Hp → Prop} {E1 : Value → Shared → Prop} (F : GFn X.prog X.w X.K X.mg X.base k f fd ps sg) (hr : Room k X.A) (hb : KBn X.K fd ps n ks g gV)
    (I : Inv X pins σ H s) (r : Vals vs us) (rz : Vals zs ws) (l1 : vs.length = n) (l2 : zs.length = ks.length) (h : sg (gV vs zs) H cont E) :
    wpAny (model X.prog X.w) X.A (call (.ref f) us (ks.zip ws)) (fun u s2 => ∃ H1 sc ex, Inv X pins σ H1 sc ∧ ExOk X pins ex ∧ GMade X.prog X.w k X.stack H1 sc ex cont E u s2) E1 s := by
  have r2 := hb.rel r rz
  refine wpAny_call (codeAny_mono (F.run X.A X.stack s H ⟨us, ks.zip ws⟩ (g us ws) (gV vs zs) cont E hr I.env0 (hb.to s us ws I.kIn (r.length.symm.trans l1) (rz.length.symm.trans l2)) r2 h) fun rr s2 hq => ?_)
  cases rr with
  | error _ => exact hq.elim
  | ok fl =>
    cases fl with
    | ret u => exact ⟨H, s, [], I, .nil, hq⟩
    | next => exact hq.elim
    | brk => exact hq.elim
    | cont => exact hq.elim
def tGenN (n m : Nat) (sg : SpG) (gV : List V → List V → List V) (E : XK) (t tk : TA) : TGen := fun σ H cont => t σ H fun vs H1 => tk σ H1 fun zs H2 => vs.length = n ∧ zs.length = m ∧ sg (gV vs zs) H2 cont E
theorem pgen_kw (F : GFn X.prog X.w X.K X.mg X.base k f fd ps sg) (hr : Room k X.A) (hg : Gl X x) (hm : X.mg x = some (.ref f)) (hk : PySem.W.keepIn X.K (.ref f) = true) (hb : KBn X.K fd ps n ks g gV)
    (ha : PA X (e :: es) t) (hkw : PK X kws tk) (hall : (backToKw pos (keywordEach kws X.env)).all (·.1.isSome) = true := by rfl) (hks : (backToKw pos (keywordEach kws X.env)).filterMap (·.1) = ks := by rfl)
    (hdb : (x == ("__debug__" : Str)) = false := by decide) (he : starEach (e :: es) X.env = (false, eval e X.env) :: starEach es X.env := by rfl)
    (hpl : ((backTo pos (starEach (e :: es) X.env)).any (·.1) || (backToKw pos (keywordEach kws X.env)).any (·.1.isNone)) = false := by rfl) :
    PGen X k (.Call (.Name x p) (e :: es) kws pos) (tGenN n ks.length sg gV E t tk) E := by
  constructor
  intro pins s σ H cont I h
  apply wpAny_Call_Name_kw
  apply ld_glob I hg hm _ hdb
  refine PySem.W.callWith_KW (h₀ := X.base) I.ok.mod.kin hk hall (thn (ha.run pos pins s σ H _ I h) fun us s1 hh => ?_) hpl he
  obtain ⟨vs, H1, I1, r, q⟩ := hh
  refine thn (hkw.run pos pins s1 σ H1 _ I1 q) fun ws s2 hh => ?_
  obtain ⟨zs, H2, I2, rz, l1, l2, q2⟩ := hh
  refine ⟨I2.kIn, ?_⟩
  rw [hks]
  exact run_gkw F hr hb I2 r rz l1 l2 q2
theorem pgen_kw0 (F : GFn X.prog X.w X.K X.mg X.base k f fd ps sg) (hr : Room k X.A) (hg : Gl X x) (hm : X.mg x = some (.ref f)) (hk : PySem.W.keepIn X.K (.ref f) = true) (hb : KBn X.K fd ps 0 ks g gV)
    (hkw : PK X kws tk) (hall : (backToKw pos (keywordEach kws X.env)).all (·.1.isSome) = true := by rfl) (hks : (backToKw pos (keywordEach kws X.env)).filterMap (·.1) = ks := by rfl)
    (hdb : (x == ("__debug__" : Str)) = false := by decide) (hpl : ((backTo pos (starEach [] X.env)).any (·.1) || (backToKw pos (keywordEach kws X.env)).any (·.1.isNone)) = false := by rfl) :
    PGen X k (.Call (.Name x p) [] kws pos) (tGenN 0 ks.length sg gV E tNil tk) E := by
  constructor
  intro pins s σ H cont I h
  apply wpAny_Call_Name_kw
  apply ld_glob I hg hm _ hdb
  refine PySem.W.callWith_KW0 (h₀ := X.base) I.ok.mod.kin hk hall (thn (hkw.run pos pins s σ H _ I h) fun ws s2 hh => ?_) hpl
  obtain ⟨zs, H2, I2, rz, l1, l2, q2⟩ := hh
  refine ⟨I2.kIn, ?_⟩
  rw [hks]
  exact run_gkw F hr hb I2 .nil rz l1 l2 q2
/-- nothing is raised by a generator that raises nothing -/
theorem pass_gen : Passes (CX X.prog X.w) X E0 := by
  intro pins σ H s e s2 I h
  obtain ⟨a, B, H2, cls, d, _, _, _, _, _, _, _, q⟩ := h
  exact q.elim
theorem nostop0 {K : PySem.W.Frag} : NoStop K E0 := fun _ _ _ h => h.elim
end
end SE
namespace SE
open PySem PySem.Spec PyProof.Rows L2
/-! ### rules: a class held by a local name, called; a classmethod called with nothing -/
section
variable {X : Cx} {CX : CXT} {k i : Nat} {f C p g : Addr} {mc : Value} {fd : FuncData} {ps : List Str} {sp : Sp} {dvs : List V} {ds : List Value} {E : XK} {x m : Str} {pn pos apos : Pos} {o e : Expr} {es : List Expr} {ta : TE} {t : TA} {pl : Sem Bool}
def tMakeL (i : Nat) (C : Addr) (sp : Sp) (dvs : List V) (E : XK) (t : TA) : TE := fun σ H Q => σ[i]? = some (some (.ref C)) ∧ tMake C sp dvs E t σ H Q
theorem pe_makeL (M : Mk X.K C f) (F : FnOk X.prog X.w X.K X.mg X.base CX k f fd ps sp) (hr : Room (k + 1) X.A) (hN : X.N[i]? = some x) (hv : Vis X.env.scope x) (hb : Binds X.K fd ps ds) (hd : Vals dvs ds) (hx : Passes CX X E)
    (ha : PA X (e :: es) t) (hdb : (x == ("__debug__" : Str)) = false := by decide) (hcd : (x == ("__classdict__" : Str)) = false := by decide)
    (he : starEach (e :: es) X.env = (false, eval e X.env) :: starEach es X.env := by rfl) (hpl : (backTo pos (starEach es X.env)).any (·.1) = false := by rfl) :
    PE X (.Call (.Name x pn) (e :: es) [] pos) (tMakeL i C sp dvs E t) := by
  constructor
  intro pins s σ H Q I h
  obtain ⟨hs, ht⟩ := h
  refine wpAny_Call_Name_kw (thn ((pe_var (pos := pn) hN hv hdb hcd).run pins s σ H (fun v H1 => v = .ref C ∧ H1 = H) I ⟨.ref C, hs, rfl, rfl⟩) fun u s1 hh => ?_)
  obtain ⟨v, H1, I1, r1, rfl, rfl⟩ := hh
  cases r1
  refine PySem.W.callWith_K (h₀ := X.base) I.ok.mod.kin M.kp (thn (ha.run pos pins s1 σ _ _ I1 ht) fun us s2 hh => ?_) he hpl
  obtain ⟨vs, H2, I2, r, q⟩ := hh
  exact ⟨I2.kIn, run_make M F hr hb hd hx I2 r q⟩
/-- C.m() -/
def tCMeth0 (C : Addr) (sp : Sp) (E : XK) (ta : TE) : TE := fun σ H Q => ta σ H fun x H1 => x = .ref C ∧ sp [.ref C] H1 Q E
theorem pe_cmeth0 (he : PE X o ta) (r : ClX.CRead X.K C mc) (c : ClX.CMet X.K C mc m p g) (F : FnR X.prog X.w X.K X.mg X.base CX k g sp) (hr : Room k X.A) (hx : Passes CX X E)
    (ht : eval (.Call (.Attribute o m apos) [] [] pos) X.env = (do
      let v ← eval o X.env
      standAt apos.atName
      let (f, first) ← holding [v] (getMethod v m pl)
      callWith pos f first (backTo pos (starEach [] X.env)) (backToKw pos (keywordEach [] X.env))) := by rfl) :
    PE X (.Call (.Attribute o m apos) [] [] pos) (tCMeth0 C sp E ta) := by
  constructor
  intro pins s σ H Q I h
  refine PySem.W.methodCall_KW (pl := pl) (thn (he.run pins s σ H _ I h) fun u s1 hh => ?_) ht
  obtain ⟨v, H1, I1, rx, ex, q⟩ := hh
  subst ex
  obtain rfl : u = Value.ref C := rx
  refine ClX.getmethcm_ok I1 r c fun s2 I2 => ?_
  exact PySem.W.callWith_M0 ⟨ClX.pin_at I2, I2.kIn⟩ c.fi (ClX.run_cm (us := []) (vs := []) F hr hx I2 .nil q)
end
end SE
namespace SE
open PySem PySem.Spec PyProof.Rows L2
/-! ### the class Effect -/
abbrev sInit : Stmt := inClass sEffect 0
abbrev sNever : Stmt := inClass sEffect 2
abbrev sPops : Stmt := inClass sEffect 4
abbrev sPushes : Stmt := inClass sEffect 5
abbrev sPeak : Stmt := inClass sEffect 6
abbrev sChange : Stmt := inClass sEffect 7
abbrev sIsNever : Stmt := inClass sEffect 8
def eF (a b c : V) : List (Str × V) := [("needs", a), ("leaves", b), ("highest", c)]
theorem eF_new (a b c : V) : putF "highest" c (putF "leaves" b (putF "needs" a [])) = eF a b c := by
  have h1 : ¬ (("needs" : Str) = "leaves") := by decide +kernel
  have h2 : ¬ (("needs" : Str) = "highest") := by decide +kernel
  have h3 : ¬ (("leaves" : Str) = "highest") := by decide +kernel
  simp only [putF, h1, h2, h3, if_false]
  rfl
theorem eF_two (a b : V) : (putF "leaves" b (putF "needs" a [])).length < 1000 := by
  have h1 : ¬ (("needs" : Str) = "leaves") := by decide +kernel
  simp only [putF, h1, if_false]
  show 2 < 1000
  decide
theorem eF_n (x a b c : V) : putF "needs" x (eF a b c) = eF x b c := by
  unfold eF
  simp only [putF, if_true]
theorem eF_l (x a b c : V) : putF "leaves" x (eF a b c) = eF a x c := by
  have h1 : ¬ (("needs" : Str) = "leaves") := by decide +kernel
  unfold eF
  simp only [putF, h1, if_false, if_true]
theorem eF_h (x a b c : V) : putF "highest" x (eF a b c) = eF a b x := by
  have h2 : ¬ (("needs" : Str) = "highest") := by decide +kernel
  have h3 : ¬ (("leaves" : Str) = "highest") := by decide +kernel
  unfold eF
  simp only [putF, h2, h3, if_false, if_true]
theorem eF_needs (a b c : V) : (eF a b c).lookup ("needs" : Str) = some a := by
  rw [← eF_new, lookup_putF, if_neg (by decide +kernel), lookup_putF, if_neg (by decide +kernel), lookup_putF, if_pos rfl]
theorem eF_leaves (a b c : V) : (eF a b c).lookup ("leaves" : Str) = some b := by
  rw [← eF_new, lookup_putF, if_neg (by decide +kernel), lookup_putF, if_pos rfl]
theorem eF_high (a b c : V) : (eF a b c).lookup ("highest" : Str) = some c := by
  rw [← eF_new, lookup_putF, if_pos rfl]
/-- an effect that is not never -/
structure EffAt (K : PySem.W.Frag) (C : Addr) (H : Hp) (e : Addr) (xs ys : List Str) (p : Int) : Prop where
  ex : ∃ dx u v, H e = some (.ins C dx (eF (.ref u) (.ref v) (.int p))) ∧ SqT K H u (xs.map V.str) ∧ SqT K H v (ys.map V.str)
theorem EffAt.same {K : PySem.W.Frag} {C : Addr} {H H' : Hp} {e : Addr} {xs ys : List Str} {p : Int} (h : EffAt K C H e xs ys p) (s : Same H H') : EffAt K C H' e xs ys p := by
  obtain ⟨dx, u, v, h1, h2, h3⟩ := h.ex
  exact ⟨dx, u, v, s _ _ h1, Same.tup s h2, Same.tup s h3⟩
structure NevAt (C : Addr) (H : Hp) (e : Addr) : Prop where
  ex : ∃ dx, H e = some (.ins C dx (eF .non .non .non))
theorem NevAt.same {C : Addr} {H H' : Hp} {e : Addr} (h : NevAt C H e) (s : Same H H') : NevAt C H' e := by
  obtain ⟨dx, h1⟩ := h.ex
  exact ⟨dx, s _ _ h1⟩
/-- the least peak -/
def lp (xs ys : List Str) : Int := if (ys.length : Int) - (xs.length : Int) > 0 then (ys.length : Int) - (xs.length : Int) else 0
def pkV : Option Int → V
  | none => .non
  | some p => .int p
structure EC (K : PySem.W.Frag) (mg : Str → Option Value) (C : Addr) : Prop where
  cl : Cls K C
  nN : NoAttr K C "needs"
  nL : NoAttr K C "leaves"
  nH : NoAttr K C "highest"
  mgE : mg "Effect" = some (.ref C)
section
variable {P : Program} {w : World} {K : PySem.W.Frag} {mg : Str → Option Value} {base : Heap} {C : Addr}
def spLeast (K : PySem.W.Frag) : Sp := fun vs H Q _ => ∃ (a b : Addr) (xs ys : List Str), vs = [.ref a, .ref b] ∧ SqT K H a (xs.map V.str) ∧ SqT K H b (ys.map V.str) ∧ Q (.int (lp xs ys)) H
theorem scLe : FnScope ["pops", "pushes"] ["pops", "pushes"] (defScope sLeastPeak) := ⟨rfl, rfl, rfl, by decide +kernel, rfl, by decide +kernel, by decide +kernel⟩
theorem has_least (D : Def K mg "least_peak" sLeastPeak) (B : Blt mg) (mx : mg "max" = none) : Has P w K mg base "least_peak" 1 ["pops", "pushes"] [] (spLeast K) := by
  refine has_of D scLe (fun _ _ _ _ _ _ us hl => match us, hl with | [_, _], _ => rfl) (fun xs H Q E h => ?_) (fun f cv A out s H xs Q E hr h => ?_)
  · obtain ⟨a, b, xs, ys, rfl, _⟩ := h
    rfl
  · obtain ⟨a, b, xs, ys, rfl, ha, hb, k⟩ := h
    refine ⟨_, pss_one (ps_ret (pe_callB (call_max2 rfl) (by rfl) mx (by decide +kernel) (pa_cons pe_int (pa_cons (pe_op op_sub (pe_callB call_len_seq (by rfl) B.len PySem.boot_len (pa_cons (pv 1) pa_nil)) (pe_callB call_len_seq (by rfl) B.len PySem.boot_len (pa_cons (pv 0) pa_nil))) pa_nil)))), ?_⟩
    refine ⟨_, rfl, b, _, rfl, .inr hb, _, rfl, a, _, rfl, .inr ha, _, _, rfl, rfl, 0, _, rfl, ?_⟩
    rw [List.length_map, List.length_map]
    exact k
def spInit (K : PySem.W.Frag) (C : Addr) : Sp := fun vs H Q _ => ∃ (x dx a b : Addr) (xs ys : List Str) (pk : Option Int), vs = [.ref x, .ref a, .ref b, pkV pk] ∧ H x = some (.ins C dx []) ∧ SqT K H a (xs.map V.str) ∧ SqT K H b (ys.map V.str) ∧
  xs.length ≤ 5000 ∧ ys.length ≤ 5000 ∧ (∀ z ∈ xs, Item z) ∧ (∀ z ∈ ys, Item z) ∧ (∀ p, pk = some p → lp xs ys ≤ p) ∧
  ∀ H', (∀ b o, H b = some o → b ≠ x → H' b = some o) → H' x = some (.ins C dx (eF (.ref a) (.ref b) (.int (pk.getD (lp xs ys))))) → Q .non H'
abbrev pInit : List Str := ["self", "pops", "pushes", "peak"]
theorem scIn : FnScope ["self", "pops", "pushes", "peak", "least"] pInit (defScope sInit) := ⟨rfl, rfl, rfl, by decide +kernel, rfl, by decide +kernel, by decide +kernel⟩
theorem ok_init {f : Addr} {fd : FuncData} (F : Fun K "__init__" "Effect.__init__" sInit f fd) (T : EC K mg C) (GW : Has P w K mg base "check_word" 3 ["word"] [] (spChkWord K)) (GL : Has P w K mg base "least_peak" 1 ["pops", "pushes"] [] (spLeast K)) (GH : Has P w K mg base "is_whole" 1 ["value"] [] spWhole) :
    FnOk P w K mg base CX0 4 f fd pInit (spInit K C) := by
  refine F.ok scIn (fun vs H Q E h => ?_) (fun cdv A outer s H vs Q E hr h => ?_)
  · obtain ⟨x, dx, a, b, xs, ys, pk, rfl, _⟩ := h
    rfl
  · obtain ⟨x, dx, a, b, xs, ys, pk, rfl, hx, ha, hb, l1, l2, i1, i2, hp, k⟩ := h
    have hr1 : Room 1 _ := hr.mono (by decide)
    refine ⟨_, pss_cons (ps_expr (pe_has GW hr (pa_cons (pv 1) pa_nil))) (pss_cons (ps_expr (pe_has GW hr (pa_cons (pv 2) pa_nil)))
      (pss_cons (ps_set (i := 4) scIn.nd rfl (.inl rfl) (pe_has GL hr1 (pa_cons (pv 1) (pa_cons (pv 2) pa_nil))))
      (pss_cons (ps_if (pt_cut (PW.pt (pw_and (pt_cmpR op_notN (pv 3) pe_non (nomark _)) (pw_and1 (PW.pt (pw_or (pt_not (pt_val (pe_has GH hr1 (pa_cons (pv 3) pa_nil)))) (pw_or1 (pt_cmpR op_lt (pv 3) (pv 4) (nomark _))))))))) pss_never pss_nil)
      (pss_cons (ps_fld (pv 0) (pv 1) rfl) (pss_cons (ps_fld (pv 0) (pv 2) rfl)
      (pss_one (ps_fld (pv 0) (pe_ifExp (pt_cmpR op_isN (pv 3) pe_non (nomark _)) (pv 4) (pv 3)) rfl))))))), ?_⟩
    refine ⟨_, rfl, a, xs, rfl, ha, l1, i1, fun H1 s1 => ⟨_, rfl, b, ys, rfl, Same.tup s1 hb, l2, i2, fun H2 s2 => ?_⟩⟩
    have s12 := s1.trans s2
    refine ⟨_, rfl, _, rfl, a, b, xs, ys, rfl, Same.tup s12 ha, Same.tup s12 hb, ?_⟩
    refine ⟨fun c H3 => c = false ∧ H3 = H2, ?_, ?_⟩
    · cases pk with
      | none => exact ⟨_, rfl, rfl, false, rfl, iteF ⟨rfl, rfl⟩⟩
      | some p =>
        have hq := hp p rfl
        refine ⟨_, rfl, rfl, true, rfl, iteT ⟨_, rfl, p, rfl, true, rfl, iteF ⟨_, rfl, _, rfl, p, lp xs ys, rfl, rfl, _, rfl, ?_, rfl⟩⟩⟩
        exact decide_eq_false (by omega)
    rintro c H3 ⟨rfl, rfl⟩
    refine iteF ?_
    have hx3 := s12 _ _ hx
    have fin : ∀ z : V, z = .int (pk.getD (lp xs ys)) → Q .non (upd (upd (upd H3 x (.ins C dx (putF "needs" (.ref a) []))) x (.ins C dx (putF "leaves" (.ref b) (putF "needs" (.ref a) [])))) x (.ins C dx (putF "highest" z (putF "leaves" (.ref b) (putF "needs" (.ref a) []))))) := by
      intro z ez
      refine k _ (fun c o e ne => ?_) ?_
      · rw [upd_ne ne, upd_ne ne, upd_ne ne]
        exact s12 _ _ e
      · rw [upd_same, eF_new, ez]
    refine ⟨_, rfl, _, rfl, x, C, dx, [], rfl, hx3, T.cl, T.nN, (by show 0 < 1000; decide), _, rfl, _, rfl, x, C, dx, _, rfl, upd_same, T.cl, T.nL, (by show 1 < 1000; decide), ?_⟩
    cases pk with
    | none => exact ⟨_, rfl, rfl, true, rfl, iteT ⟨_, rfl, _, rfl, x, C, dx, _, rfl, upd_same, T.cl, T.nH, eF_two _ _, fin _ rfl⟩⟩
    | some p => exact ⟨_, rfl, rfl, false, rfl, iteF ⟨_, rfl, _, rfl, x, C, dx, _, rfl, upd_same, T.cl, T.nH, eF_two _ _, fin _ rfl⟩⟩
end
end SE
namespace SE
open PySem PySem.Spec PyProof.Rows L2
/-- a property of the class C with its promise -/
def PropHas (P : Program) (w : World) (K : PySem.W.Frag) (mg : Str → Option Value) (base : Heap) (C : Addr) (f : Str) (k : Nat) (sp : Sp) : Prop := ∃ p g fd, PropOf K C f p g ∧ FnOk P w K mg base CX0 k g fd ["self"] sp ∧ Binds K fd ["self"] []
theorem pe_propH {X : Cx} {C : Addr} {f : Str} {k : Nat} {sp : Sp} {e : Expr} {ta : TE} {pos : Pos} (h : PropHas X.prog X.w X.K X.mg X.base C f k sp) (he : PE X e ta) (c : Cls X.K C) (hr : Room (k + 1) X.A)
    (hab : attributeBase e f X.env (eval e X.env) = eval e X.env := by rfl) : PE X (.Attribute e f pos) (tProp C sp [] E0 ta) := by
  obtain ⟨p, g, fd, hp, F, hb⟩ := h
  exact pe_prop he c hp F hr hb .nil pass0 hab
section
variable {P : Program} {w : World} {K : PySem.W.Frag} {mg : Str → Option Value} {base : Heap} {C : Addr}
/-! ### properties -/
/-- of an effect that is not never: its parts -/
def spPops (K : PySem.W.Frag) (C : Addr) : Sp := fun vs H Q _ => ∃ (e : Addr) (xs ys : List Str) (p : Int), vs = [.ref e] ∧ EffAt K C H e xs ys p ∧ ∀ u, SqT K H u (xs.map V.str) → Q (.ref u) H
def spPush (K : PySem.W.Frag) (C : Addr) : Sp := fun vs H Q _ => ∃ (e : Addr) (xs ys : List Str) (p : Int), vs = [.ref e] ∧ EffAt K C H e xs ys p ∧ ∀ u, SqT K H u (ys.map V.str) → Q (.ref u) H
def spIsNev (K : PySem.W.Frag) (C : Addr) : Sp := fun vs H Q _ => ∃ (e : Addr), vs = [.ref e] ∧ ((∃ xs ys p, EffAt K C H e xs ys p ∧ Q (.bl false) H) ∨ (NevAt C H e ∧ Q (.bl true) H))
theorem scPo : FnScope ["self"] ["self"] (defScope sPops) := ⟨rfl, rfl, rfl, by decide +kernel, rfl, by decide +kernel, by decide +kernel⟩
theorem scPu : FnScope ["self"] ["self"] (defScope sPushes) := ⟨rfl, rfl, rfl, by decide +kernel, rfl, by decide +kernel, by decide +kernel⟩
theorem scNv : FnScope ["self"] ["self"] (defScope sIsNever) := ⟨rfl, rfl, rfl, by decide +kernel, rfl, by decide +kernel, by decide +kernel⟩
theorem ok_pops {f : Addr} {fd : FuncData} (F : Fun K "pops" "Effect.pops" sPops f fd) (T : EC K mg C) : FnOk P w K mg base CX0 1 f fd ["self"] (spPops K C) := by
  refine F.ok scPo (fun vs H Q E h => ?_) (fun cdv A outer s H vs Q E hr h => ?_)
  · obtain ⟨e, xs, ys, p, rfl, _⟩ := h
    rfl
  · obtain ⟨e, xs, ys, p, rfl, h, k⟩ := h
    obtain ⟨dx, u, v, h1, h2, h3⟩ := h.ex
    exact ⟨_, pss_one (ps_ret (pe_fld (pv 0) rfl)), _, rfl, e, C, dx, _, _, rfl, h1, T.cl, T.nN, eF_needs _ _ _, k u h2⟩
theorem ok_push {f : Addr} {fd : FuncData} (F : Fun K "pushes" "Effect.pushes" sPushes f fd) (T : EC K mg C) : FnOk P w K mg base CX0 1 f fd ["self"] (spPush K C) := by
  refine F.ok scPu (fun vs H Q E h => ?_) (fun cdv A outer s H vs Q E hr h => ?_)
  · obtain ⟨e, xs, ys, p, rfl, _⟩ := h
    rfl
  · obtain ⟨e, xs, ys, p, rfl, h, k⟩ := h
    obtain ⟨dx, u, v, h1, h2, h3⟩ := h.ex
    exact ⟨_, pss_one (ps_ret (pe_fld (pv 0) rfl)), _, rfl, e, C, dx, _, _, rfl, h1, T.cl, T.nL, eF_leaves _ _ _, k v h3⟩
theorem ok_isNev {f : Addr} {fd : FuncData} (F : Fun K "is_never" "Effect.is_never" sIsNever f fd) (T : EC K mg C) : FnOk P w K mg base CX0 1 f fd ["self"] (spIsNev K C) := by
  refine F.ok scNv (fun vs H Q E h => ?_) (fun cdv A outer s H vs Q E hr h => ?_)
  · obtain ⟨e, rfl, _⟩ := h
    rfl
  · obtain ⟨e, rfl, h⟩ := h
    refine ⟨_, pss_one (ps_ret (pe_cmpR op_isN (pe_fld (pv 0) rfl) pe_non (nomark _))), ?_⟩
    rcases h with ⟨xs, ys, p, h, k⟩ | ⟨h, k⟩
    · obtain ⟨dx, u, v, h1, h2, h3⟩ := h.ex
      exact ⟨_, rfl, e, C, dx, _, _, rfl, h1, T.cl, T.nN, eF_needs _ _ _, rfl, k⟩
    · obtain ⟨dx, h1⟩ := h.ex
      exact ⟨_, rfl, e, C, dx, _, _, rfl, h1, T.cl, T.nN, eF_needs _ _ _, rfl, k⟩
/-! ### Effect(a, b), Effect.never() -/
/-- the class can be called -/
def Makes (P : Program) (w : World) (K : PySem.W.Frag) (mg : Str → Option Value) (base : Heap) (C : Addr) : Prop := ∃ f fd, Mk K C f ∧ FnOk P w K mg base CX0 4 f fd pInit (spInit K C) ∧ FunD K "__init__" "Effect.__init__" (defArgs sInit) (defBody sInit) (defScope sInit) [] [("peak", .non)] f fd
theorem Makes.two (h : Makes P w K mg base C) : ∃ f fd ds, Mk K C f ∧ FnOk P w K mg base CX0 4 f fd pInit (spInit K C) ∧ Vals [V.non] ds ∧ Binds K fd pInit ds := by
  obtain ⟨f, fd, M, F, FD⟩ := h
  obtain ⟨ds, hd, hb⟩ := FD.binds0 (ps := pInit) 3 (by simp) rfl (fun D doc pm an cv ct us ks h1 h2 => match us, ks, h1, h2 with | [_, _, _], [_], _, _ => ⟨_, _, _, _, _, _, rfl, rfl, rfl⟩)
  exact ⟨f, fd, ds, M, F, hd, hb⟩
/-- what Effect(a, b) asks -/
def tEff2 (K : PySem.W.Frag) (C : Addr) (t : TA) : TE := fun σ H Q => t σ H fun vs H1 => ∃ (a b : Addr) (xs ys : List Str), vs = [.ref a, .ref b] ∧ SqT K H1 a (xs.map V.str) ∧ SqT K H1 b (ys.map V.str) ∧ xs.length ≤ 5000 ∧ ys.length ≤ 5000 ∧ (∀ z ∈ xs, Item z) ∧ (∀ z ∈ ys, Item z) ∧
  ∀ (e : Addr) (H' : Hp), Same H1 H' → H1 e = none → EffAt K C H' e xs ys (lp xs ys) → Q (.ref e) H'
theorem make_imp {vs : List V} {H1 : Hp} {Q : VK} (h : ∃ (a b : Addr) (xs ys : List Str), vs = [.ref a, .ref b] ∧ SqT K H1 a (xs.map V.str) ∧ SqT K H1 b (ys.map V.str) ∧ xs.length ≤ 5000 ∧ ys.length ≤ 5000 ∧ (∀ z ∈ xs, Item z) ∧ (∀ z ∈ ys, Item z) ∧
    ∀ (e : Addr) (H' : Hp), Same H1 H' → H1 e = none → EffAt K C H' e xs ys (lp xs ys) → Q (.ref e) H') : ∀ x dx, H1 x = none → H1 dx = none → dx ≠ x →
    spInit K C (.ref x :: (vs ++ [V.non])) (upd (upd H1 dx (.own x)) x (.ins C dx [])) (fun v H2 => v = .non ∧ Q (.ref x) H2) E0 := by
  intro x dx nx nd ne
  obtain ⟨a, b, xs, ys, rfl, ha, hb, l1, l2, i1, i2, k⟩ := h
  have s0 : Same H1 (upd (upd H1 dx (.own x)) x (.ins C dx [])) := Same.made nx nd fun b o e _ => e
  refine ⟨x, dx, a, b, xs, ys, none, rfl, upd_same, Same.tup s0 ha, Same.tup s0 hb, l1, l2, i1, i2, fun p z => (by cases z), fun H' kp hx => ⟨rfl, ?_⟩⟩
  have s1 : Same H1 H' := fun c o e => kp c o (s0 c o e) (ne_of_none e nx)
  exact k x H' s1 nx ⟨dx, a, b, hx, Same.tup s1 ha, Same.tup s1 hb⟩
theorem pe_eff2 {X : Cx} {p pos : Pos} {e1 e2 : Expr} {t : TA} (M : Makes X.prog X.w X.K X.mg X.base C) (mgE : X.mg "Effect" = some (.ref C)) (hr : Room 5 X.A) (ha : PA X [e1, e2] t) (hg : Gl X "Effect" := by rfl)
    (he : starEach [e1, e2] X.env = (false, eval e1 X.env) :: starEach [e2] X.env := by rfl) (hpl : (backTo pos (starEach [e2] X.env)).any (·.1) = false := by rfl) :
    PE X (.Call (.Name "Effect" p) [e1, e2] [] pos) (tEff2 X.K C t) := by
  obtain ⟨f, fd, ds, Mk1, F, hd, hb⟩ := M.two
  constructor
  intro pins s σ H Q I h
  refine wpAny_Call_Name_kw (ld_glob I hg mgE ?_ (by decide))
  refine PySem.W.callWith_K (h₀ := X.base) I.ok.mod.kin Mk1.kp (thn (ha.run pos pins s σ H _ I h) fun us s1 hh => ?_) he hpl
  obtain ⟨vs, H1, I1, r, q⟩ := hh
  exact ⟨I1.kIn, run_make Mk1 F hr hb hd pass0 I1 r (make_imp q)⟩
/-! ### Effect.never() -/
def spNever (C : Addr) : Sp := fun vs H Q _ => vs = [.ref C] ∧ ∀ (e : Addr) (H' : Hp), Same H H' → NevAt C H' e → Q (.ref e) H'
theorem scNe : FnScope ["cls", "effect"] ["cls"] (defScope sNever) := ⟨rfl, rfl, rfl, by decide +kernel, rfl, by decide +kernel, by decide +kernel⟩
theorem ok_never {g : Addr} {gd : FuncData} (F : Fun K "never" "Effect.never" sNever g gd) (T : EC K mg C) (M : Makes P w K mg base C) : FnOk P w K mg base CX0 6 g gd ["cls"] (spNever C) := by
  obtain ⟨f, fd, ds, Mk1, FI, hd, hb⟩ := M.two
  refine F.ok scNe (fun vs H Q E h => ?_) (fun cdv A outer s H vs Q E hr h => ?_)
  · obtain ⟨rfl, _⟩ := h
    rfl
  · obtain ⟨rfl, k⟩ := h
    refine ⟨_, pss_cons (ps_set (i := 1) scNe.nd rfl (.inl rfl) (pe_makeL (i := 0) Mk1 FI hr rfl (.inl rfl) hb hd pass0 (pa_cons (pe_tup pa_nil) (pa_cons (pe_tup pa_nil) pa_nil))))
      (pss_cons (ps_fld (pv 1) pe_non rfl) (pss_cons (ps_fld (pv 1) pe_non rfl) (pss_cons (ps_fld (pv 1) pe_non rfl) (pss_one (ps_ret (pv 1)))))), ?_⟩
    refine ⟨rfl, Nat.zero_le _, fun t1 h1 => ⟨Nat.zero_le _, fun t2 h2 => ?_⟩⟩
    have n2 : t1 ≠ t2 := ne_of_none upd_same h2
    have s2 : Same H (upd (upd H t1 (.tup [])) t2 (.tup [])) := Same.free2 (Same.new h1) ((Same.new h1).free h2)
    intro y dy ny nd nyd
    have s3 : Same (upd (upd H t1 (.tup [])) t2 (.tup [])) (upd (upd (upd (upd H t1 (.tup [])) t2 (.tup [])) dy (.own y)) y (.ins C dy [])) := Same.made ny nd fun b o z _ => z
    refine ⟨y, dy, t1, t2, [], [], none, rfl, upd_same, Same.tup s3 (.of (by rw [upd_ne n2]; exact upd_same)), Same.tup s3 (.of upd_same), Nat.zero_le _, Nat.zero_le _, fun z m => (by cases m), fun z m => (by cases m), fun p z => (by cases z), fun H' kp e1 => ⟨rfl, ?_⟩⟩
    have s4 : Same H H' := fun c o z => kp c o (s3 _ _ (s2 c o z)) (ne_of_none z (s2.free ny))
    have hne : H y = none := s2.free ny
    refine ⟨_, rfl, y, C, dy, _, rfl, e1, T.cl, T.nN, (by show 3 < 1000; decide), _, rfl, y, C, dy, _, rfl, upd_same, T.cl, T.nL, (by rw [eF_n]; show 3 < 1000; decide), _, rfl, y, C, dy, _, rfl, upd_same, T.cl, T.nH, (by rw [eF_n, eF_l]; show 3 < 1000; decide), _, rfl, ?_⟩
    refine k y _ ?_ ⟨dy, ?_⟩
    · exact Same.free2 (Same.free2 (Same.free2 s4 hne) hne) hne
    · rw [upd_same, eF_n, eF_l, eF_h]
/-- the classmethod -/
def NeverHas (P : Program) (w : World) (K : PySem.W.Frag) (mg : Str → Option Value) (base : Heap) (C : Addr) : Prop := ∃ mc p g, ClX.CRead K C mc ∧ ClX.CMet K C mc "never" p g ∧ FnR P w K mg base CX0 6 g (spNever C)
theorem pe_never0 {X : Cx} {p apos pos : Pos} {pl : Sem Bool} (h : NeverHas X.prog X.w X.K X.mg X.base C) (mgE : X.mg "Effect" = some (.ref C)) (hr : Room 6 X.A) (hg : Gl X "Effect" := by rfl)
    (ht : eval (.Call (.Attribute (.Name "Effect" p) "never" apos) [] [] pos) X.env = (do
      let v ← eval (.Name "Effect" p) X.env
      standAt apos.atName
      let (f, first) ← holding [v] (getMethod v "never" pl)
      callWith pos f first (backTo pos (starEach [] X.env)) (backToKw pos (keywordEach [] X.env))) := by rfl) :
    PE X (.Call (.Attribute (.Name "Effect" p) "never" apos) [] [] pos) (tCMeth0 C (spNever C) E0 (tC (.ref C))) := by
  obtain ⟨mc, q, g, r, c, F⟩ := h
  exact pe_cmeth0 (pl := pl) (pe_glob hg mgE rfl) r c F hr pass0 ht
end
end SE
namespace SE
open PySem PySem.Spec PyProof.Rows L2
section
variable {P : Program} {w : World} {K : PySem.W.Frag} {mg : Str → Option Value} {base : Heap} {C : Addr}
/-! ### Effect(a, b, peak = c) -/
def tEffK (K : PySem.W.Frag) (C : Addr) (t : TA) (tk : TE) : TE := fun σ H Q => t σ H fun vs H1 => tCons tk tNil σ H1 fun zs H2 => ∃ (a b : Addr) (xs ys : List Str) (pk : Option Int), vs = [.ref a, .ref b] ∧ zs = [pkV pk] ∧ SqT K H2 a (xs.map V.str) ∧ SqT K H2 b (ys.map V.str) ∧ xs.length ≤ 5000 ∧ ys.length ≤ 5000 ∧
  (∀ z ∈ xs, Item z) ∧ (∀ z ∈ ys, Item z) ∧ (∀ p, pk = some p → lp xs ys ≤ p) ∧ ∀ (e : Addr) (H' : Hp), Same H2 H' → H2 e = none → EffAt K C H' e xs ys (pk.getD (lp xs ys)) → Q (.ref e) H'
theorem pe_effK {X : Cx} {p pos q1 : Pos} {e1 e2 c : Expr} {t : TA} {tk : TE} (M : Makes X.prog X.w X.K X.mg X.base C) (mgE : X.mg "Effect" = some (.ref C)) (hr : Room 5 X.A) (ha : PA X [e1, e2] t) (hc : PE X c tk) (hg : Gl X "Effect" := by rfl)
    (he : starEach [e1, e2] X.env = (false, eval e1 X.env) :: starEach [e2] X.env := by rfl) (hpl : ((backTo pos (starEach [e1, e2] X.env)).any (·.1) || (backToKw pos (keywordEach [⟨some "peak", c, q1⟩] X.env)).any (·.1.isNone)) = false := by rfl) :
    PE X (.Call (.Name "Effect" p) [e1, e2] [⟨some "peak", c, q1⟩] pos) (tEffK X.K C t tk) := by
  obtain ⟨f, fd, Mk1, F, FD⟩ := M
  obtain ⟨mv, kb⟩ := kb_some (ps := pInit) FD 3 ["peak"] [] (fun us _ ws => us ++ ws) (by simp) (fun q h => (by cases h)) (fun r1 _ r3 => r1.append r3) (fun D doc pm an cv ct us mv ws h1 h2 h3 => match us, mv, ws, h1, h2, h3 with | [_, _, _], [], [_], _, _, _ => rfl)
  constructor
  intro pins s σ H Q I h
  refine wpAny_Call_Name_kw (ld_glob I hg mgE ?_ (by decide))
  refine PySem.W.callWith_KW (h₀ := X.base) I.ok.mod.kin Mk1.kp rfl (thn (ha.run pos pins s σ H _ I h) fun us s1 hh => ?_) hpl he
  obtain ⟨vs, H1, I1, r, q⟩ := hh
  refine thn ((pk_cons (nm := some "peak") (kpos := q1) hc pk_nil).run pos pins s1 σ H1 _ I1 q) fun ws s2 hh => ?_
  obtain ⟨zs, H2, I2, rz, a, b, xs, ys, pk, rfl, rfl, ha2, hb2, l1, l2, i1, i2, hp, k⟩ := hh
  refine ⟨I2.kIn, ?_⟩
  refine run_makeK (ks := ["peak"]) (n := 2) Mk1 F hr kb pass0 I2 r rz rfl rfl ?_
  intro x dx nx nd ne
  have s0 : Same H2 (upd (upd H2 dx (.own x)) x (.ins C dx [])) := Same.made nx nd fun b o e _ => e
  refine ⟨x, dx, a, b, xs, ys, pk, rfl, upd_same, Same.tup s0 ha2, Same.tup s0 hb2, l1, l2, i1, i2, hp, fun H' kp hx => ⟨rfl, ?_⟩⟩
  have s3 : Same H2 H' := fun c o e => kp c o (s0 c o e) (ne_of_none e nx)
  exact k x H' s3 nx ⟨dx, a, b, hx, Same.tup s3 ha2, Same.tup s3 hb2⟩
/-! ### effects as values -/
abbrev Eff := Option (List Str × List Str × Int)
def EffV (K : PySem.W.Frag) (C : Addr) (H : Hp) (e : Addr) : Eff → Prop
  | none => NevAt C H e
  | some (xs, ys, p) => EffAt K C H e xs ys p
theorem EffV.same {H H' : Hp} {e : Addr} : ∀ {o : Eff}, EffV K C H e o → Same H H' → EffV K C H' e o
  | none, h, s => NevAt.same h s
  | some (_, _, _), h, s => EffAt.same h s
theorem EffV.ins {H : Hp} {e : Addr} : ∀ {o : Eff}, EffV K C H e o → ∃ dx fs, H e = some (.ins C dx fs)
  | none, h => by
    obtain ⟨dx, h1⟩ := NevAt.ex h
    exact ⟨dx, _, h1⟩
  | some (_, _, _), h => by
    obtain ⟨dx, u, v, h1, _⟩ := EffAt.ex h
    exact ⟨dx, _, h1⟩
/-! ### peak, nothing -/
def spPeak (K : PySem.W.Frag) (C : Addr) : Sp := fun vs H Q _ => ∃ (e : Addr) (xs ys : List Str) (p : Int), vs = [.ref e] ∧ EffAt K C H e xs ys p ∧ Q (.int p) H
theorem scPk : FnScope ["self"] ["self"] (defScope sPeak) := ⟨rfl, rfl, rfl, by decide +kernel, rfl, by decide +kernel, by decide +kernel⟩
theorem ok_peak {f : Addr} {fd : FuncData} (F : Fun K "peak" "Effect.peak" sPeak f fd) (T : EC K mg C) : FnOk P w K mg base CX0 1 f fd ["self"] (spPeak K C) := by
  refine F.ok scPk (fun vs H Q E h => ?_) (fun cdv A outer s H vs Q E hr h => ?_)
  · obtain ⟨e, xs, ys, p, rfl, _⟩ := h
    rfl
  · obtain ⟨e, xs, ys, p, rfl, h, k⟩ := h
    obtain ⟨dx, u, v, h1, h2, h3⟩ := h.ex
    exact ⟨_, pss_one (ps_ret (pe_fld (pv 0) rfl)), _, rfl, e, C, dx, _, _, rfl, h1, T.cl, T.nH, eF_high _ _ _, k⟩
end
end SE
namespace SE
open PySem PySem.Spec PyProof.Rows L2
/-! ### effects one after the other: the mathematics' side -/
abbrev Prt := List Str × List Str × Int
def comp (A B : Prt) : Option Prt :=
  if A.2.1.take (min A.2.1.length B.1.length) = B.1.take (min A.2.1.length B.1.length) then
    some (A.1 ++ B.1.drop (min A.2.1.length B.1.length), B.2.1 ++ A.2.1.drop (min A.2.1.length B.1.length), if (A.2.1.length : Int) - (A.1.length : Int) + B.2.2 > A.2.2 then (A.2.1.length : Int) - (A.1.length : Int) + B.2.2 else A.2.2)
  else none
def joinF : Prt → List Prt → Eff
  | A, [] => some A
  | A, B :: r => match comp A B with
    | none => none
    | some D => joinF D r
def joinM (ps : List Prt) : Eff := joinF ([], [], 0) ps
def szP (ps : List Prt) : Nat := (ps.map fun B => B.1.length + B.2.1.length).sum
/-- a part that may be joined -/
structure PrtOk (B : Prt) : Prop where
  i1 : ∀ z ∈ B.1, Item z
  i2 : ∀ z ∈ B.2.1, Item z
  h0 : 0 ≤ B.2.2
  h1 : (B.2.1.length : Int) - (B.1.length : Int) ≤ B.2.2
theorem comp_ok {A B D : Prt} (hA : PrtOk A) (hB : PrtOk B) (h : comp A B = some D) : PrtOk D ∧ D.1.length + D.2.1.length ≤ A.1.length + A.2.1.length + (B.1.length + B.2.1.length) := by
  unfold comp at h
  split at h
  · cases h
    have q1 := hA.h0
    have q2 := hA.h1
    have q3 := hB.h1
    refine ⟨⟨fun z m => ?_, fun z m => ?_, ?_, ?_⟩, ?_⟩
    · rcases List.mem_append.mp m with q | q
      · exact hA.i1 z q
      · exact hB.i1 z (List.mem_of_mem_drop q)
    · rcases List.mem_append.mp m with q | q
      · exact hB.i2 z q
      · exact hA.i2 z (List.mem_of_mem_drop q)
    · dsimp only
      split <;> omega
    · dsimp only
      rw [List.length_append, List.length_append, List.length_drop, List.length_drop]
      have m1 := Nat.min_le_left A.2.1.length B.1.length
      have m2 := Nat.min_le_right A.2.1.length B.1.length
      generalize min A.2.1.length B.1.length = m at m1 m2 ⊢
      split <;> omega
    · show (A.1 ++ B.1.drop (min A.2.1.length B.1.length)).length + (B.2.1 ++ A.2.1.drop (min A.2.1.length B.1.length)).length ≤ _
      rw [List.length_append, List.length_append, List.length_drop, List.length_drop]
      omega
  · cases h
theorem PrtOk.lp {D : Prt} (h : PrtOk D) : lp D.1 D.2.1 ≤ D.2.2 := by
  have q1 := h.h0
  have q2 := h.h1
  unfold SE.lp
  split <;> omega
theorem cutF_to {α : Type} (f : α → V) (xs : List α) (j : Nat) : cutV (xs.map f) none (some (j : Int)) = (xs.take j).map f := by
  unfold cutV
  rw [List.length_map]
  have e1 : HT.sIx xs.length 0 none = 0 := rfl
  rw [e1, HT.sIx_nat, List.drop_zero, Nat.sub_zero, ← List.map_take]
  congr 1
  by_cases c : j ≤ xs.length
  · rw [Nat.min_eq_left c]
  · rw [Nat.min_eq_right (by omega), List.take_length, List.take_of_length_le (by omega)]
theorem cutF_from {α : Type} (f : α → V) (xs : List α) (j : Nat) : cutV (xs.map f) (some (j : Int)) none = (xs.drop j).map f := by
  unfold cutV
  rw [List.length_map]
  have e1 : HT.sIx xs.length xs.length none = xs.length := rfl
  rw [e1, HT.sIx_nat, ← List.map_drop, ← List.map_take]
  congr 1
  by_cases c : j ≤ xs.length
  · rw [Nat.min_eq_left c, List.take_of_length_le (by rw [List.length_drop]; exact Nat.le_refl _)]
  · rw [Nat.min_eq_right (by omega), List.drop_of_length_le (Nat.le_refl _), List.drop_of_length_le (by omega), List.take_nil]
theorem min_int (a b : Nat) : (if (b : Int) < (a : Int) then (b : Int) else (a : Int)) = ((min a b : Nat) : Int) := by
  split <;> omega
/-- a part as a tuple -/
def PrtV (K : PySem.W.Frag) (H : Hp) (v : V) (B : Prt) : Prop := ∃ t a b, v = .ref t ∧ SqT K H t [.ref a, .ref b, .int B.2.2] ∧ SqT K H a (B.1.map V.str) ∧ SqT K H b (B.2.1.map V.str)
theorem PrtV.same {K : PySem.W.Frag} {H H' : Hp} {v : V} {B : Prt} (h : PrtV K H v B) (s : Same H H') : PrtV K H' v B := by
  obtain ⟨t, a, b, e, h1, h2, h3⟩ := h
  exact ⟨t, a, b, e, Same.tup s h1, Same.tup s h2, Same.tup s h3⟩
section
variable {P : Program} {w : World} {K : PySem.W.Frag} {mg : Str → Option Value} {base : Heap} {C : Addr}
/-! ### joined -/
def spJoin (K : PySem.W.Frag) (C : Addr) : Sp := fun vs H Q _ => ∃ (a : Addr) (us : List V) (ps : List Prt), vs = [.ref a] ∧ SqL K H a us ∧ Paired (PrtV K H) us ps ∧ (∀ B ∈ ps, PrtOk B) ∧ szP ps ≤ 5000 ∧ ∀ (e : Addr) (H' : Hp), Same H H' → EffV K C H' e (joinM ps) → Q (.ref e) H'
theorem scJo : FnScope ["parts", "pops", "pushes", "peak", "needed", "left", "highest", "shared"] ["parts"] (defScope sJoined) := ⟨rfl, rfl, rfl, by decide +kernel, rfl, by decide +kernel, by decide +kernel⟩
theorem paired_at {α β : Type} {F : α → β → Prop} : ∀ {l₁ : List α} {l₂ : List β} {i : Nat} {x : α}, Paired F l₁ l₂ → l₁[i]? = some x → ∃ y, l₂[i]? = some y ∧ F x y
  | _, _, _, _, .nil, h => by simp at h
  | _, _, 0, _, .cons r _, h => ⟨_, rfl, by cases h; exact r⟩
  | _, _, i + 1, _, .cons _ t, h => by
    obtain ⟨y, h1, h2⟩ := paired_at t (i := i) h
    exact ⟨y, h1, h2⟩
theorem paired_len {α β : Type} {F : α → β → Prop} : ∀ {l₁ : List α} {l₂ : List β}, Paired F l₁ l₂ → l₁.length = l₂.length
  | _, _, .nil => rfl
  | _, _, .cons _ t => congrArg Nat.succ (paired_len t)
theorem has_join (D : Def K mg "joined" sJoined) (T : EC K mg C) (M : Makes P w K mg base C) (GN : NeverHas P w K mg base C) (B : Blt mg) (mx : mg "max" = none) (mn : mg "min" = none) : Has P w K mg base "joined" 7 ["parts"] [] (spJoin K C) := by
  refine has_of D scJo (fun _ _ _ _ _ _ us hl => match us, hl with | [_], _ => rfl) (fun xs H Q E h => ?_) (fun f cv A out s H xs Q E hr h => ?_)
  · obtain ⟨a, us, ps, rfl, _⟩ := h
    rfl
  · obtain ⟨a, us, ps, rfl, hS, hV, hO, hz, k⟩ := h
    have hr5 : Room 5 _ := hr.mono (by decide)
    refine ⟨_, pss_cons (ps_asg (pe_tup (pa_cons (pe_tup pa_nil) (pa_cons (pe_tup pa_nil) (pa_cons pe_int pa_nil)))) (pg_tup (by rfl) (pgs_cons (pg_name (i := 1) scJo.nd rfl (.inl rfl)) (pgs_cons (pg_name (i := 2) scJo.nd rfl (.inl rfl)) (pgs_cons (pg_name (i := 3) scJo.nd rfl (.inl rfl)) pgs_nil)))))
      (pss_cons (ps_for PassesOwn.never rfl (pi_list (pv 0)) (pg_tup (by rfl) (pgs_cons (pg_name (i := 4) scJo.nd rfl (.inl rfl)) (pgs_cons (pg_name (i := 5) scJo.nd rfl (.inl rfl)) (pgs_cons (pg_name (i := 6) scJo.nd rfl (.inl rfl)) pgs_nil))))
        (pss_cons (ps_set (i := 7) scJo.nd rfl (.inl rfl) (pe_callB (call_min2 rfl) (by rfl) mn (by decide +kernel) (pa_cons (pe_callB call_len_seq (by rfl) B.len PySem.boot_len (pa_cons (pv 2) pa_nil)) (pa_cons (pe_callB call_len_seq (by rfl) B.len PySem.boot_len (pa_cons (pv 4) pa_nil)) pa_nil))))
        (pss_cons (ps_if (pt_cut (pt_cmpR (op_neD hr.units) (pe_slice sl_tupS (pv 2) po_none (po_some (pv 7))) (pe_slice sl_tupS (pv 4) po_none (po_some (pv 7))) (nomark _))) (pss_one (ps_ret (pe_never0 GN T.mgE hr))) pss_nil)
        (pss_cons (ps_set (i := 3) scJo.nd rfl (.inl rfl) (pe_callB (call_max2 rfl) (by rfl) mx (by decide +kernel) (pa_cons (pv 3) (pa_cons (pe_op op_add (pe_op op_sub (pe_callB call_len_seq (by rfl) B.len PySem.boot_len (pa_cons (pv 2) pa_nil)) (pe_callB call_len_seq (by rfl) B.len PySem.boot_len (pa_cons (pv 1) pa_nil))) (pv 6)) pa_nil))))
        (pss_cons (ps_set (i := 1) scJo.nd rfl (.inl rfl) (pe_op op_catS (pv 1) (pe_slice sl_tupS (pv 4) (po_some (pv 7)) po_none)))
        (pss_one (ps_set (i := 2) scJo.nd rfl (.inl rfl) (pe_op op_catS (pv 5) (pe_slice sl_tupS (pv 2) (po_some (pv 7)) po_none)))))))))
      (pss_one (ps_ret (pe_effK M T.mgE hr5 (pa_cons (pv 1) (pa_cons (pv 2) pa_nil)) (pv 3))))), ?_⟩
    refine ⟨Nat.zero_le _, fun t1 ht1 => ⟨Nat.zero_le _, fun t2 ht2 => ?_⟩⟩
    have n12 : t1 ≠ t2 := ne_of_none upd_same ht2
    have s0 : Same H (upd (upd H t1 (.tup [])) t2 (.tup [])) := Same.free2 (Same.new ht1) ((Same.new ht1).free ht2)
    have shp : ∀ {zs : List Str}, (∀ z ∈ zs, Item z) → SeqAt.shaped (.tuple (zs.map PyData.str)) = true := fun {zs} q => (nice_tuple (nice_strs q)).shaped (by decide)
    refine ⟨(by show 3 ≤ sizeLine; decide), fun t3 ht3 => ⟨t3, _, rfl, .of upd_same, rfl, _, _, rfl, _, _, rfl, _, _, rfl, rfl, ?_⟩⟩
    have s00 := Same.new (o := .tup [.ref t1, .ref t2, .int 0]) ht3
    generalize upd (upd (upd H t1 (.tup [])) t2 (.tup [])) t3 (.tup [.ref t1, .ref t2, .int 0]) = H1 at s00 ⊢
    have w1 : SqT K H1 t1 (([] : List Str).map V.str) := Same.tup s00 (.of (by rw [upd_ne n12]; exact upd_same))
    have w2 : SqT K H1 t2 (([] : List Str).map V.str) := Same.tup s00 (.of upd_same)
    replace s0 := s0.trans s00
    refine ⟨_, rfl, a, rfl, ⟨_, Same.seq s0 hS⟩, for_list (K := K) (a := a) (xs := us) (fun i σ H2 => ∃ (u v : Addr) (A : Prt) (y4 y5 y6 y7 : Option V), σ = [some (.ref a), some (.ref u), some (.ref v), some (.int A.2.2), y4, y5, y6, y7] ∧ Same H H2 ∧ SqT K H2 u (A.1.map V.str) ∧ SqT K H2 v (A.2.1.map V.str) ∧ PrtOk A ∧ joinM ps = joinF A (ps.drop i) ∧ A.1.length + A.2.1.length + szP (ps.drop i) ≤ 5000)
      ⟨t1, t2, ([], [], 0), none, none, none, none, rfl, s0, w1, w2, ⟨fun z m => (by cases m), fun z m => (by cases m), Int.le_refl _, Int.le_refl _⟩, rfl, by rw [List.drop_zero]; show 0 + 0 + szP ps ≤ 5000; omega⟩ (fun i σ H2 _ q => ?_) ?_ ?_⟩
    · obtain ⟨_, _, _, _, _, _, _, _, s2, _⟩ := q
      exact Same.seq s2 hS
    · rintro i x σ H2 hx ⟨u, v, A, y4, y5, y6, y7, rfl, s2, hu, hv, oA, hj, hsz⟩
      obtain ⟨Bp, hB, hP⟩ := paired_at hV hx
      obtain ⟨t, p1, p2, rfl, q1, q2, q3⟩ := hP.same s2
      have oB := hO Bp (List.mem_of_getElem? hB)
      have hd : ps.drop i = Bp :: ps.drop (i + 1) := by
        obtain ⟨hl, he⟩ := List.getElem?_eq_some_iff.mp hB
        rw [List.drop_eq_getElem_cons hl, he]
      have hsz2 : A.1.length + A.2.1.length + (Bp.1.length + Bp.2.1.length) + szP (ps.drop (i + 1)) ≤ 5000 := by
        rw [hd] at hsz
        have e : szP (Bp :: ps.drop (i + 1)) = Bp.1.length + Bp.2.1.length + szP (ps.drop (i + 1)) := by
          unfold szP
          rw [List.map_cons, List.sum_cons]
        omega
      refine ⟨t, _, rfl, q1, rfl, _, _, rfl, _, _, rfl, _, _, rfl, rfl, ?_⟩
      refine ⟨_, rfl, v, _, rfl, .inr hv, _, rfl, p1, _, rfl, .inr q2, _, _, rfl, ?_⟩
      rw [List.length_map, List.length_map, min_int]
      -- do they fit
      refine ⟨fun b H3 => b = !decide (A.2.1.take (min A.2.1.length Bp.1.length) = Bp.1.take (min A.2.1.length Bp.1.length)) ∧ Same H2 H3, ?_, ?_⟩
      · refine ⟨_, rfl, _, rfl, _, rfl, v, _, rfl, hv, fun c1 H3 s3 hc1 => ⟨_, rfl, _, rfl, _, rfl, p1, _, rfl, Same.tup s3 q2, fun c2 H4 s4 hc2 => ?_⟩⟩
        rw [cutF_to] at hc1 hc2
        refine ⟨.tuple ((A.2.1.take (min A.2.1.length Bp.1.length)).map .str), .tuple ((Bp.1.take (min A.2.1.length Bp.1.length)).map .str), .tup (Same.tup s4 hc1) (dp_strs _), .tup hc2 (dp_strs _), shp (fun z m => oA.i2 z (List.mem_of_mem_take m)), shp (fun z m => oB.i1 z (List.mem_of_mem_take m)), _, rfl, ?_, s3.trans s4⟩
        rw [eqv_tupS]
      rintro b H3 ⟨rfl, s3⟩
      have s23 := s2.trans s3
      by_cases c : A.2.1.take (min A.2.1.length Bp.1.length) = Bp.1.take (min A.2.1.length Bp.1.length)
      rotate_left
      · rw [decide_eq_false c]
        refine iteT ⟨rfl, rfl, fun e H4 s4 he => k e H4 (s23.trans s4) ?_⟩
        have ej : joinM ps = none := by
          rw [hj, hd]
          unfold joinF comp
          rw [if_neg c]
        rw [ej]
        exact he
      rw [decide_eq_true c]
      refine iteF ?_
      refine ⟨_, rfl, _, rfl, v, _, rfl, .inr (Same.tup s3 hv), _, rfl, u, _, rfl, .inr (Same.tup s3 hu), _, _, rfl, rfl, _, rfl, _, _, rfl, rfl, _, _, rfl, ?_⟩
      rw [List.length_map, List.length_map]
      refine ⟨_, rfl, _, rfl, _, rfl, _, rfl, p1, _, rfl, Same.tup s3 q2, fun c1 H4 s4 hc1 => ?_⟩
      rw [cutF_from] at hc1
      refine ⟨u, c1, _, _, rfl, rfl, Same.tup (s3.trans s4) hu, hc1, ?_, fun u2 H5 s5 hu2 => ?_⟩
      · rw [List.length_map, List.length_map, List.length_drop, sizeLine_eq]
        omega
      have s35 := (s3.trans s4).trans s5
      refine ⟨_, rfl, _, rfl, _, rfl, _, rfl, v, _, rfl, Same.tup s35 hv, fun c2 H6 s6 hc2 => ?_⟩
      rw [cutF_from] at hc2
      refine ⟨p2, c2, _, _, rfl, rfl, Same.tup (s35.trans s6) q3, hc2, ?_, fun v2 H7 s7 hv2 => ?_⟩
      · rw [List.length_map, List.length_map, List.length_drop, sizeLine_eq]
        omega
      obtain ⟨Dp, hD⟩ : ∃ Dp, comp A Bp = some Dp := by
        unfold comp
        rw [if_pos c]
        exact ⟨_, rfl⟩
      have oD := comp_ok oA oB hD
      have e1 : Dp.1 = A.1 ++ Bp.1.drop (min A.2.1.length Bp.1.length) ∧ Dp.2.1 = Bp.2.1 ++ A.2.1.drop (min A.2.1.length Bp.1.length) ∧ Dp.2.2 = if (A.2.1.length : Int) - (A.1.length : Int) + Bp.2.2 > A.2.2 then (A.2.1.length : Int) - (A.1.length : Int) + Bp.2.2 else A.2.2 := by
        unfold comp at hD
        rw [if_pos c] at hD
        cases hD
        exact ⟨rfl, rfl, rfl⟩
      rw [← List.map_append, ← e1.1] at hu2
      rw [← List.map_append, ← e1.2.1] at hv2
      refine ⟨u2, v2, Dp, some (.ref p1), some (.ref p2), some (.int Bp.2.2), some (.int ((min A.2.1.length Bp.1.length : Nat) : Int)), ?_, s2.trans ((s35.trans s6).trans s7), Same.tup (s6.trans s7) hu2, hv2, oD.1, ?_, ?_⟩
      · rw [e1.2.2]
        rfl
      · rw [hj, hd]
        conv => lhs; unfold joinF
        rw [hD]
      · have := oD.2
        omega
    · rintro σ H2 ⟨u, v, A, y4, y5, y6, y7, rfl, s2, hu, hv, oA, hj, hsz⟩
      rw [paired_len hV, List.drop_length] at hj
      refine ⟨_, rfl, _, rfl, _, rfl, u, v, A.1, A.2.1, some A.2.2, rfl, rfl, hu, hv, by omega, by omega, oA.i1, oA.i2, fun p z => ?_, fun e H3 s3 _ he => ?_⟩
      · cases z
        exact oA.lp
      · refine k e H3 (s2.trans s3) ?_
        rw [hj]
        exact he
end
end SE
namespace SE
open PySem PySem.Spec PyProof.Rows L2
/-! ### effect_of -/
def partM (s : Stp) : Prt := if s.1 = true then ([], [s.2], 1) else ([s.2], [], 0)
def effM (ss : List Stp) : Eff := joinM (ss.map partM)
theorem partM_ok {s : Stp} (h : Item s.2) : PrtOk (partM s) := by
  unfold partM
  split
  · exact ⟨fun z m => (by cases m), fun z m => (by rw [List.mem_singleton.mp m]; exact h), (by show (0 : Int) ≤ 1; decide), (by show ((1 : Nat) : Int) - ((0 : Nat) : Int) ≤ 1; decide)⟩
  · exact ⟨fun z m => (by rw [List.mem_singleton.mp m]; exact h), fun z m => (by cases m), (by show (0 : Int) ≤ 0; decide), (by show ((0 : Nat) : Int) - ((1 : Nat) : Int) ≤ 0; decide)⟩
theorem szP_steps : ∀ ss : List Stp, szP (ss.map partM) = ss.length
  | [] => rfl
  | s :: ss => by
    have ih := szP_steps ss
    unfold szP at ih ⊢
    rw [List.map_cons, List.map_cons, List.sum_cons, ih, List.length_cons]
    unfold partM
    split
    · show 0 + 1 + ss.length = _
      omega
    · show 1 + 0 + ss.length = _
      omega
theorem tup_updL {K : PySem.W.Frag} {H : Hp} {D t : Addr} {xs us : List V} {o : HO} (hD : H D = some (.lst us)) (h : SqT K H t xs) : SqT K (upd H D o) t xs := by
  rcases h with (h | ⟨p, h⟩) | h
  · exact .inl (.inl (by rw [upd_ne (ne_of h hD (by intro z; cases z))]; exact h))
  · exact .inl (.inr ⟨p, by rw [upd_ne (ne_of h hD (by intro z; cases z))]; exact h⟩)
  · exact .inr h
theorem PrtV.updL {K : PySem.W.Frag} {H : Hp} {D : Addr} {us : List V} {v : V} {B : Prt} {o : HO} (hD : H D = some (.lst us)) (h : PrtV K H v B) : PrtV K (upd H D o) v B := by
  obtain ⟨t, a, b, e, h1, h2, h3⟩ := h
  exact ⟨t, a, b, e, tup_updL hD h1, tup_updL hD h2, tup_updL hD h3⟩
theorem Paired.snoc2 {α β : Type} {F : α → β → Prop} : ∀ {l₁ : List α} {l₂ : List β} {x : α} {y : β}, Paired F l₁ l₂ → F x y → Paired F (l₁ ++ [x]) (l₂ ++ [y])
  | _, _, _, _, .nil, h => .cons h .nil
  | _, _, _, _, .cons r t, h => .cons r (Paired.snoc2 t h)
section
variable {P : Program} {w : World} {K : PySem.W.Frag} {mg : Str → Option Value} {base : Heap} {C : Addr}
def spPart (K : PySem.W.Frag) : Sp := fun vs H Q _ => ∃ (v : V) (s : Stp), vs = [v] ∧ StepV K H v s ∧ ∀ (u : V) (H' : Hp), Same H H' → PrtV K H' u (partM s) → Q u H'
theorem scPt : FnScope ["step", "action", "item"] ["step"] (defScope sPartsOfStep) := ⟨rfl, rfl, rfl, by decide +kernel, rfl, by decide +kernel, by decide +kernel⟩
theorem has_part (D : Def K mg "parts_of_step" sPartsOfStep) : Has P w K mg base "parts_of_step" 1 ["step"] [] (spPart K) := by
  refine has_of D scPt (fun _ _ _ _ _ _ us hl => match us, hl with | [_], _ => rfl) (fun xs H Q E h => ?_) (fun f cv A out s H xs Q E hr h => ?_)
  · obtain ⟨v, st, rfl, _⟩ := h
    rfl
  · obtain ⟨v, st, rfl, ⟨t, rfl, hT⟩, k⟩ := h
    refine ⟨_, pss_cons (ps_asg (pv 0) (pg_tup (by rfl) (pgs_cons (pg_name (i := 1) scPt.nd rfl (.inl rfl)) (pgs_cons (pg_name (i := 2) scPt.nd rfl (.inl rfl)) pgs_nil))))
      (pss_one (ps_ret (pe_ifExp (pt_cmpR op_eq (pv 1) pe_str (nomark _)) (pe_tup (pa_cons (pe_tup pa_nil) (pa_cons (pe_tup (pa_cons (pv 2) pa_nil)) (pa_cons pe_int pa_nil)))) (pe_tup (pa_cons (pe_tup (pa_cons (pv 2) pa_nil)) (pa_cons (pe_tup pa_nil) (pa_cons pe_int pa_nil))))))), ?_⟩
    refine ⟨_, rfl, t, _, rfl, hT, rfl, _, _, rfl, _, _, rfl, rfl, ?_⟩
    obtain ⟨b, z⟩ := st
    cases b with
    | true =>
      refine ⟨_, rfl, rfl, true, congrArg V.bl (decide_eq_true (show V.str (act true) = V.str "push" from rfl)), iteT ?_⟩
      refine ⟨Nat.zero_le _, fun a ha => ⟨_, rfl, (by show 1 ≤ sizeLine; decide), fun c hc => ⟨(by show 3 ≤ sizeLine; decide), fun q hq => ?_⟩⟩⟩
      have nac : a ≠ c := ne_of_none upd_same hc
      have naq : a ≠ q := ne_of_none (by rw [upd_ne nac]; exact upd_same) hq
      have ncq : c ≠ q := ne_of_none upd_same hq
      refine k (.ref q) _ ?_ ⟨q, a, c, rfl, .of upd_same, .of ?_, .of ?_⟩
      · exact Same.free2 (Same.free2 (Same.new ha) ((Same.new ha).free hc)) ((Same.free2 (Same.new ha) ((Same.new ha).free hc)).free hq)
      · rw [upd_ne naq, upd_ne nac]
        exact upd_same
      · rw [upd_ne ncq]
        exact upd_same
    | false =>
      refine ⟨_, rfl, rfl, false, congrArg V.bl (decide_eq_false (fun y => absurd (V.str.inj (show V.str (act false) = V.str "push" from y)) (by decide +kernel))), iteF ?_⟩
      refine ⟨_, rfl, (by show 1 ≤ sizeLine; decide), fun a ha => ⟨Nat.zero_le _, fun c hc => ⟨(by show 3 ≤ sizeLine; decide), fun q hq => ?_⟩⟩⟩
      have nac : a ≠ c := ne_of_none upd_same hc
      have naq : a ≠ q := ne_of_none (by rw [upd_ne nac]; exact upd_same) hq
      have ncq : c ≠ q := ne_of_none upd_same hq
      refine k (.ref q) _ ?_ ⟨q, a, c, rfl, .of upd_same, .of ?_, .of ?_⟩
      · exact Same.free2 (Same.free2 (Same.new ha) ((Same.new ha).free hc)) ((Same.free2 (Same.new ha) ((Same.new ha).free hc)).free hq)
      · rw [upd_ne naq, upd_ne nac]
        exact upd_same
      · rw [upd_ne ncq]
        exact upd_same
def spEffOf (K : PySem.W.Frag) (C : Addr) : Sp := fun vs H Q _ => ∃ (a : Addr) (ys : List V) (ss : List Stp), vs = [.ref a] ∧ SqL K H a ys ∧ ys.length ≤ 1000 ∧ StepsV K H ys ss ∧ (∀ s ∈ ss, Item s.2) ∧ ∀ (e : Addr) (H' : Hp), Same H H' → EffV K C H' e (effM ss) → Q (.ref e) H'
theorem scEo : FnScope ["steps", "step"] ["steps"] (defScope sEffectOf) := ⟨rfl, rfl, rfl, by decide +kernel, rfl, by decide +kernel, by decide +kernel⟩
theorem has_effOf (D : Def K mg "effect_of" sEffectOf) (GC : Has P w K mg base "check_steps" 3 ["steps"] [] (spChkSteps K)) (GP : Has P w K mg base "parts_of_step" 1 ["step"] [] (spPart K)) (GJ : Has P w K mg base "joined" 7 ["parts"] [] (spJoin K C)) :
    Has P w K mg base "effect_of" 8 ["steps"] [] (spEffOf K C) := by
  refine has_of D scEo (fun _ _ _ _ _ _ us hl => match us, hl with | [_], _ => rfl) (fun xs H Q E h => ?_) (fun f cv A out s H xs Q E hr h => ?_)
  · obtain ⟨a, ys, ss, rfl, _⟩ := h
    rfl
  · obtain ⟨a, ys, ss, rfl, hS, hl, hV, hI, k⟩ := h
    have hr1 : Room 1 _ := hr.mono (by decide)
    have hr3 : Room 3 _ := hr.mono (by decide)
    have hln : ys.length = ss.length := hV.length
    refine ⟨_, pss_cons (ps_expr (pe_has GC hr3 (pa_cons (pv 0) pa_nil))) (pss_one (ps_ret (pe_has GJ hr (pa_cons
      (pe_lc (own := [("step", 1)]) (g := gName 1) (tt := tYes) (te := tCall (spPart K) [] E0 (tCons (tVar 1) tNil)) rfl scEo.nd (pi_list (pv 0)) (blkOk_by (own := [("step", 1)]) (N := ["steps", "step"]) (sc := defScope sEffectOf) (by decide +kernel))
        (fun _ _ _ _ _ => pg_name (i := 1) scEo.nd rfl (.inl rfl)) (fun _ _ _ _ _ => pts_nil) (fun _ _ _ _ _ => pe_has GP hr1 (pa_cons (pv 1) pa_nil))) pa_nil)))), ?_⟩
    refine ⟨_, rfl, a, ys, ss, rfl, .inl hS, hl, hV, hI, fun H1 s1 => ?_⟩
    refine ⟨_, rfl, a, rfl, ⟨_, Same.seq s1 hS⟩, fun D hD => lc_list (K := K) (a := a) (xs := ys) (fun j H2 => ∃ us, H2 D = some (.lst us) ∧ Paired (PrtV K H2) us ((ss.take j).map partM) ∧ Same H1 H2) ⟨[], upd_same, .nil, Same.new hD⟩ (fun j H2 _ q => ?_) ?_ ?_⟩
    · obtain ⟨_, _, _, s2⟩ := q
      exact Same.seq (s1.trans s2) hS
    · rintro j x H2 hx ⟨us, hu, hP, s2⟩
      obtain ⟨st, h1, h2⟩ := StepsV.at hV hx
      refine ⟨rfl, yes_in ⟨_, rfl, x, st, rfl, h2.same (s1.trans s2), fun u H3 s3 hp => ⟨us, s3 _ _ hu, ?_, us ++ [u], upd_same, ?_, ?_⟩⟩⟩
      · have l2 := paired_len hP
        rw [List.length_map, List.length_take] at l2
        rw [sizeLine_eq]
        omega
      · have e1 : (ss.take (j + 1)).map partM = (ss.take j).map partM ++ [partM st] := by
          rw [List.take_add_one, h1, List.map_append]
          rfl
        rw [e1]
        have hu3 := s3 _ _ hu
        exact Paired.snoc2 (Paired.mapP hP fun v B q => (q.same s3).updL hu3) (hp.updL hu3)
      · exact Same.free2 (s2.trans s3) hD
    · rintro H2 ⟨us, hu, hP, s2⟩
      rw [hln, List.take_length] at hP
      refine ⟨D, us, ss.map partM, rfl, .of hu, hP, fun Bp m => ?_, ?_, fun e H3 s3 he => k e H3 ((s1.trans s2).trans s3) he⟩
      · obtain ⟨st, ms, rfl⟩ := List.mem_map.mp m
        exact partM_ok (hI st ms)
      · rw [szP_steps]
        omega
end
end SE
namespace SE
open PySem PySem.Spec PyProof.Rows L2
/-! ### named steps, and their parts by name -/
abbrev NSt := Bool × Str × Str
def NStV (K : PySem.W.Frag) (H : Hp) (v : V) (s : NSt) : Prop := ∃ t, v = .ref t ∧ SqT K H t [.str (act s.1), .str s.2.1, .str s.2.2]
abbrev NSV (K : PySem.W.Frag) (H : Hp) : List V → List NSt → Prop := Paired (NStV K H)
structure NOk (s : NSt) : Prop where
  n : Item s.2.1
  i : Item s.2.2
theorem NStV.same {K : PySem.W.Frag} {H H' : Hp} {v : V} {s : NSt} (h : NStV K H v s) (e : Same H H') : NStV K H' v s := by
  obtain ⟨t, q, z⟩ := h
  exact ⟨t, q, Same.tup e z⟩
theorem nsv_same {K : PySem.W.Frag} {H H' : Hp} {vs : List V} {ss : List NSt} (h : NSV K H vs ss) (e : Same H H') : NSV K H' vs ss := Paired.mapP h fun _ _ q => q.same e
abbrev Prts := List (Str × List Stp)
def addP (ps : Prts) (n : Str) (s : Stp) : Prts := if ps.any (fun p => decide (p.1 = n)) = true then ps.map (fun p => if p.1 = n then (p.1, p.2 ++ [s]) else p) else ps ++ [(n, [s])]
def prtM (ss : List NSt) : Prts := ss.foldl (fun ps s => addP ps s.2.1 (s.1, s.2.2)) []
theorem prtM_snoc (ss : List NSt) (s : NSt) : prtM (ss ++ [s]) = addP (prtM ss) s.2.1 (s.1, s.2.2) := by
  unfold prtM
  rw [List.foldl_append]
  rfl
theorem prtM_take {ss : List NSt} {j : Nat} {s : NSt} (h : ss[j]? = some s) : prtM (ss.take (j + 1)) = addP (prtM (ss.take j)) s.2.1 (s.1, s.2.2) := by
  rw [List.take_add_one, h]
  exact prtM_snoc _ _
/-- names that differ, names and items as they may be, few enough -/
structure PrOk (ps : Prts) (m : Nat) : Prop where
  nd : (ps.map (·.1)).Nodup
  ok : ∀ p ∈ ps, Item p.1 ∧ (∀ s ∈ p.2, Item s.2) ∧ p.2.length ≤ m
  len : ps.length ≤ m
theorem addP_fst (ps : Prts) (n : Str) (s : Stp) : (addP ps n s).map (·.1) = if ps.any (fun p => decide (p.1 = n)) = true then ps.map (·.1) else ps.map (·.1) ++ [n] := by
  unfold addP
  split
  · rw [List.map_map]
    refine List.map_congr_left fun p _ => ?_
    show (if p.1 = n then (p.1, p.2 ++ [s]) else p).1 = p.1
    split <;> rfl
  · rw [List.map_append]
    rfl
theorem addP_ok {ps : Prts} {m : Nat} {n : Str} {s : Stp} (h : PrOk ps m) (hn : Item n) (hs : Item s.2) : PrOk (addP ps n s) (m + 1) := by
  refine ⟨?_, fun p mp => ?_, ?_⟩
  · rw [addP_fst]
    split
    · exact h.nd
    · rename_i c
      rw [List.nodup_append]
      refine ⟨h.nd, by simp, fun x mx y my e => c ?_⟩
      rw [List.mem_singleton.mp my] at e
      obtain ⟨p, mp, ep⟩ := List.mem_map.mp mx
      exact List.any_eq_true.mpr ⟨p, mp, decide_eq_true (by rw [ep, e])⟩
  · unfold addP at mp
    split at mp
    · obtain ⟨q, mq, rfl⟩ := List.mem_map.mp mp
      obtain ⟨a, b, c⟩ := h.ok q mq
      split
      · refine ⟨a, fun x mx => ?_, by rw [List.length_append, List.length_singleton]; omega⟩
        rcases List.mem_append.mp mx with z | z
        · exact b x z
        · rw [List.mem_singleton.mp z]; exact hs
      · exact ⟨a, b, by omega⟩
    · rcases List.mem_append.mp mp with z | z
      · obtain ⟨a, b, c⟩ := h.ok p z
        exact ⟨a, b, by omega⟩
      · rw [List.mem_singleton.mp z]
        refine ⟨hn, fun x mx => ?_, by show 1 ≤ m + 1; omega⟩
        rw [List.mem_singleton.mp mx]; exact hs
  · unfold addP
    have := h.len
    split
    · rw [List.length_map]; omega
    · rw [List.length_append, List.length_singleton]; omega
theorem prtM_ok : ∀ {ss : List NSt} (j : Nat), (∀ s ∈ ss, NOk s) → PrOk (prtM (ss.take j)) j
  | _, 0, _ => ⟨by simp [prtM], fun p m => by simp [prtM] at m, by simp [prtM]⟩
  | ss, j + 1, h => by
    have ih := prtM_ok (ss := ss) j h
    cases e : ss[j]? with
    | none =>
      have le := List.getElem?_eq_none_iff.mp e
      rw [List.take_of_length_le (by omega)]
      rw [List.take_of_length_le le] at ih
      exact ⟨ih.nd, fun p m => ⟨(ih.ok p m).1, (ih.ok p m).2.1, by have := (ih.ok p m).2.2; omega⟩, by have := ih.len; omega⟩
    | some s =>
      rw [prtM_take e]
      have q := h s (List.mem_of_getElem? e)
      exact addP_ok ih q.n q.i
/-! ### a dict of lists of steps -/
abbrev Ent := Str × Addr × List Stp
def kvsE (es : List Ent) : List (Key × V) := es.map fun e => (Sum.inr e.1, V.ref e.2.1)
def pE (es : List Ent) : Prts := es.map fun e => (e.1, e.2.2)
def LsE (H : Hp) (es : List Ent) : Prop := ∀ e ∈ es, ∃ us, H e.2.1 = some (.lst us) ∧ StepsH H us e.2.2
theorem stepsH_sm {H H' : Hp} {xs : List V} {ss : List Stp} (h : StepsH H xs ss) (s : Same H H') : StepsH H' xs ss := Paired.mapP h fun _ _ q => by
  obtain ⟨t, e, z⟩ := q
  exact ⟨t, e, s _ _ z⟩
theorem LsE.same {H H' : Hp} {es : List Ent} (h : LsE H es) (s : Same H H') : LsE H' es := fun e m => by
  obtain ⟨us, a, b⟩ := h e m
  exact ⟨us, s _ _ a, stepsH_sm b s⟩
theorem valE (es : List Ent) (n : Str) : valV (kvsE es) (Sum.inr n) = (es.find? fun e => decide (e.1 = n)).map fun e => V.ref e.2.1 := by
  induction es with
  | nil => rfl
  | cons e es ih =>
    by_cases c : e.1 = n
    · rw [List.find?_cons_of_pos (by simpa using c)]
      exact valV_pos (show (Sum.inr e.1 : Key) = Sum.inr n by rw [c])
    · rw [List.find?_cons_of_neg (by simpa using c), ← ih]
      exact valV_neg (fun z => c (Sum.inr.inj z))
/-- one more step at an entry that stands -/
def appE (es : List Ent) (n : Str) (s : Stp) : List Ent := es.map fun e => if e.1 = n then (e.1, e.2.1, e.2.2 ++ [s]) else e
theorem appE_kvs (es : List Ent) (n : Str) (s : Stp) : kvsE (appE es n s) = kvsE es := by
  unfold kvsE appE
  rw [List.map_map]
  refine List.map_congr_left fun e _ => ?_
  show ((Sum.inr (if e.1 = n then (e.1, e.2.1, e.2.2 ++ [s]) else e).1 : Key), V.ref (if e.1 = n then (e.1, e.2.1, e.2.2 ++ [s]) else e).2.1) = _
  split <;> rfl
theorem appE_adr (es : List Ent) (n : Str) (s : Stp) : (appE es n s).map (·.2.1) = es.map (·.2.1) := by
  unfold appE
  rw [List.map_map]
  refine List.map_congr_left fun e _ => ?_
  show (if e.1 = n then (e.1, e.2.1, e.2.2 ++ [s]) else e).2.1 = _
  split <;> rfl
theorem appE_p (es : List Ent) (n : Str) (s : Stp) (h : ∃ e ∈ es, e.1 = n) : pE (appE es n s) = addP (pE es) n s := by
  have a : (pE es).any (fun p => decide (p.1 = n)) = true := by
    obtain ⟨e, m, q⟩ := h
    exact List.any_eq_true.mpr ⟨_, List.mem_map.mpr ⟨e, m, rfl⟩, decide_eq_true q⟩
  unfold addP
  rw [if_pos a]
  unfold pE appE
  rw [List.map_map, List.map_map]
  refine List.map_congr_left fun e _ => ?_
  show ((if e.1 = n then (e.1, e.2.1, e.2.2 ++ [s]) else e).1, (if e.1 = n then (e.1, e.2.1, e.2.2 ++ [s]) else e).2.2) = if e.1 = n then (e.1, e.2.2 ++ [s]) else (e.1, e.2.2)
  split <;> rfl
theorem newE_p (es : List Ent) (n : Str) (s : Stp) (L : Addr) (h : ∀ e ∈ es, e.1 ≠ n) : pE (es ++ [(n, L, [s])]) = addP (pE es) n s := by
  have a : ¬ (pE es).any (fun p => decide (p.1 = n)) = true := fun q => by
    obtain ⟨p, m, q⟩ := List.any_eq_true.mp q
    obtain ⟨e, me, rfl⟩ := List.mem_map.mp m
    exact h e me (of_decide_eq_true q)
  unfold addP
  rw [if_neg a]
  unfold pE
  rw [List.map_append]
  rfl
theorem newE_kvs (es : List Ent) (n : Str) (s : Stp) (L : Addr) (h : ∀ e ∈ es, e.1 ≠ n) : putK (kvsE es) (Sum.inr n) (.ref L) = kvsE (es ++ [(n, L, [s])]) := by
  unfold putK
  rw [if_neg]
  · unfold kvsE
    rw [List.map_append]
    rfl
  · intro q
    obtain ⟨p, m, q⟩ := List.any_eq_true.mp q
    obtain ⟨e, me, rfl⟩ := List.mem_map.mp m
    exact h e me (Sum.inr.inj (of_decide_eq_true q))
theorem find_name {es : List Ent} {n : Str} {e : Ent} (h : es.find? (fun e => decide (e.1 = n)) = some e) : e ∈ es ∧ e.1 = n := ⟨List.mem_of_find?_eq_some h, by
  have := List.find?_some (p := fun e : Ent => decide (e.1 = n)) h
  simpa using this⟩
theorem find_no {es : List Ent} {n : Str} (h : es.find? (fun e => decide (e.1 = n)) = none) : ∀ e ∈ es, e.1 ≠ n := fun e m q => by
  have := List.find?_eq_none.mp h e m
  exact this (decide_eq_true q)
section
variable {P : Program} {w : World} {K : PySem.W.Frag} {mg : Str → Option Value} {base : Heap}
/-! ### is_named_step, check_named_steps -/
def spIsN (K : PySem.W.Frag) : Sp := fun xs H Q _ => ∃ (v : V) (s : NSt), xs = [v] ∧ NStV K H v s ∧ NOk s ∧ ∀ H', Same H H' → Q (.bl true) H'
theorem scIn' : FnScope ["value", "action", "name", "item"] ["value"] (defScope sIsNamedStep) := ⟨rfl, rfl, rfl, by decide +kernel, rfl, by decide +kernel, by decide +kernel⟩
theorem has_isN (D : Def K mg "is_named_step" sIsNamedStep) (GI : Has P w K mg base "is_item" 1 ["value"] [] spIsItem) (GS : Has P w K mg base "is_step" 2 ["value"] [] (spIsStep K)) (B : Blt mg) : Has P w K mg base "is_named_step" 3 ["value"] [] (spIsN K) := by
  refine has_of D scIn' (fun _ _ _ _ _ _ us hl => match us, hl with | [_], _ => rfl) (fun xs H Q E h => ?_) (fun f cv A out s H xs Q E hr h => ?_)
  · obtain ⟨v, s, rfl, _⟩ := h
    rfl
  · obtain ⟨v, s, rfl, ⟨t, rfl, hT⟩, ok, k⟩ := h
    have hr1 : Room 1 _ := hr.mono (by decide)
    refine ⟨_, pss_cons (ps_if (PW.pt (pw_or (pt_not (pt_val (pe_callB call_isi (by rfl) B.isi (by decide +kernel) (pa_cons (pv 0) (pa_cons (pe_bltn (v := .ty "tuple") (by rfl) B.tup (by decide +kernel) rfl) pa_nil)))))
        (pw_or1 (pt_cmpR op_ne (pe_callB call_len_seq (by rfl) B.len PySem.boot_len (pa_cons (pv 0) pa_nil)) pe_int (nomark _))))) (pss_one (ps_ret pe_bl)) pss_nil)
      (pss_cons (ps_asg (pv 0) (pg_tup (by rfl) (pgs_cons (pg_name (i := 1) scIn'.nd rfl (.inl rfl)) (pgs_cons (pg_name (i := 2) scIn'.nd rfl (.inl rfl)) (pgs_cons (pg_name (i := 3) scIn'.nd rfl (.inl rfl)) pgs_nil)))))
      (pss_one (ps_ret (pe_and (pe_has GI hr1 (pa_cons (pv 2) pa_nil)) (pe_one (pe_has GS hr (pa_cons (pe_tup (pa_cons (pv 1) (pa_cons (pv 3) pa_nil))) pa_nil))))))), ?_⟩
    refine ⟨_, rfl, _, .ty "tuple", .type "tuple", .type "tuple", true, rfl, .ty _, ty_tup hT, kit_ty (by decide +kernel), true, rfl, iteF ?_⟩
    refine ⟨_, rfl, t, _, rfl, .inr hT, rfl, _, rfl, iteF ?_⟩
    refine ⟨_, rfl, t, _, rfl, hT, rfl, _, _, rfl, _, _, rfl, _, _, rfl, rfl, ?_⟩
    refine ⟨_, rfl, s.2.1, rfl, ok.n, fun H1 s1 => ⟨true, rfl, iteT ⟨_, rfl, _, rfl, (by show 2 ≤ sizeLine; decide), fun u hu => ⟨.ref u, (s.1, s.2.2), rfl, ⟨u, rfl, .of upd_same⟩, ok.i, fun H2 s2 => k H2 ((s1.trans (Same.new hu)).trans s2)⟩⟩⟩⟩
def spChkN (K : PySem.W.Frag) : Sp := fun xs H Q _ => ∃ (a : Addr) (ys : List V) (ss : List NSt), xs = [.ref a] ∧ (SqL K H a ys ∨ SqT K H a ys) ∧ ys.length ≤ 1000 ∧ NSV K H ys ss ∧ (∀ s ∈ ss, NOk s) ∧ ∀ H', Same H H' → Q .non H'
theorem scCn : FnScope ["steps", "index", "step"] ["steps"] (defScope sCheckNamedSteps) := ⟨rfl, rfl, rfl, by decide +kernel, rfl, by decide +kernel, by decide +kernel⟩
theorem has_chkN (D : Def K mg "check_named_steps" sCheckNamedSteps) (GM : Has P w K mg base "may_hold_steps" 1 ["value"] [] (spMay K)) (GS : Has P w K mg base "is_named_step" 3 ["value"] [] (spIsN K)) (B : Blt mg) : Has P w K mg base "check_named_steps" 4 ["steps"] [] (spChkN K) := by
  refine has_of D scCn (fun _ _ _ _ _ _ us hl => match us, hl with | [_], _ => rfl) (fun xs H Q E h => ?_) (fun f cv A out s H xs Q E hr h => ?_)
  · obtain ⟨a, ys, ss, rfl, _⟩ := h
    rfl
  · obtain ⟨a, ys, ss, rfl, hS, hl, hV, hI, k⟩ := h
    have hr1 : Room 1 _ := hr.mono (by decide)
    have one : ∀ {i : Nat} {y : V} {H2 : Hp}, ys[i]? = some y → Same H H2 → ∃ s, NStV K H2 y s ∧ NOk s := by
      intro i y H2 hy s2
      obtain ⟨st, h1, h2⟩ := paired_at hV hy
      exact ⟨st, h2.same s2, hI st (List.mem_of_getElem? h1)⟩
    rcases hS with hS | hS
    · refine ⟨_, pss_cons (ps_if (pt_not (pt_val (pe_has GM hr1 (pa_cons (pv 0) pa_nil)))) pss_never pss_nil)
        (pss_one (ps_for PassesOwn.never rfl (pi_enum (by rfl) B.enu (pa_cons (pv 0) pa_nil)) (pg_tup (by rfl) (pgs_cons (pg_name (i := 1) scCn.nd rfl (.inl rfl)) (pgs_cons (pg_name (i := 2) scCn.nd rfl (.inl rfl)) pgs_nil)))
          (pss_one (ps_if (pt_not (pt_val (pe_has GS hr (pa_cons (pv 2) pa_nil)))) pss_never pss_nil)))), ?_⟩
      refine ⟨_, rfl, a, ys, rfl, .inl hS, hl, fun H1 s1 => ⟨true, rfl, iteF ?_⟩⟩
      refine ⟨_, rfl, a, ys, rfl, Same.seq s1 hS, for_it (walk_enum (K := K) (a := a) (xs := ys)) (fun i σ H2 => ∃ y1 y2, σ = [some (.ref a), y1, y2] ∧ Same H H2) ⟨none, none, rfl, s1⟩ (fun i σ H2 _ q => ?_) ?_ ?_⟩
      · obtain ⟨_, _, _, s2⟩ := q
        exact Same.seq s2 hS
      · rintro i x σ H2 H3 hi ⟨y1, y2, rfl, s2⟩ ⟨T, p, y, rfl, nT, rfl, hp, hy⟩
        refine ⟨T, _, rfl, .of upd_same, rfl, _, _, rfl, _, _, rfl, rfl, ?_⟩
        have s3 : Same H (upd H2 T (.tup [p, y])) := Same.free2 s2 (s2.free nT)
        obtain ⟨st, h1, h2⟩ := one hy s3
        exact ⟨_, rfl, y, st, rfl, h1, h2, fun H4 s4 => ⟨true, rfl, iteF ⟨_, _, rfl, s3.trans s4⟩⟩⟩
      · rintro σ H2 ⟨y1, y2, rfl, s2⟩
        exact k H2 s2
    · refine ⟨_, pss_cons (ps_if (pt_not (pt_val (pe_has GM hr1 (pa_cons (pv 0) pa_nil)))) pss_never pss_nil)
        (pss_one (ps_for PassesOwn.never rfl (pi_enumT (by rfl) B.enu (pa_cons (pv 0) pa_nil)) (pg_tup (by rfl) (pgs_cons (pg_name (i := 1) scCn.nd rfl (.inl rfl)) (pgs_cons (pg_name (i := 2) scCn.nd rfl (.inl rfl)) pgs_nil)))
          (pss_one (ps_if (pt_not (pt_val (pe_has GS hr (pa_cons (pv 2) pa_nil)))) pss_never pss_nil)))), ?_⟩
      refine ⟨_, rfl, a, ys, rfl, .inr hS, hl, fun H1 s1 => ⟨true, rfl, iteF ?_⟩⟩
      refine ⟨_, rfl, a, ys, rfl, Same.tup s1 hS, for_it (walk_enumT (K := K) (a := a) (xs := ys)) (fun i σ H2 => ∃ y1 y2, σ = [some (.ref a), y1, y2] ∧ Same H H2) ⟨none, none, rfl, s1⟩ (fun i σ H2 _ q => ?_) ?_ ?_⟩
      · obtain ⟨_, _, _, s2⟩ := q
        exact Same.tup s2 hS
      · rintro i x σ H2 H3 hi ⟨y1, y2, rfl, s2⟩ ⟨T, p, y, rfl, nT, rfl, hp, hy⟩
        refine ⟨T, _, rfl, .of upd_same, rfl, _, _, rfl, _, _, rfl, rfl, ?_⟩
        have s3 : Same H (upd H2 T (.tup [p, y])) := Same.free2 s2 (s2.free nT)
        obtain ⟨st, h1, h2⟩ := one hy s3
        exact ⟨_, rfl, y, st, rfl, h1, h2, fun H4 s4 => ⟨true, rfl, iteF ⟨_, _, rfl, s3.trans s4⟩⟩⟩
      · rintro σ H2 ⟨y1, y2, rfl, s2⟩
        exact k H2 s2
end
end SE
namespace SE
open PySem PySem.Spec PyProof.Rows L2
/-- a dict from names to lists of steps -/
structure PD (H : Hp) (d : Addr) (es : List Ent) : Prop where
  at_ : H d = some (.dK (kvsE es))
  nd : (es.map (·.2.1)).Nodup
  ls : LsE H es
theorem pE_fst (es : List Ent) : (pE es).map (·.1) = es.map (·.1) := by
  unfold pE
  rw [List.map_map]
  rfl
/-- one step more, at an entry or at a new one; U: the list that is made for it -/
theorem PD.add {H : Hp} {d U t : Addr} {es : List Ent} {n : Str} {s : Stp} (h : PD H d es) (kn : ((pE es).map (·.1)).Nodup) (hU : H U = some (.lst [])) (nU : ∀ e ∈ es, e.2.1 ≠ U) (ht : H t = some (.tup [.str (act s.1), .str s.2])) :
    (∃ L us, valV (kvsE es) (Sum.inr n) = some (.ref L) ∧ H L = some (.lst us) ∧ us.length ≤ ((es.find? fun e => decide (e.1 = n)).map fun e => e.2.2.length).getD 0 ∧ ∃ es', PD (upd H L (.lst (us ++ [.ref t]))) d es' ∧ pE es' = addP (pE es) n s ∧ ∀ e ∈ es', ∃ e0 ∈ es, e.2.1 = e0.2.1) ∨
    (valV (kvsE es) (Sum.inr n) = none ∧ ∃ es', PD (upd (upd H d (.dK (putK (kvsE es) (Sum.inr n) (.ref U)))) U (.lst [.ref t])) d es' ∧ pE es' = addP (pE es) n s ∧ ∀ e ∈ es', e.2.1 = U ∨ ∃ e0 ∈ es, e.2.1 = e0.2.1) := by
  have td : t ≠ d := fun q => by rw [q, h.at_] at ht; cases ht
  cases hf : es.find? fun e => decide (e.1 = n) with
  | some e =>
    obtain ⟨em, en⟩ := find_name hf
    obtain ⟨us, hL, hs⟩ := h.ls e em
    have tL : t ≠ e.2.1 := fun q => by rw [q, hL] at ht; cases ht
    have dL : d ≠ e.2.1 := fun q => by rw [← q, h.at_] at hL; cases hL
    refine .inl ⟨e.2.1, us, by rw [valE, hf]; rfl, hL, ?_, appE es n s, ⟨?_, ?_, ?_⟩, appE_p es n s ⟨e, em, en⟩, fun x mx => ?_⟩
    · rw [Option.map_some, Option.getD_some]
      exact Nat.le_of_eq (Paired.length hs)
    · rw [upd_ne dL, appE_kvs]
      exact h.at_
    · rw [appE_adr]
      exact h.nd
    · intro x mx
      obtain ⟨y, my, rfl⟩ := List.mem_map.mp mx
      obtain ⟨vs, hy, hys⟩ := h.ls y my
      -- the tuples of an entry stay
      have keep : ∀ {xs : List V} {ss : List Stp}, StepsH H xs ss → StepsH (upd H e.2.1 (.lst (us ++ [.ref t]))) xs ss := fun q => Paired.mapP q fun _ _ z => by
        obtain ⟨u, eu, z⟩ := z
        exact ⟨u, eu, by rw [upd_ne (fun w => by rw [w, hL] at z; cases z)]; exact z⟩
      by_cases c : y.1 = n
      · have ey : y = e := by
          have inj : ∀ {l : List Ent}, ((pE l).map (·.1)).Nodup → ∀ a ∈ l, ∀ b ∈ l, a.1 = b.1 → a = b := by
            intro l
            induction l with
            | nil => intro _ a m; cases m
            | cons z l ih =>
              intro nd a ma b mb q
              rw [pE_fst, List.map_cons, List.nodup_cons] at nd
              rcases List.mem_cons.mp ma with rfl | ma'
              · rcases List.mem_cons.mp mb with rfl | mb'
                · rfl
                · exact absurd (List.mem_map.mpr ⟨b, mb', q.symm⟩) nd.1
              · rcases List.mem_cons.mp mb with rfl | mb'
                · exact absurd (List.mem_map.mpr ⟨a, ma', q⟩) nd.1
                · exact ih (by rw [pE_fst]; exact nd.2) a ma' b mb' q
          exact inj kn y my e em (c.trans en.symm)
        subst ey
        show ∃ us', (upd H y.2.1 _) (if y.1 = n then (y.1, y.2.1, y.2.2 ++ [s]) else y).2.1 = some (.lst us') ∧ StepsH _ us' (if y.1 = n then (y.1, y.2.1, y.2.2 ++ [s]) else y).2.2
        rw [if_pos c]
        exact ⟨_, upd_same, Paired.snoc2 (keep hs) ⟨t, rfl, by rw [upd_ne tL]; exact ht⟩⟩
      · show ∃ us', (upd H e.2.1 _) (if y.1 = n then (y.1, y.2.1, y.2.2 ++ [s]) else y).2.1 = some (.lst us') ∧ StepsH _ us' (if y.1 = n then (y.1, y.2.1, y.2.2 ++ [s]) else y).2.2
        rw [if_neg c]
        have ne : y.2.1 ≠ e.2.1 := by
          intro q
          have inj2 : ∀ {l : List Ent}, (l.map (·.2.1)).Nodup → ∀ a ∈ l, ∀ b ∈ l, a.2.1 = b.2.1 → a = b := by
            intro l
            induction l with
            | nil => intro _ a m; cases m
            | cons z l ih =>
              intro nd a ma b mb q
              rw [List.map_cons, List.nodup_cons] at nd
              rcases List.mem_cons.mp ma with rfl | ma'
              · rcases List.mem_cons.mp mb with rfl | mb'
                · rfl
                · exact absurd (List.mem_map.mpr ⟨b, mb', q.symm⟩) nd.1
              · rcases List.mem_cons.mp mb with rfl | mb'
                · exact absurd (List.mem_map.mpr ⟨a, ma', q⟩) nd.1
                · exact ih nd.2 a ma' b mb' q
          exact c (by rw [inj2 h.nd y my e em q]; exact en)
        exact ⟨vs, by rw [upd_ne ne]; exact hy, keep hys⟩
    · obtain ⟨y, my, rfl⟩ := List.mem_map.mp mx
      refine ⟨y, my, ?_⟩
      show (if y.1 = n then (y.1, y.2.1, y.2.2 ++ [s]) else y).2.1 = _
      split <;> rfl
  | none =>
    have no := find_no hf
    have dU : d ≠ U := fun q => by rw [← q, h.at_] at hU; cases hU
    have tU : t ≠ U := fun q => by rw [q, hU] at ht; cases ht
    refine .inr ⟨by rw [valE, hf]; rfl, es ++ [(n, U, [s])], ⟨?_, ?_, ?_⟩, newE_p es n s U no, fun x mx => ?_⟩
    · rw [upd_ne dU, upd_same, newE_kvs es n s U no]
    · rw [List.map_append, List.nodup_append]
      refine ⟨h.nd, by simp, fun x mx y my e => ?_⟩
      have ey : y = U := by simpa using my
      obtain ⟨z, mz, ez⟩ := List.mem_map.mp mx
      exact nU z mz (ez.trans (e.trans ey))
    · intro x mx
      rcases List.mem_append.mp mx with q | q
      · obtain ⟨vs, hy, hys⟩ := h.ls x q
        have xd : x.2.1 ≠ d := fun w => by rw [w, h.at_] at hy; cases hy
        refine ⟨vs, by rw [upd_ne (nU x q), upd_ne xd]; exact hy, Paired.mapP hys fun _ _ z => ?_⟩
        obtain ⟨u, eu, z⟩ := z
        exact ⟨u, eu, by rw [upd_ne (fun w => by rw [w, hU] at z; cases z), upd_ne (fun w => by rw [w, h.at_] at z; cases z)]; exact z⟩
      · rw [List.mem_singleton.mp q]
        exact ⟨_, upd_same, .cons ⟨t, rfl, by rw [upd_ne tU, upd_ne td]; exact ht⟩ .nil⟩
    · rcases List.mem_append.mp mx with q | q
      · exact .inr ⟨x, q, rfl⟩
      · rw [List.mem_singleton.mp q]
        exact .inl rfl
theorem upd_comm {H : Hp} {a b : Addr} {x y : HO} (h : b ≠ a) : upd (upd H a x) b y = upd (upd H b y) a x := by
  funext c
  by_cases e : c = a
  · subst e
    rw [upd_ne (Ne.symm h), upd_same, upd_same]
  · rw [upd_ne (a := a) e]
    by_cases e2 : c = b
    · subst e2
      rw [upd_same, upd_same]
    · rw [upd_ne e2, upd_ne e2, upd_ne e]
theorem hu_of {k : Nat} {A : Around} (hr : Room k A) : A.units + 1 < cLine := by
  have := hr.un
  omega
section
variable {P : Program} {w : World} {K : PySem.W.Frag} {mg : Str → Option Value} {base : Heap}
/-! ### split -/
def spSplit (K : PySem.W.Frag) : Sp := fun xs H Q _ => ∃ (a : Addr) (ys : List V) (ss : List NSt), xs = [.ref a] ∧ (SqL K H a ys ∨ SqT K H a ys) ∧ ys.length ≤ 1000 ∧ NSV K H ys ss ∧ (∀ s ∈ ss, NOk s) ∧
  ∀ (d : Addr) (es : List Ent) (H' : Hp), Same H H' → H d = none → PD H' d es → pE es = prtM ss → (∀ e ∈ es, H e.2.1 = none) → Q (.ref d) H'
abbrev nSp : List Str := ["steps", "found", "action", "name", "item"]
theorem scSp' : FnScope nSp ["steps"] (defScope sSplit) := ⟨rfl, rfl, rfl, by decide +kernel, rfl, by decide +kernel, by decide +kernel⟩
theorem has_split (D : Def K mg "split" sSplit) (GC : Has P w K mg base "check_named_steps" 4 ["steps"] [] (spChkN K)) : Has P w K mg base "split" 5 ["steps"] [] (spSplit K) := by
  refine has_of D scSp' (fun _ _ _ _ _ _ us hl => match us, hl with | [_], _ => rfl) (fun xs H Q E h => ?_) (fun f cv A out s H xs Q E hr h => ?_)
  · obtain ⟨a, ys, ss, rfl, _⟩ := h
    rfl
  · obtain ⟨a, ys, ss, rfl, hS, hl, hV, hI, k⟩ := h
    have hu := hu_of hr
    have ly : ys.length = ss.length := Paired.length hV
    -- a turn
    have go : ∀ {j : Nat} {x : V} {H2 : Hp} {d : Addr} {es : List Ent}, H d = none → ys[j]? = some x → Same H H2 → PD H2 d es → pE es = prtM (ss.take j) → (∀ e ∈ es, H e.2.1 = none) → ∃ (t : Addr) (s : NSt), x = .ref t ∧ SqT K H2 t [.str (act s.1), .str s.2.1, .str s.2.2] ∧
        ∀ (U : Addr), H2 U = none → (kvsE es).length < sizeLine ∧
          (∀ v, valV (kvsE es) (Sum.inr s.2.1) = some v → ∃ L us, v = .ref L ∧ (upd H2 U (.lst [])) L = some (.lst us) ∧ ∀ t', (upd H2 U (.lst [])) t' = none → us.length < sizeLine ∧ (upd (upd H2 U (.lst [])) t' (.tup [.str (act s.1), .str s.2.2])) L = some (.lst us) ∧
            ∃ es', PD (upd (upd (upd H2 U (.lst [])) t' (.tup [.str (act s.1), .str s.2.2])) L (.lst (us ++ [.ref t']))) d es' ∧ pE es' = prtM (ss.take (j + 1)) ∧ (∀ e ∈ es', H e.2.1 = none) ∧ Same H (upd (upd (upd H2 U (.lst [])) t' (.tup [.str (act s.1), .str s.2.2])) L (.lst (us ++ [.ref t'])))) ∧
          (valV (kvsE es) (Sum.inr s.2.1) = none → ∀ t', (upd (upd H2 U (.lst [])) d (.dK (putK (kvsE es) (Sum.inr s.2.1) (.ref U)))) t' = none → (upd (upd (upd H2 U (.lst [])) d (.dK (putK (kvsE es) (Sum.inr s.2.1) (.ref U)))) t' (.tup [.str (act s.1), .str s.2.2])) U = some (.lst []) ∧
            ∃ es', PD (upd (upd (upd (upd H2 U (.lst [])) d (.dK (putK (kvsE es) (Sum.inr s.2.1) (.ref U)))) t' (.tup [.str (act s.1), .str s.2.2])) U (.lst ([] ++ [.ref t']))) d es' ∧ pE es' = prtM (ss.take (j + 1)) ∧ (∀ e ∈ es', H e.2.1 = none) ∧
              Same H (upd (upd (upd (upd H2 U (.lst [])) d (.dK (putK (kvsE es) (Sum.inr s.2.1) (.ref U)))) t' (.tup [.str (act s.1), .str s.2.2])) U (.lst ([] ++ [.ref t'])))) := by
      intro j x H2 d es hd hj s2 pd pe fr
      obtain ⟨st, h1, t, e, h2⟩ := paired_at hV hj
      have pok := prtM_ok (ss := ss) j hI
      rw [← pe] at pok
      have jl := (List.getElem?_eq_some_iff.mp hj).1
      have dn2 : H2 d = some (.dK (kvsE es)) := pd.at_
      refine ⟨t, st, e, Same.tup s2 h2, fun U hU => ⟨?_, fun v hv => ?_, fun hv t' ht' => ?_⟩⟩
      · have q := pok.len
        unfold pE at q
        rw [List.length_map] at q
        unfold kvsE
        rw [List.length_map, sizeLine_eq]
        omega
      · have sU : Same H2 (upd H2 U (.lst [])) := Same.new hU
        have pd1 : PD (upd H2 U (.lst [])) d es := ⟨sU _ _ pd.at_, pd.nd, pd.ls.same sU⟩
        have nU : ∀ e ∈ es, e.2.1 ≠ U := fun e m q => by
          obtain ⟨us, a, _⟩ := pd.ls e m
          rw [q, hU] at a
          cases a
        rw [valE] at hv
        cases hf : es.find? (fun e => decide (e.1 = st.2.1)) with
        | none => rw [hf] at hv; cases hv
        | some e =>
          rw [hf] at hv
          cases hv
          obtain ⟨em, en⟩ := find_name hf
          obtain ⟨us, hL, hs⟩ := pd1.ls e em
          refine ⟨e.2.1, us, rfl, hL, fun t' ht' => ?_⟩
          have sT : Same (upd H2 U (.lst [])) (upd (upd H2 U (.lst [])) t' (.tup [.str (act st.1), .str st.2.2])) := Same.new ht'
          have pd2 : PD (upd (upd H2 U (.lst [])) t' (.tup [.str (act st.1), .str st.2.2])) d es := ⟨sT _ _ pd1.at_, pd.nd, pd1.ls.same sT⟩
          refine ⟨?_, sT _ _ hL, ?_⟩
          · have q := (pok.ok (e.1, e.2.2) (List.mem_map.mpr ⟨e, em, rfl⟩)).2.2
            have q2 : us.length = e.2.2.length := Paired.length hs
            rw [sizeLine_eq]
            have q3 : e.2.2.length ≤ j := q
            omega
          · rcases pd2.add (n := st.2.1) (s := (st.1, st.2.2)) (t := t') pok.nd (sT _ _ upd_same) nU upd_same with ⟨L, us', q1, q2, q3, es', q4, q5, q6⟩ | ⟨q1, _⟩
            · rw [valE, hf] at q1
              have eL : e.2.1 = L := V.ref.inj (Option.some.inj q1)
              subst eL
              rw [sT _ _ hL] at q2
              have eu : us = us' := HO.lst.inj (Option.some.inj q2)
              subst eu
              refine ⟨es', q4, by rw [q5, prtM_take h1, pe], fun x mx => ?_, ?_⟩
              · obtain ⟨e0, m0, z⟩ := q6 x mx
                rw [z]
                exact fr e0 m0
              · exact Same.free2 (s2.trans (sU.trans sT)) (fr e em)
            · rw [valE, hf] at q1
              cases q1
      · have sU : Same H2 (upd H2 U (.lst [])) := Same.new hU
        have nU : ∀ e ∈ es, e.2.1 ≠ U := fun e m q => by
          obtain ⟨us, a, _⟩ := pd.ls e m
          rw [q, hU] at a
          cases a
        have dU : d ≠ U := fun q => by rw [q, hU] at dn2; cases dn2
        have td : t' ≠ d := fun q => by rw [q, upd_same] at ht'; cases ht'
        have tU : t' ≠ U := fun q => by rw [q, upd_ne (Ne.symm dU), upd_same] at ht'; cases ht'
        have ht2 : (upd H2 U (.lst [])) t' = none := by
          rw [upd_ne td] at ht'
          exact ht'
        have sT : Same (upd H2 U (.lst [])) (upd (upd H2 U (.lst [])) t' (.tup [.str (act st.1), .str st.2.2])) := Same.new ht2
        have pd2 : PD (upd (upd H2 U (.lst [])) t' (.tup [.str (act st.1), .str st.2.2])) d es := ⟨sT _ _ (sU _ _ pd.at_), pd.nd, (pd.ls.same sU).same sT⟩
        refine ⟨by rw [upd_ne (Ne.symm tU), upd_ne (Ne.symm dU)]; exact upd_same, ?_⟩
        rcases pd2.add (n := st.2.1) (s := (st.1, st.2.2)) (t := t') pok.nd (sT _ _ upd_same) nU upd_same with ⟨L, us', q1, _⟩ | ⟨q1, es', q4, q5, q6⟩
        · rw [hv] at q1
          cases q1
        · have ec : upd (upd (upd H2 U (.lst [])) d (.dK (putK (kvsE es) (Sum.inr st.2.1) (.ref U)))) t' (.tup [.str (act st.1), .str st.2.2]) = upd (upd (upd H2 U (.lst [])) t' (.tup [.str (act st.1), .str st.2.2])) d (.dK (putK (kvsE es) (Sum.inr st.2.1) (.ref U))) := upd_comm td
          rw [ec]
          refine ⟨es', q4, by rw [q5, prtM_take h1, pe], fun x mx => ?_, ?_⟩
          · rcases q6 x mx with z | ⟨e0, m0, z⟩
            · rw [z]
              exact s2.free hU
            · rw [z]
              exact fr e0 m0
          · exact Same.free2 (Same.free2 (s2.trans (sU.trans sT)) hd) (s2.free hU)
    have pd0 : ∀ {H1 : Hp} {d : Addr}, PD (upd H1 d (.dK [])) d [] := ⟨upd_same, by simp, fun e m => by cases m⟩
    rcases hS with hS | hS
    · refine ⟨_, pss_cons (ps_expr (pe_has GC hr (pa_cons (pv 0) pa_nil)))
        (pss_cons (ps_set (i := 1) scSp'.nd rfl (.inl rfl) pe_dnewK)
        (pss_cons (ps_for PassesOwn.never rfl (pi_list (pv 0)) (pg_tup (by rfl) (pgs_cons (pg_name (i := 2) scSp'.nd rfl (.inl rfl)) (pgs_cons (pg_name (i := 3) scSp'.nd rfl (.inl rfl)) (pgs_cons (pg_name (i := 4) scSp'.nd rfl (.inl rfl)) pgs_nil))))
          (pss_one (ps_expr (pe_bm PySem.F.plainAttrs_list PySem.F.slot_list_append PySem.F.type_list_append mt_append (pe_dsetd (pv 1) (pv 3) (pe_lst pa_nil) ⟨rfl, rfl, rfl, rfl⟩) (pa_cons (pe_tup (pa_cons (pv 2) (pa_cons (pv 4) pa_nil))) pa_nil)))))
        (pss_one (ps_ret (pv 1))))), ?_⟩
      refine ⟨_, rfl, a, ys, ss, rfl, .inl hS, hl, hV, hI, fun H1 s1 => fun d hd => ?_⟩
      have hd0 : H d = none := s1.free hd
      have sd : Same H1 (upd H1 d (.dK [])) := Same.new hd
      refine ⟨_, rfl, a, rfl, ⟨_, Same.seq (s1.trans sd) hS⟩, for_list (K := K) (a := a) (xs := ys) (fun j σ H2 => ∃ (es : List Ent) (y2 y3 y4 : Option V), σ = [some (.ref a), some (.ref d), y2, y3, y4] ∧ PD H2 d es ∧ pE es = prtM (ss.take j) ∧ (∀ e ∈ es, H e.2.1 = none) ∧ Same H H2) ⟨[], _, _, _, rfl, pd0, rfl, fun e m => (by cases m), s1.trans sd⟩ (fun j σ H2 _ q => ?_) ?_ ?_⟩
      · obtain ⟨_, _, _, _, _, _, _, _, s2⟩ := q
        exact Same.seq s2 hS
      · rintro j x σ H2 hj ⟨es, y2, y3, y4, rfl, pd, pe, fr, s2⟩
        obtain ⟨t, st, rfl, hT, q⟩ := go hd0 hj s2 pd pe fr
        refine ⟨t, _, rfl, hT, rfl, _, _, rfl, _, _, rfl, _, _, rfl, rfl, ?_⟩
        refine ⟨_, rfl, d, rfl, .inl ⟨_, .inl pd.at_⟩, _, rfl, (by show 0 ≤ sizeLine; decide), fun U hU => ?_⟩
        obtain ⟨q1, q2, q3⟩ := q U hU
        refine ⟨kvsE es, Sum.inr st.2.1, Same.new hU _ _ pd.at_, rfl, q1, fun v hv => ?_, fun hv => ?_⟩
        · obtain ⟨L, us, rfl, hL, q4⟩ := q2 v hv
          refine ⟨.inl ⟨rfl, _, .of hL⟩, _, rfl, _, rfl, (by show 2 ≤ sizeLine; decide), fun t' ht' => ?_⟩
          obtain ⟨q5, q6, es', z1, z2, z3, z4⟩ := q4 t' ht'
          exact ⟨L, us, .ref t', rfl, rfl, q6, q5, es', _, _, _, rfl, z1, z2, z3, z4⟩
        · have dU : d ≠ U := fun q => by rw [← q, pd.at_] at hU; cases hU
          refine ⟨.inl ⟨rfl, _, .of (by rw [upd_ne (Ne.symm dU)]; exact upd_same)⟩, _, rfl, _, rfl, (by show 2 ≤ sizeLine; decide), fun t' ht' => ?_⟩
          obtain ⟨q6, es', z1, z2, z3, z4⟩ := q3 hv t' ht'
          exact ⟨U, [], .ref t', rfl, rfl, q6, (by show 0 < sizeLine; decide), es', _, _, _, rfl, z1, z2, z3, z4⟩
      · rintro σ H2 ⟨es, y2, y3, y4, rfl, pd, pe, fr, s2⟩
        rw [ly, List.take_length] at pe
        exact ⟨_, rfl, k d es H2 s2 hd0 pd pe fr⟩
    · refine ⟨_, pss_cons (ps_expr (pe_has GC hr (pa_cons (pv 0) pa_nil)))
        (pss_cons (ps_set (i := 1) scSp'.nd rfl (.inl rfl) pe_dnewK)
        (pss_cons (ps_for PassesOwn.never rfl (pi_tup (pv 0)) (pg_tup (by rfl) (pgs_cons (pg_name (i := 2) scSp'.nd rfl (.inl rfl)) (pgs_cons (pg_name (i := 3) scSp'.nd rfl (.inl rfl)) (pgs_cons (pg_name (i := 4) scSp'.nd rfl (.inl rfl)) pgs_nil))))
          (pss_one (ps_expr (pe_bm PySem.F.plainAttrs_list PySem.F.slot_list_append PySem.F.type_list_append mt_append (pe_dsetd (pv 1) (pv 3) (pe_lst pa_nil) ⟨rfl, rfl, rfl, rfl⟩) (pa_cons (pe_tup (pa_cons (pv 2) (pa_cons (pv 4) pa_nil))) pa_nil)))))
        (pss_one (ps_ret (pv 1))))), ?_⟩
      refine ⟨_, rfl, a, ys, ss, rfl, .inr hS, hl, hV, hI, fun H1 s1 => fun d hd => ?_⟩
      have hd0 : H d = none := s1.free hd
      have sd : Same H1 (upd H1 d (.dK [])) := Same.new hd
      refine ⟨_, rfl, a, rfl, ⟨_, Same.tup (s1.trans sd) hS⟩, for_tup (K := K) (a := a) (xs := ys) (fun j σ H2 => ∃ (es : List Ent) (y2 y3 y4 : Option V), σ = [some (.ref a), some (.ref d), y2, y3, y4] ∧ PD H2 d es ∧ pE es = prtM (ss.take j) ∧ (∀ e ∈ es, H e.2.1 = none) ∧ Same H H2) ⟨[], _, _, _, rfl, pd0, rfl, fun e m => (by cases m), s1.trans sd⟩ (fun j σ H2 _ q => ?_) ?_ ?_⟩
      · obtain ⟨_, _, _, _, _, _, _, _, s2⟩ := q
        exact Same.tup s2 hS
      · rintro j x σ H2 hj ⟨es, y2, y3, y4, rfl, pd, pe, fr, s2⟩
        obtain ⟨t, st, rfl, hT, q⟩ := go hd0 hj s2 pd pe fr
        refine ⟨t, _, rfl, hT, rfl, _, _, rfl, _, _, rfl, _, _, rfl, rfl, ?_⟩
        refine ⟨_, rfl, d, rfl, .inl ⟨_, .inl pd.at_⟩, _, rfl, (by show 0 ≤ sizeLine; decide), fun U hU => ?_⟩
        obtain ⟨q1, q2, q3⟩ := q U hU
        refine ⟨kvsE es, Sum.inr st.2.1, Same.new hU _ _ pd.at_, rfl, q1, fun v hv => ?_, fun hv => ?_⟩
        · obtain ⟨L, us, rfl, hL, q4⟩ := q2 v hv
          refine ⟨.inl ⟨rfl, _, .of hL⟩, _, rfl, _, rfl, (by show 2 ≤ sizeLine; decide), fun t' ht' => ?_⟩
          obtain ⟨q5, q6, es', z1, z2, z3, z4⟩ := q4 t' ht'
          exact ⟨L, us, .ref t', rfl, rfl, q6, q5, es', _, _, _, rfl, z1, z2, z3, z4⟩
        · have dU : d ≠ U := fun q => by rw [← q, pd.at_] at hU; cases hU
          refine ⟨.inl ⟨rfl, _, .of (by rw [upd_ne (Ne.symm dU)]; exact upd_same)⟩, _, rfl, _, rfl, (by show 2 ≤ sizeLine; decide), fun t' ht' => ?_⟩
          obtain ⟨q6, es', z1, z2, z3, z4⟩ := q3 hv t' ht'
          exact ⟨U, [], .ref t', rfl, rfl, q6, (by show 0 < sizeLine; decide), es', _, _, _, rfl, z1, z2, z3, z4⟩
      · rintro σ H2 ⟨es, y2, y3, y4, rfl, pd, pe, fr, s2⟩
        rw [ly, List.take_length] at pe
        exact ⟨_, rfl, k d es H2 s2 hd0 pd pe fr⟩
end
end SE
/-! Dicts: a comprehension over any walk; a value that is locked for good. -/
namespace SE
open PySem PySem.Spec PyProof.Rows L2
section
variable {J : It} {n : Nat} {G : Hp → Prop} {Y : Nat → Hp → V → Hp → Prop}
theorem dc_it (w : Walk J n G Y) {g : TG} {tt : TT} {tk tv : TE} {vs : List Nat} {σ : L2.St} {H1 : Hp} {D : Addr} {Qd : Hp → Prop} (Pv : Nat → Hp → Prop) (h0 : Pv 0 (upd H1 D (.dK []))) (hG : ∀ i H, i ≤ n → Pv i H → G H)
    (hs : ∀ i x H H', i < n → Pv i H → Y i H x H' → g x (wipe σ vs) H' fun σ2 H2 => wipe σ2 vs = wipe σ vs ∧ tt σ2 H2 fun b H3 =>
      if b = true then tk σ2 H3 fun y H4 => tv σ2 H4 fun z H5 => ∃ kvs k, y = kV k ∧ H5 D = some (.dK kvs) ∧ kvs.length < sizeLine ∧ Pv (i + 1) (upd H5 D (.dK (putK kvs k z))) else Pv (i + 1) H3) (hd : ∀ H, Pv n H → Qd H) :
    ∃ W : Nat → Nat → Hp → Prop, (∃ m, W 0 m (upd H1 D (.dK []))) ∧ ∀ i m H, W i m H →
      (J.stop i H ∧ Qd H) ∨ (J.go i H ∧ ∃ Nx : Hp → Prop, (∀ H', Nx H' → ∃ m', m' < m ∧ W (i + 1) m' H') ∧ ∀ x H', J.yld i H x H' → g x (wipe σ vs) H' fun σ2 H2 => wipe σ2 vs = wipe σ vs ∧ tt σ2 H2 fun b H3 =>
        if b = true then tk σ2 H3 fun y H4 => tv σ2 H4 fun z H5 => ∃ kvs k, y = kV k ∧ H5 D = some (.dK kvs) ∧ kvs.length < sizeLine ∧ Nx (upd H5 D (.dK (putK kvs k z))) else Nx H3) := by
  refine ⟨fun i m H => m = n - i ∧ i ≤ n ∧ Pv i H, ⟨n, by simp, Nat.zero_le _, h0⟩, ?_⟩
  rintro i m H ⟨rfl, hi, p⟩
  have q := hG i H hi p
  by_cases hlt : i < n
  · exact .inr ⟨w.goes i H hlt q, Pv (i + 1), fun H' p' => ⟨n - (i + 1), by omega, rfl, hlt, p'⟩, fun x H' y => hs i x H H' hlt p (w.yields i H x H' hlt q y)⟩
  · have e : i = n := by omega
    subst e
    exact .inl ⟨w.stops H q, hd H p⟩
end
/-- the value of e, from now on locked -/
def tFrz (te : TE) : TE := fun σ H Q => te σ H fun x H1 => ∃ d u, x = .ref d ∧ H1 d = some u ∧ Mut (some u) ∧ ∀ od, Q x (upd H1 d (.frz od u))
section
variable {X : Cx}
theorem pe_frz {e : Expr} {te : TE} (h : PE X e te) : PE X e (tFrz te) := by
  refine ⟨fun pins s σ H Q I hw => thn (h.run pins s σ H _ I hw) fun v s1 ⟨x, H1, I1, r, d, u, ex, hd, mu, q⟩ => ?_⟩
  obtain ⟨od, I2⟩ := I1.lock hd mu
  exact ⟨x, _, I2, r, q od⟩
end
/-! ### name = {.. for ..} on one line -/
section
variable {X : Cx}
theorem ps_setDc {i : Nat} {y : Str} {yp : Pos} {kx vx tgt itx : Expr} {cs : List Expr} {sco : Scope} {ow : List (Str × Nat)} {dp sp : Pos} {wi : TI} {g : TG} {tt : TT} {tk tv : TE} (calm : X.calm = true) (nod : X.N.Nodup) (hy : X.N[i]? = some y) (loc : X.env.scope.names.lookup y = some .local)
    (sw : swapsWith (.DictComp kx vx [⟨tgt, itx, cs, 0⟩] sco dp) (some (.Name y yp)) sp.line X.env = pure true) (hi : PI X tgt itx wi) (ok : BlkOk X.N X.env.scope sco ow)
    (hg : ∀ (s : Shared) (H : Hp) (U : Addr) (cl : List (Str × Addr)) (fp : List Addr), PG (X.blk s H sco (compEnvC sco cl U X.env) fp) tgt g) (ht : ∀ (s : Shared) (H : Hp) (U : Addr) (cl : List (Str × Addr)) (fp : List Addr), PTs (X.blk s H sco (compEnvC sco cl U X.env) fp) cs tt)
    (hk : ∀ (s : Shared) (H : Hp) (U : Addr) (cl : List (Str × Addr)) (fp : List Addr), PE (X.blk s H sco (compEnvC sco cl U X.env) fp) kx tk)
    (hv : ∀ (s : Shared) (H : Hp) (U : Addr) (cl : List (Str × Addr)) (fp : List Addr), PE (X.blk s H sco (compEnvC sco cl U X.env) fp) vx tv) (fold : ∀ x, foldedSetIterable itx X.env x = pure x := by intro _; rfl) :
    PS X (.Assign [.Name y yp] (.DictComp kx vx [⟨tgt, itx, cs, 0⟩] sco dp) sp) (tAsg (tDc wi g tt tk tv (ow.map (·.2))) (gName i)) := by
  constructor
  intro pins s σ H Dn I q
  rw [exec_Assign_Name_used _ _ _ _ sw]
  refine wpAny_bind (wpAny_standAt (wpAny_bind ?_))
  show wpAny _ X.A (do let _ ← comprehension (.DictComp kx vx [⟨tgt, itx, cs, 0⟩] sco dp) sco X.env (firstIterPos [⟨tgt, itx, cs, 0⟩] dp) newDict false (eval itx X.env) (some (assign (.Name y yp) X.env))) _ _ s
  have q : tDc wi g tt tk tv (ow.map (·.2)) σ H (fun x H1 => gName i x σ H1 Dn.nx) := q
  refine wpAny_bind (thn (dc_core (Qf := fun _ s' => SP X pins Dn .next s') calm nod I hi ok hg ht hk hv fold q fun L U s' m H' J r nm fp => ?_) fun _ s' z => wpAny_pure (wpAny_pure z))
  show wpAny _ _ (assign (.Name y yp) X.env (.ref L)) _ _ _
  obtain ⟨p0, p1, p2, p3, p4, p5⟩ := fp
  refine wpAny_assign_Name (store_ok2 (v := V.ref L) J nod hy (.inl loc) rfl (fun s2 J2 ⟨a, same, wh⟩ => ?_) (.inr loc))
  have ne : U ≠ a := by
    rcases wh with z | z
    · rw [z]; exact p1
    · exact fun e => p4 y a z e.symm
  refine ⟨m, nm.sameBut same ne, fun h3 z3 => ⟨_, H', J2.turned (t' := s2.toks) (fun b o hb e => (z3.2 b hb).trans e) p0 p1 p3 p4 p5, r⟩⟩
theorem swd_true {kx vx : Expr} {gs : List Comprehension} {sco : Scope} {dp yp : Pos} {y : Str} {l : Nat} {env : Env} (fn : env.scope.kind = .function) (loc : env.scope.names.lookup y = some .local) (ln : (yp.line == dp.line) = true)
    (own : (sco.names.any fun (n, k) => n == y && (k == .local || k == .cell)) = false) : swapsWith (.DictComp kx vx gs sco dp) (some (.Name y yp)) l env = pure true := by
  have k1 : env.kindOf y = some .local := loc
  have k2 : env.blockKind = .function := by unfold Env.blockKind; rw [fn]; rfl
  unfold swapsWith
  simp only [k2, k1, own, Expr.pos, ln]
  rfl
end
end SE
namespace SE
open PySem PySem.Spec PyProof.Rows L2
theorem mut_dK {kvs : List (Key × V)} : Mut (some (.dK kvs)) := trivial
/-- what stands elsewhere stays where a dict is locked or unlocked -/
theorem LsE.updD {H : Hp} {d : Addr} {es : List Ent} {o : HO} (h : LsE H es) (hd : ∀ us, H d ≠ some (.lst us)) (ht : ∀ us, H d ≠ some (.tup us)) : LsE (upd H d o) es := fun e m => by
  obtain ⟨us, a, b⟩ := h e m
  have ne : e.2.1 ≠ d := fun q => by rw [q] at a; exact hd us a
  refine ⟨us, by rw [upd_ne ne]; exact a, Paired.mapP b fun _ _ z => ?_⟩
  obtain ⟨t, et, z⟩ := z
  exact ⟨t, et, by rw [upd_ne (fun q => by rw [q] at z; exact ht _ z)]; exact z⟩
theorem find_at {es : List Ent} {e : Ent} (nd : ((pE es).map (·.1)).Nodup) (m : e ∈ es) : es.find? (fun x => decide (x.1 = e.1)) = some e := by
  rw [pE_fst] at nd
  induction es with
  | nil => cases m
  | cons x es ih =>
    rw [List.map_cons, List.nodup_cons] at nd
    rcases List.mem_cons.mp m with rfl | m'
    · exact List.find?_cons_of_pos (by simp)
    · rw [List.find?_cons_of_neg]
      · exact ih nd.2 m'
      · intro q
        exact nd.1 (List.mem_map.mpr ⟨e, m', (of_decide_eq_true q).symm⟩)
theorem take_fresh {l : List Str} {j : Nat} {n : Str} (nd : l.Nodup) (h : l[j]? = some n) : n ∉ l.take j := fun m => by
  obtain ⟨i, hi⟩ := List.getElem?_of_mem m
  have il := (List.getElem?_eq_some_iff.mp hi).1
  rw [List.length_take] at il
  rw [List.getElem?_take_of_lt (by omega)] at hi
  obtain ⟨a1, _⟩ := List.getElem?_eq_some_iff.mp hi
  have := (List.getElem?_inj a1 nd).mp (hi.trans h.symm)
  omega
end SE
namespace SE
open PySem PySem.Spec PyProof.Rows L2
/-! ### heaps without some objects -/
def hid (S : List Addr) (H : Hp) : Hp := fun b => if b ∈ S then none else H b
theorem hid_ne {S : List Addr} {b : Addr} {H : Hp} (h : b ∉ S) : hid S H b = H b := if_neg h
theorem hid_out (S : List Addr) (H : Hp) : Same (hid S H) H := fun b o h => by
  unfold hid at h
  by_cases c : b ∈ S
  · rw [if_pos c] at h
    cases h
  · rw [if_neg c] at h
    exact h
theorem hid_map {S T : List Addr} {H H' : Hp} (h : ∀ b o, b ∉ S → H b = some o → b ∉ T ∧ H' b = some o) : Same (hid S H) (hid T H') := fun b o q => by
  unfold hid at q
  by_cases c : b ∈ S
  · rw [if_pos c] at q
    cases q
  · rw [if_neg c] at q
    obtain ⟨h1, h2⟩ := h b o c q
    rw [hid_ne h1]
    exact h2
theorem hid_of {S : List Addr} {H H' : Hp} (h : Same H H') : Same (hid S H) (hid S H') := hid_map fun b o c q => ⟨c, h b o q⟩
theorem hid_but {S : List Addr} {p : Addr} {H H' : Hp} (h : But p H H') (hp : p ∈ S) : Same (hid S H) (hid S H') := hid_map fun b o c q => ⟨c, h b o (fun e => c (e ▸ hp)) q⟩
theorem hid_upd {S : List Addr} {D : Addr} {H : Hp} {o : HO} (hD : D ∈ S) : Same (hid S H) (hid S (upd H D o)) := hid_map fun b u c q => ⟨c, by
  have e : b ≠ D := fun e => c (by rw [e]; exact hD)
  rw [upd_ne e]
  exact q⟩
/-- what H does not know may be hidden too -/
theorem hid_free {S : List Addr} {D : Addr} {H : Hp} (hD : H D = none) : Same (hid S H) (hid (D :: S) H) := hid_map fun b o c q => ⟨fun m => by
  rcases List.mem_cons.mp m with e | m
  · rw [e, hD] at q
    cases q
  · exact c m, q⟩
theorem hid_less {S : List Addr} {D : Addr} {H : Hp} : Same (hid (D :: S) H) (hid S H) := hid_map fun b o c q => ⟨fun m => c (List.mem_cons_of_mem _ m), q⟩
theorem Same.but3 {H H3 H4 : Hp} {p : Addr} (s : Same H H3) (hp : H p = none) (b : But p H3 H4) : Same H H4 := fun c o e => b c o (ne_of_none e hp) (s c o e)
theorem SqT.same3 {K : PySem.W.Frag} {H H' : Hp} {u p : Addr} {xs : List V} (h : SqT K H u xs) (hp : Pool H p) (b : But p H H') : SqT K H' u xs := by
  rcases h with (h | ⟨o, h⟩) | h
  · exact .inl (.inl (b _ _ (fun e => by obtain ⟨m, s, q, _⟩ := hp.ex; rw [e, q] at h; cases h) h))
  · exact .inl (.inr ⟨o, b _ _ (fun e => by obtain ⟨m, s, q, _⟩ := hp.ex; rw [e, q] at h; cases h) h⟩)
  · exact .inr h
theorem ixN_nat {n j : Nat} (h : j < n) : ixN n (j : Int) = some j := by
  unfold ixN
  rw [if_pos (by omega), if_pos (by omega), Int.toNat_natCast]
def LstAll (S : List Addr) (H : Hp) : Prop := ∀ b ∈ S, ∃ us, H b = some (.lst us)
theorem LstAll.nil {H : Hp} : LstAll [] H := fun _ m => by cases m
theorem LstAll.cons {S : List Addr} {D : Addr} {us : List V} {H : Hp} (h : LstAll S H) (hD : H D = some (.lst us)) : LstAll (D :: S) H := fun b m => by
  rcases List.mem_cons.mp m with e | m
  · exact ⟨us, e ▸ hD⟩
  · exact h b m
theorem LstAll.pool {H : Hp} {p : Addr} (h : Pool H p) : LstAll [p] H := by
  obtain ⟨m, s, e, _⟩ := h.ex
  exact LstAll.nil.cons e
theorem hid_at {S : List Addr} {H : Hp} {b : Addr} {o : HO} (h : LstAll S H) (hb : H b = some o) (n : ∀ us, o ≠ .lst us) : hid S H b = some o := by
  rw [hid_ne fun m => ?_]
  · exact hb
  · obtain ⟨us, e⟩ := h b m
    rw [e] at hb
    cases hb
    exact n us rfl
theorem hid_tup {K : PySem.W.Frag} {S : List Addr} {H : Hp} {a : Addr} {xs : List V} (h : LstAll S H) (ha : SqT K H a xs) : SqT K (hid S H) a xs := by
  rcases ha with (h1 | ⟨o, h1⟩) | h1
  · exact .inl (.inl (hid_at h h1 fun us e => by cases e))
  · exact .inl (.inr ⟨o, hid_at h h1 fun us e => by cases e⟩)
  · exact .inr h1
theorem hid_steps {S : List Addr} {H : Hp} {us : List V} {ss : List Stp} (h : LstAll S H) (hs : StepsH H us ss) : StepsH (hid S H) us ss := Paired.mapP hs fun _ _ q => by
  obtain ⟨t, e, z⟩ := q
  exact ⟨t, e, hid_at h z fun us e => by cases e⟩
section
variable {K : PySem.W.Frag} {C : Addr} {S : List Addr} {H : Hp}
theorem hid_eff {e : Addr} (h : LstAll S H) : ∀ {o : Eff}, EffV K C H e o → EffV K C (hid S H) e o
  | none, q => by
    obtain ⟨dx, h1⟩ := NevAt.ex q
    exact ⟨dx, hid_at h h1 fun us e => by cases e⟩
  | some (_, _, _), q => by
    obtain ⟨dx, u, v, h1, h2, h3⟩ := EffAt.ex q
    exact ⟨dx, u, v, hid_at h h1 fun us e => (by cases e), hid_tup h h2, hid_tup h h3⟩
end
end SE
namespace SE
open PySem PySem.Spec PyProof.Rows L2
abbrev NStH (H : Hp) : List V → List NSt → Prop := Paired fun v s => ∃ t, v = .ref t ∧ H t = some (.tup [.str (act s.1), .str s.2.1, .str s.2.2])
theorem NStH.v {K : PySem.W.Frag} {H : Hp} {xs : List V} {ss : List NSt} (h : NStH H xs ss) : NSV K H xs ss := Paired.mapP h fun _ _ q => by
  obtain ⟨t, e, z⟩ := q
  exact ⟨t, e, .of z⟩
theorem nsth_same {H H' : Hp} {xs : List V} {ss : List NSt} (h : NStH H xs ss) (s : Same H H') : NStH H' xs ss := Paired.mapP h fun _ _ q => by
  obtain ⟨t, e, z⟩ := q
  exact ⟨t, e, s _ _ z⟩
section
variable {P : Program} {w : World} {K : PySem.W.Frag} {mg : Str → Option Value} {base : Heap}
/-! ### _law_named -/
def spNamed : Sp := fun xs H Q _ => ∃ (p nl il : Addr) (m : Int) (ns zs : List Str), xs = [.ref p, .ref nl, .ref il, .int m] ∧ Pool H p ∧ nl ≠ p ∧ H nl = some (.lst (ns.map V.str)) ∧ ns ≠ [] ∧ ns.length ≤ 100 ∧ (∀ z ∈ ns, Item z) ∧ il ≠ p ∧ H il = some (.lst (zs.map V.str)) ∧ zs ≠ [] ∧ zs.length ≤ 100 ∧ (∀ z ∈ zs, Item z) ∧ 0 ≤ m ∧ m ≤ 100 ∧
  ∀ (t : Addr) (us : List V) (ss : List NSt) (H' : Hp), But p H H' → Pool H' p → H t = none → t ≠ p → H' t = some (.lst us) → NStH H' us ss → (ss.length : Int) ≤ m → (∀ s ∈ ss, NOk s) → Q (.ref t) H'
abbrev nNa : List Str := ["_law_pool_here", "_law_names", "_law_items_here", "_law_many", "_law_found", "_law_step"]
theorem scNa : FnScope nNa ["_law_pool_here", "_law_names", "_law_items_here", "_law_many"] (defScope sLawNamed) := ⟨rfl, rfl, rfl, by decide +kernel, rfl, by decide +kernel, by decide +kernel⟩
theorem act_len (b : Bool) : (act b).length ≤ 4 := by cases b <;> decide +kernel
theorem has_named (D : Def K mg "_law_named" sLawNamed) (GT : Has P w K mg base "_law_take" 1 ["_law_pool_here", "_law_many"] [] spTake) (GS : Has P w K mg base "_law_steps" 2 ["_law_pool_here", "_law_items_here", "_law_many"] [] spSteps) (ml : mg "len" = none) : Has P w K mg base "_law_named" 3 ["_law_pool_here", "_law_names", "_law_items_here", "_law_many"] [] spNamed := by
  refine has_of D scNa (fun _ _ _ _ _ _ us hl => match us, hl with | [_, _, _, _], _ => rfl) (fun xs H Q E h => ?_) (fun f cv A out s H xs Q E hr h => ?_)
  · obtain ⟨p, nl, il, m, ns, zs, rfl, _⟩ := h
    rfl
  · obtain ⟨p, nl, il, m, ns, zs, rfl, hp, np, hn, nne, n1, nI, lp', hil, zne, z1, zI, m0, m1, k⟩ := h
    have hr1 : Room 1 _ := hr.mono (by decide)
    refine ⟨_, pss_cons (ps_set (i := 4) scNa.nd rfl (.inl rfl) (pe_lst pa_nil))
      (pss_cons (ps_for PassesOwn.never rfl (pi_list (pe_has GS hr (pa_cons (pv 0) (pa_cons (pv 2) (pa_cons (pv 3) pa_nil))))) (pg_name (i := 5) scNa.nd rfl (.inl rfl))
        (pss_one (ps_expr (pe_bm PySem.F.plainAttrs_list PySem.F.slot_list_append PySem.F.type_list_append mt_append (pv 4) (pa_cons (pe_tup (pa_cons (pe_ix ix_tup (pv 5) pe_int (fun _ _ => rfl)) (pa_cons (pe_ix ix_list (pv 1) (pe_has GT hr1 (pa_cons (pv 0) (pa_cons (pe_callB call_len_seq (by rfl) ml PySem.boot_len (pa_cons (pv 1) pa_nil)) pa_nil))) (fun _ _ => rfl)) (pa_cons (pe_ix ix_tup (pv 5) pe_int (fun _ _ => rfl)) pa_nil)))) pa_nil)))))
      (pss_one (ps_ret (pv 4)))), ?_⟩
    refine ⟨(by show 0 ≤ sizeLine; decide), fun g hg => ?_⟩
    have gp : g ≠ p := hp.free hg
    have sg : Same H (upd H g (.lst [])) := Same.new hg
    refine ⟨_, rfl, _, rfl, _, rfl, p, il, m, zs, rfl, hp.same sg, lp', sg _ _ hil, zne, by omega, zI, m0, m1, fun t us ss H1 b1 p1 t0 ht hs ls sz => ?_⟩
    have hg1 : H1 g = some (.lst []) := b1 _ _ gp upd_same
    have tg : t ≠ g := fun q => by rw [q, upd_same] at t0; cases t0
    have tp : t ≠ p := (hp.same sg).free t0
    have hn1 := b1 _ _ np (sg _ _ hn)
    have nlg : nl ≠ g := ne_of_none hn hg
    have la1 : LstAll [g, p] H1 := (LstAll.pool p1).cons hg1
    have hs1 := hid_steps la1 hs
    have ht1 : hid [g, p] H1 t = some (.lst us) := by rw [hid_ne (by simp [tg, tp])]; exact ht
    have hn1h : hid [g, p] H1 nl = some (.lst (ns.map V.str)) := by rw [hid_ne (by simp [nlg, np])]; exact hn1
    have lus : us.length = ss.length := Paired.length hs
    have gm : g ∈ [g, p] := by simp
    have pm : p ∈ [g, p] := by simp
    have bH1 : But p H H1 := fun c o n q => b1 c o n (sg c o q)
    refine ⟨t, rfl, ⟨_, .of ht⟩, for_list (K := K) (a := t) (xs := us) (fun j σ H2 => ∃ (us2 : List V) (ss2 : List NSt) (y5 : Option V), σ = [some (.ref p), some (.ref nl), some (.ref il), some (.int m), some (.ref g), y5] ∧ H2 g = some (.lst us2) ∧ NStH (hid [g, p] H2) us2 ss2 ∧ us2.length = j ∧ Pool H2 p ∧ Same (hid [g, p] H1) (hid [g, p] H2) ∧ But p H H2 ∧ ∀ s ∈ ss2, NOk s) ⟨[], [], _, rfl, hg1, .nil, rfl, p1, Same.refl _, bH1, fun s m => (by cases m)⟩ (fun j σ H2 _ q => ?_) ?_ ?_⟩
    · obtain ⟨_, _, _, _, _, _, _, _, s2, _⟩ := q
      exact .of (hid_out _ _ _ _ (s2 _ _ ht1))
    · rintro j x σ H2 hx ⟨us2, ss2, y5, rfl, hg2, hN2, l2, p2, s2, b2, ok2⟩
      obtain ⟨st, h1, u, rfl, hu⟩ := paired_at hs1 hx
      have hu2 := hid_out _ _ _ _ (s2 _ _ hu)
      have hn2 := hid_out _ _ _ _ (s2 _ _ hn1h)
      have jl := (List.getElem?_eq_some_iff.mp hx).1
      have lns : 0 < ns.length := List.length_pos_iff.mpr nne
      refine ⟨.ref g, rfl, .inl ⟨rfl, _, .of hg2⟩, _, rfl, u, _, 0, _, rfl, rfl, .of hu2, atI_nat (j := 0) rfl, ?_⟩
      refine ⟨_, rfl, _, rfl, _, rfl, nl, _, rfl, .inl (.of hn2), p, _, rfl, p2, ?_, ?_, fun r H3 b3 p3 r0 r1 => ?_⟩
      · rw [List.length_map]; omega
      · rw [List.length_map]; omega
      rw [List.length_map] at r1
      obtain ⟨z, zm, az⟩ := pick_str r0 r1
      have hg3 := b3 _ _ gp hg2
      have s3 := hid_but (S := [g, p]) b3 pm
      have hu3 := hid_out _ _ _ _ (s3 _ _ (s2 _ _ hu))
      refine ⟨nl, _, r, _, rfl, rfl, .of (b3 _ _ np hn2), az, _, rfl, u, _, 1, _, rfl, rfl, .of hu3, atI_nat (j := 1) rfl, (by show 3 ≤ sizeLine; decide), fun T hT => ?_⟩
      have sT : Same H3 (upd H3 T (.tup [.str (act st.1), .str z, .str st.2])) := Same.new hT
      have Tg : T ≠ g := Ne.symm (ne_of_none hg3 hT)
      have Tp : T ≠ p := p3.free hT
      have sx : Same (hid [g, p] H2) (hid [g, p] (upd (upd H3 T (.tup [.str (act st.1), .str z, .str st.2])) g (.lst (us2 ++ [.ref T])))) := (s3.trans (hid_of sT)).trans (hid_upd gm)
      refine ⟨g, us2, _, rfl, rfl, sT _ _ hg3, by rw [sizeLine_eq]; omega, us2 ++ [.ref T], ss2 ++ [(st.1, z, st.2)], _, rfl, upd_same, ?_, by rw [List.length_append, l2]; rfl, (p3.same sT).upd gp, s2.trans sx, ?_, fun q mq => ?_⟩
      · refine Paired.snoc2 (nsth_same hN2 sx) ⟨T, rfl, ?_⟩
        rw [hid_ne (by simp [Tg, Tp]), upd_ne Tg]
        exact upd_same
      · exact ((b2.trans b3).trans (But.of sT)).free hg
      · rcases List.mem_append.mp mq with z' | z'
        · exact ok2 q z'
        · rw [List.mem_singleton.mp z']
          exact ⟨nI z zm, zI _ (sz st (List.mem_of_getElem? h1))⟩
    · rintro σ H2 ⟨us2, ss2, y5, rfl, hg2, hN2, l2, p2, s2, b2, ok2⟩
      have := Paired.length hN2
      exact ⟨_, rfl, k g us2 ss2 H2 b2 p2 hg gp hg2 (nsth_same hN2 (hid_out _ _)) (by omega) ok2⟩
/-! ### _law_parts -/
def spParts (K : PySem.W.Frag) : Sp := fun xs H Q _ => ∃ (a : Addr) (ys : List V) (ss : List NSt), xs = [.ref a] ∧ (SqL K H a ys ∨ SqT K H a ys) ∧ ys.length ≤ 1000 ∧ NSV K H ys ss ∧ (∀ s ∈ ss, NOk s) ∧
  ∀ (d : Addr) (es : List Ent) (H' : Hp), Same H H' → H d = none → H' d = some (.dK (kvsE es)) → LsE H' es → pE es = prtM ss → Q (.ref d) H'
abbrev nPa : List Str := ["_law_steps_here", "_law_found", "_law_action", "_law_name_here", "_law_item"]
theorem scPa : FnScope nPa ["_law_steps_here"] (defScope sLawParts) := ⟨rfl, rfl, rfl, by decide +kernel, rfl, by decide +kernel, by decide +kernel⟩
/-- the entry n with a new list -/
def setE (es : List Ent) (n : Str) (W : Addr) (s : Stp) : List Ent := if es.any (fun e => decide (e.1 = n)) = true then es.map (fun e => if e.1 = n then (e.1, W, e.2.2 ++ [s]) else e) else es ++ [(n, W, [s])]
theorem setE_kvs (es : List Ent) (n : Str) (W : Addr) (s : Stp) : putK (kvsE es) (Sum.inr n) (.ref W) = kvsE (setE es n W s) := by
  unfold putK setE kvsE
  have e : ((es.map fun e => ((Sum.inr e.1 : Key), V.ref e.2.1)).any fun kv => decide (kv.1 = Sum.inr n)) = es.any (fun e => decide (e.1 = n)) := by
    rw [List.any_map]
    congr 1
    funext x
    show decide ((Sum.inr x.1 : Key) = Sum.inr n) = decide (x.1 = n)
    by_cases c : x.1 = n
    · rw [decide_eq_true c, decide_eq_true (by rw [c])]
    · rw [decide_eq_false c, decide_eq_false (fun q => c (Sum.inr.inj q))]
  rw [e]
  split
  · rw [List.map_map, List.map_map]
    refine List.map_congr_left fun x _ => ?_
    show (if (Sum.inr x.1 : Key) = Sum.inr n then ((Sum.inr x.1 : Key), V.ref W) else (Sum.inr x.1, V.ref x.2.1)) = (Sum.inr (if x.1 = n then (x.1, W, x.2.2 ++ [s]) else x).1, V.ref (if x.1 = n then (x.1, W, x.2.2 ++ [s]) else x).2.1)
    by_cases c : x.1 = n
    · rw [if_pos (by rw [c]), if_pos c]
    · rw [if_neg (fun q => c (Sum.inr.inj q)), if_neg c]
  · rw [List.map_append]
    rfl
theorem setE_p (es : List Ent) (n : Str) (W : Addr) (s : Stp) : pE (setE es n W s) = addP (pE es) n s := by
  unfold setE addP pE
  have e : ((es.map fun e => (e.1, e.2.2)).any fun p => decide (p.1 = n)) = es.any (fun e => decide (e.1 = n)) := by
    rw [List.any_map]
    rfl
  rw [e]
  split
  · rw [List.map_map, List.map_map]
    refine List.map_congr_left fun x _ => ?_
    show ((if x.1 = n then (x.1, W, x.2.2 ++ [s]) else x).1, (if x.1 = n then (x.1, W, x.2.2 ++ [s]) else x).2.2) = if x.1 = n then (x.1, x.2.2 ++ [s]) else (x.1, x.2.2)
    split <;> rfl
  · rw [List.map_append]
    rfl
theorem setE_ls {H : Hp} {es : List Ent} {n : Str} {W : Addr} {s : Stp} {ws : List V} (h : LsE H es) (hW : H W = some (.lst ws)) (old : ∀ e ∈ es, e.1 = n → StepsH H ws (e.2.2 ++ [s])) (new : (∀ e ∈ es, e.1 ≠ n) → StepsH H ws [s]) : LsE H (setE es n W s) := by
  intro e me
  unfold setE at me
  split at me
  · obtain ⟨x, mx, rfl⟩ := List.mem_map.mp me
    by_cases c : x.1 = n
    · rw [if_pos c]
      exact ⟨ws, hW, old x mx c⟩
    · rw [if_neg c]
      exact h x mx
  · rename_i c
    rcases List.mem_append.mp me with q | q
    · exact h e q
    · rw [List.mem_singleton.mp q]
      exact ⟨ws, hW, new fun x mx q => c (List.any_eq_true.mpr ⟨x, mx, decide_eq_true q⟩)⟩
theorem has_parts (D : Def K mg "_law_parts" sLawParts) : Has P w K mg base "_law_parts" 1 ["_law_steps_here"] [] (spParts K) := by
  refine has_of D scPa (fun _ _ _ _ _ _ us hl => match us, hl with | [_], _ => rfl) (fun xs H Q E h => ?_) (fun f cv A out s H xs Q E hr h => ?_)
  · obtain ⟨a, ys, ss, rfl, _⟩ := h
    rfl
  · obtain ⟨a, ys, ss, rfl, hS, hl, hV, hI, k⟩ := h
    have hu := hu_of hr
    have ly : ys.length = ss.length := Paired.length hV
    have go : ∀ {j : Nat} {x : V} {H2 : Hp} {d : Addr} {es : List Ent}, H d = none → ys[j]? = some x → Same H H2 → H2 d = some (.dK (kvsE es)) → LsE H2 es → pE es = prtM (ss.take j) → ∃ (t : Addr) (s : NSt), x = .ref t ∧ SqT K H2 t [.str (act s.1), .str s.2.1, .str s.2.2] ∧
        ∀ U, H2 U = none → ∃ L us, (valV (kvsE es) (Sum.inr s.2.1)).getD (.ref U) = .ref L ∧ (upd H2 U (.lst [])) L = some (.lst us) ∧ ∀ t', (upd H2 U (.lst [])) t' = none → ∀ M, (upd (upd H2 U (.lst [])) t' (.tup [.str (act s.1), .str s.2.2])) M = none →
          (upd (upd (upd H2 U (.lst [])) t' (.tup [.str (act s.1), .str s.2.2])) M (.lst [.ref t'])) L = some (.lst us) ∧ us.length + [V.ref t'].length ≤ sizeLine ∧ ∀ W, (upd (upd (upd H2 U (.lst [])) t' (.tup [.str (act s.1), .str s.2.2])) M (.lst [.ref t'])) W = none →
            (upd (upd (upd (upd H2 U (.lst [])) t' (.tup [.str (act s.1), .str s.2.2])) M (.lst [.ref t'])) W (.lst (us ++ [.ref t']))) d = some (.dK (kvsE es)) ∧ (kvsE es).length < sizeLine ∧
            LsE (upd (upd (upd (upd (upd H2 U (.lst [])) t' (.tup [.str (act s.1), .str s.2.2])) M (.lst [.ref t'])) W (.lst (us ++ [.ref t']))) d (.dK (putK (kvsE es) (Sum.inr s.2.1) (.ref W)))) (setE es s.2.1 W (s.1, s.2.2)) ∧ pE (setE es s.2.1 W (s.1, s.2.2)) = prtM (ss.take (j + 1)) ∧
            Same H (upd (upd (upd (upd (upd H2 U (.lst [])) t' (.tup [.str (act s.1), .str s.2.2])) M (.lst [.ref t'])) W (.lst (us ++ [.ref t']))) d (.dK (putK (kvsE es) (Sum.inr s.2.1) (.ref W)))) := by
      intro j x H2 d es hd hj s2 hdk hls pe
      obtain ⟨st, h1, t, e, h2⟩ := paired_at hV hj
      have pok := prtM_ok (ss := ss) j hI
      rw [← pe] at pok
      have jl := (List.getElem?_eq_some_iff.mp hj).1
      refine ⟨t, st, e, Same.tup s2 h2, fun U hU => ?_⟩
      have sU : Same H2 (upd H2 U (.lst [])) := Same.new hU
      -- the list as it was
      obtain ⟨L, us, eL, hL, o1, o2, o3⟩ : ∃ L us, (valV (kvsE es) (Sum.inr st.2.1)).getD (.ref U) = V.ref L ∧ (upd H2 U (.lst [])) L = some (.lst us) ∧ (∀ e ∈ es, e.1 = st.2.1 → StepsH (upd H2 U (.lst [])) us e.2.2) ∧ ((∀ e ∈ es, e.1 ≠ st.2.1) → us = []) ∧ us.length ≤ 1000 := by
        rw [valE]
        cases hf : es.find? (fun e => decide (e.1 = st.2.1)) with
        | none => exact ⟨U, [], rfl, upd_same, fun e m q => absurd q (find_no hf e m), fun _ => rfl, by decide⟩
        | some e =>
          obtain ⟨em, en⟩ := find_name hf
          obtain ⟨us, a1, a2⟩ := hls e em
          have ll : us.length = e.2.2.length := Paired.length a2
          have l2 := (pok.ok (e.1, e.2.2) (List.mem_map.mpr ⟨e, em, rfl⟩)).2.2
          have l2 : e.2.2.length ≤ j := l2
          refine ⟨e.2.1, us, rfl, sU _ _ a1, fun x mx q => ?_, fun q => absurd en (q e em), by omega⟩
          have z1 := find_at pok.nd mx
          rw [q, hf] at z1
          cases z1
          exact stepsH_sm a2 sU
      refine ⟨L, us, eL, hL, fun t' ht' M hM => ?_⟩
      have sT : Same (upd H2 U (.lst [])) (upd (upd H2 U (.lst [])) t' (.tup [.str (act st.1), .str st.2.2])) := Same.new ht'
      have sM : Same (upd (upd H2 U (.lst [])) t' (.tup [.str (act st.1), .str st.2.2])) (upd (upd (upd H2 U (.lst [])) t' (.tup [.str (act st.1), .str st.2.2])) M (.lst [.ref t'])) := Same.new hM
      refine ⟨sM _ _ (sT _ _ hL), by rw [sizeLine_eq, List.length_singleton]; omega, fun W hW => ?_⟩
      have sW : Same (upd (upd (upd H2 U (.lst [])) t' (.tup [.str (act st.1), .str st.2.2])) M (.lst [.ref t'])) (upd (upd (upd (upd H2 U (.lst [])) t' (.tup [.str (act st.1), .str st.2.2])) M (.lst [.ref t'])) W (.lst (us ++ [.ref t']))) := Same.new hW
      have s1 := (sT.trans sM).trans sW
      have sA := sU.trans s1
      have hW1 : (upd (upd (upd (upd H2 U (.lst [])) t' (.tup [.str (act st.1), .str st.2.2])) M (.lst [.ref t'])) W (.lst (us ++ [.ref t']))) W = some (.lst (us ++ [.ref t'])) := upd_same
      have ht1 : (upd (upd (upd (upd H2 U (.lst [])) t' (.tup [.str (act st.1), .str st.2.2])) M (.lst [.ref t'])) W (.lst (us ++ [.ref t']))) t' = some (.tup [.str (act st.1), .str st.2.2]) := sW _ _ (sM _ _ upd_same)
      generalize upd (upd (upd (upd H2 U (.lst [])) t' (.tup [.str (act st.1), .str st.2.2])) M (.lst [.ref t'])) W (.lst (us ++ [.ref t'])) = HB at s1 sA hW1 ht1 ⊢
      have hB := sA _ _ hdk
      refine ⟨hB, ?_, ?_, by rw [setE_p, prtM_take h1, pe], Same.free2 (s2.trans sA) hd⟩
      · have q := pok.len
        unfold pE at q
        rw [List.length_map] at q
        unfold kvsE
        rw [List.length_map, sizeLine_eq]
        omega
      · refine LsE.updD (setE_ls (hls.same sA) hW1 (fun e m q => Paired.snoc2 (stepsH_sm (o1 e m q) s1) ⟨t', rfl, ht1⟩) (fun q => ?_)) (fun us q => by rw [hB] at q; cases q) (fun us q => by rw [hB] at q; cases q)
        rw [o2 q]
        exact .cons ⟨t', rfl, ht1⟩ .nil
    rcases hS with hS | hS
    · refine ⟨_, pss_cons (ps_set (i := 1) scPa.nd rfl (.inl rfl) pe_dnewK)
        (pss_cons (ps_for PassesOwn.never rfl (pi_list (pv 0)) (pg_tup (by rfl) (pgs_cons (pg_name (i := 2) scPa.nd rfl (.inl rfl)) (pgs_cons (pg_name (i := 3) scPa.nd rfl (.inl rfl)) (pgs_cons (pg_name (i := 4) scPa.nd rfl (.inl rfl)) pgs_nil))))
          (pss_one (ps_dput hu (pv 1) (pv 3) (pe_op op_cat (pe_dget2 hu (pv 1) (pv 3) (pe_lst pa_nil) ⟨rfl, rfl, rfl, rfl⟩) (pe_lst (pa_cons (pe_tup (pa_cons (pv 2) (pa_cons (pv 4) pa_nil))) pa_nil))) rfl)))
        (pss_one (ps_ret (pv 1)))), ?_⟩
      refine fun d hd => ?_
      have sd : Same H (upd H d (.dK [])) := Same.new hd
      refine ⟨_, rfl, a, rfl, ⟨_, Same.seq sd hS⟩, for_list (K := K) (a := a) (xs := ys) (fun j σ H2 => ∃ (es : List Ent) (y2 y3 y4 : Option V), σ = [some (.ref a), some (.ref d), y2, y3, y4] ∧ H2 d = some (.dK (kvsE es)) ∧ LsE H2 es ∧ pE es = prtM (ss.take j) ∧ Same H H2) ⟨[], _, _, _, rfl, upd_same, fun e m => (by cases m), rfl, sd⟩ (fun j σ H2 _ q => ?_) ?_ ?_⟩
      · obtain ⟨_, _, _, _, _, _, _, _, s2⟩ := q
        exact Same.seq s2 hS
      · rintro j x σ H2 hj ⟨es, y2, y3, y4, rfl, hdk, hls, pe, s2⟩
        obtain ⟨t, st, rfl, hT, q⟩ := go hd hj s2 hdk hls pe
        refine ⟨t, _, rfl, hT, rfl, _, _, rfl, _, _, rfl, _, _, rfl, rfl, ?_⟩
        refine ⟨_, rfl, d, rfl, .inl ⟨_, .inl hdk⟩, _, rfl, (by show 0 ≤ sizeLine; decide), fun U hU => ?_⟩
        refine ⟨_, DGet.k (k := Sum.inr st.2.1) (Same.new hU _ _ hdk), ?_⟩
        obtain ⟨L, us, eL, hL, q2⟩ := q U hU
        rw [eL]
        refine ⟨_, rfl, _, rfl, (by show 2 ≤ sizeLine; decide), fun t' ht' => ⟨(by show 1 ≤ sizeLine; decide), fun M hM => ?_⟩⟩
        obtain ⟨q3, q4, q5⟩ := q2 t' ht' M hM
        refine ⟨L, M, us, [.ref t'], rfl, rfl, q3, upd_same, q4, fun W hW => ?_⟩
        obtain ⟨q6, q7, q8, q9, q10⟩ := q5 W hW
        exact ⟨_, rfl, _, rfl, d, _, rfl, .inl ⟨kvsE es, Sum.inr st.2.1, q6, rfl, q7, rfl⟩, setE es st.2.1 W (st.1, st.2.2), _, _, _, rfl, by rw [upd_same, setE_kvs], q8, q9, q10⟩
      · rintro σ H2 ⟨es, y2, y3, y4, rfl, hdk, hls, pe, s2⟩
        rw [ly, List.take_length] at pe
        exact ⟨_, rfl, k d es H2 s2 hd hdk hls pe⟩
    · refine ⟨_, pss_cons (ps_set (i := 1) scPa.nd rfl (.inl rfl) pe_dnewK)
        (pss_cons (ps_for PassesOwn.never rfl (pi_tup (pv 0)) (pg_tup (by rfl) (pgs_cons (pg_name (i := 2) scPa.nd rfl (.inl rfl)) (pgs_cons (pg_name (i := 3) scPa.nd rfl (.inl rfl)) (pgs_cons (pg_name (i := 4) scPa.nd rfl (.inl rfl)) pgs_nil))))
          (pss_one (ps_dput hu (pv 1) (pv 3) (pe_op op_cat (pe_dget2 hu (pv 1) (pv 3) (pe_lst pa_nil) ⟨rfl, rfl, rfl, rfl⟩) (pe_lst (pa_cons (pe_tup (pa_cons (pv 2) (pa_cons (pv 4) pa_nil))) pa_nil))) rfl)))
        (pss_one (ps_ret (pv 1)))), ?_⟩
      refine fun d hd => ?_
      have sd : Same H (upd H d (.dK [])) := Same.new hd
      refine ⟨_, rfl, a, rfl, ⟨_, Same.tup sd hS⟩, for_tup (K := K) (a := a) (xs := ys) (fun j σ H2 => ∃ (es : List Ent) (y2 y3 y4 : Option V), σ = [some (.ref a), some (.ref d), y2, y3, y4] ∧ H2 d = some (.dK (kvsE es)) ∧ LsE H2 es ∧ pE es = prtM (ss.take j) ∧ Same H H2) ⟨[], _, _, _, rfl, upd_same, fun e m => (by cases m), rfl, sd⟩ (fun j σ H2 _ q => ?_) ?_ ?_⟩
      · obtain ⟨_, _, _, _, _, _, _, _, s2⟩ := q
        exact Same.tup s2 hS
      · rintro j x σ H2 hj ⟨es, y2, y3, y4, rfl, hdk, hls, pe, s2⟩
        obtain ⟨t, st, rfl, hT, q⟩ := go hd hj s2 hdk hls pe
        refine ⟨t, _, rfl, hT, rfl, _, _, rfl, _, _, rfl, _, _, rfl, rfl, ?_⟩
        refine ⟨_, rfl, d, rfl, .inl ⟨_, .inl hdk⟩, _, rfl, (by show 0 ≤ sizeLine; decide), fun U hU => ?_⟩
        refine ⟨_, DGet.k (k := Sum.inr st.2.1) (Same.new hU _ _ hdk), ?_⟩
        obtain ⟨L, us, eL, hL, q2⟩ := q U hU
        rw [eL]
        refine ⟨_, rfl, _, rfl, (by show 2 ≤ sizeLine; decide), fun t' ht' => ⟨(by show 1 ≤ sizeLine; decide), fun M hM => ?_⟩⟩
        obtain ⟨q3, q4, q5⟩ := q2 t' ht' M hM
        refine ⟨L, M, us, [.ref t'], rfl, rfl, q3, upd_same, q4, fun W hW => ?_⟩
        obtain ⟨q6, q7, q8, q9, q10⟩ := q5 W hW
        exact ⟨_, rfl, _, rfl, d, _, rfl, .inl ⟨kvsE es, Sum.inr st.2.1, q6, rfl, q7, rfl⟩, setE es st.2.1 W (st.1, st.2.2), _, _, _, rfl, by rw [upd_same, setE_kvs], q8, q9, q10⟩
      · rintro σ H2 ⟨es, y2, y3, y4, rfl, hdk, hls, pe, s2⟩
        rw [ly, List.take_length] at pe
        exact ⟨_, rfl, k d es H2 s2 hd hdk hls pe⟩
end
end SE
/-! Plain data in which empty dicts may stand: its kinds, ==, in, and repr of every kind. -/
namespace SE
open PySem PySem.Spec PyProof.Rows L2
mutual
inductive DpX (K : PySem.W.Frag) (H : Hp) : V → PyData → Prop
  | non : DpX K H .non .none
  | bl (b : Bool) : DpX K H (.bl b) (.bool b)
  | int (i : Int) : DpX K H (.int i) (.int i)
  | str (x : Str) : DpX K H (.str x) (.str x)
  | lst {a : Addr} {xs : List V} {ds : List PyData} : SqL K H a xs → DpXs K H xs ds → DpX K H (.ref a) (.list ds)
  | tup {a : Addr} {xs : List V} {ds : List PyData} : SqT K H a xs → DpXs K H xs ds → DpX K H (.ref a) (.tuple ds)
  | emp {a : Addr} : H a = some (.dK []) → DpX K H (.ref a) (.dict [])
inductive DpXs (K : PySem.W.Frag) (H : Hp) : List V → List PyData → Prop
  | nil : DpXs K H [] []
  | cons {v : V} {vs : List V} {d : PyData} {ds : List PyData} : DpX K H v d → DpXs K H vs ds → DpXs K H (v :: vs) (d :: ds)
end
section
variable {K : PySem.W.Frag} {H H' : Hp}
mutual
theorem DpX.same (s : Same H H') : ∀ (d : PyData) (v : V), DpX K H v d → DpX K H' v d
  | .none, _, h => by cases h; exact .non
  | .bool b, _, h => by cases h; exact .bl b
  | .int i, _, h => by cases h; exact .int i
  | .str x, _, h => by cases h; exact .str x
  | .list ds, _, h => by
    cases h with
    | lst a b => exact .lst (Same.seq s a) (DpXs.same s ds _ b)
  | .tuple ds, _, h => by
    cases h with
    | tup a b => exact .tup (Same.tup s a) (DpXs.same s ds _ b)
  | .dict kvs, _, h => by
    cases h with
    | emp a => exact .emp (s _ _ a)
theorem DpXs.same (s : Same H H') : ∀ (ds : List PyData) (vs : List V), DpXs K H vs ds → DpXs K H' vs ds
  | [], _, h => by cases h; exact .nil
  | d :: ds, _, h => by
    cases h with
    | cons a b => exact .cons (DpX.same s d _ a) (DpXs.same s ds _ b)
end
theorem DpXs.at : ∀ {vs : List V} {ds : List PyData} {i : Nat} {v : V}, DpXs K H vs ds → vs[i]? = some v → ∃ d, ds[i]? = some d ∧ DpX K H v d
  | _, _, 0, v, .cons a b, h => by cases h; exact ⟨_, rfl, a⟩
  | _, _, i + 1, v, .cons a b, h => by
    obtain ⟨d, h1, h2⟩ := DpXs.at b h
    exact ⟨d, h1, h2⟩
theorem DpXs.len : ∀ {vs : List V} {ds : List PyData}, DpXs K H vs ds → vs.length = ds.length
  | _, _, .nil => rfl
  | _, _, .cons a b => by rw [List.length_cons, List.length_cons, DpXs.len b]
end
section
variable {X : Cx} {pins : List (Addr × Obj)} {σ : L2.St} {H : Hp} {s : Shared}
theorem emp_obj (I : Inv X pins σ H s) {a : Addr} (e : H a = some (.dK [])) : (a == sysModules) = false ∧ ∃ o n, s.heap.get? a = some o ∧ o.cls = .type "dict" ∧ o.data = .dict #[] n := by
  obtain ⟨_, hd, vs, rel, o, es, ep, h1, h2, h3, h4, h5, h6⟩ := dk_of I.hok e
  cases rel
  have : es = #[] := by
    have q : es.toList = [] := by
      cases hq : es.toList with
      | nil => rfl
      | cons x r => rw [hq] at h5; cases h5
    exact Array.toList_eq_nil_iff.mp q
  subst this
  exact ⟨hd, o, ep, h1, h2.1, h3⟩
mutual
theorem DpX.reads (I : Inv X pins σ H s) : ∀ (d : PyData) (v : V) (u : Value), DpX X.K H v d → RelV v u → ∃ as, Reads s.heap u d as
  | .none, _, _, h, r => by
    cases h
    cases r
    exact ⟨_, Reads.none⟩
  | .bool b, _, _, h, r => by
    cases h
    cases r
    exact ⟨_, Reads.bool b⟩
  | .int i, _, _, h, r => by
    cases h
    obtain ⟨t, rfl⟩ := r
    exact ⟨_, Reads.int i t⟩
  | .str x, _, _, h, r => by
    cases h
    obtain ⟨t, rfl⟩ := r
    exact ⟨_, Reads.str x t⟩
  | .list ds, _, _, h, r => by
    cases h with
    | lst hs ha =>
      cases r
      obtain ⟨its, rv, ⟨o, n, ho, hc, _, hd⟩, _⟩ := I.list hs
      obtain ⟨as, hr⟩ := DpXs.reads I ds _ its ha rv
      exact ⟨_, Reads.list ho hc hd hr⟩
  | .tuple ds, _, _, h, r => by
    cases h with
    | tup hs ha =>
      cases r
      obtain ⟨its, rv, ⟨o, ho, hc, n, hd⟩, _⟩ := I.tuple hs
      obtain ⟨as, hr⟩ := DpXs.reads I ds _ its ha rv
      exact ⟨_, Reads.tuple ho hc hd hr⟩
  | .dict _, _, _, h, r => by
    cases h with
    | emp e =>
      cases r
      obtain ⟨_, o, n, h1, h2, h3⟩ := emp_obj I e
      exact ⟨_, Reads.dict (kvs := []) h1 h2 h3 .nil .nil⟩
theorem DpXs.reads (I : Inv X pins σ H s) : ∀ (ds : List PyData) (vs : List V) (us : List Value), DpXs X.K H vs ds → Vals vs us → ∃ as, ReadsAll s.heap us ds as
  | [], _, _, h, r => by
    cases h
    cases r
    exact ⟨_, ReadsAll.nil⟩
  | d :: ds, _, _, h, r => by
    cases h with
    | cons h1 h2 =>
      cases r with
      | cons r1 r2 =>
        obtain ⟨as, q1⟩ := DpX.reads I d _ _ h1 r1
        obtain ⟨bs, q2⟩ := DpXs.reads I ds _ _ h2 r2
        exact ⟨_, ReadsAll.cons q1 q2⟩
end
mutual
theorem DpX.reprK (I : Inv X pins σ H s) : ∀ (d : PyData) (v : V) (u : Value), DpX X.K H v d → RelV v u → d.showable = true → d.shown.length ≤ sizeLine → ∃ bs, ReadAtMost s.heap d.depth bs ∧ ReprK X.prog X.w bs s.heap d.depth u d.shown
  | .none, _, _, h, r, _, _ => by
    cases h
    cases r
    exact ⟨[], (fun _ h => nomatch h), by simp only [PyData.shown]; exact .of_is ReprIs.none _ _ _⟩
  | .bool b, _, _, h, r, _, _ => by
    cases h
    cases r
    exact ⟨[], (fun _ h => nomatch h), by simp only [PyData.shown]; exact .of_is (ReprIs.bool b) _ _ _⟩
  | .int i, _, _, h, r, hs, _ => by
    cases h
    obtain ⟨t, rfl⟩ := r
    exact ⟨[], (fun _ h => nomatch h), by simp only [PyData.shown]; exact .of_is (ReprIs.int t (by simpa [PyData.showable] using hs)) _ _ _⟩
  | .str x, _, _, h, r, _, hz => by
    cases h
    obtain ⟨t, rfl⟩ := r
    exact ⟨[], (fun _ h => nomatch h), by simp only [PyData.shown]; exact .of_is (ReprIs.str x t (by simpa only [PyData.shown] using hz)) _ _ _⟩
  | .list ds, _, _, h, r, hs, hz => by
    cases h with
    | @lst a xs _ hs' ha =>
      cases r
      obtain ⟨its, rv, ⟨o, n, ho, hc, _, hd⟩, _⟩ := I.list hs'
      obtain ⟨as, hr⟩ := DpXs.reads I ds _ its ha rv
      have hz' : (listText (PyData.shownAll ds)).length ≤ sizeLine := by simpa only [PyData.shown] using hz
      obtain ⟨bs, hb, hk⟩ := DpXs.reprK I ds _ its ha rv (by simpa [PyData.showable] using hs) (fun t ht => Nat.le_trans (listText_mem_le ht) hz')
      have rr : Reads s.heap (.ref a) (.list ds) _ := .list ho hc hd hr
      have hna : a ∉ bs := not_mem_of_deeper rr (by simp only [PyData.depth]; omega) hb
      refine ⟨a :: bs, ReadAtMost.cons rr (by simp only [PyData.depth]; omega) hb, ?_⟩
      simp only [PyData.depth, PyData.shown]
      cases its with
      | nil =>
        cases hr
        simp only [PyData.shownAll, listText_nil]
        exact ReprK.listEmpty ho hc hd
      | cons x l => exact ReprK.list ho hc hd hna (by simpa using hk.length_eq) (fun i y e => hk.item i y (by simpa using e))
  | .tuple ds, _, _, h, r, hs, hz => by
    cases h with
    | @tup a xs _ hs' ha =>
      cases r
      obtain ⟨its, rv, ⟨o, ho, hc, n, hd⟩, _⟩ := I.tuple hs'
      obtain ⟨as, hr⟩ := DpXs.reads I ds _ its ha rv
      have hz' : (tupleText (PyData.shownAll ds)).length ≤ sizeLine := by simpa only [PyData.shown] using hz
      obtain ⟨bs, hb, hk⟩ := DpXs.reprK I ds _ its ha rv (by simpa [PyData.showable] using hs) (fun t ht => Nat.le_trans (tupleText_mem_le ht) hz')
      have rr : Reads s.heap (.ref a) (.tuple ds) _ := .tuple ho hc hd hr
      have hna : a ∉ bs := not_mem_of_deeper rr (by simp only [PyData.depth]; omega) hb
      refine ⟨a :: bs, ReadAtMost.cons rr (by simp only [PyData.depth]; omega) hb, ?_⟩
      simp only [PyData.depth, PyData.shown]
      exact ReprK.tuple ho hc hd hna hk
  | .dict _, _, _, h, r, _, hz => by
    cases h with
    | @emp a e =>
      cases r
      obtain ⟨hsys, o, n, h1, h2, h3⟩ := emp_obj I e
      have rr : Reads s.heap (.ref a) (.dict []) _ := .dict (kvs := []) h1 h2 h3 .nil .nil
      have h0 : ReadAtMost s.heap 0 [] := fun _ h => nomatch h
      refine ⟨[a], ReadAtMost.cons rr (by simp only [PyData.depth]; omega) h0, ?_⟩
      simp only [PyData.depth, PyData.shown, PyData.depthKv, PyData.shownKv]
      exact ReprK.dict h1 h2 h3 hsys (by simp) .nil
theorem DpXs.reprK (I : Inv X pins σ H s) : ∀ (ds : List PyData) (vs : List V) (us : List Value), DpXs X.K H vs ds → Vals vs us → PyData.showableAll ds = true → (∀ t ∈ PyData.shownAll ds, t.length ≤ sizeLine) →
    ∃ bs, ReadAtMost s.heap (PyData.depthAll ds) bs ∧ ReprAllK X.prog X.w bs s.heap (PyData.depthAll ds) us (PyData.shownAll ds)
  | [], _, _, h, r, _, _ => by
    cases h
    cases r
    exact ⟨[], (fun _ h => nomatch h), by simp only [PyData.shownAll]; exact .nil⟩
  | d :: ds, _, _, h, r, hs, hz => by
    cases h with
    | cons h1 h2 =>
      cases r with
      | cons r1 r2 =>
        have hs' : d.showable = true ∧ PyData.showableAll ds = true := by simpa [PyData.showableAll] using hs
        obtain ⟨b1, hb1, k1⟩ := DpX.reprK I d _ _ h1 r1 hs'.1 (hz _ (by simp only [PyData.shownAll]; exact List.mem_cons_self ..))
        obtain ⟨b2, hb2, k2⟩ := DpXs.reprK I ds _ _ h2 r2 hs'.2 (fun t ht => hz t (by simp only [PyData.shownAll]; exact List.mem_cons_of_mem _ ht))
        refine ⟨b1 ++ b2, ?_, ?_⟩
        · intro b hm
          simp only [PyData.depthAll]
          rcases List.mem_append.mp hm with hm | hm
          · obtain ⟨d', as', r', hd'⟩ := hb1 b hm
            exact ⟨d', as', r', Nat.le_trans hd' (Nat.le_max_left _ _)⟩
          · obtain ⟨d', as', r', hd'⟩ := hb2 b hm
            exact ⟨d', as', r', Nat.le_trans hd' (Nat.le_max_right _ _)⟩
        · simp only [PyData.depthAll, PyData.shownAll]
          exact .cons ((k1.more fun b hb => List.mem_append_left _ hb).level_le (Nat.le_max_left _ _)) (k2.more_le (fun b hb => List.mem_append_right _ hb) (Nat.le_max_right _ _))
end
end
section
variable {X : Cx}
def rEqX (K : PySem.W.Frag) : R2 := fun x y H Q => ∃ d e, DpX K H x d ∧ DpX K H y e ∧ SeqAt.shaped d = true ∧ SeqAt.shaped e = true ∧ Q (.bl (PyData.eqv d e)) H
def rNeX (K : PySem.W.Frag) : R2 := fun x y H Q => ∃ d e, DpX K H x d ∧ DpX K H y e ∧ SeqAt.shaped d = true ∧ SeqAt.shaped e = true ∧ Q (.bl (!PyData.eqv d e)) H
def rInX (K : PySem.W.Frag) : R2 := fun x y H Q => ∃ d ds, DpX K H x d ∧ DpX K H y (.list ds) ∧ SeqAt.shaped d = true ∧ SeqAt.shaped (.list ds) = true ∧ Q (.bl (ds.any fun z => PyData.eqv z d)) H
theorem op_eqX (hu : X.A.units + 64 < cLine) : OpR X (compareOp .Eq) (rEqX X.K) := by
  intro pins s σ H x y v u Q I rx ry h
  obtain ⟨d, e, hd, he, sd, se, q⟩ := h
  obtain ⟨as, r1⟩ := DpX.reads I d x v hd rx
  obtain ⟨bs, r2⟩ := DpX.reads I e y u he ry
  exact SeqAt.compareEq_shaped r1 r2 sd se hu ⟨.bl _, H, I, rfl, q⟩
theorem op_neX (hu : X.A.units + 64 < cLine) : OpR X (compareOp .NotEq) (rNeX X.K) := by
  intro pins s σ H x y v u Q I rx ry h
  obtain ⟨d, e, hd, he, sd, se, q⟩ := h
  obtain ⟨as, r1⟩ := DpX.reads I d x v hd rx
  obtain ⟨bs, r2⟩ := DpX.reads I e y u he ry
  exact SeqAt.compareNe_shaped r1 r2 sd se hu ⟨.bl _, H, I, rfl, q⟩
theorem op_inX (hu : X.A.units + 65 < cLine) : OpR X (compareOp .In) (rInX X.K) := by
  intro pins s σ H x y v u Q I rx ry h
  obtain ⟨d, ds, hd, he, sd, se, q⟩ := h
  obtain ⟨as, r1⟩ := DpX.reads I d x v hd rx
  obtain ⟨bs, r2⟩ := DpX.reads I (.list ds) y u he ry
  exact SeqAt.in_list_reads r2 r1 (SeqAt.canLay_of_shaped se) (SeqAt.canLay_of_shaped sd) (room_in_shaped sd hu) ⟨.bl _, H, I, rfl, q⟩
/-- the kind of such data -/
def tyD : PyData → String
  | .none => "NoneType"
  | .bool _ => "bool"
  | .int _ => "int"
  | .str _ => "str"
  | .list _ => "list"
  | .tuple _ => "tuple"
  | .dict _ => "dict"
theorem DpX.ty {K : PySem.W.Frag} {H : Hp} {v : V} {d : PyData} (h : DpX K H v d) : TyX K H v (.type (tyD d)) := by
  cases h with
  | non => exact .base .non
  | bl b => exact .base (.bl b)
  | int i => exact .base (.int i)
  | str x => exact .base (.str x)
  | lst h _ =>
    rcases h with (h | ⟨o, h⟩) | ⟨o, its, n, h1, h2, _⟩
    · exact .base (.lst h)
    · exact .base (.frz h)
    · exact .kList h1 h2
  | tup h _ =>
    rcases h with (h | ⟨o, h⟩) | ⟨o, its, n, h1, h2, _⟩
    · exact .base (.tup h)
    · exact .fTuple h
    · exact .kTuple h1 h2
  | emp h => exact .base (.dK h)
def isStr : PyData → Bool
  | .str _ => true
  | _ => false
def isTup : PyData → Bool
  | .tuple _ => true
  | _ => false
def isLst : PyData → Bool
  | .list _ => true
  | _ => false
theorem kit_str {K : PySem.W.Frag} : ∀ d : PyData, PySem.W.kitOne K (.type (tyD d)) (.type "str") = some (isStr d)
  | .none => kit_ty (show kitB "NoneType" "str" = some false by decide +kernel)
  | .bool _ => kit_ty (show kitB "bool" "str" = some false by decide +kernel)
  | .int _ => kit_ty (show kitB "int" "str" = some false by decide +kernel)
  | .str _ => kit_ty (show kitB "str" "str" = some true by decide +kernel)
  | .list _ => kit_ty (show kitB "list" "str" = some false by decide +kernel)
  | .tuple _ => kit_ty (show kitB "tuple" "str" = some false by decide +kernel)
  | .dict _ => kit_ty (show kitB "dict" "str" = some false by decide +kernel)
theorem kit_tup {K : PySem.W.Frag} : ∀ d : PyData, PySem.W.kitOne K (.type (tyD d)) (.type "tuple") = some (isTup d)
  | .none => kit_ty (show kitB "NoneType" "tuple" = some false by decide +kernel)
  | .bool _ => kit_ty (show kitB "bool" "tuple" = some false by decide +kernel)
  | .int _ => kit_ty (show kitB "int" "tuple" = some false by decide +kernel)
  | .str _ => kit_ty (show kitB "str" "tuple" = some false by decide +kernel)
  | .list _ => kit_ty (show kitB "list" "tuple" = some false by decide +kernel)
  | .tuple _ => kit_ty (show kitB "tuple" "tuple" = some true by decide +kernel)
  | .dict _ => kit_ty (show kitB "dict" "tuple" = some false by decide +kernel)
theorem kit_lst {K : PySem.W.Frag} : ∀ d : PyData, PySem.W.kitOne K (.type (tyD d)) (.type "list") = some (isLst d)
  | .none => kit_ty (show kitB "NoneType" "list" = some false by decide +kernel)
  | .bool _ => kit_ty (show kitB "bool" "list" = some false by decide +kernel)
  | .int _ => kit_ty (show kitB "int" "list" = some false by decide +kernel)
  | .str _ => kit_ty (show kitB "str" "list" = some false by decide +kernel)
  | .list _ => kit_ty (show kitB "list" "list" = some true by decide +kernel)
  | .tuple _ => kit_ty (show kitB "tuple" "list" = some false by decide +kernel)
  | .dict _ => kit_ty (show kitB "dict" "list" = some false by decide +kernel)
/-- repr(x), x such data of any kind -/
def rRepX (K : PySem.W.Frag) : List V → Hp → VK → Prop := fun xs H Q => ∃ (x : V) (d : PyData), xs = [x] ∧ DpX K H x d ∧ d.showable = true ∧ d.depth ≤ 20 ∧ d.shown.length ≤ sizeLine ∧ Q (.str d.shown) H
theorem call_repX (hgu : X.A.guards = some []) (hu : X.A.units + 64 < cLine) : CallR X (.builtin "repr") (rRepX X.K) := by
  intro pins s σ H xs us Q I r h
  obtain ⟨x, d, rfl, hd, hs, hdep, hz, q⟩ := h
  cases r with
  | cons r1 r2 =>
    cases r2
    rename_i u
    cases hd with
    | non =>
      cases r1
      simp only [PyData.shown] at q
      exact PySem.P.repr_of_none ⟨.str _, H, I.tok _, ⟨_, rfl⟩, q⟩
    | bl b =>
      cases r1
      simp only [PyData.shown] at q
      exact PySem.P.repr_of_bool ⟨.str _, H, I.tok _, ⟨_, rfl⟩, q⟩
    | int i =>
      obtain ⟨t, rfl⟩ := r1
      simp only [PyData.shown] at q
      exact PySem.P.repr_of_int (by simpa [PyData.showable] using hs) ⟨.str _, H, I.tok _, ⟨_, rfl⟩, q⟩
    | str z =>
      obtain ⟨t, rfl⟩ := r1
      simp only [PyData.shown] at q hz
      exact PySem.P.repr_of_str ⟨.str _, H, I.tok _, ⟨_, rfl⟩, q⟩ hz
    | @lst a xs ds hs' ha =>
      cases r1
      obtain ⟨its, rv, ⟨o, n, ho, hc, _, hdd⟩, _⟩ := I.list hs'
      obtain ⟨as, hr⟩ := DpXs.reads I ds _ its ha rv
      have hz' : (listText (PyData.shownAll ds)).length ≤ sizeLine := by simpa only [PyData.shown] using hz
      obtain ⟨bs, hb, hk⟩ := DpXs.reprK I ds _ its ha rv (by simpa [PyData.showable] using hs) (fun t ht => Nat.le_trans (listText_mem_le ht) hz')
      have rr : Reads s.heap (.ref a) (.list ds) _ := .list ho hc hdd hr
      have hna : a ∉ bs := not_mem_of_deeper rr (by simp only [PyData.depth]; omega) hb
      simp only [PyData.depth] at hdep
      simp only [PyData.shown] at q
      refine call_repr_slot (T := "list") (by omega) ⟨o, ho, hc⟩ PySem.F.slot_list_repr.toG ?_
      cases its with
      | nil =>
        cases hr
        simp only [PyData.shownAll, listText_nil] at q
        exact call_list_repr_empty ⟨o, ho, hc⟩ ho hdd ⟨_, _, rfl, .str _, H, I.tok _, ⟨_, rfl⟩, q⟩
      | cons y l =>
        exact call_list_reprK ho hc hdd hna (by simpa using hk.length_eq) (fun i y e => hk.item i y (by simpa using e)) (A := X.A.in1) hgu (fun b _ => Clear.nil b) (by show X.A.units + 1 + _ < cLine; omega) (fun _ _ z => z) (fun h' u tk keep => ⟨_, _, rfl, .str _, H, I.kept (t' := tk) keep, ⟨_, rfl⟩, q⟩) hz'
    | @tup a xs ds hs' ha =>
      cases r1
      obtain ⟨its, rv, ⟨o, ho, hc, n, hdd⟩, _⟩ := I.tuple hs'
      obtain ⟨as, hr⟩ := DpXs.reads I ds _ its ha rv
      have hz' : (tupleText (PyData.shownAll ds)).length ≤ sizeLine := by simpa only [PyData.shown] using hz
      obtain ⟨bs, hb, hk⟩ := DpXs.reprK I ds _ its ha rv (by simpa [PyData.showable] using hs) (fun t ht => Nat.le_trans (tupleText_mem_le ht) hz')
      have rr : Reads s.heap (.ref a) (.tuple ds) _ := .tuple ho hc hdd hr
      have hna : a ∉ bs := not_mem_of_deeper rr (by simp only [PyData.depth]; omega) hb
      simp only [PyData.depth] at hdep
      simp only [PyData.shown] at q
      refine call_repr_slot (T := "tuple") (by omega) ⟨o, ho, hc⟩ PySem.F.slot_tuple_repr ?_
      exact call_tuple_reprK ho hc hdd hna hk (A := X.A.in1) hgu (fun b _ => Clear.nil b) (by show X.A.units + 1 + _ < cLine; omega) (fun _ _ z => z) (fun h' u tk keep => ⟨_, _, rfl, .str _, H, I.kept (t' := tk) keep, ⟨_, rfl⟩, q⟩) hz'
    | @emp a e =>
      cases r1
      obtain ⟨hsys, o, n, h1, h2, h3⟩ := emp_obj I e
      have hz' : (dictText []).length ≤ sizeLine := by simpa only [PyData.shown, PyData.shownKv] using hz
      simp only [PyData.shown, PyData.shownKv] at q
      refine call_repr_slot (T := "dict") (by omega) ⟨o, h1, h2⟩ PySem.F.slot_dict_repr ?_
      exact call_dict_reprK (as := []) (d := 0) h1 h2 h3 hsys (by simp) .nil (A := X.A.in1) hgu (fun b _ => Clear.nil b) (by show X.A.units + 1 + _ < cLine; omega) (fun _ _ z => z) (fun h' u tk keep => ⟨_, _, rfl, .str _, H, I.kept (t' := tk) keep, ⟨_, rfl⟩, q⟩) hz'
end
end SE
/-! == and in where empty dicts may stand: a list beside [], a value in a list of texts. -/
namespace PySem.SeqAt
open AutoSeq1 (wpAny_loadPart')
open MeetsSeq
theorem str_eq_declines_dict (b : Str) (u : Tok) (l : Addr) (c : Value) (es : Array DictEntry) (n : Nat) (dd : Option Addr) (sl : Array (Option Value)) :
    Meets (Builtin.«str.__eq__» ⟨[.str b u, .ref l], []⟩) (fun _ R s => s.heap.get? l = some { cls := c, dict := dd, data := .dict es n, slots := sl } ∧ R (.ok (.ret .notImplemented)) s) :=
  .of_wp fun prog w A R s h => by obtain ⟨hp, g, d, tk, os⟩ := s; obtain ⟨hl, h⟩ := h; wp_walk using wpAny_loadPart' hl, wpAny_load hl; exact ⟨_, rfl, h⟩
theorem dict_eq_declines_str (l : Addr) (es : Array DictEntry) (n : Nat) (dd : Option Addr) (sl : Array (Option Value)) (b : Str) (u : Tok) :
    Meets (Builtin.«dict.__eq__» ⟨[.ref l, .str b u], []⟩) (fun _ R s => s.heap.get? l = some { cls := .type "dict", dict := dd, data := .dict es n, slots := sl } ∧ R (.ok (.ret .notImplemented)) s) :=
  .of_wp fun prog w A R s h => by obtain ⟨hp, g, d, tk, os⟩ := s; obtain ⟨hl, h⟩ := h; have f1 := F.sub_str_dict; wp_walk using wpAny_loadPart' hl; exact ⟨_, rfl, h⟩
section
variable {A : Around} {s : Shared}
theorem RcAt.str_dictX {l : Addr} {o : Obj} {es : Array DictEntry} {n : Nat} (b : Str) (u : Tok) (h1 : s.heap.get? l = some o) (h2 : o.cls = .type "dict") (h3 : o.data = .dict es n) (hu : A.units < cLine) : RcAt A s (.str b u) (.ref l) false := fun prog w E Q h => by
  obtain ⟨cls, dd, data, sl⟩ := o
  simp only at h2 h3
  subst h2 h3
  exact rc_eq_decline_or (k := false) (typeIs_str s b u) ⟨_, h1, rfl⟩ (by decide) F.sub_dict_str F.slot_str_eq F.slot_dict_eq_refl
    (fun _ hq => call_meets F.slot_str_eq (typeIs_str s b u) F.entry_str_eq (F.args_str_eq_2 _ _) (str_eq_declines_dict b u l (.type "dict") es n dd sl) ⟨h1, hq⟩)
    (fun _ hq => call_meets F.slot_dict_eq_refl ⟨_, h1, rfl⟩ F.entry_dict_eq (F.args_dict_eq_2 _ _) (dict_eq_declines_str l es n dd sl b u) ⟨h1, hq⟩)
    (fun _ hq => wpAny_of_eq (rfl : isSame (.str b u) (.ref l) = pure false) hq) (.inr hu) h
theorem EqAt.str_dictX {l : Addr} {o : Obj} {es : Array DictEntry} {n : Nat} (b : Str) (u : Tok) (h1 : s.heap.get? l = some o) (h2 : o.cls = .type "dict") (h3 : o.data = .dict es n) (hu : A.units < cLine) : EqAt A s (.str b u) (.ref l) false := fun prog w E Q h => by
  unfold eqBool
  refine wpAny_holding ?_
  refine wpAny_ite_split (fun hab => absurd (eq_of_beq hab) nofun) (fun _ => ?_)
  exact wpAny_bind (RcAt.str_dictX b u h1 h2 h3 hu prog w E _ (wpAny_truthy_bool h))
end
end PySem.SeqAt
namespace SE
open PySem PySem.Spec PyProof.Rows L2
theorem eqAt_strD {A : Around} {s : Shared} {b : Str} {u : Tok} {x : Value} {d : PyData} {as : List Addr} (r : Reads s.heap x d as) (hu : A.units < cLine) : SeqAt.EqAt A s (.str b u) x (PyData.eqv (.str b) d) := by
  cases r with
  | none => exact SeqAt.EqAt.str_none b u
  | bool y => exact SeqAt.EqAt.str_bool b u y
  | int y t => exact SeqAt.EqAt.str_int b u y t
  | str y t => exact SeqAt.EqAt.str_str b u y t
  | list k1 k2 k3 k4 => exact SeqAt.EqAt.str_list b u ⟨_, k1, k2, _, k3⟩ hu
  | tuple k1 k2 k3 k4 => exact SeqAt.EqAt.str_tuple b u ⟨_, k1, k2, _, k3⟩ hu
  | dict k1 k2 k3 k4 k5 => exact SeqAt.EqAt.str_dictX b u k1 k2 k3 hu
section
variable {X : Cx}
def rEqE (K : PySem.W.Frag) : R2 := fun x y H Q => ∃ ds, DpX K H x (.list ds) ∧ DpX K H y (.list []) ∧ Q (.bl (PyData.eqv (.list ds) (.list []))) H
def valStr (d : PyData) : Value → Bool
  | .str b _ => PyData.eqv (.str b) d
  | _ => false
def rInE (K : PySem.W.Frag) : R2 := fun x y H Q => ∃ (d : PyData) (ss : List Str), DpX K H x d ∧ DpX K H y (.list (ss.map .str)) ∧ Q (.bl ((ss.map PyData.str).any fun z => PyData.eqv z d)) H
theorem op_eqE (hu : X.A.units + 64 < cLine) : OpR X (compareOp .Eq) (rEqE X.K) := by
  intro pins s σ H x y v u Q I rx ry h
  obtain ⟨ds, hd, he, q⟩ := h
  obtain ⟨as, r1⟩ := DpX.reads I (.list ds) x v hd rx
  obtain ⟨bs, r2⟩ := DpX.reads I (.list []) y u he ry
  cases r1 with
  | @list l o vs n _ as₁ h1 h2 h3 h4 =>
    cases r2 with
    | @list l' o' vs' n' ys bs₁ k1 k2 k3 k4 =>
      have hl : s.heap.IsList l vs := ⟨_, h1, h2, _, h3⟩
      have hl' : s.heap.IsList l' vs' := ⟨_, k1, k2, _, k3⟩
      have n1 : vs.size = ds.length := by simpa using SeqAt.ReadsAll.length _ _ _ h4
      have n2 : vs'.size = 0 := by simpa using SeqAt.ReadsAll.length _ _ _ k4
      have q' : ∃ v' H', Inv X pins σ H' s ∧ RelV v' (Value.bool (PyData.eqvAll ds [])) ∧ Q v' H' := ⟨.bl _, H, I, rfl, q⟩
      by_cases hsz : vs.size = vs'.size
      · have e : ds = [] := by
          rw [n2, n1] at hsz
          exact List.length_eq_zero_iff.mp hsz
        subst e
        refine SeqAt.RcAt.lists (e := fun _ => true) hl hl' hsz (by omega) (fun j j1 j2 => absurd j2 (by omega)) X.prog X.w X.xe _ ?_
        rw [n1]
        exact q'
      · refine SeqAt.RcAt.lists_lengths hl hl' (by simpa using hsz) (by omega) X.prog X.w X.xe _ ?_
        rw [← SeqAt.eqvAll_other_length (xs := ds) (ys := []) (by rw [List.length_nil, ← n1, ← n2]; exact hsz)]
        exact q'
theorem strs_reads {h : Heap} : ∀ {ss : List Str} {vs : List Value} {as : List Addr}, ReadsAll h vs (ss.map PyData.str) as → (∀ v ∈ vs, ∃ b u, v = Value.str b u) ∧ ∀ d, vs.any (valStr d) = (ss.map PyData.str).any fun z => PyData.eqv z d
  | [], _, _, r => by
    cases r
    exact ⟨fun v m => (by cases m), fun _ => rfl⟩
  | a :: ss, _, _, r => by
    cases r with
    | cons r1 r2 =>
      cases r1 with
      | str x t =>
        obtain ⟨p, q⟩ := strs_reads r2
        refine ⟨fun v m => ?_, fun d => ?_⟩
        · rcases List.mem_cons.mp m with e | e
          · exact ⟨_, _, e⟩
          · exact p v e
        · rw [List.any_cons, List.map_cons, List.any_cons, q d]
          rfl
theorem op_inE (hu : X.A.units + 65 < cLine) : OpR X (compareOp .In) (rInE X.K) := by
  intro pins s σ H x y v u Q I rx ry h
  obtain ⟨d, ss, hd, he, q⟩ := h
  obtain ⟨as, r1⟩ := DpX.reads I d x v hd rx
  obtain ⟨bs, r2⟩ := DpX.reads I (.list (ss.map .str)) y u he ry
  cases r2 with
  | @list l o vs n _ as₁ h1 h2 h3 h4 =>
    obtain ⟨a1, a2⟩ := strs_reads h4
    refine SeqAt.in_listAt (valStr d) ⟨_, h1, h2, _, h3⟩ (fun z hz => ?_) ?_
    · obtain ⟨b, t, e⟩ := a1 z (by simpa using hz)
      rw [e]
      exact eqAt_strD r1 (by show X.A.units + 1 < cLine; omega)
    · refine ⟨.bl _, H, I, ?_, q⟩
      rw [← a2 d, ← Array.any_toList]
      exact rfl
end
end SE
namespace SE
open PySem PySem.Spec PyProof.Rows L2
/-! ### data whose dicts are empty -/
mutual
def layE : PyData → Bool
  | .none | .bool _ | .int _ => true
  | .str x => PyData.strOk x
  | .list xs | .tuple xs => layEAll xs
  | .dict kvs => kvs.isEmpty
def layEAll : List PyData → Bool
  | [] => true
  | x :: xs => layE x && layEAll xs
end
mutual
theorem layE_of : ∀ d : PyData, d.canLay0 = true → layE d = true
  | .none, _ => by simp only [layE]
  | .bool _, _ => by simp only [layE]
  | .int _, _ => by simp only [layE]
  | .str x, h => by simpa only [layE, PyData.canLay0] using h
  | .list xs, h => by
    simp only [layE]
    exact layEAll_of xs (by simpa only [PyData.canLay0] using h)
  | .tuple xs, h => by
    simp only [layE]
    exact layEAll_of xs (by simpa only [PyData.canLay0] using h)
  | .dict _, h => by simp only [PyData.canLay0] at h; exact nomatch h
theorem layEAll_of : ∀ xs : List PyData, PyData.canLayAll0 xs = true → layEAll xs = true
  | [], _ => by simp only [layEAll]
  | x :: xs, h => by
    have h' : x.canLay0 = true ∧ PyData.canLayAll0 xs = true := by simpa only [PyData.canLayAll0, Bool.and_eq_true] using h
    simp only [layEAll, Bool.and_eq_true]
    exact ⟨layE_of x h'.1, layEAll_of xs h'.2⟩
end
mutual
theorem leavesShort_of_layE : ∀ d : PyData, layE d = true → d.intsShort 13 = true → d.leavesShort 13 = true
  | .none, _, _ => rfl
  | .bool _, _, _ => rfl
  | .int i, _, h => by simpa only [PyData.leavesShort, PyData.intsShort] using h
  | .str x, hc, _ => PyData.leavesShort_of_canLay0 13 (.str x) (by simpa only [layE, PyData.canLay0] using hc) rfl
  | .list xs, hc, h => by
    simp only [PyData.leavesShort]
    exact leavesShortAll_of_layE xs (by simpa only [layE] using hc) (by simpa only [PyData.intsShort] using h)
  | .tuple xs, hc, h => by
    simp only [PyData.leavesShort]
    exact leavesShortAll_of_layE xs (by simpa only [layE] using hc) (by simpa only [PyData.intsShort] using h)
  | .dict kvs, hc, _ => by
    simp only [layE, List.isEmpty_iff] at hc
    rw [hc]
    rfl
theorem leavesShortAll_of_layE : ∀ xs : List PyData, layEAll xs = true → PyData.intsShortAll 13 xs = true → PyData.leavesShortAll 13 xs = true
  | [], _, _ => rfl
  | x :: xs, hc, h => by
    have hc' : layE x = true ∧ layEAll xs = true := by simpa only [layEAll, Bool.and_eq_true] using hc
    have h' : x.intsShort 13 = true ∧ PyData.intsShortAll 13 xs = true := by simpa only [PyData.intsShortAll, Bool.and_eq_true] using h
    simp only [PyData.leavesShortAll, Bool.and_eq_true]
    exact ⟨leavesShort_of_layE x hc'.1 h'.1, leavesShortAll_of_layE xs hc'.2 h'.2⟩
end
/-! ### small data -/
structure NX (k B : Nat) (d : PyData) : Prop where
  lay : layE d = true
  dep : d.depth ≤ k
  sh : d.showable = true
  ish : d.intsShort 13 = true
  wt : d.weight ≤ B
theorem NX.mono {k j B C : Nat} {d : PyData} (h : NX k B d) (hk : k ≤ j) (hB : B ≤ C) : NX j C d := ⟨h.lay, Nat.le_trans h.dep hk, h.sh, h.ish, Nat.le_trans h.wt hB⟩
theorem Nice.nx {k B : Nat} {d : PyData} (h : Nice k B d) : NX k B d := ⟨layE_of _ h.lay, h.dep, h.sh, h.ish, h.wt⟩
theorem nx_all {k B : Nat} : ∀ {ds : List PyData}, (∀ d ∈ ds, NX k B d) → layEAll ds = true ∧ PyData.depthAll ds ≤ k ∧ PyData.showableAll ds = true ∧ PyData.intsShortAll 13 ds = true ∧ PyData.weightAll ds ≤ ds.length * (B + 1)
  | [], _ => by
    refine ⟨?_, ?_, ?_, ?_, ?_⟩
    · simp only [layEAll]
    · simp only [PyData.depthAll]
      exact Nat.zero_le _
    · simp only [PyData.showableAll]
    · simp only [PyData.intsShortAll]
    · simp only [PyData.weightAll]
      exact Nat.zero_le _
  | d :: ds, h => by
    obtain ⟨a1, a2, a3, a5, a6⟩ := nx_all (ds := ds) fun x hx => h x (List.mem_cons_of_mem _ hx)
    have q := h d List.mem_cons_self
    refine ⟨?_, ?_, ?_, ?_, ?_⟩
    · simp only [layEAll, q.lay, a1, Bool.and_self]
    · simp only [PyData.depthAll]
      exact Nat.max_le.mpr ⟨q.dep, a2⟩
    · simp only [PyData.showableAll, q.sh, a3, Bool.and_self]
    · simp only [PyData.intsShortAll, q.ish, a5, Bool.and_self]
    · simp only [PyData.weightAll, List.length_cons]
      have := q.wt
      rw [Nat.add_mul]
      omega
theorem nx_list {k B : Nat} {ds : List PyData} (h : ∀ d ∈ ds, NX k B d) : NX (k + 1) (ds.length * (B + 1)) (.list ds) := by
  obtain ⟨a1, a2, a3, a5, a6⟩ := nx_all h
  exact ⟨by simp only [layE]; exact a1, by simp only [PyData.depth]; omega, by simp only [PyData.showable]; exact a3, by simp only [PyData.intsShort]; exact a5, by simp only [PyData.weight]; exact a6⟩
theorem nx_tuple {k B : Nat} {ds : List PyData} (h : ∀ d ∈ ds, NX k B d) : NX (k + 1) (ds.length * (B + 1)) (.tuple ds) := by
  obtain ⟨a1, a2, a3, a5, a6⟩ := nx_all h
  exact ⟨by simp only [layE]; exact a1, by simp only [PyData.depth]; omega, by simp only [PyData.showable]; exact a3, by simp only [PyData.intsShort]; exact a5, by simp only [PyData.weight]; exact a6⟩
theorem all_elem {k B : Nat} : ∀ {ds : List PyData}, layEAll ds = true → PyData.depthAll ds ≤ k → PyData.showableAll ds = true → PyData.intsShortAll 13 ds = true → PyData.weightAll ds ≤ B → (∀ d ∈ ds, NX k B d) ∧ ds.length ≤ B
  | [], _, _, _, _, _ => ⟨fun d m => (by cases m), Nat.zero_le _⟩
  | d :: ds, h1, h2, h3, h4, h5 => by
    simp only [layEAll, Bool.and_eq_true] at h1
    simp only [PyData.depthAll] at h2
    simp only [PyData.showableAll, Bool.and_eq_true] at h3
    simp only [PyData.intsShortAll, Bool.and_eq_true] at h4
    simp only [PyData.weightAll] at h5
    have m2 := Nat.max_le.mp h2
    obtain ⟨q1, q2⟩ := all_elem (k := k) (B := B - 1) h1.2 m2.2 h3.2 h4.2 (by omega)
    refine ⟨fun x m => ?_, by rw [List.length_cons]; omega⟩
    rcases List.mem_cons.mp m with e | e
    · rw [e]
      exact ⟨h1.1, m2.1, h3.1, h4.1, by omega⟩
    · exact (q1 x e).mono (Nat.le_refl _) (by omega)
theorem NX.list {k B : Nat} {ds : List PyData} (h : NX k B (.list ds)) : (∀ d ∈ ds, NX k B d) ∧ ds.length ≤ B := by
  obtain ⟨a, b, c, d, e⟩ := h
  simp only [layE] at a
  simp only [PyData.depth] at b
  simp only [PyData.showable] at c
  simp only [PyData.intsShort] at d
  simp only [PyData.weight] at e
  exact all_elem a (by omega) c d e
theorem NX.tuple {k B : Nat} {ds : List PyData} (h : NX k B (.tuple ds)) : (∀ d ∈ ds, NX k B d) ∧ ds.length ≤ B := by
  obtain ⟨a, b, c, d, e⟩ := h
  simp only [layE] at a
  simp only [PyData.depth] at b
  simp only [PyData.showable] at c
  simp only [PyData.intsShort] at d
  simp only [PyData.weight] at e
  exact all_elem a (by omega) c d e
theorem NX.str {k B : Nat} {z : Str} (h : NX k B (.str z)) : z.length ≤ B := by
  have := h.wt
  simp only [PyData.weight] at this
  exact this
theorem NX.shown {k B : Nat} {d : PyData} (h : NX k B d) (hk : k ≤ 64) (hB : B ≤ 2 ^ 20) : d.shown.length ≤ sizeLine :=
  PyData.shown_fits (B := 13) (by decide) (by decide) (leavesShort_of_layE d h.lay h.ish) (Nat.le_trans h.wt hB)
/-- the data that the functions are asked about -/
abbrev OkD (d : PyData) : Prop := NX 20 100000 d
theorem big100 {n : Nat} (h : n ≤ 100001) : n ≤ sizeLine := by
  rw [sizeLine_eq]
  omega
/-! ### what the functions answer -/
def itemD : PyData → Bool
  | .str z => decide (1 ≤ z.length ∧ z.length ≤ 8) && (z.cps.toList.map fun c => decide (c ∈ abc.cps.toList)).all id
  | _ => false
def wordD : PyData → Bool
  | .tuple ds => (ds.map itemD).all id
  | _ => false
def actD : PyData → Bool
  | .str z => decide (z = "push" ∨ z = "pop")
  | _ => false
def stpD : PyData → Bool
  | .tuple [a, b] => actD a && itemD b
  | _ => false
def seqD : PyData → Bool
  | .list ds => decide (ds.length ≤ 1000) && (ds.map stpD).all id
  | .tuple ds => decide (ds.length ≤ 1000) && (ds.map stpD).all id
  | _ => false
end SE
namespace SE
open PySem PySem.Spec PyProof.Rows L2
theorem bl_take {α : Type} {f : α → Bool} {l : List α} {j : Nat} {x : α} (h : l[j]? = some x) : ((l.take j).map f).map V.bl ++ [V.bl (f x)] = ((l.take (j + 1)).map f).map V.bl := by
  rw [List.take_add_one, h, List.map_append, List.map_append]
  rfl
theorem itemD_str (z : Str) : itemD (.str z) = (decide (1 ≤ z.length ∧ z.length ≤ 8) && (z.cps.toList.map fun c => decide (c ∈ abc.cps.toList)).all id) := rfl
section
variable {P : Program} {w : World} {K : PySem.W.Frag} {mg : Str → Option Value} {base : Heap}
/-! ### is_item, is_word -/
def spX (K : PySem.W.Frag) (f : PyData → Bool) : Sp := fun xs H Q _ => ∃ (v : V) (d : PyData), xs = [v] ∧ DpX K H v d ∧ OkD d ∧ ∀ H', Same H H' → Q (.bl (f d)) H'
theorem has_itemX (D : Def K mg "is_item" sIsItem) (B : Blt mg) (C : Cons K w mg) : Has P w K mg base "is_item" 1 ["value"] [] (spX K itemD) := by
  obtain ⟨tl, hL⟩ := C.let_
  obtain ⟨tm, hM⟩ := C.ml
  refine has_of D scIsItem (fun _ _ _ _ _ _ us hl => match us, hl with | [_], _ => rfl) (fun xs H Q E h => ?_) (fun f cv A out s H xs Q E hr h => ?_)
  · obtain ⟨v, d, rfl, _⟩ := h
    rfl
  · obtain ⟨v, d, rfl, hd, ok, k⟩ := h
    refine ⟨_, pss_cons (ps_if (PW.pt (pw_or (pt_not (pt_val (pe_callB call_isi (by rfl) B.isi (by decide +kernel) (pa_cons (pv 0) (pa_cons (pe_bltn (v := .ty "str") (by rfl) B.str (by decide +kernel) rfl) pa_nil)))))
        (pw_or1 (pt_not (pt_chain op_le op_le pe_int (pe_callB call_len_str (by rfl) B.len PySem.boot_len (pa_cons (pv 0) pa_nil)) (pe_glob (v := .int 8) rfl hM ⟨_, rfl⟩)))))) (pss_one (ps_ret pe_bl)) pss_nil)
      (pss_one (ps_ret (pe_callB (cr_all rfl) (by rfl) B.all (by decide +kernel) (pa_cons
        (pe_lc (own := [("letter", 1)]) (g := gName 1) (tt := tYes) rfl scIsItem.nd (pi_str (pv 0)) (blkOk_by (own := [("letter", 1)]) (N := ["value", "letter"]) (sc := defScope sIsItem) (by decide +kernel))
          (fun _ _ _ _ _ => pg_name (i := 1) scIsItem.nd rfl (.inl rfl)) (fun _ _ _ _ _ => pts_nil) (fun _ _ _ _ _ => pe_cmpR op_in_sign (pv 1) (pe_glob (v := .str abc) rfl hL ⟨_, rfl⟩) (by rfl))) pa_nil)))), ?_⟩
    refine ⟨_, rfl, _, .ty "str", .type (tyD d), .type "str", isStr d, rfl, .ty _, hd.ty, kit_str d, _, rfl, ?_⟩
    cases hd with
    | non => exact iteT (iteT (k H (Same.refl H)))
    | bl b => exact iteT (iteT (k H (Same.refl H)))
    | int i => exact iteT (iteT (k H (Same.refl H)))
    | lst _ _ => exact iteT (iteT (k H (Same.refl H)))
    | tup _ _ => exact iteT (iteT (k H (Same.refl H)))
    | emp _ => exact iteT (iteT (k H (Same.refl H)))
    | str z =>
      refine iteF ?_
      have zl : z.length ≤ 100000 := ok.str
      refine ⟨_, rfl, z, rfl, big100 (by omega), 1, _, rfl, rfl, _, rfl, ?_⟩
      by_cases p1 : 1 ≤ z.length
      · have e1 : decide ((1 : Int) ≤ (z.length : Int)) = true := decide_eq_true (by omega)
        rw [e1]
        refine iteT ⟨_, 8, rfl, rfl, _, rfl, ?_⟩
        by_cases p2 : z.length ≤ 8
        · have e2 : decide ((z.length : Int) ≤ 8) = true := decide_eq_true (by omega)
          rw [e2]
          refine iteF ?_
          have e3 : itemD (.str z) = (z.cps.toList.map fun c => decide (c ∈ abc.cps.toList)).all id := by
            rw [itemD_str, decide_eq_true ⟨p1, p2⟩, Bool.true_and]
          rw [e3] at k
          refine ⟨_, rfl, z, rfl, fun D hD => lc_it walk_str (fun j H2 => H2 D = some (.lst (((z.cps.toList.take j).map fun c => decide (c ∈ abc.cps.toList)).map V.bl)) ∧ Same H H2) ⟨upd_same, Same.new hD⟩ (fun _ _ _ _ => trivial) ?_ ?_⟩
          · rintro j x H2 H3 hj ⟨h2, s2⟩ ⟨rfl, c, hc, rfl⟩
            have q : z.cps.toList[j]? = some c := by rw [Array.getElem?_toList]; exact hc
            refine ⟨rfl, yes_in ⟨_, rfl, c, abc, rfl, rfl, _, h2, ?_, ?_, Same.free2 s2 hD⟩⟩
            · rw [List.length_map, List.length_map, List.length_take]
              exact small1000 (by have : j < z.length := hj; omega)
            · rw [upd_same, bl_take (f := fun c => decide (c ∈ abc.cps.toList)) q]
          · rintro H2 ⟨h2, s2⟩
            rw [List.take_of_length_le (by rw [Array.length_toList]; exact Nat.le_refl _)] at h2
            exact ⟨D, _, rfl, .of h2, k H2 s2⟩
        · have e2 : decide ((z.length : Int) ≤ 8) = false := decide_eq_false (by omega)
          rw [e2]
          have e3 : itemD (.str z) = false := by
            rw [itemD_str, decide_eq_false (fun q => p2 q.2), Bool.false_and]
          rw [e3] at k
          exact iteT (k H (Same.refl H))
      · have e1 : decide ((1 : Int) ≤ (z.length : Int)) = false := decide_eq_false (by omega)
        rw [e1]
        have e3 : itemD (.str z) = false := by
          rw [itemD_str, decide_eq_false (fun q => p1 q.1), Bool.false_and]
        rw [e3] at k
        exact iteF ⟨false, rfl, iteT (k H (Same.refl H))⟩
theorem has_wordX (D : Def K mg "is_word" sIsWord) (G : Has P w K mg base "is_item" 1 ["value"] [] (spX K itemD)) (B : Blt mg) : Has P w K mg base "is_word" 2 ["value"] [] (spX K wordD) := by
  refine has_of D scIsWord (fun _ _ _ _ _ _ us hl => match us, hl with | [_], _ => rfl) (fun xs H Q E h => ?_) (fun f cv A out s H xs Q E hr h => ?_)
  · obtain ⟨v, d, rfl, _⟩ := h
    rfl
  · obtain ⟨v, d, rfl, hd, ok, k⟩ := h
    refine ⟨_, pss_one (ps_ret (pe_and (pe_callB call_isi (by rfl) B.isi (by decide +kernel) (pa_cons (pv 0) (pa_cons (pe_bltn (v := .ty "tuple") (by rfl) B.tup (by decide +kernel) rfl) pa_nil)))
      (pe_one (pe_callB (cr_all rfl) (by rfl) B.all (by decide +kernel) (pa_cons
        (pe_lc (own := [("item", 1)]) (g := gName 1) (tt := tYes) (te := tCall (spX K itemD) [] E0 (tCons (tVar 1) tNil)) rfl scIsWord.nd (pi_tup (pv 0)) (blkOk_by (own := [("item", 1)]) (N := ["value", "item"]) (sc := defScope sIsWord) (by decide +kernel))
          (fun _ _ _ _ _ => pg_name (i := 1) scIsWord.nd rfl (.inl rfl)) (fun _ _ _ _ _ => pts_nil) (fun _ _ _ _ _ => pe_has G hr (pa_cons (pv 1) pa_nil))) pa_nil))))), ?_⟩
    refine ⟨_, rfl, _, .ty "tuple", .type (tyD d), .type "tuple", isTup d, rfl, .ty _, hd.ty, kit_tup d, _, rfl, ?_⟩
    cases hd with
    | non => exact iteF (k H (Same.refl H))
    | bl b => exact iteF (k H (Same.refl H))
    | int i => exact iteF (k H (Same.refl H))
    | str z => exact iteF (k H (Same.refl H))
    | lst _ _ => exact iteF (k H (Same.refl H))
    | emp _ => exact iteF (k H (Same.refl H))
    | @tup a xs ds hT ha =>
      refine iteT ?_
      obtain ⟨oks, ln⟩ := ok.tuple
      have le := ha.len
      refine ⟨_, rfl, a, rfl, ⟨_, hT⟩, fun D hD => lc_tup (K := K) (a := a) (xs := xs) (fun j H2 => H2 D = some (.lst (((ds.take j).map itemD).map V.bl)) ∧ Same H H2) ⟨upd_same, Same.new hD⟩ (fun _ _ _ q => Same.tup q.2 hT) ?_ ?_⟩
      · rintro j x H2 hj ⟨h2, s2⟩
        obtain ⟨e, he, hx⟩ := ha.at hj
        refine ⟨rfl, yes_in ⟨_, rfl, x, e, rfl, DpX.same s2 e x hx, oks e (List.mem_of_getElem? he), fun H3 s3 => ⟨_, s3 _ _ h2, ?_, ?_, Same.free2 (s2.trans s3) hD⟩⟩⟩
        · rw [List.length_map, List.length_map, List.length_take, sizeLine_eq]
          omega
        · rw [upd_same, bl_take he]
      · rintro H2 ⟨h2, s2⟩
        rw [le, List.take_length] at h2
        exact ⟨D, _, rfl, .of h2, k H2 s2⟩
end
end SE
namespace SE
open PySem PySem.Spec PyProof.Rows L2
def OppKeys : List DictEntry → Prop
  | [] => True
  | e :: r => (∃ x t, e.key = .str x t ∧ (x = ("push" : Str) ∨ x = ("pop" : Str))) ∧ OppKeys r
theorem opp_none {z : Str} (h1 : z ≠ "push") (h2 : z ≠ "pop") : ∀ {l : List DictEntry}, OppKeys l → l.find? (fun e => e.key.isStr z) = none ∧ l.any (fun e => e.refKey) = false
  | [], _ => ⟨rfl, rfl⟩
  | e :: r, ⟨⟨x, t, hk, hx⟩, q⟩ => by
    obtain ⟨q1, q2⟩ := opp_none h1 h2 q
    have e1 : e.key.isStr z = false := by
      rw [hk]
      have ne : x ≠ z := by
        rcases hx with hx | hx
        · rw [hx]; exact fun w => h1 w.symm
        · rw [hx]; exact fun w => h2 w.symm
      simpa [Value.isStr] using ne
    have e2 : e.refKey = false := by
      unfold DictEntry.refKey
      rw [hk]
    rw [List.find?_cons, e1, List.any_cons, e2]
    exact ⟨q1, q2⟩
/-- OPPOSITES and all its keys -/
def Opp2 (K : PySem.W.Frag) (w : World) (mg : Str → Option Value) : Prop := ∃ (d : Addr) (es : Array DictEntry) (n : Nat) (u v : Value), mg "OPPOSITES" = some (.ref d) ∧ KDict K w d es n ∧ PySem.W.nsIn K d "push" = some (some u) ∧ PySem.W.nsIn K d "pop" = some (some v) ∧ OppKeys es.toList
theorem opp_in {K : PySem.W.Frag} {w : World} {d : Addr} {es : Array DictEntry} {n : Nat} {u v : Value} (KD : KDict K w d es n) (n1 : PySem.W.nsIn K d "push" = some (some u)) (n2 : PySem.W.nsIn K d "pop" = some (some v)) (ok : OppKeys es.toList) (z : Str) :
    ∃ r, PySem.W.nsIn K d z = some r ∧ r.isSome = actD (.str z) := by
  by_cases h1 : z = "push"
  · subst h1
    exact ⟨_, n1, show true = actD (.str "push") by decide +kernel⟩
  by_cases h2 : z = "pop"
  · subst h2
    exact ⟨_, n2, show true = actD (.str "pop") by decide +kernel⟩
  obtain ⟨q1, q2⟩ := opp_none h1 h2 ok
  refine ⟨none, ?_, ?_⟩
  · unfold PySem.W.nsIn
    rw [KD.at_]
    dsimp only
    rw [q1]
    dsimp only
    rw [q2]
    rfl
  · show false = decide (z = "push" ∨ z = "pop")
    rw [decide_eq_false (fun q => q.elim h1 h2)]
section
variable {P : Program} {w : World} {K : PySem.W.Frag} {mg : Str → Option Value} {base : Heap}
/-! ### is_step -/
theorem has_stepX (D : Def K mg "is_step" sIsStep) (G : Has P w K mg base "is_item" 1 ["value"] [] (spX K itemD)) (B : Blt mg) (C : Opp2 K w mg) : Has P w K mg base "is_step" 2 ["value"] [] (spX K stpD) := by
  obtain ⟨d, es, n, u1, u2, hO, KD, n1, n2, okO⟩ := C
  refine has_of D scIsStep (fun _ _ _ _ _ _ us hl => match us, hl with | [_], _ => rfl) (fun xs H Q E h => ?_) (fun f cv A out s H xs Q E hr h => ?_)
  · obtain ⟨v, dd, rfl, _⟩ := h
    rfl
  · obtain ⟨v, dd, rfl, hd, ok, k⟩ := h
    refine ⟨_, pss_cons (ps_if (PW.pt (pw_or (pt_not (pt_val (pe_callB call_isi (by rfl) B.isi (by decide +kernel) (pa_cons (pv 0) (pa_cons (pe_bltn (v := .ty "tuple") (by rfl) B.tup (by decide +kernel) rfl) pa_nil)))))
        (pw_or1 (pt_cmpR op_ne (pe_callB call_len_seq (by rfl) B.len PySem.boot_len (pa_cons (pv 0) pa_nil)) pe_int (nomark _))))) (pss_one (ps_ret pe_bl)) pss_nil)
      (pss_cons (ps_asg (pv 0) (pg_tup (by rfl) (pgs_cons (pg_name (i := 1) scIsStep.nd rfl (.inl rfl)) (pgs_cons (pg_name (i := 2) scIsStep.nd rfl (.inl rfl)) pgs_nil))))
      (pss_one (ps_ret (pe_and (pe_callB call_isi (by rfl) B.isi (by decide +kernel) (pa_cons (pv 1) (pa_cons (pe_bltn (v := .ty "str") (by rfl) B.str (by decide +kernel) rfl) pa_nil)))
        (pe_and (pe_cmpR (op_in_kd KD) (pv 1) (pe_glob (v := .ref d) rfl hO rfl) (by rfl)) (pe_one (pe_has G hr (pa_cons (pv 2) pa_nil)))))))), ?_⟩
    refine ⟨_, rfl, _, .ty "tuple", .type (tyD dd), .type "tuple", isTup dd, rfl, .ty _, hd.ty, kit_tup dd, _, rfl, ?_⟩
    cases hd with
    | non => exact iteT (iteT (k H (Same.refl H)))
    | bl b => exact iteT (iteT (k H (Same.refl H)))
    | int i => exact iteT (iteT (k H (Same.refl H)))
    | str z => exact iteT (iteT (k H (Same.refl H)))
    | lst _ _ => exact iteT (iteT (k H (Same.refl H)))
    | emp _ => exact iteT (iteT (k H (Same.refl H)))
    | @tup t xs ds hT ha =>
      refine iteF ?_
      obtain ⟨oks, ln⟩ := ok.tuple
      have le := ha.len
      refine ⟨_, rfl, t, _, rfl, .inr hT, rfl, _, rfl, ?_⟩
      match ds, xs, ha, le, oks, k, hT with
      | [], _, .nil, _, _, k, _ => exact iteT (k H (Same.refl H))
      | [_], _, .cons _ .nil, _, _, k, _ => exact iteT (k H (Same.refl H))
      | [e1, e2], [x1, x2], .cons h1 (.cons h2 .nil), _, oks, k, hT =>
        refine iteF ?_
        refine ⟨_, rfl, t, _, rfl, hT, rfl, _, _, rfl, _, _, rfl, rfl, ?_⟩
        refine ⟨_, rfl, _, .ty "str", .type (tyD e1), .type "str", isStr e1, rfl, .ty _, h1.ty, kit_str e1, _, rfl, ?_⟩
        have k' : ∀ H', Same H H' → Q (.bl (actD e1 && itemD e2)) H' := k
        cases h1 with
        | non => exact iteF (k' H (Same.refl H))
        | bl b => exact iteF (k' H (Same.refl H))
        | int i => exact iteF (k' H (Same.refl H))
        | lst _ _ => exact iteF (k' H (Same.refl H))
        | tup _ _ => exact iteF (k' H (Same.refl H))
        | emp _ => exact iteF (k' H (Same.refl H))
        | str z =>
          refine iteT ?_
          obtain ⟨r, hr1, hr2⟩ := opp_in KD n1 n2 okO z
          refine ⟨_, rfl, z, r, rfl, rfl, hr1, r.isSome, rfl, ?_⟩
          rw [hr2]
          cases hz : actD (.str z) with
          | false =>
            rw [hz] at k'
            exact iteF (k' H (Same.refl H))
          | true =>
            rw [hz] at k'
            exact iteT ⟨_, rfl, x2, e2, rfl, h2, oks e2 (by simp), fun H' s' => k' H' s'⟩
      | _ :: _ :: _ :: ds, x1 :: x2 :: x3 :: xs, .cons _ (.cons _ (.cons _ _)), _, _, k, _ =>
        have hne : decide (V.int (((x1 :: x2 :: x3 :: xs).length : Nat) : Int) = V.int 2) = false := decide_eq_false (by
          intro q
          have q2 := V.int.inj q
          simp only [List.length_cons] at q2
          omega)
        rw [hne]
        exact iteT (k H (Same.refl H))
/-! ### may_hold_steps, is_sequence -/
def mayD : PyData → Bool
  | .list ds => decide (ds.length ≤ 1000)
  | .tuple ds => decide (ds.length ≤ 1000)
  | _ => false
theorem kit_lt {K : PySem.W.Frag} (d : PyData) : PySem.W.kitAny K (.type (tyD d)) [.type "list", .type "tuple"] = some (isLst d || isTup d) := by
  have a := kit_lst (K := K) d
  have b := kit_tup (K := K) d
  cases d with
  | list ds => exact kitAny_cons (b := true) a (fun z => (by cases z)) (fun _ => rfl)
  | tuple ds => exact kitAny_cons (b := false) a (fun _ => kitAny_cons (b := true) b (fun z => (by cases z)) (fun _ => rfl)) (fun z => (by cases z))
  | _ => exact kitAny_cons (b := false) a (fun _ => kitAny_cons (b := false) b (fun _ => rfl) (fun z => (by cases z))) (fun z => (by cases z))
theorem has_mayX (D : Def K mg "may_hold_steps" sMayHold) (B : Blt mg) (C : Cons K w mg) : Has P w K mg base "may_hold_steps" 1 ["value"] [] (spX K mayD) := by
  obtain ⟨tm, hM⟩ := C.ms
  refine has_of D scMay (fun _ _ _ _ _ _ us hl => match us, hl with | [_], _ => rfl) (fun xs H Q E h => ?_) (fun f cv A out s H xs Q E hr h => ?_)
  · obtain ⟨v, d, rfl, _⟩ := h
    rfl
  · obtain ⟨v, d, rfl, hd, ok, k⟩ := h
    refine ⟨_, pss_one (ps_ret (pe_and (pe_callB call_isiT (by rfl) B.isi (by decide +kernel) (pa_cons (pv 0) (pa_cons (pe_tup (pa_cons (pe_bltn (v := .ty "list") (by rfl) B.lst (by decide +kernel) rfl) (pa_cons (pe_bltn (v := .ty "tuple") (by rfl) B.tup (by decide +kernel) rfl) pa_nil))) pa_nil)))
      (pe_one (pe_cmpR op_le (pe_callB call_len_seq (by rfl) B.len PySem.boot_len (pa_cons (pv 0) pa_nil)) (pe_glob (v := .int 1000) rfl hM ⟨_, rfl⟩) (nomark _))))), ?_⟩
    refine ⟨_, rfl, (by show 2 ≤ sizeLine; decide), fun t ht => ?_⟩
    have s1 : Same H (upd H t (.tup [.ty "list", .ty "tuple"])) := Same.new ht
    have hd1 := DpX.same s1 d v hd
    refine ⟨_, t, _, .type (tyD d), _, isLst d || isTup d, rfl, upd_same, .cons (.ty _) (.cons (.ty _) .nil), hd1.ty, kit_lt d, _, rfl, ?_⟩
    have fin : ∀ (n : Nat), (V.bl (decide ((n : Int) ≤ 1000)) : V) = V.bl (decide (n ≤ 1000)) := fun n => by
      by_cases q : n ≤ 1000
      · rw [decide_eq_true q, decide_eq_true (by omega)]
      · rw [decide_eq_false q, decide_eq_false (by omega)]
    cases hd with
    | non => exact iteF (k _ s1)
    | bl b => exact iteF (k _ s1)
    | int i => exact iteF (k _ s1)
    | str z => exact iteF (k _ s1)
    | emp _ => exact iteF (k _ s1)
    | @tup a xs ds hT ha =>
      refine iteT ⟨_, rfl, a, xs, rfl, .inr (Same.tup s1 hT), _, 1000, rfl, rfl, ?_⟩
      show Q (V.bl (decide ((xs.length : Int) ≤ 1000))) _
      rw [fin, ha.len]
      exact k _ s1
    | @lst a xs ds hT ha =>
      refine iteT ⟨_, rfl, a, xs, rfl, .inl (Same.seq s1 hT), _, 1000, rfl, rfl, ?_⟩
      show Q (V.bl (decide ((xs.length : Int) ≤ 1000))) _
      rw [fin, ha.len]
      exact k _ s1
end
end SE
/-! Exceptions of own classes below ValueError, each with one field. -/
namespace SE
open PySem PySem.Spec PyProof.Rows L2
section
variable {P : Program} {w : World} {K : PySem.W.Frag} {mg : Str → Option Value} {base : Heap}
/-- a def that may raise keeps the promise sp -/
def HasX (P : Program) (w : World) (K : PySem.W.Frag) (mg : Str → Option Value) (base : Heap) (x : Str) (k : Nat) (ps : List Str) (dvs : List V) (sp : Sp) : Prop :=
  ∃ f fd ds, FnOk P w K mg base (L2.CX P w) k f fd ps sp ∧ mg x = some (.ref f) ∧ PySem.W.keepIn K (.ref f) = true ∧ Binds K fd ps ds ∧ Vals dvs ds ∧ ∃ st, Fun K x x st f fd
abbrev BxX (P : Program) (w : World) (K : PySem.W.Frag) (mg : Str → Option Value) (base : Heap) (N : List Str) (x : Str) (st : Stmt) (f : Addr) (cv : Value) (A : Around) (out : List Env) (s : Shared) (H : Hp) (E : XK) : Cx :=
  cxOf (L2.CX P w) P w K mg base N x (defScope st) f cv A out s H E
theorem hasX_of {x : Str} {st : Stmt} {N ps : List Str} {k : Nat} {sp : Sp} (D : Def K mg x st) (S : FnScope N ps (defScope st))
    (hb : ∀ (kV doc pm : Value) (an : Option Addr) (cv ct : Value) (us : List Value), us.length = ps.length → bindArgs (PySem.W.fnOf x x (defArgs st) (defBody st) (defScope st) .none kV doc pm an cv ct) ⟨us, []⟩ = pure (ps.zip us))
    (len : ∀ xs H Q E, sp xs H Q E → xs.length = ps.length)
    (hbd : ∀ (f : Addr) (cv : Value) (A : Around) (out : List Env) (s : Shared) (H : Hp) (xs : List V) (Q : VK) (E : XK), Room k (A.deeper (envOfC x (defScope st) s.heap.objs.size f cv)) → sp xs H Q E →
      ∃ t, PSs (BxX P w K mg base N x st f cv A out s H E) (defBody st) t ∧ t { nx := fun _ H2 => Q .non H2, rt := Q } (start N xs) H) : HasX P w K mg base x (k + 1) ps [] sp := by
  obtain ⟨f, fd, F, hm⟩ := D
  exact ⟨f, fd, [], F.okX S len fun cv A out s H xs Q E hr h => hbd f cv A out s H xs Q E hr h, hm, F.kp, F.binds hb, .nil, st, F⟩
/-- what stands in a def that may raise: its own way out -/
theorem tkX {N : List Str} {x : Str} {st : Stmt} {f : Addr} {cv : Value} {A : Around} {out : List Env} {s : Shared} {H : Hp} {E : XK} : Takes (BxX P w K mg base N x st f cv A out s H E) (fun cls d _ H => E cls d H) := takes_of rfl rfl rfl rfl
end
section
variable {X : Cx} {k : Nat} {ps : List Str} {sp : Sp} {x : Str} {p pos : Pos} {e : Expr} {es : List Expr} {t : TA} {dvs : List V} {E : XK} {W : WX}
/-- a call whose exceptions leave the def that calls -/
theorem pe_hasX (h : HasX X.prog X.w X.K X.mg X.base x k ps dvs sp) (hr : Room k X.A) (tk : Takes X (fun cls d _ H => E cls d H)) (ha : PA X (e :: es) t) (hg : Gl X x := by rfl) (hdb : (x == ("__debug__" : Str)) = false := by decide)
    (he : starEach (e :: es) X.env = (false, eval e X.env) :: starEach es X.env := by rfl) (hpl : (backTo pos (starEach es X.env)).any (·.1) = false := by rfl) : PE X (.Call (.Name x p) (e :: es) [] pos) (tCall sp dvs E t) := by
  obtain ⟨f, fd, ds, F, hm, hk, hb, hd, _⟩ := h
  exact pe_call F hr hg hm hk hb hd (passes_call tk fun _ _ _ _ z => z) ha hdb he hpl
/-- a call within a try -/
theorem pe_hasS (h : HasX X.prog X.w X.K X.mg X.base x k ps [] sp) (hr : Room k X.A) (tk : Takes X W) (ha : PA X (e :: es) t) (hg : Gl X x := by rfl) (hdb : (x == ("__debug__" : Str)) = false := by decide)
    (he : starEach (e :: es) X.env = (false, eval e X.env) :: starEach es X.env := by rfl) (hpl : (backTo pos (starEach es X.env)).any (·.1) = false := by rfl) : PE X (.Call (.Name x p) (e :: es) [] pos) (tCallS sp (WE W) t) := by
  obtain ⟨f, fd, ds, F, hm, hk, hb, hd, _⟩ := h
  cases hd
  exact pe_callS F hr hg hm hk hb (fun σ => passAt tk σ) ha hdb he hpl
end
/-! ### a class of exceptions -/
def spXI (K : PySem.W.Frag) (C : Addr) (f : Str) : Sp := fun xs H Q _ => ∃ (a : Addr) (v : V), xs = [.ref a, v] ∧ H a = some (exo a C none) ∧ ∀ dx, H dx = none → dx ≠ a → Q .non (upd (upd H dx (exd dx [(f, v)])) a (exo a C (some dx)))
/-- what the written part says of the class at C, whose __init__ sets the field f -/
structure XcC (P : Program) (w : World) (K : PySem.W.Frag) (mg : Str → Option Value) (base : Heap) (x f : Str) (C : Addr) : Prop where
  oex : OexC K C
  gC : mg x = some (.ref C)
  init : ∃ fI fd, PySem.W.findIn K (.ref C) "__init__" = some (some (.ref fI)) ∧ PySem.W.typeIn K (.ref fI) = some (.type "function") ∧ FnOk P w K mg base CX0 1 fI fd ["self", f] (spXI K C f) ∧ Binds K fd ["self", f] []
  xf : XfC K C
  noF : PySem.W.findIn K (.ref C) f = some none
  ha : PySem.W.findIn K (.ref C) "__class__" = some (some (.builtin "object.__class__"))
  hn : PySem.W.specialIn K (.builtin "object.__class__") "__get__" = some (some (.builtin "getset_descriptor.__get__"))
  ht : PySem.W.takesIn K (.builtin "object.__class__") = some true
  hm : PySem.W.mroIn K C (.type "object") = some true
  te : PySem.W.exmOne K (.ref C) (.ref C) = some true
/-- __init__ -/
theorem init_ok {P : Program} {w : World} {K : PySem.W.Frag} {mg : Str → Option Value} {base : Heap} {q f : Str} {C : Addr} {st : Stmt} {fI : Addr} {fd : FuncData} {p1 p2 p3 p4 : Pos} (F : Fun K "__init__" q st fI fd) (S : FnScope ["self", f] ["self", f] (defScope st)) (T : OexC K C) (noF : PySem.W.findIn K (.ref C) f = some none)
    (hb : defBody st = [.Assign [.Attribute (.Name "self" p1) f p2] (.Name f p3) p4])
    (v0 : Vis (defScope st) "self") (v1 : Vis (defScope st) f) (hdb : (f == ("__debug__" : Str)) = false) (hcd : (f == ("__classdict__" : Str)) = false) : FnOk P w K mg base CX0 1 fI fd ["self", f] (spXI K C f) := by
  refine F.ok S (fun xs H Q E h => ?_) (fun cv A out s H xs Q E hr h => ?_)
  · obtain ⟨a, v, rfl, _⟩ := h
    rfl
  · obtain ⟨a, v, rfl, ha, k⟩ := h
    rw [hb]
    refine ⟨_, pss_one (ps_ost (pe_var (i := 0) rfl v0) (pe_var (i := 1) rfl v1 (hd := hdb) (hcd := hcd))), ?_⟩
    exact ⟨_, rfl, _, rfl, a, C, rfl, T, noF, .inl ⟨ha, fun dx nd ne => k dx nd ne⟩⟩
section
variable {X : Cx} {C : Addr} {x f : Str}
theorem mk_heap {H1 : Hp} {a d C : Addr} {f : Str} {v : V} (na : H1 a = none) (nd : d ≠ a) : upd (del (upd (upd (upd H1 a (exo a C none)) d (exd d [(f, v)])) a (exo a C (some d))) a) d (.xd [(f, v)]) = upd H1 d (.xd [(f, v)]) := by
  funext b
  by_cases e : b = d
  · subst e
    rw [upd_same, upd_same]
  · rw [upd_ne e, upd_ne e]
    by_cases e2 : b = a
    · subst e2
      rw [del_same, na]
    · rw [del_ne e2, upd_ne e2, upd_ne e, upd_ne e2]
theorem mk_red {K : PySem.W.Frag} {H1 : Hp} {v : V} {Q : XK} (h : ∀ d, H1 d = none → Q (.ref C) (some d) (upd H1 d (.xd [(f, v)]))) :
    ([v] : List V).length ≤ 1000 ∧ ∀ a, H1 a = none → spXI K C f (.ref a :: ([v] ++ [])) (upd H1 a (exo a C none))
      (fun u H2 => u = .non ∧ ∃ (d : Addr) (fs : List (Str × V)), H2 a = some (exo a C (some d)) ∧ H2 d = some (exd d fs) ∧ H1 d = none ∧ Q (.ref C) (some d) (upd (del H2 a) d (.xd fs))) (fun _ _ _ => False) := by
  refine ⟨(by decide : 1 ≤ 1000), fun a na => ⟨a, v, rfl, upd_same, fun d nd ne => ⟨rfl, d, [(f, v)], upd_same, ?_, ?_, ?_⟩⟩⟩
  · rw [upd_ne ne]
    exact upd_same
  · rw [upd_ne ne] at nd
    exact nd
  · rw [mk_heap na ne]
    rw [upd_ne ne] at nd
    exact h d nd
/-- C(e): behind the argument mk_red -/
theorem pmk_x {e : Expr} {ta : TA} {p pos : Pos} (T : XcC X.prog X.w X.K X.mg X.base x f C) (hr : Room 2 X.A) (ha : PA X [e] ta) (hg : Gl X x := by rfl)
    (hdb : (x == ("__debug__" : Str)) = false := by decide) (he : starEach (e :: []) X.env = (false, eval e X.env) :: starEach [] X.env := by rfl) (hpl : (backTo pos (starEach [] X.env)).any (·.1) = false := by rfl) :
    PMk X (.Call (.Name x p) [e] [] pos) (tMkO C (spXI X.K C f) [] ta) := by
  obtain ⟨fI, fd, i1, i2, i3, i4⟩ := T.init
  exact pmk_oex (CX := CX0) T.oex i1 i2 i3 hr i4 .nil pass0 hg T.gC ha hdb he hpl
theorem ps_raiseX {W : WX} {e : Expr} {ta : TA} {p pos pos2 : Pos} (hc : X.calm = true) (T : XcC X.prog X.w X.K X.mg X.base x f C) (hr : Room 2 X.A) (tk : Takes X W) (ha : PA X [e] ta) (hg : Gl X x := by rfl)
    (hdb : (x == ("__debug__" : Str)) = false := by decide) (he : starEach (e :: []) X.env = (false, eval e X.env) :: starEach [] X.env := by rfl) (hpl : (backTo pos (starEach [] X.env)).any (·.1) = false := by rfl) :
    PS X (.Raise (some (.Call (.Name x p) [e] [] pos)) none pos2) (fun _ σ H => tMkO C (spXI X.K C f) [] ta σ H fun cls d H' => W cls d σ H') := ps_raise hc tk (pmk_x T hr ha hg hdb he hpl)
/-- isinstance(e, c), e the exception that the suite holds -/
def rIsX (K : PySem.W.Frag) (C a : Addr) (cls : Value) (d : Option Addr) : List V → Hp → VK → Prop := fun xs H Q => ∃ (c : V) (cv : Value) (b : Bool) (dd : Addr) (fs : List (Str × V)), xs = [.ref a, c] ∧ cls = .ref C ∧ (∀ u, RelV c u → u = cv) ∧ PySem.W.kitOne K (.ref C) cv = some b ∧ d = some dd ∧ H dd = some (.xd fs) ∧ Q (.bl b) H
theorem call_isX {a : Addr} {oe : Obj} {cls : Value} {d : Option Addr} {pn : List (Addr × Obj)} (T : XcC X.prog X.w X.K X.mg X.base x f C) (hz : Zc cls d oe) (hf : ∃ vs, oe.data = .fields vs) : CallR (X.suite a ((a, oe) :: pn)) (.builtin "isinstance") (rIsX X.K C a cls d) := by
  intro pins s σ H xs us Q I r h
  obtain ⟨c, cv, b, dd, fs, rfl, rfl, hcv, e, rfl, hH, q⟩ := h
  cases r with
  | cons rx rr =>
    cases rr with
    | cons rt rr =>
      cases rr
      cases rx
      have ec := hcv _ rt
      subst ec
      obtain ⟨hget, _⟩ := I.pin (a, oe) (List.mem_append.mpr (.inl List.mem_cons_self))
      obtain ⟨vs, hv⟩ := hf
      have hx : ObjOk X.prog X.w H s.heap dd (.xd fs) := I.hok dd _ hH
      obtain ⟨mA, hns, hr⟩ := hx
      obtain ⟨od, ho, hl⟩ := lookIn_ns hns
      have J : PySem.W.InstAt s.heap a oe C (some od) := ⟨hget, hz.1, by unfold PySem.W.notCls; rw [hv] <;> rfl, by rw [hz.2]; exact ho⟩
      have hcl : (PySem.W.clsIn X.K C).isSome = true := by
        obtain ⟨cd, hc, _⟩ := PySem.W.any_some T.xf.hdC
        rw [hc]
        rfl
      exact PySem.W.kia_one (PySem.W.kitx_exc hcl T.xf.ga T.xf.gg T.xf.exC T.ha T.hn T.ht T.hm) I.kIn J e (fun z => nomatch z) fun tk => ⟨.bl b, H, I.kept (t' := tk) fun _ _ z => z, rfl, q⟩
end
end SE
namespace SE
open PySem PySem.Spec PyProof.Rows L2
def nstB : PyData → Bool
  | .tuple [a, n, i] => itemD n && (actD a && itemD i)
  | _ => false
/-- steps that are refused, and what the refusal names -/
def BadN (d : PyData) (r : V) : Prop := (mayD d = false ∧ r = .non) ∨
  ∃ ds j x, (d = .list ds ∨ d = .tuple ds) ∧ ds.length ≤ 1000 ∧ ds[j]? = some x ∧ nstB x = false ∧ (∀ i y, i < j → ds[i]? = some y → nstB y = true) ∧ (∀ i y, i ≤ j → ds[i]? = some y → NX 10 1000 y) ∧ r = .int (j : Nat)
def badI (C : Addr) (H : Hp) (v : V) (E : XK) : Prop := ∀ (dd : Addr) (H' : Hp), Same H H' → H dd = none → H' dd = some (.xd [("index", v)]) → E (.ref C) (some dd) H'
theorem badI.go {C : Addr} {H H1 : Hp} {v : V} {E : XK} (h : badI C H v E) (s : Same H H1) : badI C H1 v E := fun dd H' s' n e => h dd H' (s.trans s') (s.free n) e
section
variable {P : Program} {w : World} {K : PySem.W.Frag} {mg : Str → Option Value} {base : Heap}
def spNX (K : PySem.W.Frag) : Sp := fun xs H Q _ => ∃ (v : V) (d : PyData), xs = [v] ∧ DpX K H v d ∧ NX 10 1000 d ∧ ∀ H', Same H H' → Q (.bl (nstB d)) H'
theorem has_isNX (D : Def K mg "is_named_step" sIsNamedStep) (GI : Has P w K mg base "is_item" 1 ["value"] [] (spX K itemD)) (GS : Has P w K mg base "is_step" 2 ["value"] [] (spX K stpD)) (B : Blt mg) : Has P w K mg base "is_named_step" 3 ["value"] [] (spNX K) := by
  refine has_of D scIn' (fun _ _ _ _ _ _ us hl => match us, hl with | [_], _ => rfl) (fun xs H Q E h => ?_) (fun f cv A out s H xs Q E hr h => ?_)
  · obtain ⟨v, d, rfl, _⟩ := h
    rfl
  · obtain ⟨v, d, rfl, hd, ok, k⟩ := h
    have hr1 : Room 1 _ := hr.mono (by decide)
    refine ⟨_, pss_cons (ps_if (PW.pt (pw_or (pt_not (pt_val (pe_callB call_isi (by rfl) B.isi (by decide +kernel) (pa_cons (pv 0) (pa_cons (pe_bltn (v := .ty "tuple") (by rfl) B.tup (by decide +kernel) rfl) pa_nil)))))
        (pw_or1 (pt_cmpR op_ne (pe_callB call_len_seq (by rfl) B.len PySem.boot_len (pa_cons (pv 0) pa_nil)) pe_int (nomark _))))) (pss_one (ps_ret pe_bl)) pss_nil)
      (pss_cons (ps_asg (pv 0) (pg_tup (by rfl) (pgs_cons (pg_name (i := 1) scIn'.nd rfl (.inl rfl)) (pgs_cons (pg_name (i := 2) scIn'.nd rfl (.inl rfl)) (pgs_cons (pg_name (i := 3) scIn'.nd rfl (.inl rfl)) pgs_nil)))))
      (pss_one (ps_ret (pe_and (pe_has GI hr1 (pa_cons (pv 2) pa_nil)) (pe_one (pe_has GS hr (pa_cons (pe_tup (pa_cons (pv 1) (pa_cons (pv 3) pa_nil))) pa_nil))))))), ?_⟩
    refine ⟨_, rfl, _, .ty "tuple", .type (tyD d), .type "tuple", isTup d, rfl, .ty _, hd.ty, kit_tup d, _, rfl, ?_⟩
    cases hd with
    | non => exact iteT (iteT (k H (Same.refl H)))
    | bl b => exact iteT (iteT (k H (Same.refl H)))
    | int i => exact iteT (iteT (k H (Same.refl H)))
    | str z => exact iteT (iteT (k H (Same.refl H)))
    | lst _ _ => exact iteT (iteT (k H (Same.refl H)))
    | emp _ => exact iteT (iteT (k H (Same.refl H)))
    | @tup t xs ds hT ha =>
      refine iteF ?_
      obtain ⟨oks, ln⟩ := ok.tuple
      have le := ha.len
      refine ⟨_, rfl, t, _, rfl, .inr hT, rfl, _, rfl, ?_⟩
      match ds, xs, ha, le, oks, k, hT with
      | [], _, .nil, _, _, k, _ => exact iteT (k H (Same.refl H))
      | [_], _, .cons _ .nil, _, _, k, _ => exact iteT (k H (Same.refl H))
      | [_, _], _, .cons _ (.cons _ .nil), _, _, k, _ => exact iteT (k H (Same.refl H))
      | [e1, e2, e3], [x1, x2, x3], .cons h1 (.cons h2 (.cons h3 .nil)), _, oks, k, hT =>
        refine iteF ?_
        refine ⟨_, rfl, t, _, rfl, hT, rfl, _, _, rfl, _, _, rfl, _, _, rfl, rfl, ?_⟩
        have k' : ∀ H', Same H H' → Q (.bl (itemD e2 && (actD e1 && itemD e3))) H' := k
        refine ⟨_, rfl, x2, e2, rfl, h2, (oks e2 (by simp)).mono (by decide) (by decide), fun H1 s1 => ⟨itemD e2, rfl, ?_⟩⟩
        cases hz : itemD e2 with
        | false =>
          rw [hz] at k'
          exact iteF (k' H1 s1)
        | true =>
          rw [hz] at k'
          refine iteT ⟨_, rfl, _, rfl, (by show 2 ≤ sizeLine; decide), fun u hu => ?_⟩
          have su := s1.trans (Same.new (o := .tup [x1, x3]) hu)
          have nx : NX 11 2002 (.tuple [e1, e3]) := nx_tuple (k := 10) (B := 1000) (ds := [e1, e3]) fun z m => by
            rcases List.mem_cons.mp m with q | q
            · rw [q]; exact oks e1 (by simp)
            · rw [List.mem_singleton.mp q]; exact oks e3 (by simp)
          exact ⟨.ref u, .tuple [e1, e3], rfl, .tup (.of upd_same) (.cons (DpX.same su _ _ h1) (.cons (DpX.same su _ _ h3) .nil)), nx.mono (by decide) (by decide), fun H2 s2 => k' H2 (su.trans s2)⟩
      | _ :: _ :: _ :: _ :: ds, x1 :: x2 :: x3 :: x4 :: xs, .cons _ (.cons _ (.cons _ (.cons _ _))), _, _, k, _ =>
        have hne : decide (V.int (((x1 :: x2 :: x3 :: x4 :: xs).length : Nat) : Int) = V.int 3) = false := decide_eq_false (by
          intro q
          have q2 := V.int.inj q
          simp only [List.length_cons] at q2
          omega)
        rw [hne]
        exact iteT (k H (Same.refl H))
/-! ### check_named_steps, of what is refused -/
def spBadS (K : PySem.W.Frag) (C : Addr) : Sp := fun xs H Q E => ∃ (v : V) (d : PyData) (r : V), xs = [v] ∧ DpX K H v d ∧ OkD d ∧ BadN d r ∧ badI C H r E
theorem hasX_chkN {C : Addr} (D : Def K mg "check_named_steps" sCheckNamedSteps) (GM : Has P w K mg base "may_hold_steps" 1 ["value"] [] (spX K mayD)) (GS : Has P w K mg base "is_named_step" 3 ["value"] [] (spNX K)) (T : XcC P w K mg base "InvalidSteps" "index" C) (B : Blt mg) : HasX P w K mg base "check_named_steps" 4 ["steps"] [] (spBadS K C) := by
  refine hasX_of D scCn (fun _ _ _ _ _ _ us hl => match us, hl with | [_], _ => rfl) (fun xs H Q E h => ?_) (fun f cv A out s H xs Q E hr h => ?_)
  · obtain ⟨v, d, r, rfl, _⟩ := h
    rfl
  · obtain ⟨v, d, r, rfl, hd, ok, hb, k⟩ := h
    have hr1 : Room 1 _ := hr.mono (by decide)
    have hr2 : Room 2 _ := hr.mono (by decide)
    have tail : ∀ {ds : List PyData} {ys : List V} {j : Nat} {x : PyData}, DpXs K H ys ds → ds[j]? = some x → nstB x = false → (∀ i y, i < j → ds[i]? = some y → nstB y = true) → (∀ i y, i ≤ j → ds[i]? = some y → NX 10 1000 y) → ∀ {i : Nat} {y : V} {H2 : Hp}, ys[i]? = some y → i ≤ j → Same H H2 → ∃ e, DpX K H2 y e ∧ NX 10 1000 e ∧ (i < j → nstB e = true) ∧ (i = j → nstB e = false) := by
      intro ds ys j x hV hj hx hg hn i y H2 hy hi s2
      obtain ⟨e, he, hD⟩ := hV.at hy
      refine ⟨e, DpX.same s2 _ _ hD, hn i e hi he, fun q => hg i e q he, fun q => ?_⟩
      rw [q, hj] at he
      cases he
      exact hx
    rcases hb with ⟨hm, rfl⟩ | ⟨ds, j, x, hds, hl, hj, hx, hg, hn, rfl⟩
    · refine ⟨_, pss_cons (ps_if (pt_not (pt_val (pe_has GM hr1 (pa_cons (pv 0) pa_nil)))) (pss_one (ps_raiseX rfl T hr2 tkX (pa_cons pe_non pa_nil))) pss_nil) pss_never, ?_⟩
      refine ⟨_, rfl, v, d, rfl, hd, ok, fun H1 s1 => ⟨mayD d, rfl, ?_⟩⟩
      rw [hm]
      exact iteT (mk_red fun dd hdd => k dd _ (s1.trans (Same.new hdd)) (s1.free hdd) upd_same)
    · have hm : mayD d = true := by
        rcases hds with q | q
        · rw [q]; exact decide_eq_true hl
        · rw [q]; exact decide_eq_true hl
      have jl := (List.getElem?_eq_some_iff.mp hj).1
      rcases hds with rfl | rfl
      · refine ⟨_, pss_cons (ps_if (pt_not (pt_val (pe_has GM hr1 (pa_cons (pv 0) pa_nil)))) (pss_one (ps_raiseX rfl T hr2 tkX (pa_cons pe_non pa_nil))) pss_nil)
          (pss_one (ps_for (passes_of rfl) rfl (pi_enum (by rfl) B.enu (pa_cons (pv 0) pa_nil)) (pg_tup (by rfl) (pgs_cons (pg_name (i := 1) scCn.nd rfl (.inl rfl)) (pgs_cons (pg_name (i := 2) scCn.nd rfl (.inl rfl)) pgs_nil)))
            (pss_one (ps_if (pt_not (pt_val (pe_has GS hr (pa_cons (pv 2) pa_nil)))) (pss_one (ps_raiseX rfl T hr2 tkX (pa_cons (pv 1) pa_nil))) pss_nil)))), ?_⟩
        refine ⟨_, rfl, v, _, rfl, hd, ok, fun H1 s1 => ⟨mayD (.list ds), rfl, ?_⟩⟩
        rw [hm]
        cases hd with
        | @lst a ys _ hS hV =>
        have ly := hV.len
        refine iteF ⟨_, rfl, a, ys, rfl, Same.seq s1 hS, for_it (walk_enum (K := K) (a := a) (xs := ys)) (fun i σ H2 => ∃ y1 y2, σ = [some (.ref a), y1, y2] ∧ Same H H2 ∧ i ≤ j) ⟨none, none, rfl, s1, Nat.zero_le _⟩ (fun i σ H2 _ q => ?_) ?_ ?_⟩
        · obtain ⟨_, _, _, s2, _⟩ := q
          exact Same.seq s2 hS
        · rintro i x σ H2 H3 hi ⟨y1, y2, rfl, s2, ij⟩ ⟨T', p, y, rfl, nT, rfl, hp, hy⟩
          cases Option.some.inj hp
          refine ⟨T', _, rfl, .of upd_same, rfl, _, _, rfl, _, _, rfl, rfl, ?_⟩
          have s3 : Same H (upd H2 T' (.tup [.int (i : Nat), y])) := Same.free2 s2 (s2.free nT)
          obtain ⟨e, h1, h2, h3, h4⟩ := tail hV hj hx hg hn hy ij s3
          refine ⟨_, rfl, y, e, rfl, h1, h2, fun H4 s4 => ⟨nstB e, rfl, ?_⟩⟩
          have s5 := s3.trans s4
          by_cases c : i = j
          · rw [h4 c]
            refine iteT ⟨_, rfl, mk_red fun dd hdd => ?_⟩
            rw [c] at *
            exact k dd _ (s5.trans (Same.new hdd)) (s5.free hdd) upd_same
          · rw [h3 (by omega)]
            exact iteF ⟨_, _, rfl, s5, by omega⟩
        · rintro σ H2 ⟨y1, y2, rfl, s2, ij⟩
          omega
      · refine ⟨_, pss_cons (ps_if (pt_not (pt_val (pe_has GM hr1 (pa_cons (pv 0) pa_nil)))) (pss_one (ps_raiseX rfl T hr2 tkX (pa_cons pe_non pa_nil))) pss_nil)
          (pss_one (ps_for (passes_of rfl) rfl (pi_enumT (by rfl) B.enu (pa_cons (pv 0) pa_nil)) (pg_tup (by rfl) (pgs_cons (pg_name (i := 1) scCn.nd rfl (.inl rfl)) (pgs_cons (pg_name (i := 2) scCn.nd rfl (.inl rfl)) pgs_nil)))
            (pss_one (ps_if (pt_not (pt_val (pe_has GS hr (pa_cons (pv 2) pa_nil)))) (pss_one (ps_raiseX rfl T hr2 tkX (pa_cons (pv 1) pa_nil))) pss_nil)))), ?_⟩
        refine ⟨_, rfl, v, _, rfl, hd, ok, fun H1 s1 => ⟨mayD (.tuple ds), rfl, ?_⟩⟩
        rw [hm]
        cases hd with
        | @tup a ys _ hS hV =>
        have ly := hV.len
        refine iteF ⟨_, rfl, a, ys, rfl, Same.tup s1 hS, for_it (walk_enumT (K := K) (a := a) (xs := ys)) (fun i σ H2 => ∃ y1 y2, σ = [some (.ref a), y1, y2] ∧ Same H H2 ∧ i ≤ j) ⟨none, none, rfl, s1, Nat.zero_le _⟩ (fun i σ H2 _ q => ?_) ?_ ?_⟩
        · obtain ⟨_, _, _, s2, _⟩ := q
          exact Same.tup s2 hS
        · rintro i x σ H2 H3 hi ⟨y1, y2, rfl, s2, ij⟩ ⟨T', p, y, rfl, nT, rfl, hp, hy⟩
          cases Option.some.inj hp
          refine ⟨T', _, rfl, .of upd_same, rfl, _, _, rfl, _, _, rfl, rfl, ?_⟩
          have s3 : Same H (upd H2 T' (.tup [.int (i : Nat), y])) := Same.free2 s2 (s2.free nT)
          obtain ⟨e, h1, h2, h3, h4⟩ := tail hV hj hx hg hn hy ij s3
          refine ⟨_, rfl, y, e, rfl, h1, h2, fun H4 s4 => ⟨nstB e, rfl, ?_⟩⟩
          have s5 := s3.trans s4
          by_cases c : i = j
          · rw [h4 c]
            refine iteT ⟨_, rfl, mk_red fun dd hdd => ?_⟩
            rw [c] at *
            exact k dd _ (s5.trans (Same.new hdd)) (s5.free hdd) upd_same
          · rw [h3 (by omega)]
            exact iteF ⟨_, _, rfl, s5, by omega⟩
        · rintro σ H2 ⟨y1, y2, rfl, s2, ij⟩
          omega
/-! ### the four doors -/
theorem hasX_split {C : Addr} (D : Def K mg "split" sSplit) (GC : HasX P w K mg base "check_named_steps" 4 ["steps"] [] (spBadS K C)) : HasX P w K mg base "split" 5 ["steps"] [] (spBadS K C) := by
  refine hasX_of D scSp' (fun _ _ _ _ _ _ us hl => match us, hl with | [_], _ => rfl) (fun xs H Q E h => ?_) (fun f cv A out s H xs Q E hr h => ?_)
  · obtain ⟨v, d, r, rfl, _⟩ := h
    rfl
  · obtain ⟨v, d, r, rfl, hd, ok, hb, k⟩ := h
    exact ⟨_, pss_cons (ps_expr (pe_hasX GC hr tkX (pa_cons (pv 0) pa_nil))) pss_never, ⟨_, rfl, v, d, r, rfl, hd, ok, hb, k⟩⟩
theorem scEf5 : FnScope ["steps", "parts", "effects", "name", "effect"] ["steps"] (defScope sEffectsOf) := ⟨rfl, rfl, rfl, by decide +kernel, rfl, by decide +kernel, by decide +kernel⟩
theorem hasX_effs {C : Addr} (D : Def K mg "effects_of" sEffectsOf) (GC : HasX P w K mg base "split" 5 ["steps"] [] (spBadS K C)) : HasX P w K mg base "effects_of" 6 ["steps"] [] (spBadS K C) := by
  refine hasX_of D scEf5 (fun _ _ _ _ _ _ us hl => match us, hl with | [_], _ => rfl) (fun xs H Q E h => ?_) (fun f cv A out s H xs Q E hr h => ?_)
  · obtain ⟨v, d, r, rfl, _⟩ := h
    rfl
  · obtain ⟨v, d, r, rfl, hd, ok, hb, k⟩ := h
    exact ⟨_, pss_cons (ps_set (i := 1) scEf5.nd rfl (.inr rfl) (pe_hasX GC hr tkX (pa_cons (pv 0) pa_nil))) pss_never, ⟨_, rfl, v, d, r, rfl, hd, ok, hb, k⟩⟩
theorem scIl5 : FnScope ["steps", "parts", "ways", "placed", "name"] ["steps"] (defScope sInterleavings) := ⟨rfl, rfl, rfl, by decide +kernel, rfl, by decide +kernel, by decide +kernel⟩
theorem hasX_ilv {C : Addr} (D : Def K mg "interleavings" sInterleavings) (GC : HasX P w K mg base "split" 5 ["steps"] [] (spBadS K C)) : HasX P w K mg base "interleavings" 6 ["steps"] [] (spBadS K C) := by
  refine hasX_of D scIl5 (fun _ _ _ _ _ _ us hl => match us, hl with | [_], _ => rfl) (fun xs H Q E h => ?_) (fun f cv A out s H xs Q E hr h => ?_)
  · obtain ⟨v, d, r, rfl, _⟩ := h
    rfl
  · obtain ⟨v, d, r, rfl, hd, ok, hb, k⟩ := h
    exact ⟨_, pss_cons (ps_set (i := 1) scIl5.nd rfl (.inl rfl) (pe_hasX GC hr tkX (pa_cons (pv 0) pa_nil))) pss_never, ⟨_, rfl, v, d, r, rfl, hd, ok, hb, k⟩⟩
def spBadR (K : PySem.W.Frag) (C : Addr) : Sp := fun xs H Q E => ∃ (v : V) (d : PyData) (r u : V), xs = [v, u] ∧ DpX K H v d ∧ OkD d ∧ BadN d r ∧ badI C H r E
theorem scRa5 : FnScope ["steps", "stacks", "parts", "results", "name", "failed"] ["steps", "stacks"] (defScope sRunAll) := ⟨rfl, rfl, rfl, by decide +kernel, rfl, by decide +kernel, by decide +kernel⟩
theorem hasX_rall {C : Addr} (D : Def K mg "run_all" sRunAll) (GC : HasX P w K mg base "split" 5 ["steps"] [] (spBadS K C)) : HasX P w K mg base "run_all" 6 ["steps", "stacks"] [] (spBadR K C) := by
  refine hasX_of D scRa5 (fun _ _ _ _ _ _ us hl => match us, hl with | [_, _], _ => rfl) (fun xs H Q E h => ?_) (fun f cv A out s H xs Q E hr h => ?_)
  · obtain ⟨v, d, r, u, rfl, _⟩ := h
    rfl
  · obtain ⟨v, d, r, u, rfl, hd, ok, hb, k⟩ := h
    exact ⟨_, pss_cons (ps_set (i := 2) scRa5.nd rfl (.inl rfl) (pe_hasX GC hr tkX (pa_cons (pv 0) pa_nil))) pss_never, ⟨_, rfl, v, d, r, rfl, hd, ok, hb, k⟩⟩
end
end SE
namespace SE
open PySem PySem.Spec PyProof.Rows L2
theorem iteB {b : Bool} {F G : Prop} (h : b = true → F) (h' : b = false → G) : if b = true then F else G := by
  cases b with
  | true => exact iteT (h rfl)
  | false => exact iteF (h' rfl)
section
variable {P : Program} {w : World} {K : PySem.W.Frag} {mg : Str → Option Value} {base : Heap}
/-! ### _law_told -/
def spTo (K : PySem.W.Frag) : Sp := fun xs H Q _ => ∃ (dr : Int) (v : V) (d : PyData) (r : V), xs = [.int dr, v] ∧ DpX K H v d ∧ OkD d ∧ BadN d r ∧ ∀ (L : Addr) H', Same H H' → H' L = some (.lst [.str "steps", r]) → Q (.ref L) H'
theorem scTo : FnScope ["_law_door", "_law_steps_here", "e"] ["_law_door", "_law_steps_here"] (defScope sLawTold) := ⟨rfl, rfl, rfl, by decide +kernel, rfl, by decide +kernel, by decide +kernel⟩
def ts50 (C : Addr) : Addr → Value → Option Addr → TS := fun a cls d =>
  tRet (tLst (tCons (tC (.str "steps")) (tCons (tXf a cls d C "index" (tVar 2)) tNil)))
def tb50 (K : PySem.W.Frag) (C : Addr) (W : WX) : TS :=
  tIfS (tTest (tOp rEq (tVar 0) (tC (.int 0)))) (tDrop (tCallS (spBadS K C) (WE W) (tCons (tVar 1) tNil)))
    (tIfS (tTest (tOp rEq (tVar 0) (tC (.int 1)))) (tDrop (tCallS (spBadS K C) (WE W) (tCons (tVar 1) tNil)))
      (tIfS (tTest (tOp rEq (tVar 0) (tC (.int 2)))) (tDrop (tCallS (spBadR K C) (WE W) (tCons (tVar 1) (tCons (tC .non) tNil))))
        (tDrop (tCallS (spBadS K C) (WE W) (tCons (tVar 1) tNil)))))
theorem has_told {C : Addr} (D : Def K mg "_law_told" sLawTold) (T : XcC P w K mg base "InvalidSteps" "index" C)
    (GS : HasX P w K mg base "split" 5 ["steps"] [] (spBadS K C)) (GE : HasX P w K mg base "effects_of" 6 ["steps"] [] (spBadS K C)) (GR : HasX P w K mg base "run_all" 6 ["steps", "stacks"] [] (spBadR K C)) (GI : HasX P w K mg base "interleavings" 6 ["steps"] [] (spBadS K C)) : Has P w K mg base "_law_told" 7 ["_law_door", "_law_steps_here"] [] (spTo K) := by
  refine has_of D scTo (fun _ _ _ _ _ _ us hl => match us, hl with | [_, _], _ => rfl) (fun xs H Q E h => ?_) (fun f cv A out s H xs Q E hr h => ?_)
  · obtain ⟨dr, v, d, r, rfl, _⟩ := h
    rfl
  · obtain ⟨dr, v, d, r, rfl, hd, ok, hb, k⟩ := h
    have hr5 : Room 5 _ := hr.mono (by decide)
    refine ⟨_, pss_cons (ps_try_as (i := 2) (tb := tb50 K C) (ts := ts50 C) (Wout := fun _ _ _ _ => False) rfl rfl scTo.nd rfl rfl ⟨rfl, by decide, .inl T.gC⟩ takes0
        (fun W pn xe tk _ => pss_one (ps_if (pt_cmpR op_eq (pv 0) pe_int (nomark _)) (pss_one (ps_expr (pe_hasS GS hr5 tk (pa_cons (pv 1) pa_nil))))
          (pss_one (ps_if (pt_cmpR op_eq (pv 0) pe_int (nomark _)) (pss_one (ps_expr (pe_hasS GE hr tk (pa_cons (pv 1) pa_nil))))
          (pss_one (ps_if (pt_cmpR op_eq (pv 0) pe_int (nomark _)) (pss_one (ps_expr (pe_hasS GR hr tk (pa_cons (pv 1) (pa_cons pe_non pa_nil)))))
          (pss_one (ps_expr (pe_hasS GI hr tk (pa_cons (pv 1) pa_nil))))))))))
        (fun a oe cls d pn hz hf => pss_one (ps_ret (pe_lst (pa_cons pe_str (pa_cons (pe_xf T.xf T.noF hz hf (pv 2)) pa_nil))))))
      (pss_one (ps_ret (pe_lst (pa_cons pe_str pa_nil)))), ?_⟩
    have caught : ∀ (D : Ends) (σ : L2.St), (∀ (L : Addr) H', Same H H' → H' L = some (.lst [.str "steps", r]) → D.rt (.ref L) H') → σ.length = 3 →
        badI C H r (WE (wAs K (.ref C) 2 (ts50 C) (fun _ _ _ _ => False) D) σ) := by
      intro D σ k ls dd H' s' nd hx
      refine ⟨true, T.te, fun _ a na => ?_, fun z => Bool.noConfusion z⟩
      have g2 : (σ.set 2 (some (V.ref a)))[2]? = some (some (V.ref a)) := List.getElem?_set_self (by omega)
      refine ⟨_, g2, rfl, rfl, dd, _, r, rfl, hx, by simp [List.lookup], (by show 2 ≤ sizeLine; decide), fun L hL => ?_⟩
      exact k L _ (s'.trans (Same.new hL)) upd_same
    have go : ∀ (D : Ends), (∀ L H', (Same H H' → H' L = some (.lst [.str "steps", r]) → D.rt (.ref L) H')) → tb50 K C (wAs K (.ref C) 2 (ts50 C) (fun _ _ _ _ => False) D) D [some (.int dr), some v, none] H := by
      intro D kN
      have cg : badI C H r (WE (wAs K (.ref C) 2 (ts50 C) (fun _ _ _ _ => False) D) [some (.int dr), some v, none]) := caught D _ kN rfl
      refine ⟨_, rfl, rfl, _, rfl, iteB (fun _ => ⟨_, rfl, v, d, r, rfl, hd, ok, hb, cg⟩) (fun _ => ?_)⟩
      refine ⟨_, rfl, rfl, _, rfl, iteB (fun _ => ⟨_, rfl, v, d, r, rfl, hd, ok, hb, cg⟩) (fun _ => ?_)⟩
      refine ⟨_, rfl, rfl, _, rfl, iteB (fun _ => ⟨_, rfl, v, d, r, .non, rfl, hd, ok, hb, cg⟩) (fun _ => ?_)⟩
      exact ⟨_, rfl, v, d, r, rfl, hd, ok, hb, cg⟩
    exact go _ fun L H' s' e => k L H' s' e
end
end SE
namespace SE
open PySem PySem.Spec PyProof.Rows L2
/-! ### named steps and effects as data -/
def nstD (s : NSt) : PyData := .tuple [.str (act s.1), .str s.2.1, .str s.2.2]
theorem nstD_nice {s : NSt} (h : NOk s) : Nice 1 27 (nstD s) := by
  refine (nice_tuple (k := 0) (B := 8) (ds := [.str (act s.1), .str s.2.1, .str s.2.2]) ?_).mono (Nat.le_refl _) (by show 3 * 9 ≤ 27; decide)
  intro d hd
  rcases List.mem_cons.mp hd with q | q
  · rw [q]
    exact act_nice _
  · rcases List.mem_cons.mp q with q | q
    · rw [q]
      exact h.n.nice
    · rw [List.mem_singleton.mp q]
      exact h.i.nice
theorem nice_nsts {ss : List NSt} (h : ∀ s ∈ ss, NOk s) : ∀ d ∈ ss.map nstD, Nice 1 27 d := by
  intro d hd
  obtain ⟨s, hs, rfl⟩ := List.mem_map.mp hd
  exact nstD_nice (h s hs)
theorem dp_nsts {K : PySem.W.Frag} {H : Hp} : ∀ {xs : List V} {ss : List NSt}, NSV K H xs ss → DpAll K H xs (ss.map nstD)
  | _, _, .nil => .nil
  | _, _, .cons a r => by
    obtain ⟨t, rfl, q⟩ := a
    exact .cons (.tup q (.cons (.str _) (.cons (.str _) (.cons (.str _) .nil)))) (dp_nsts r)
end SE
namespace SE
open PySem PySem.Spec PyProof.Rows L2
/-! ### the parts as data -/
def entD (p : Str × List Stp) : PyData := .tuple [.str p.1, .list (p.2.map stepD)]
theorem entD_nice {p : Str × List Stp} (hn : Item p.1) (hi : ∀ s ∈ p.2, Item s.2) (hl : p.2.length ≤ 100) : Nice 3 3900 (entD p) := by
  refine (nice_tuple (k := 2) (B := 1900) (ds := [.str p.1, .list (p.2.map stepD)]) fun d hd => ?_).mono (Nat.le_refl _) (by show 2 * 1901 ≤ 3900; decide)
  rcases List.mem_cons.mp hd with q | q
  · rw [q]
    exact hn.nice.mono (by decide) (by decide)
  · rw [List.mem_singleton.mp q]
    exact (nice_list (nice_steps hi)).mono (Nat.le_refl _) (by rw [List.length_map]; omega)
theorem dp_items {K : PySem.W.Frag} {H : Hp} : ∀ {es : List Ent} {ts : List Addr}, LsE H es → Paired (fun (t : Addr) (q : Key × V) => H t = some (.tup [kV q.1, q.2])) ts (kvsE es) → DpAll K H (ts.map V.ref) ((pE es).map entD)
  | [], _, _, .nil => .nil
  | e :: es, _, hl, .cons h r => by
    obtain ⟨us, h1, h2⟩ := hl e List.mem_cons_self
    have ih := dp_items (K := K) (es := es) (fun x m => hl x (List.mem_cons_of_mem _ m)) r
    exact .cons (.tup (.of h) (.cons (.str _) (.cons (.lst (.of h1) (dp_steps h2.v)) .nil))) ih
section
variable {P : Program} {w : World} {K : PySem.W.Frag} {mg : Str → Option Value} {base : Heap}
/-! ### _law_right -/
def spRi (K : PySem.W.Frag) : Sp := fun xs H Q _ => ∃ (a : Addr) (ys : List V) (ss : List NSt), xs = [.ref a] ∧ (SqL K H a ys ∨ SqT K H a ys) ∧ ys.length ≤ 100 ∧ NSV K H ys ss ∧ (∀ s ∈ ss, NOk s) ∧ ∀ H', Same H H' → Q (.bl true) H'
abbrev nRi : List Str := ["_law_steps_here", "_law_due", "_law_kept", "_law_turn", "_law_found", "_law_name_here", "_law_own"]
theorem scRi : FnScope nRi ["_law_steps_here"] (defScope sRight) := ⟨rfl, rfl, rfl, by decide +kernel, rfl, by decide +kernel, by decide +kernel⟩
theorem has_right (D : Def K mg "_law_right" sRight) (GP : Has P w K mg base "_law_parts" 1 ["_law_steps_here"] [] (spParts K)) (GS : Has P w K mg base "split" 5 ["steps"] [] (spSplit K)) (B : Blt mg) (mp : mg "repr" = none) (mr : mg "range" = none) : GHas P w K mg base "_law_right" 6 ["_law_steps_here"] (spRi K) := by
  refine ghas_of D scRi (fun _ _ _ _ _ _ us hl => match us, hl with | [_], _ => rfl) (fun xs H Q E h => ?_) (fun f cv A out s H xs Q E hgu hr h => ?_)
  · obtain ⟨a, ys, ss, rfl, _⟩ := h
    rfl
  · obtain ⟨a, ys, ss, rfl, hS, hl, hV, hI, k⟩ := h
    have hu := hu_of hr
    have hr1 : Room 1 _ := hr.mono (by decide)
    refine ⟨_, pss_cons (ps_par (i := 1) (j := 2) (by rfl) scRi.nd rfl rfl (by decide) rfl rfl (pa_cons (pe_has GP hr1 (pa_cons (pv 0) pa_nil)) (pa_cons (pe_callB (call_rep hgu hr.units) (by rfl) mp (by decide +kernel) (pa_cons (pv 0) pa_nil)) pa_nil)) (by rfl))
      (pss_cons (ps_for PassesOwn.never rfl (pi_range1 (by rfl) mr (pa_cons pe_int pa_nil)) (pg_name (i := 3) scRi.nd rfl (.inl rfl))
        (pss_cons (ps_set (i := 4) scRi.nd rfl (.inl rfl) (pe_has GS hr (pa_cons (pv 0) pa_nil)))
        (pss_cons (ps_if (PW.pt (pw_or (pt_cmpR op_ne (pe_callB (call_rep hgu hr.units) (by rfl) mp (by decide +kernel) (pa_cons (LiI.pe_listItems rfl (pv 4) (by rfl) B.lst (by decide +kernel)) pa_nil)) (pe_callB (call_rep hgu hr.units) (by rfl) mp (by decide +kernel) (pa_cons (LiI.pe_listItems rfl (pv 1) (by rfl) B.lst (by decide +kernel)) pa_nil)) (nomark _))
          (pw_or1 (pt_cmpR op_ne (pe_callB (call_rep hgu hr.units) (by rfl) mp (by decide +kernel) (pa_cons (pv 0) pa_nil)) (pv 2) (nomark _))))) (pss_one (ps_ret pe_bl)) pss_nil)
        (pss_one (ps_lock (ps_for PassesOwn.never rfl (pi_keys (pv 4)) (pg_name (i := 5) scRi.nd rfl (.inl rfl))
          (pss_cons (ps_set (i := 6) scRi.nd rfl (.inl rfl) (pe_dget hu (pv 4) (pv 5) (fun _ _ => rfl)))
          (pss_one (ps_expr (pe_bm PySem.F.plainAttrs_list PySem.F.slot_list_append PySem.F.type_list_append mt_append (pv 6) (pa_cons pe_non pa_nil)))))))))))
      (pss_one (ps_ret pe_bl))), ?_⟩
    have ly : ys.length = ss.length := Paired.length hV
    have nl := nice_list (nice_nsts hI)
    rw [List.length_map] at nl
    obtain ⟨dt, nd, hdt⟩ : ∃ dt, Nice 2 (ss.length * 28) dt ∧ ∀ H', Same H H' → Dp K H' (.ref a) dt := by
      rcases hS with q | q
      · exact ⟨.list (ss.map nstD), nl, fun H' s' => .lst (Same.seq s' q) (dp_nsts (nsv_same hV s'))⟩
      · have nt := nice_tuple (nice_nsts hI)
        rw [List.length_map] at nt
        exact ⟨.tuple (ss.map nstD), nt, fun H' s' => .tup (Same.tup s' q) (dp_nsts (nsv_same hV s'))⟩
    have hB : ss.length * 28 ≤ 2 ^ 20 := by
      show _ ≤ 1048576
      omega
    have rd : ∀ {H' : Hp} {R : VK}, Same H H' → R (.str dt.shown) H' → rRep K [.ref a] H' R := fun s' r => ⟨_, dt, rfl, hdt _ s', ⟨_, rfl⟩, nd.sh, nd.nd, Nat.le_trans nd.dep (by decide), nd.shown (by decide) hB, r⟩
    have pok : PrOk (prtM ss) ss.length := by
      have := prtM_ok (ss := ss) ss.length hI
      rwa [List.take_length] at this
    have ni : Nice 4 390100 (.list ((prtM ss).map entD)) := (nice_list (k := 3) (B := 3900) fun z hz => by
      obtain ⟨p, mp, rfl⟩ := List.mem_map.mp hz
      obtain ⟨i1, i2, i3⟩ := pok.ok p mp
      exact entD_nice i1 i2 (by omega)).mono (Nat.le_refl _) (by have := pok.len; rw [List.length_map]; omega)
    have ri : ∀ {H' : Hp} {p : Addr} {es : List Ent} {ts : List Addr} {R : VK}, LsE H' es → pE es = prtM ss → H' p = some (.lst (ts.map V.ref)) → Paired (fun (t : Addr) (q : Key × V) => H' t = some (.tup [kV q.1, q.2])) ts (kvsE es) → R (.str (PyData.list ((prtM ss).map entD)).shown) H' → rRep K [.ref p] H' R := fun hls pe hp hP r => ⟨_, .list ((prtM ss).map entD), rfl, .lst (.of hp) (by rw [← pe]; exact dp_items hls hP), ⟨_, rfl⟩, ni.sh, ni.nd, Nat.le_trans ni.dep (by decide), ni.shown (by decide) (by decide), r⟩
    refine ⟨_, rfl, a, ys, ss, rfl, hS, by omega, hV, hI, fun d es H1 s1 hd hdk hls pe => ?_⟩
    refine ⟨_, rfl, ?_⟩
    dsimp only [tNil]
    refine rd s1 ⟨_, _, rfl, ?_⟩
    refine ⟨2, rfl, by decide, by decide, for_range (lo := 0) (n := 2) (fun j σ H2 => ∃ (y3 y4 y5 y6 : Option V), σ = [some (.ref a), some (.ref d), some (.str dt.shown), y3, y4, y5, y6] ∧ Same H1 H2) ⟨_, _, _, _, rfl, Same.refl _⟩ ?_ ?_⟩
    rotate_left
    · rintro σ H2 ⟨y3, y4, y5, y6, rfl, s2⟩
      exact k H2 (s1.trans s2)
    rintro j σ H2 hj ⟨y3, y4, y5, y6, rfl, s2⟩
    have s02 := s1.trans s2
    refine ⟨_, rfl, a, ys, ss, rfl, hS.imp (Same.seq s02) (Same.tup s02), by omega, nsv_same hV s02, hI, fun fd fes H3 s3 hf pd pf fr => ?_⟩
    refine ⟨_, rfl, fd, kvsE fes, rfl, pd.at_, fun H4 p4 ts4 k4 n4 f4 m4 l4 q4 => ?_⟩
    have s4 : Same H3 H4 := k4
    dsimp only [tNil]
    refine ri (pd.ls.same s4) pf l4 q4 ?_
    refine ⟨_, rfl, d, kvsE es, rfl, s4 _ _ (s3 _ _ (s2 _ _ hdk)), fun H5 p5 ts5 k5 n5 f5 m5 l5 q5 => ?_⟩
    have s5 : Same H4 H5 := k5
    dsimp only [tNil]
    refine ri ((((hls.same s2).same s3).same s4).same s5) pe l5 q5 ?_
    refine ⟨rfl, _, rfl, ?_⟩
    rw [decide_eq_true rfl]
    refine iteF ⟨_, rfl, ?_⟩
    dsimp only [tNil]
    refine rd (((s02.trans s3).trans s4).trans s5) ⟨_, rfl, rfl, _, rfl, ?_⟩
    rw [decide_eq_true rfl]
    refine iteF ?_
    have h5 : H5 fd = some (.dK (kvsE fes)) := s5 _ _ (s4 _ _ pd.at_)
    have ls5 := (pd.ls.same s4).same s5
    have s25 : Same H2 H5 := (s3.trans s4).trans s5
    have ndn : ((pE fes).map (·.1)).Nodup := by rw [pf]; exact pok.nd
    refine ⟨fd, .dK (kvsE fes), h5, mut_dK, fun od => ?_⟩
    have hF : upd H5 fd (.frz od (.dK (kvsE fes))) fd = some (.frz od (.dK (kvsE fes))) := upd_same
    have lsF : ∀ e ∈ fes, ∃ us, upd H5 fd (.frz od (.dK (kvsE fes))) e.2.1 = some (.lst us) ∧ us.length ≤ 100 + 0 := fun e me => by
      obtain ⟨us, h1, h2⟩ := ls5 e me
      have c : e.2.1 ≠ fd := fun q => by
        rw [q, h5] at h1
        cases h1
      have l1 : us.length = e.2.2.length := Paired.length h2
      have l2 := (pok.ok (e.1, e.2.2) (by rw [← pf]; exact List.mem_map.mpr ⟨e, me, rfl⟩)).2.2
      have l2 : e.2.2.length ≤ ss.length := l2
      exact ⟨us, by rw [upd_ne c]; exact h1, by omega⟩
    have sF : Same H2 (upd H5 fd (.frz od (.dK (kvsE fes)))) := Same.free2 s25 hf
    generalize upd H5 fd (.frz od (.dK (kvsE fes))) = HF at hF lsF sF
    refine ⟨_, rfl, fd, od, rfl, .inl ⟨kvsE fes, hF, for_it walk_keys (fun i σ H6 => ∃ (z5 z6 : Option V), σ = [some (.ref a), some (.ref d), some (.str dt.shown), some (.int (0 + (j : Nat))), some (.ref fd), z5, z6] ∧ H6 fd = some (.frz od (.dK (kvsE fes))) ∧ (∀ e ∈ fes, ∃ us, H6 e.2.1 = some (.lst us) ∧ us.length ≤ 100 + i) ∧ Same H2 H6) ⟨_, _, rfl, hF, lsF, sF⟩ (fun i σ H6 _ q => ?_) ?_ ?_⟩⟩
    · obtain ⟨_, _, _, h6, _⟩ := q
      exact h6
    · rintro i x σ H6 HY hi ⟨z5, z6, rfl, h6, ls6, s6⟩ ⟨rfl, k', v', hkv, rfl⟩
      unfold kvsE at hkv
      rw [List.getElem?_map] at hkv
      cases he : fes[i]? with
      | none =>
        rw [he] at hkv
        cases hkv
      | some e =>
        rw [he] at hkv
        cases hkv
        have em := List.mem_of_getElem? he
        obtain ⟨us, hL, lu⟩ := ls6 e em
        have il : i < fes.length := (List.getElem?_eq_some_iff.mp he).1
        have lf : fes.length ≤ 100 := by
          have e1 : fes.length = (prtM ss).length := by rw [← pf]; unfold pE; rw [List.length_map]
          have := pok.len
          omega
        refine ⟨_, rfl, _, rfl, fd, .ref e.2.1, rfl, .inl ⟨kvsE fes, Sum.inr e.1, .inr ⟨od, h6⟩, rfl, by rw [valE, find_at ndn em]; rfl⟩, ?_⟩
        have c : fd ≠ e.2.1 := fun q => by
          rw [← q, h6] at hL
          cases hL
        refine ⟨.ref e.2.1, rfl, .inl ⟨rfl, _, .of hL⟩, e.2.1, us, .non, rfl, rfl, hL, by rw [sizeLine_eq]; omega, _, _, rfl, by rw [upd_ne c]; exact h6, fun x mx => ?_, Same.free2 s6 (fr e em)⟩
        by_cases cx : x.2.1 = e.2.1
        · exact ⟨us ++ [.non], by rw [cx]; exact upd_same, by rw [List.length_append, List.length_singleton]; omega⟩
        · obtain ⟨vs, g1, g2⟩ := ls6 x mx
          exact ⟨vs, by rw [upd_ne cx]; exact g1, by omega⟩
    · rintro σ H6 ⟨z5, z6, rfl, h6, ls6, s6⟩
      exact ⟨h6, _, _, _, _, rfl, s2.trans (Same.free2 s6 hf)⟩
end
end SE
namespace SE
open PySem PySem.Spec PyProof.Rows L2
theorem item_D {z : Str} (h : Item z) : itemD (.str z) = true := by
  rw [itemD_str, decide_eq_true ⟨h.pos, h.most⟩, Bool.true_and, List.all_eq_true]
  intro b mb
  obtain ⟨c, mc, rfl⟩ := List.mem_map.mp mb
  exact decide_eq_true (abc_has (h.low c mc))
theorem nstB_ok {s : NSt} (h : NOk s) : nstB (nstD s) = true := by
  show (itemD (.str s.2.1) && (actD (.str (act s.1)) && itemD (.str s.2.2))) = true
  rw [item_D h.n, item_D h.i]
  have e : actD (.str (act s.1)) = true := by cases s.1 <;> decide +kernel
  rw [e]
  rfl
def oddD : List PyData := [.none, .tuple [.str "push", .str "a"], .tuple [.str "push", .str "A", .str "a"], .tuple [.str "pop", .str "a", .str "A"], .list [.str "push", .str "a", .str "a"], .tuple [.str "peek", .str "a", .str "a"],
  .str "pop", .tuple [.str "push", .str "a", .str "a", .str "a"], .tuple [.none, .str "a", .str "a"], .tuple [.str "pop", .tuple [.str "a"], .str "a"]]
theorem odd_all : ∀ d ∈ oddD, nstB d = false ∧ layE d = true ∧ d.depth ≤ 10 ∧ d.showable = true ∧ d.intsShort 13 = true ∧ d.weight ≤ 1000 := by decide +kernel
theorem odd_bad {d : PyData} (h : d ∈ oddD) : nstB d = false ∧ NX 10 1000 d := by
  obtain ⟨a, b, c, e, f, g⟩ := odd_all d h
  exact ⟨a, b, c, e, f, g⟩
/-- a value, and what its refusal names -/
def ThgOk (K : PySem.W.Frag) (H : Hp) (x : V) : Prop := ∃ t v d r, x = .ref t ∧ SqT K H t [v, r] ∧ DpX K H v d ∧ OkD d ∧ BadN d r
theorem ThgOk.same {K : PySem.W.Frag} {H H' : Hp} {x : V} (h : ThgOk K H x) (s : Same H H') : ThgOk K H' x := by
  obtain ⟨t, v, d, r, e, h1, h2, h3, h4⟩ := h
  exact ⟨t, v, d, r, e, Same.tup s h1, DpX.same s _ _ h2, h3, h4⟩
theorem told_eq {K : PySem.W.Frag} {d : PyData} {r : V} (h : BadN d r) : ∃ e, (∀ H, Dp K H r e) ∧ SeqAt.shaped (.list [.str "steps", e]) = true ∧ PyData.eqv (.list [.str "steps", e]) (.list [.str "steps", e]) = true := by
  have st : PyData.strOk "steps" = true := by decide +kernel
  have go : ∀ e : PyData, e.canLay0 = true → e.depth = 0 → SeqAt.shaped (.list [.str "steps", e]) = true ∧ PyData.eqv (.list [.str "steps", e]) (.list [.str "steps", e]) = true := fun e h1 h2 => by
    have c : (PyData.list [.str "steps", e]).canLay0 = true := by simp only [PyData.canLay0, PyData.canLayAll0, st, h1, Bool.and_self]
    refine ⟨?_, SeqAt.eqv_refl _ c⟩
    unfold SeqAt.shaped
    rw [c, Bool.true_and]
    refine decide_eq_true ?_
    simp only [PyData.depth, PyData.depthAll, h2]
    decide
  rcases h with ⟨_, rfl⟩ | ⟨_, j, _, _, _, _, _, _, _, rfl⟩
  · exact ⟨.none, fun _ => .non, go .none (by decide +kernel) (by decide +kernel)⟩
  · exact ⟨.int (j : Nat), fun _ => .int _, go _ (by simp only [PyData.canLay0]) (by simp only [PyData.depth])⟩
theorem cutV_to (us : List V) (j : Nat) : cutV us none (some (j : Int)) = us.take j := by
  have q := cutF_to (id : V → V) us j
  rwa [List.map_id, List.map_id] at q
theorem cutV_from (us : List V) (j : Nat) : cutV us (some (j : Int)) none = us.drop j := by
  have q := cutF_from (id : V → V) us j
  rwa [List.map_id, List.map_id] at q
theorem NStH.but {H H' : Hp} {p : Addr} {xs : List V} {ss : List NSt} (h : NStH H xs ss) (hp : Pool H p) (b : But p H H') : NStH H' xs ss := Paired.mapP h fun _ _ q => by
  obtain ⟨t, e, z⟩ := q
  exact ⟨t, e, b t _ (hp.ne z) z⟩
theorem dpx_nsts {K : PySem.W.Frag} {H : Hp} : ∀ {xs : List V} {ss : List NSt}, NStH H xs ss → DpXs K H xs (ss.map nstD)
  | _, _, .nil => .nil
  | _, _, .cons a r => by
    obtain ⟨t, rfl, q⟩ := a
    exact .cons (.tup (.of q) (.cons (.str _) (.cons (.str _) (.cons (.str _) .nil)))) (dpx_nsts r)
theorem DpXs.app {K : PySem.W.Frag} {H : Hp} : ∀ {xs ys : List V} {ds es : List PyData}, DpXs K H xs ds → DpXs K H ys es → DpXs K H (xs ++ ys) (ds ++ es)
  | _, _, _, _, .nil, h => h
  | _, _, _, _, .cons a r, h => .cons a (r.app h)
theorem DpXs.take {K : PySem.W.Frag} {H : Hp} : ∀ {xs : List V} {ds : List PyData} (j : Nat), DpXs K H xs ds → DpXs K H (xs.take j) (ds.take j)
  | _, _, 0, _ => by rw [List.take_zero, List.take_zero]; exact .nil
  | _, _, _ + 1, .nil => .nil
  | _, _, j + 1, .cons a r => .cons a (r.take j)
theorem DpXs.drop {K : PySem.W.Frag} {H : Hp} : ∀ {xs : List V} {ds : List PyData} (j : Nat), DpXs K H xs ds → DpXs K H (xs.drop j) (ds.drop j)
  | _, _, 0, h => h
  | _, _, _ + 1, .nil => .nil
  | _, _, j + 1, .cons _ r => r.drop j
theorem DpXs.rep {K : PySem.W.Frag} {H : Hp} {v : V} {d : PyData} (h : DpX K H v d) : ∀ n, DpXs K H (List.replicate n v) (List.replicate n d)
  | 0 => .nil
  | n + 1 => .cons h (DpXs.rep h n)
theorem rep_flat {α : Type} (x : α) (n : Nat) : (List.replicate n [x]).flatten = List.replicate n x := by
  induction n with
  | zero => rfl
  | succ n ih => rw [List.replicate_succ, List.replicate_succ, List.flatten_cons, ih]; rfl
/-- one of the odd values among steps -/
theorem bad_at {ss : List NSt} (hI : ∀ s ∈ ss, NOk s) (hl : ss.length ≤ 100) {d : PyData} (hd : d ∈ oddD) {j : Nat} (hj : j ≤ ss.length) {tl : List PyData} (ht : tl.length ≤ 200) {ds : List PyData} (e : ds = (ss.take j).map nstD ++ d :: tl) :
    ds.length ≤ 1000 ∧ ds[j]? = some d ∧ nstB d = false ∧ (∀ i y, i < j → ds[i]? = some y → nstB y = true) ∧ (∀ i y, i ≤ j → ds[i]? = some y → NX 10 1000 y) := by
  subst e
  have lt : ((ss.take j).map nstD).length = j := by rw [List.length_map, List.length_take]; omega
  have hj2 : ((ss.take j).map nstD ++ d :: tl)[j]? = some d := by
    rw [List.getElem?_append_right (by omega), lt, Nat.sub_self]
    rfl
  have bef : ∀ i y, i < j → ((ss.take j).map nstD ++ d :: tl)[i]? = some y → ∃ s ∈ ss, y = nstD s := fun i y hi hy => by
    rw [List.getElem?_append_left (by omega)] at hy
    obtain ⟨s, ms, rfl⟩ := List.mem_map.mp (List.mem_of_getElem? hy)
    exact ⟨s, List.mem_of_mem_take ms, rfl⟩
  obtain ⟨b1, b2⟩ := odd_bad hd
  refine ⟨?_, hj2, b1, fun i y hi hy => ?_, fun i y hi hy => ?_⟩
  · rw [List.length_append, lt, List.length_cons]
    omega
  · obtain ⟨s, ms, rfl⟩ := bef i y hi hy
    exact nstB_ok (hI s ms)
  · rcases Nat.lt_or_eq_of_le hi with q | q
    · obtain ⟨s, ms, rfl⟩ := bef i y q hy
      exact (nstD_nice (hI s ms)).nx.mono (by decide) (by decide)
    · rw [q, hj2] at hy
      cases hy
      exact b2
theorem prtM_rep (b : Bool) (n i : Str) : ∀ m, prtM (List.replicate (m + 1) (b, n, i)) = [(n, List.replicate (m + 1) (b, i))]
  | 0 => by
    show addP [] n (b, i) = _
    rfl
  | m + 1 => by
    rw [List.replicate_succ', prtM_snoc, prtM_rep b n i m, List.replicate_succ' (n := m + 1) (a := (b, i))]
    unfold addP
    rw [if_pos (by simp)]
    simp
end SE
namespace SE
open PySem PySem.Spec PyProof.Rows L2
section
variable {P : Program} {w : World} {K : PySem.W.Frag} {mg : Str → Option Value} {base : Heap}
/-! ### law -/
def spLaw (K : PySem.W.Frag) : Sp := fun xs H Q _ => ∃ (a : Addr) (ns : List Int), xs = [.ref a] ∧ SqL K H a (ns.map V.int) ∧ ns.length ≤ 63 ∧ ∀ H', Q (.bl true) H'
abbrev nLaw : List Str := ["_law_script", "_law_k", "_law_pool_here", "_law_names", "_law_items_here", "_law_steps_here", "_law_at", "_law_odd", "_law_wrong", "_law_things", "_law_door", "_law_thing", "_law_due"]
theorem scLaw : FnScope nLaw ["_law_script"] (defScope sLaw) := ⟨rfl, rfl, rfl, by decide +kernel, rfl, by decide +kernel, by decide +kernel⟩
theorem ok_law {f : Addr} {fd : FuncData} (F : Fun K "law" "law" sLaw f fd)
    (GPl : Has P w K mg base "_law_pool" 1 ["_law_script", "_law_k"] [] (spPool K)) (GT : Has P w K mg base "_law_take" 1 ["_law_pool_here", "_law_many"] [] spTake) (GIt : Has P w K mg base "_law_items" 3 ["_law_pool_here", "_law_many"] [] spItems)
    (GN : Has P w K mg base "_law_named" 3 ["_law_pool_here", "_law_names", "_law_items_here", "_law_many"] [] spNamed)
    (GR : GHas P w K mg base "_law_right" 6 ["_law_steps_here"] (spRi K)) (GS : Has P w K mg base "split" 5 ["steps"] [] (spSplit K)) (GTo : Has P w K mg base "_law_told" 7 ["_law_door", "_law_steps_here"] [] (spTo K)) (B : Blt mg) (mr : mg "range" = none) (mx : mg "max" = none) (mn : mg "min" = none) : GOk P w K mg base 8 f fd ["_law_script"] (spLaw K) := by
  refine gok_mk F scLaw (fun xs H Q E h => ?_) (fun cv A out s H xs Q E hgu hr h => ?_)
  · obtain ⟨a, ns, rfl, _⟩ := h
    rfl
  · obtain ⟨a, ns, rfl, hS, hlen, k⟩ := h
    have hu := hu_of hr
    have hr1 : Room 1 _ := hr.mono (by decide)
    have hr3 : Room 3 _ := hr.mono (by decide)
    have hr5 : Room 5 _ := hr.mono (by decide)
    have hr6 : Room 6 _ := hr.mono (by decide)
    refine ⟨_, (pss_cons (ps_for PassesOwn.never rfl (pi_range1 (by rfl) mr (pa_cons (pe_callB (call_max2 rfl) (by rfl) mx (by decide +kernel) (pa_cons pe_int (pa_cons (pe_callB (call_min2 rfl) (by rfl) mn (by decide +kernel) (pa_cons (pe_callB call_len_seq (by rfl) B.len PySem.boot_len (pa_cons (pv 0) pa_nil)) (pa_cons pe_int pa_nil))) pa_nil))) pa_nil)) (pg_name (i := 1) scLaw.nd rfl (.inl rfl))
      (pss_cons (ps_set (i := 2) scLaw.nd rfl (.inl rfl) (pe_has GPl hr1 (pa_cons (pv 0) (pa_cons (pv 1) pa_nil))))
      (pss_cons (ps_par (i := 3) (j := 4) (by rfl) scLaw.nd rfl rfl (by decide) rfl rfl (pa_cons (pe_has GIt hr3 (pa_cons (pv 2) (pa_cons (pe_op op_add pe_int (pe_has GT hr1 (pa_cons (pv 2) (pa_cons pe_int pa_nil)))) pa_nil))) (pa_cons (pe_has GIt hr3 (pa_cons (pv 2) (pa_cons pe_int pa_nil))) pa_nil)) (by rfl))
      (pss_cons (ps_set (i := 5) scLaw.nd rfl (.inl rfl) (pe_has GN hr3 (pa_cons (pv 2) (pa_cons (pv 3) (pa_cons (pv 4) (pa_cons (pe_has GT hr1 (pa_cons (pv 2) (pa_cons pe_int pa_nil))) pa_nil))))))
      (pss_cons (ps_if (pt_cut (PW.pt (pw_or (pt_not (pt_val (pe_ghas GR hgu hr6 (pa_cons (pv 5) pa_nil)))) (pw_or1 (pt_not (pt_val (pe_ghas GR hgu hr6 (pa_cons (pe_callTy call_tuple_of (by rfl) B.tup (by decide +kernel) (pa_cons (pv 5) pa_nil)) pa_nil)))))))) (pss_one (ps_ret pe_bl)) pss_nil)
      (pss_cons (ps_set (i := 6) scLaw.nd rfl (.inl rfl) (pe_has GT hr1 (pa_cons (pv 2) (pa_cons (pe_op op_add (pe_callB call_len_seq (by rfl) B.len PySem.boot_len (pa_cons (pv 5) pa_nil)) pe_int) pa_nil))))
      (pss_cons (ps_set (i := 7) scLaw.nd rfl (.inl rfl) (pe_lst (pa_cons pe_non (pa_cons (pe_tup (pa_cons pe_str (pa_cons pe_str pa_nil))) (pa_cons (pe_tup (pa_cons pe_str (pa_cons pe_str (pa_cons pe_str pa_nil)))) (pa_cons (pe_tup (pa_cons pe_str (pa_cons pe_str (pa_cons pe_str pa_nil)))) (pa_cons (pe_lst (pa_cons pe_str (pa_cons pe_str (pa_cons pe_str pa_nil)))) (pa_cons (pe_tup (pa_cons pe_str (pa_cons pe_str (pa_cons pe_str pa_nil)))) pa_nil))))))))
      (pss_cons (ps_set (i := 7) scLaw.nd rfl (.inl rfl) (pe_op op_cat (pv 7) (pe_lst (pa_cons pe_str (pa_cons (pe_tup (pa_cons pe_str (pa_cons pe_str (pa_cons pe_str (pa_cons pe_str pa_nil))))) (pa_cons (pe_tup (pa_cons pe_non (pa_cons pe_str (pa_cons pe_str pa_nil)))) (pa_cons (pe_tup (pa_cons pe_str (pa_cons (pe_tup (pa_cons pe_str pa_nil)) (pa_cons pe_str pa_nil)))) pa_nil)))))))
      (pss_cons (ps_set (i := 8) scLaw.nd rfl (.inl rfl) (pe_ix ix_list (pv 7) (pe_has GT hr1 (pa_cons (pv 2) (pa_cons pe_int pa_nil))) (fun _ _ => rfl)))
      (pss_cons (ps_set (i := 9) scLaw.nd rfl (.inl rfl) (pe_lst (pa_cons (pe_tup (pa_cons (pe_op op_cat (pe_op op_cat (pe_op op_cat (pe_slice sl_list (pv 5) po_none (po_some (pv 6))) (pe_lst (pa_cons (pv 8) pa_nil))) (pe_slice sl_list (pv 5) (po_some (pv 6)) po_none)) (pe_lst (pa_cons pe_non pa_nil))) (pa_cons (pv 6) pa_nil))) (pa_cons (pe_tup (pa_cons (pe_op op_catS (pe_callTy call_tuple_of (by rfl) B.tup (by decide +kernel) (pa_cons (pv 5) pa_nil)) (pe_tup (pa_cons (pv 8) (pa_cons pe_int pa_nil)))) (pa_cons (pe_callB call_len_seq (by rfl) B.len PySem.boot_len (pa_cons (pv 5) pa_nil)) pa_nil))) pa_nil))))
      (pss_cons (ps_set (i := 9) scLaw.nd rfl (.inl rfl) (pe_op op_cat (pv 9) (pe_lst (pa_cons (pe_tup (pa_cons pe_non (pa_cons pe_non pa_nil))) (pa_cons (pe_tup (pa_cons pe_dnewK (pa_cons pe_non pa_nil))) (pa_cons (pe_tup (pa_cons pe_str (pa_cons pe_non pa_nil))) (pa_cons (pe_tup (pa_cons (pe_op op_rep (pe_lst (pa_cons (pe_tup (pa_cons pe_str (pa_cons pe_str (pa_cons pe_str pa_nil)))) pa_nil)) pe_int) (pa_cons pe_non pa_nil))) pa_nil)))))))
      (pss_one (ps_for PassesOwn.never rfl (pi_range1 (by rfl) mr (pa_cons pe_int pa_nil)) (pg_name (i := 10) scLaw.nd rfl (.inl rfl)) (pss_one (ps_for PassesOwn.never rfl (pi_list (pv 9)) (pg_tup (by rfl) (pgs_cons (pg_name (i := 11) scLaw.nd rfl (.inl rfl)) (pgs_cons (pg_name (i := 12) scLaw.nd rfl (.inl rfl)) pgs_nil))) (pss_one (ps_if (pt_cmpR (op_neD hr.units) (pe_has GTo hr (pa_cons (pv 10) (pa_cons (pv 11) pa_nil))) (pe_lst (pa_cons pe_str (pa_cons (pv 12) pa_nil))) (nomark _)) (pss_one (ps_ret pe_bl)) pss_nil)))))))))))))))))
      (pss_one (ps_ret (pe_and (pe_cmpR (op_eq_dictA hr.units0) (pe_has GS hr5 (pa_cons (pe_lst pa_nil) pa_nil)) pe_dnewK (nomark _)) (pe_one (pe_cmpR op_eq (pe_callB call_len_seq (by rfl) B.len PySem.boot_len (pa_cons (pe_dget hu (pe_has GS hr5 (pa_cons (pe_op op_rep (pe_lst (pa_cons (pe_tup (pa_cons pe_str (pa_cons pe_str (pa_cons pe_str pa_nil)))) pa_nil)) pe_int) pa_nil)) pe_str (fun _ _ => rfl)) pa_nil)) pe_int (nomark _))))))), ?_⟩
    refine ⟨_, rfl, a, _, rfl, .inl hS, _, 8, rfl, 1, _, rfl, ?_⟩
    have hN : ∀ n : Nat, (1 : Int) ≤ (if (if (8 : Int) < (n : Int) then 8 else (n : Int)) > 1 then (if (8 : Int) < (n : Int) then 8 else (n : Int)) else 1) ∧ (if (if (8 : Int) < (n : Int) then 8 else (n : Int)) > 1 then (if (8 : Int) < (n : Int) then 8 else (n : Int)) else 1) ≤ 8 := by
      intro n
      split <;> split <;> omega
    have hN1 := hN (ns.map V.int).length
    generalize hM : (if (if (8 : Int) < ((ns.map V.int).length : Int) then 8 else ((ns.map V.int).length : Int)) > 1 then (if (8 : Int) < ((ns.map V.int).length : Int) then 8 else ((ns.map V.int).length : Int)) else 1) = N at hN1
    refine ⟨N, by rw [← hM], by omega, by omega, for_range (lo := 0) (n := N.toNat) (fun i σ H2 => ∃ (y1 y2 y3 y4 y5 y6 y7 y8 y9 y10 y11 y12 : Option V), σ = [some (.ref a), y1, y2, y3, y4, y5, y6, y7, y8, y9, y10, y11, y12] ∧ Same H H2) ⟨_, _, _, _, _, _, _, _, _, _, _, _, rfl, Same.refl H⟩ ?_ ?_⟩
    rotate_left
    · rintro σ H2 ⟨y1, y2, y3, y4, y5, y6, y7, y8, y9, y10, y11, y12, rfl, s2⟩
      refine ⟨(by show 0 ≤ sizeLine; decide), fun L hL => ⟨L, [], [], rfl, .inl (.of upd_same), by decide, .nil, fun s m => (by cases m), fun d es H3 s3 _ pd pe _ => fun e he => ?_⟩⟩
      obtain rfl : es = [] := List.map_eq_nil_iff.mp pe
      have hd3 : H3 d = some (.dK []) := pd.at_
      refine ⟨d, e, [], [], rfl, rfl, by rw [upd_ne (ne_of_none hd3 he)]; exact hd3, upd_same, rfl, fun p m => (by cases m), true, rfl, iteT ?_⟩
      refine ⟨(by show 3 ≤ sizeLine; decide), fun t ht => ⟨(by show 1 ≤ sizeLine; decide), fun l hl => ⟨l, 1000, _, rfl, rfl, upd_same, by decide, by decide, (by show 1 * 1000 ≤ sizeLine; decide), fun q hq => ?_⟩⟩⟩
      rw [show (1000 : Int).toNat = 1000 from rfl, rep_flat]
      have st := upd_same (H := upd H3 e (.dK [])) (a := t) (o := .tup [.str "push", .str "a", .str "b"])
      generalize upd (upd H3 e (.dK [])) t (.tup [.str "push", .str "a", .str "b"]) = G1 at st hl hq ⊢
      have st2 := Same.new (o := .lst [.ref t]) hl _ _ st
      generalize upd G1 l (.lst [.ref t]) = G2 at st2 hq ⊢
      have st3 := Same.new (o := .lst (List.replicate 1000 (.ref t))) hq _ _ st2
      have hP : ∀ m, NStH (upd G2 q (.lst (List.replicate 1000 (.ref t)))) (List.replicate m (.ref t)) (List.replicate m (true, "a", "b")) := fun m => by
        induction m with
        | zero => exact .nil
        | succ m ih => exact .cons ⟨t, rfl, st3⟩ ih
      refine ⟨q, _, List.replicate 1000 (true, "a", "b"), rfl, .inl (.of upd_same), by rw [List.length_replicate]; decide, (hP 1000).v, fun s m => ?_, fun d2 es2 H4 s4 _ pd2 pe2 _ => ?_⟩
      · rw [List.eq_of_mem_replicate m]
        exact ⟨by refine ⟨?_, ?_, ?_⟩ <;> decide +kernel, by refine ⟨?_, ?_, ?_⟩ <;> decide +kernel⟩
      rw [prtM_rep true "a" "b" 999] at pe2
      have l1 : es2.length = 1 := by
        have := congrArg List.length pe2
        unfold pE at this
        rwa [List.length_map] at this
      obtain ⟨e2, rfl⟩ := List.length_eq_one_iff.mp l1
      have pe3 : [(e2.1, e2.2.2)] = [(("a" : Str), List.replicate 1000 ((true, "b") : Stp))] := pe2
      have ee := (List.cons.inj pe3).1
      have e1 : e2.1 = "a" := congrArg Prod.fst ee
      have e3 : e2.2.2 = List.replicate 1000 ((true, "b") : Stp) := congrArg Prod.snd ee
      obtain ⟨us, hL2, hs⟩ := pd2.ls e2 (List.mem_singleton.mpr rfl)
      have lu : us.length = 1000 := by
        have := Paired.length hs
        rw [e3, List.length_replicate] at this
        exact this
      refine ⟨d2, .ref e2.2.1, rfl, .inl ⟨kvsE [e2], Sum.inr "a", .inl pd2.at_, rfl, ?_⟩, e2.2.1, us, rfl, .inl (.of hL2), rfl, ?_⟩
      · rw [valE, List.find?_cons_of_pos (by simpa using e1)]
        rfl
      · rw [lu, show decide (V.int ((1000 : Nat) : Int) = V.int 1000) = true from decide_eq_true rfl]
        exact k _
    rintro i σ H2 hi ⟨y1, y2, y3, y4, y5, y6, y7, y8, y9, y10, y11, y12, rfl, s2⟩
    refine ⟨_, rfl, _, rfl, a, ns, 0 + i, rfl, Same.seq s2 hS, by omega, by omega, fun p H3 s3 hp p3 => ?_⟩
    have hpn : H p = none := s2.free hp
    refine ⟨_, rfl, _, rfl, p, 3, rfl, p3, by decide, by decide, fun r H4 b4 p4 r0 r1 => ⟨1, r, rfl, rfl, p, 1 + r, rfl, p4, by omega, by omega, fun n ns' H5 b5 p5 n0 np hn5 ln nI => ?_⟩⟩
    refine ⟨_, rfl, p, 2, rfl, p5, by decide, by decide, fun l zs H6 b6 p6 l0 lp hl6 lz iz => ?_⟩
    have nne : ns' ≠ [] := fun e => by rw [e] at ln; simp only [List.length_nil] at ln; omega
    have lz : zs.length = 2 := lz
    have zne : zs ≠ [] := fun e => by rw [e] at lz; cases lz
    refine ⟨_, _, rfl, ?_⟩
    have hn6 := b6 _ _ np hn5
    refine ⟨_, rfl, _, rfl, _, rfl, _, rfl, p, 17, rfl, p6, by decide, by decide, fun r3 H7 b7 p7 u0 u1 => ⟨p, n, l, r3, ns', zs, rfl, p7, np, b7 _ _ np hn6, nne, by omega, nI, lp, b7 _ _ lp hl6, zne, by omega, iz, by omega, by omega, fun t us ss HA bA pA t0 tp htA hsA ls ok => ?_⟩⟩
    have lus : us.length = ss.length := Paired.length hsA
    have l17 : ss.length ≤ 16 := by omega
    have s0A : Same H HA := Same.but3 (s2.trans s3) hpn (((b4.trans b5).trans b6).trans (b7.trans bA))
    refine ⟨fun b HB => b = false ∧ Same HA HB, ?_, ?_⟩
    · refine ⟨_, rfl, t, us, ss, rfl, .inl (.of htA), by omega, hsA.v, ok, fun HB sB => ⟨true, rfl, iteF ?_⟩⟩
      refine ⟨_, rfl, t, us, rfl, .inl ⟨.of (sB _ _ htA), fun u hu => ?_⟩⟩
      have su : Same HB (upd HB u (.tup us)) := Same.new hu
      exact ⟨u, us, ss, rfl, .inr (.of upd_same), by omega, (nsth_same hsA (sB.trans su)).v, ok, fun HC sC => ⟨true, rfl, rfl, (sB.trans su).trans sC⟩⟩
    rintro b HB ⟨rfl, sB⟩
    have pB := pA.same sB
    have htB := sB _ _ htA
    have hsB := nsth_same hsA sB
    refine iteF ⟨_, rfl, _, rfl, t, us, rfl, .inl (.of htB), (us.length : Int), 1, rfl, rfl, p, (us.length : Int) + 1, rfl, pB, by omega, by omega, fun r5 HC bC pC v0 v1 => ?_⟩
    obtain ⟨m, rfl⟩ : ∃ m : Nat, r5 = (m : Int) := ⟨r5.toNat, by omega⟩
    have ml : m ≤ us.length := by omega
    have htC := bC _ _ tp htB
    have hsC := hsB.but pB bC
    have s0C : Same H HC := Same.but3 (s0A.trans sB) hpn bC
    clear b4 b5 b6 b7 bA bC pA pB p3 p4 p5 p6 p7 hn5 hn6 hl6 htA htB hsA hsB sB s0A s2 s3 r0 r1 u0 u1 v0 v1
    refine ⟨(by show 2 ≤ sizeLine; decide), fun t1 ht1 => ?_⟩
    have aG1 := Same.new (o := .tup [.str "push", .str "a"]) ht1
    have hG1 : (upd HC t1 (.tup [.str "push", .str "a"])) t1 = some (.tup [.str "push", .str "a"]) := upd_same
    generalize upd HC t1 (.tup [.str "push", .str "a"]) = G1 at aG1 hG1
    refine ⟨(by show 3 ≤ sizeLine; decide), fun t2 ht2 => ?_⟩
    have aG2 := Same.new (o := .tup [.str "push", .str "A", .str "a"]) ht2
    have hG2 : (upd G1 t2 (.tup [.str "push", .str "A", .str "a"])) t2 = some (.tup [.str "push", .str "A", .str "a"]) := upd_same
    generalize upd G1 t2 (.tup [.str "push", .str "A", .str "a"]) = G2 at aG2 hG2
    refine ⟨(by show 3 ≤ sizeLine; decide), fun t3 ht3 => ?_⟩
    have aG3 := Same.new (o := .tup [.str "pop", .str "a", .str "A"]) ht3
    have hG3 : (upd G2 t3 (.tup [.str "pop", .str "a", .str "A"])) t3 = some (.tup [.str "pop", .str "a", .str "A"]) := upd_same
    generalize upd G2 t3 (.tup [.str "pop", .str "a", .str "A"]) = G3 at aG3 hG3
    refine ⟨(by show 3 ≤ sizeLine; decide), fun t4 ht4 => ?_⟩
    have aG4 := Same.new (o := .lst [.str "push", .str "a", .str "a"]) ht4
    have hG4 : (upd G3 t4 (.lst [.str "push", .str "a", .str "a"])) t4 = some (.lst [.str "push", .str "a", .str "a"]) := upd_same
    generalize upd G3 t4 (.lst [.str "push", .str "a", .str "a"]) = G4 at aG4 hG4
    refine ⟨(by show 3 ≤ sizeLine; decide), fun t5 ht5 => ?_⟩
    have aG5 := Same.new (o := .tup [.str "peek", .str "a", .str "a"]) ht5
    have hG5 : (upd G4 t5 (.tup [.str "peek", .str "a", .str "a"])) t5 = some (.tup [.str "peek", .str "a", .str "a"]) := upd_same
    generalize upd G4 t5 (.tup [.str "peek", .str "a", .str "a"]) = G5 at aG5 hG5
    refine ⟨(by show 6 ≤ sizeLine; decide), fun L1 hL1 => ?_⟩
    have aG6 := Same.new (o := .lst [.non, .ref t1, .ref t2, .ref t3, .ref t4, .ref t5]) hL1
    have hG6 : (upd G5 L1 (.lst [.non, .ref t1, .ref t2, .ref t3, .ref t4, .ref t5])) L1 = some (.lst [.non, .ref t1, .ref t2, .ref t3, .ref t4, .ref t5]) := upd_same
    generalize upd G5 L1 (.lst [.non, .ref t1, .ref t2, .ref t3, .ref t4, .ref t5]) = G6 at aG6 hG6
    refine ⟨_, rfl, (by show 4 ≤ sizeLine; decide), fun t6 ht6 => ?_⟩
    have aG7 := Same.new (o := .tup [.str "push", .str "a", .str "a", .str "a"]) ht6
    have hG7 : (upd G6 t6 (.tup [.str "push", .str "a", .str "a", .str "a"])) t6 = some (.tup [.str "push", .str "a", .str "a", .str "a"]) := upd_same
    generalize upd G6 t6 (.tup [.str "push", .str "a", .str "a", .str "a"]) = G7 at aG7 hG7
    refine ⟨(by show 3 ≤ sizeLine; decide), fun t7 ht7 => ?_⟩
    have aG8 := Same.new (o := .tup [.non, .str "a", .str "a"]) ht7
    have hG8 : (upd G7 t7 (.tup [.non, .str "a", .str "a"])) t7 = some (.tup [.non, .str "a", .str "a"]) := upd_same
    generalize upd G7 t7 (.tup [.non, .str "a", .str "a"]) = G8 at aG8 hG8
    refine ⟨(by show 1 ≤ sizeLine; decide), fun t8 ht8 => ?_⟩
    have aG9 := Same.new (o := .tup [.str "a"]) ht8
    have hG9 : (upd G8 t8 (.tup [.str "a"])) t8 = some (.tup [.str "a"]) := upd_same
    generalize upd G8 t8 (.tup [.str "a"]) = G9 at aG9 hG9
    refine ⟨(by show 3 ≤ sizeLine; decide), fun t9 ht9 => ?_⟩
    have aG10 := Same.new (o := .tup [.str "pop", .ref t8, .str "a"]) ht9
    have hG10 : (upd G9 t9 (.tup [.str "pop", .ref t8, .str "a"])) t9 = some (.tup [.str "pop", .ref t8, .str "a"]) := upd_same
    generalize upd G9 t9 (.tup [.str "pop", .ref t8, .str "a"]) = G10 at aG10 hG10
    refine ⟨(by show 4 ≤ sizeLine; decide), fun L2 hL2 => ?_⟩
    have aG11 := Same.new (o := .lst [.str "pop", .ref t6, .ref t7, .ref t9]) hL2
    have hG11 : (upd G10 L2 (.lst [.str "pop", .ref t6, .ref t7, .ref t9])) L2 = some (.lst [.str "pop", .ref t6, .ref t7, .ref t9]) := upd_same
    generalize upd G10 L2 (.lst [.str "pop", .ref t6, .ref t7, .ref t9]) = G11 at aG11 hG11
    refine ⟨L1, L2, _, _, rfl, rfl, (aG11 _ _ (aG10 _ _ (aG9 _ _ (aG8 _ _ (aG7 _ _ hG6))))), hG11, (by show 10 ≤ sizeLine; decide), fun L3 hL3 => ?_⟩
    have aG12 := Same.new (o := .lst ([.non, .ref t1, .ref t2, .ref t3, .ref t4, .ref t5] ++ [.str "pop", .ref t6, .ref t7, .ref t9])) hL3
    have hG12 : (upd G11 L3 (.lst ([.non, .ref t1, .ref t2, .ref t3, .ref t4, .ref t5] ++ [.str "pop", .ref t6, .ref t7, .ref t9]))) L3 = some (.lst ([.non, .ref t1, .ref t2, .ref t3, .ref t4, .ref t5] ++ [.str "pop", .ref t6, .ref t7, .ref t9])) := upd_same
    generalize upd G11 L3 (.lst ([.non, .ref t1, .ref t2, .ref t3, .ref t4, .ref t5] ++ [.str "pop", .ref t6, .ref t7, .ref t9])) = G12 at aG12 hG12
    have sG : Same HC G12 := (((((((((((((Same.refl HC).trans aG1).trans aG2).trans aG3).trans aG4).trans aG5).trans aG6).trans aG7).trans aG8).trans aG9).trans aG10).trans aG11).trans aG12)
    have pG : Pool G12 p := pC.same sG
    have laG : LstAll [p] G12 := LstAll.pool pG
    have kt1 := hid_at laG (aG12 _ _ (aG11 _ _ (aG10 _ _ (aG9 _ _ (aG8 _ _ (aG7 _ _ (aG6 _ _ (aG5 _ _ (aG4 _ _ (aG3 _ _ (aG2 _ _ hG1))))))))))) (fun us e => by cases e)
    have kt2 := hid_at laG (aG12 _ _ (aG11 _ _ (aG10 _ _ (aG9 _ _ (aG8 _ _ (aG7 _ _ (aG6 _ _ (aG5 _ _ (aG4 _ _ (aG3 _ _ hG2)))))))))) (fun us e => by cases e)
    have kt3 := hid_at laG (aG12 _ _ (aG11 _ _ (aG10 _ _ (aG9 _ _ (aG8 _ _ (aG7 _ _ (aG6 _ _ (aG5 _ _ (aG4 _ _ hG3))))))))) (fun us e => by cases e)
    have kt5 := hid_at laG (aG12 _ _ (aG11 _ _ (aG10 _ _ (aG9 _ _ (aG8 _ _ (aG7 _ _ (aG6 _ _ hG5))))))) (fun us e => by cases e)
    have kt6 := hid_at laG (aG12 _ _ (aG11 _ _ (aG10 _ _ (aG9 _ _ (aG8 _ _ hG7))))) (fun us e => by cases e)
    have kt7 := hid_at laG (aG12 _ _ (aG11 _ _ (aG10 _ _ (aG9 _ _ hG8)))) (fun us e => by cases e)
    have kt8 := hid_at laG (aG12 _ _ (aG11 _ _ (aG10 _ _ hG9))) (fun us e => by cases e)
    have kt9 := hid_at laG (aG12 _ _ (aG11 _ _ hG10)) (fun us e => by cases e)
    have n4 : t4 ≠ p := (pC.same ((((Same.refl HC).trans aG1).trans aG2).trans aG3)).free ht4
    have n3 : L3 ≠ p := (pC.same ((((((((((((Same.refl HC).trans aG1).trans aG2).trans aG3).trans aG4).trans aG5).trans aG6).trans aG7).trans aG8).trans aG9).trans aG10).trans aG11)).free hL3
    have kt4 : hid [p] G12 t4 = some (.lst [.str "push", .str "a", .str "a"]) := by
      rw [hid_ne (by simpa using n4)]
      exact (aG12 _ _ (aG11 _ _ (aG10 _ _ (aG9 _ _ (aG8 _ _ (aG7 _ _ (aG6 _ _ (aG5 _ _ hG4))))))))
    have kL3 : hid [p] G12 L3 = some (.lst ([.non, .ref t1, .ref t2, .ref t3, .ref t4, .ref t5] ++ [.str "pop", .ref t6, .ref t7, .ref t9])) := by
      rw [hid_ne (by simpa using n3)]
      exact hG12
    have hO : DpXs K (hid [p] G12) ([.non, .ref t1, .ref t2, .ref t3, .ref t4, .ref t5] ++ [.str "pop", .ref t6, .ref t7, .ref t9]) oddD := (.cons .non (.cons (.tup (.of kt1) (.cons (.str _) (.cons (.str _) .nil))) (.cons (.tup (.of kt2) (.cons (.str _) (.cons (.str _) (.cons (.str _) .nil)))) (.cons (.tup (.of kt3) (.cons (.str _) (.cons (.str _) (.cons (.str _) .nil)))) (.cons (.lst (.of kt4) (.cons (.str _) (.cons (.str _) (.cons (.str _) .nil)))) (.cons (.tup (.of kt5) (.cons (.str _) (.cons (.str _) (.cons (.str _) .nil)))) (.cons (.str _) (.cons (.tup (.of kt6) (.cons (.str _) (.cons (.str _) (.cons (.str _) (.cons (.str _) .nil))))) (.cons (.tup (.of kt7) (.cons .non (.cons (.str _) (.cons (.str _) .nil)))) (.cons (.tup (.of kt9) (.cons (.str _) (.cons (.tup (.of kt8) (.cons (.str _) .nil)) (.cons (.str _) .nil)))) .nil))))))))))
    have lO : ([.non, .ref t1, .ref t2, .ref t3, .ref t4, .ref t5] ++ [.str "pop", .ref t6, .ref t7, .ref t9] : List V).length = 10 := rfl
    generalize ([.non, .ref t1, .ref t2, .ref t3, .ref t4, .ref t5] ++ [.str "pop", .ref t6, .ref t7, .ref t9] : List V) = vs at hO lO kL3 hG12
    refine ⟨_, rfl, _, rfl, p, 10, rfl, pG, by decide, by decide, fun r6 HD bD pD w0 w1 => ?_⟩
    obtain ⟨m6, rfl⟩ : ∃ m6 : Nat, r6 = (m6 : Int) := ⟨r6.toNat, by omega⟩
    obtain ⟨v, hv⟩ : ∃ v, vs[m6]? = some v := ⟨_, List.getElem?_eq_getElem (by omega)⟩
    obtain ⟨d, hd, hD⟩ := hO.at hv
    have dm := List.mem_of_getElem? hd
    have sX : Same (hid [p] G12) (hid [p] HD) := hid_but bD (by simp)
    have hvD : DpX K HD v d := DpX.same (hid_out _ _) _ _ (DpX.same sX _ _ hD)
    have htD : HD t = some (.lst us) := bD _ _ tp (sG _ _ htC)
    have hsD : NStH HD us ss := (nsth_same hsC sG).but pG bD
    have s0D : Same H HD := Same.but3 (s0C.trans sG) hpn bD
    refine ⟨L3, vs, (m6 : Int), v, rfl, rfl, .of (bD _ _ n3 hG12), atI_nat (j := m6) hv, ?_⟩
    clear hG1 hG2 hG3 hG4 hG5 hG6 hG7 hG8 hG9 hG10 hG11 hO hD sX kL3 hG12 n3 n4 kt1 kt2 kt3 kt4 kt5 kt6 kt7 kt8 kt9 laG pG w0 w1 bD pC htC hsC
    refine ⟨_, rfl, _, rfl, _, rfl, t, _, rfl, .of htD, fun q1 hq1 => ?_⟩
    rw [cutV_to]
    have aJ1 := Same.new (o := .lst (us.take m)) hq1
    have hJ1 : (upd HD q1 (.lst (us.take m))) q1 = some (.lst (us.take m)) := upd_same
    generalize upd HD q1 (.lst (us.take m)) = J1 at aJ1 hJ1
    refine ⟨_, rfl, (by show 1 ≤ sizeLine; decide), fun q2 hq2 => ?_⟩
    have aJ2 := Same.new (o := .lst [v]) hq2
    have hJ2 : (upd J1 q2 (.lst [v])) q2 = some (.lst [v]) := upd_same
    generalize upd J1 q2 (.lst [v]) = J2 at aJ2 hJ2
    refine ⟨q1, q2, _, _, rfl, rfl, (aJ2 _ _ hJ1), hJ2, Nat.le_of_lt (small1000 (by simp only [List.length_append, List.length_take, List.length_drop, List.length_cons, List.length_nil]; omega)), fun q3 hq3 => ?_⟩
    have aJ3 := Same.new (o := .lst (us.take m ++ [v])) hq3
    have hJ3 : (upd J2 q3 (.lst (us.take m ++ [v]))) q3 = some (.lst (us.take m ++ [v])) := upd_same
    generalize upd J2 q3 (.lst (us.take m ++ [v])) = J3 at aJ3 hJ3
    refine ⟨_, rfl, _, rfl, _, rfl, t, _, rfl, .of (aJ3 _ _ (aJ2 _ _ (aJ1 _ _ htD))), fun q4 hq4 => ?_⟩
    rw [cutV_from]
    have aJ4 := Same.new (o := .lst (us.drop m)) hq4
    have hJ4 : (upd J3 q4 (.lst (us.drop m))) q4 = some (.lst (us.drop m)) := upd_same
    generalize upd J3 q4 (.lst (us.drop m)) = J4 at aJ4 hJ4
    refine ⟨q3, q4, _, _, rfl, rfl, (aJ4 _ _ hJ3), hJ4, Nat.le_of_lt (small1000 (by simp only [List.length_append, List.length_take, List.length_drop, List.length_cons, List.length_nil]; omega)), fun q5 hq5 => ?_⟩
    have aJ5 := Same.new (o := .lst (us.take m ++ [v] ++ us.drop m)) hq5
    have hJ5 : (upd J4 q5 (.lst (us.take m ++ [v] ++ us.drop m))) q5 = some (.lst (us.take m ++ [v] ++ us.drop m)) := upd_same
    generalize upd J4 q5 (.lst (us.take m ++ [v] ++ us.drop m)) = J5 at aJ5 hJ5
    refine ⟨(by show 1 ≤ sizeLine; decide), fun q6 hq6 => ?_⟩
    have aJ6 := Same.new (o := .lst [.non]) hq6
    have hJ6 : (upd J5 q6 (.lst [.non])) q6 = some (.lst [.non]) := upd_same
    generalize upd J5 q6 (.lst [.non]) = J6 at aJ6 hJ6
    refine ⟨q5, q6, _, _, rfl, rfl, (aJ6 _ _ hJ5), hJ6, Nat.le_of_lt (small1000 (by simp only [List.length_append, List.length_take, List.length_drop, List.length_cons, List.length_nil]; omega)), fun q7 hq7 => ?_⟩
    have aJ7 := Same.new (o := .lst (us.take m ++ [v] ++ us.drop m ++ [.non])) hq7
    have hJ7 : (upd J6 q7 (.lst (us.take m ++ [v] ++ us.drop m ++ [.non]))) q7 = some (.lst (us.take m ++ [v] ++ us.drop m ++ [.non])) := upd_same
    generalize upd J6 q7 (.lst (us.take m ++ [v] ++ us.drop m ++ [.non])) = J7 at aJ7 hJ7
    refine ⟨_, rfl, (by show 2 ≤ sizeLine; decide), fun T1 hT1 => ?_⟩
    have aJ8 := Same.new (o := .tup [.ref q7, .int (m : Int)]) hT1
    have hJ8 : (upd J7 T1 (.tup [.ref q7, .int (m : Int)])) T1 = some (.tup [.ref q7, .int (m : Int)]) := upd_same
    generalize upd J7 T1 (.tup [.ref q7, .int (m : Int)]) = J8 at aJ8 hJ8
    refine ⟨_, rfl, t, us, rfl, .inl ⟨.of (aJ8 _ _ (aJ7 _ _ (aJ6 _ _ (aJ5 _ _ (aJ4 _ _ (aJ3 _ _ (aJ2 _ _ (aJ1 _ _ htD)))))))), fun q8 hq8 => ?_⟩⟩
    have aJ9 := Same.new (o := .tup us) hq8
    have hJ9 : (upd J8 q8 (.tup us)) q8 = some (.tup us) := upd_same
    generalize upd J8 q8 (.tup us) = J9 at aJ9 hJ9
    refine ⟨_, rfl, (by show 2 ≤ sizeLine; decide), fun q9 hq9 => ?_⟩
    have aJ10 := Same.new (o := .tup [v, .int 5]) hq9
    have hJ10 : (upd J9 q9 (.tup [v, .int 5])) q9 = some (.tup [v, .int 5]) := upd_same
    generalize upd J9 q9 (.tup [v, .int 5]) = J10 at aJ10 hJ10
    refine ⟨q8, q9, us, _, rfl, rfl, .of (aJ10 _ _ hJ9), .of hJ10, Nat.le_of_lt (small1000 (by simp only [List.length_append, List.length_take, List.length_drop, List.length_cons, List.length_nil]; omega)), fun q10 J11 aJ11 hJ11 => ?_⟩
    refine ⟨_, rfl, t, us, rfl, .inl (.of (aJ11 _ _ (aJ10 _ _ (aJ9 _ _ (aJ8 _ _ (aJ7 _ _ (aJ6 _ _ (aJ5 _ _ (aJ4 _ _ (aJ3 _ _ (aJ2 _ _ (aJ1 _ _ htD)))))))))))), (by show 2 ≤ sizeLine; decide), fun T2 hT2 => ?_⟩
    have aJ12 := Same.new (o := .tup [.ref q10, .int (us.length : Int)]) hT2
    have hJ12 : (upd J11 T2 (.tup [.ref q10, .int (us.length : Int)])) T2 = some (.tup [.ref q10, .int (us.length : Int)]) := upd_same
    generalize upd J11 T2 (.tup [.ref q10, .int (us.length : Int)]) = J12 at aJ12 hJ12
    refine ⟨(by show 2 ≤ sizeLine; decide), fun M1 hM1 => ?_⟩
    have aJ13 := Same.new (o := .lst [.ref T1, .ref T2]) hM1
    have hJ13 : (upd J12 M1 (.lst [.ref T1, .ref T2])) M1 = some (.lst [.ref T1, .ref T2]) := upd_same
    generalize upd J12 M1 (.lst [.ref T1, .ref T2]) = J13 at aJ13 hJ13
    refine ⟨_, rfl, (by show 2 ≤ sizeLine; decide), fun T3 hT3 => ?_⟩
    have aJ14 := Same.new (o := .tup [.non, .non]) hT3
    have hJ14 : (upd J13 T3 (.tup [.non, .non])) T3 = some (.tup [.non, .non]) := upd_same
    generalize upd J13 T3 (.tup [.non, .non]) = J14 at aJ14 hJ14
    refine fun e4 he4 => ?_
    have aJ15 := Same.new (o := .dK []) he4
    have hJ15 : (upd J14 e4 (.dK [])) e4 = some (.dK []) := upd_same
    generalize upd J14 e4 (.dK []) = J15 at aJ15 hJ15
    refine ⟨(by show 2 ≤ sizeLine; decide), fun T4 hT4 => ?_⟩
    have aJ16 := Same.new (o := .tup [.ref e4, .non]) hT4
    have hJ16 : (upd J15 T4 (.tup [.ref e4, .non])) T4 = some (.tup [.ref e4, .non]) := upd_same
    generalize upd J15 T4 (.tup [.ref e4, .non]) = J16 at aJ16 hJ16
    refine ⟨(by show 2 ≤ sizeLine; decide), fun T5 hT5 => ?_⟩
    have aJ17 := Same.new (o := .tup [.str "push", .non]) hT5
    have hJ17 : (upd J16 T5 (.tup [.str "push", .non])) T5 = some (.tup [.str "push", .non]) := upd_same
    generalize upd J16 T5 (.tup [.str "push", .non]) = J17 at aJ17 hJ17
    refine ⟨(by show 3 ≤ sizeLine; decide), fun u6 hu6 => ?_⟩
    have aJ18 := Same.new (o := .tup [.str "push", .str "a", .str "b"]) hu6
    have hJ18 : (upd J17 u6 (.tup [.str "push", .str "a", .str "b"])) u6 = some (.tup [.str "push", .str "a", .str "b"]) := upd_same
    generalize upd J17 u6 (.tup [.str "push", .str "a", .str "b"]) = J18 at aJ18 hJ18
    refine ⟨(by show 1 ≤ sizeLine; decide), fun w6 hw6 => ?_⟩
    have aJ19 := Same.new (o := .lst [.ref u6]) hw6
    have hJ19 : (upd J18 w6 (.lst [.ref u6])) w6 = some (.lst [.ref u6]) := upd_same
    generalize upd J18 w6 (.lst [.ref u6]) = J19 at aJ19 hJ19
    refine ⟨w6, 1001, _, rfl, rfl, hJ19, by decide, by decide, (by show 1 * 1001 ≤ sizeLine; decide), fun x6 hx6 => ?_⟩
    rw [show (1001 : Int).toNat = 1001 from rfl, rep_flat]
    have aJ20 := Same.new (o := .lst (List.replicate 1001 (.ref u6))) hx6
    have hJ20 : (upd J19 x6 (.lst (List.replicate 1001 (.ref u6)))) x6 = some (.lst (List.replicate 1001 (.ref u6))) := upd_same
    generalize upd J19 x6 (.lst (List.replicate 1001 (.ref u6))) = J20 at aJ20 hJ20
    refine ⟨(by show 2 ≤ sizeLine; decide), fun T6 hT6 => ?_⟩
    have aJ21 := Same.new (o := .tup [.ref x6, .non]) hT6
    have hJ21 : (upd J20 T6 (.tup [.ref x6, .non])) T6 = some (.tup [.ref x6, .non]) := upd_same
    generalize upd J20 T6 (.tup [.ref x6, .non]) = J21 at aJ21 hJ21
    refine ⟨(by show 4 ≤ sizeLine; decide), fun M2 hM2 => ?_⟩
    have aJ22 := Same.new (o := .lst [.ref T3, .ref T4, .ref T5, .ref T6]) hM2
    have hJ22 : (upd J21 M2 (.lst [.ref T3, .ref T4, .ref T5, .ref T6])) M2 = some (.lst [.ref T3, .ref T4, .ref T5, .ref T6]) := upd_same
    generalize upd J21 M2 (.lst [.ref T3, .ref T4, .ref T5, .ref T6]) = J22 at aJ22 hJ22
    refine ⟨M1, M2, _, _, rfl, rfl, (aJ22 _ _ (aJ21 _ _ (aJ20 _ _ (aJ19 _ _ (aJ18 _ _ (aJ17 _ _ (aJ16 _ _ (aJ15 _ _ (aJ14 _ _ hJ13))))))))), hJ22, (by show 6 ≤ sizeLine; decide), fun M3 hM3 => ?_⟩
    have aJ23 := Same.new (o := .lst ([.ref T1, .ref T2] ++ [.ref T3, .ref T4, .ref T5, .ref T6])) hM3
    have hJ23 : (upd J22 M3 (.lst ([.ref T1, .ref T2] ++ [.ref T3, .ref T4, .ref T5, .ref T6]))) M3 = some (.lst ([.ref T1, .ref T2] ++ [.ref T3, .ref T4, .ref T5, .ref T6])) := upd_same
    generalize upd J22 M3 (.lst ([.ref T1, .ref T2] ++ [.ref T3, .ref T4, .ref T5, .ref T6])) = J23 at aJ23 hJ23
    have sJ : Same HD J23 := ((((((((((((((((((((((((Same.refl HD).trans aJ1).trans aJ2).trans aJ3).trans aJ4).trans aJ5).trans aJ6).trans aJ7).trans aJ8).trans aJ9).trans aJ10).trans aJ11).trans aJ12).trans aJ13).trans aJ14).trans aJ15).trans aJ16).trans aJ17).trans aJ18).trans aJ19).trans aJ20).trans aJ21).trans aJ22).trans aJ23)
    have dv := DpX.same sJ _ _ hvD
    have ds := dpx_nsts (K := K) (nsth_same hsD sJ)
    have nxs : ∀ z ∈ ss.map nstD, NX 10 1000 z := fun z mz => by
      obtain ⟨s', ms, rfl⟩ := List.mem_map.mp mz
      exact (nstD_nice (ok s' ms)).nx.mono (by decide) (by decide)
    have nxd : NX 10 1000 d := (odd_bad dm).2
    have okl : ∀ ds : List PyData, (∀ z ∈ ds, NX 10 1000 z) → ds.length ≤ 50 → OkD (.list ds) ∧ OkD (.tuple ds) := fun ds h1 h2 => ⟨(nx_list h1).mono (by decide) (by omega), (nx_tuple h1).mono (by decide) (by omega)⟩
    have lss : (ss.map nstD).length = ss.length := List.length_map _
    have g1 : ThgOk K J23 (.ref T1) := by
      have e : (ss.map nstD).take m ++ [d] ++ (ss.map nstD).drop m ++ [.none] = (ss.take m).map nstD ++ d :: ((ss.map nstD).drop m ++ [.none]) := by rw [List.map_take]; simp
      obtain ⟨c1, c2, c3, c4, c5⟩ := bad_at ok (by omega) dm (j := m) (by omega) (tl := (ss.map nstD).drop m ++ [.none]) (by rw [List.length_append, List.length_drop, lss]; simp only [List.length_singleton]; omega) e
      refine ⟨T1, .ref q7, _, .int (m : Int), rfl, .of (aJ23 _ _ (aJ22 _ _ (aJ21 _ _ (aJ20 _ _ (aJ19 _ _ (aJ18 _ _ (aJ17 _ _ (aJ16 _ _ (aJ15 _ _ (aJ14 _ _ (aJ13 _ _ (aJ12 _ _ (aJ11 _ _ (aJ10 _ _ (aJ9 _ _ hJ8))))))))))))))), .lst (.of (aJ23 _ _ (aJ22 _ _ (aJ21 _ _ (aJ20 _ _ (aJ19 _ _ (aJ18 _ _ (aJ17 _ _ (aJ16 _ _ (aJ15 _ _ (aJ14 _ _ (aJ13 _ _ (aJ12 _ _ (aJ11 _ _ (aJ10 _ _ (aJ9 _ _ (aJ8 _ _ hJ7))))))))))))))))) ((((ds.take m).app (.cons dv .nil)).app (ds.drop m)).app (.cons .non .nil)), (okl _ (fun z mz => ?_) ?_).1, .inr ⟨_, m, d, .inl rfl, c1, c2, c3, c4, c5, rfl⟩⟩
      · rcases List.mem_append.mp mz with q | q
        · rcases List.mem_append.mp q with q | q
          · rcases List.mem_append.mp q with q | q
            · exact nxs z (List.mem_of_mem_take q)
            · rw [List.mem_singleton.mp q]; exact nxd
          · exact nxs z (List.mem_of_mem_drop q)
        · rw [List.mem_singleton.mp q]; exact (odd_bad (d := .none) (by simp [oddD])).2
      · simp only [List.length_append, List.length_take, List.length_drop, List.length_map, List.length_cons, List.length_nil]; omega
    have g2 : ThgOk K J23 (.ref T2) := by
      have e : ss.map nstD ++ [d, .int 5] = (ss.take ss.length).map nstD ++ d :: [.int 5] := by rw [List.take_length]
      obtain ⟨c1, c2, c3, c4, c5⟩ := bad_at ok (by omega) dm (j := ss.length) (Nat.le_refl _) (tl := [.int 5]) (by decide) e
      refine ⟨T2, .ref q10, _, .int (us.length : Int), rfl, .of (aJ23 _ _ (aJ22 _ _ (aJ21 _ _ (aJ20 _ _ (aJ19 _ _ (aJ18 _ _ (aJ17 _ _ (aJ16 _ _ (aJ15 _ _ (aJ14 _ _ (aJ13 _ _ hJ12))))))))))), .tup (Same.tup ((((((((((((((Same.refl J11).trans aJ12).trans aJ13).trans aJ14).trans aJ15).trans aJ16).trans aJ17).trans aJ18).trans aJ19).trans aJ20).trans aJ21).trans aJ22).trans aJ23)) hJ11) (ds.app (.cons dv (.cons (.int 5) .nil))), (okl _ (fun z mz => ?_) ?_).2, .inr ⟨_, ss.length, d, .inr rfl, c1, c2, c3, c4, c5, by rw [lus]⟩⟩
      · rcases List.mem_append.mp mz with q | q
        · exact nxs z q
        · rcases List.mem_cons.mp q with q | q
          · rw [q]; exact nxd
          · rw [List.mem_singleton.mp q]; refine ⟨?_, ?_, ?_, ?_, ?_⟩ <;> decide +kernel
      · rw [List.length_append, lss]; simp only [List.length_cons, List.length_nil]; omega
    have nx5 : ∀ {e : PyData}, layE e = true → e.depth ≤ 20 → e.showable = true → e.intsShort 13 = true → e.weight ≤ 100000 → OkD e := fun h1 h2 h3 h4 h5 => ⟨h1, h2, h3, h4, h5⟩
    have g3 : ThgOk K J23 (.ref T3) := ⟨T3, .non, .none, .non, rfl, .of (aJ23 _ _ (aJ22 _ _ (aJ21 _ _ (aJ20 _ _ (aJ19 _ _ (aJ18 _ _ (aJ17 _ _ (aJ16 _ _ (aJ15 _ _ hJ14))))))))), .non, (nx5 (by decide +kernel) (by decide +kernel) (by decide +kernel) (by decide +kernel) (by decide +kernel)), .inl ⟨rfl, rfl⟩⟩
    have g4 : ThgOk K J23 (.ref T4) := ⟨T4, .ref e4, .dict [], .non, rfl, .of (aJ23 _ _ (aJ22 _ _ (aJ21 _ _ (aJ20 _ _ (aJ19 _ _ (aJ18 _ _ (aJ17 _ _ hJ16))))))), .emp (aJ23 _ _ (aJ22 _ _ (aJ21 _ _ (aJ20 _ _ (aJ19 _ _ (aJ18 _ _ (aJ17 _ _ (aJ16 _ _ hJ15)))))))), (nx5 (by decide +kernel) (by decide +kernel) (by decide +kernel) (by decide +kernel) (by decide +kernel)), .inl ⟨rfl, rfl⟩⟩
    have g5 : ThgOk K J23 (.ref T5) := ⟨T5, .str "push", .str "push", .non, rfl, .of (aJ23 _ _ (aJ22 _ _ (aJ21 _ _ (aJ20 _ _ (aJ19 _ _ (aJ18 _ _ hJ17)))))), .str _, (nx5 (by decide +kernel) (by decide +kernel) (by decide +kernel) (by decide +kernel) (by decide +kernel)), .inl ⟨rfl, rfl⟩⟩
    have g6 : ThgOk K J23 (.ref T6) := by
      have n1 : NX 2 20 (.tuple [.str "push", .str "a", .str "b"]) := ⟨by decide +kernel, by decide +kernel, by decide +kernel, by decide +kernel, by decide +kernel⟩
      refine ⟨T6, .ref x6, .list (List.replicate 1001 (.tuple [.str "push", .str "a", .str "b"])), .non, rfl, .of (aJ23 _ _ (aJ22 _ _ hJ21)), .lst (.of (aJ23 _ _ (aJ22 _ _ (aJ21 _ _ hJ20)))) (DpXs.rep (.tup (.of (aJ23 _ _ (aJ22 _ _ (aJ21 _ _ (aJ20 _ _ (aJ19 _ _ hJ18)))))) (.cons (.str _) (.cons (.str _) (.cons (.str _) .nil)))) 1001), (nx_list (k := 2) (B := 20) fun z mz => ?_).mono (by decide) (by rw [List.length_replicate]; decide), .inl ⟨by show decide ((List.replicate 1001 (PyData.tuple [.str "push", .str "a", .str "b"])).length ≤ 1000) = false; rw [List.length_replicate]; rfl, rfl⟩⟩
      rw [List.eq_of_mem_replicate mz]
      exact n1
    have all : ∀ x ∈ ([.ref T1, .ref T2] ++ [.ref T3, .ref T4, .ref T5, .ref T6] : List V), ThgOk K J23 x := fun x mx => by
      have q : x = .ref T1 ∨ x = .ref T2 ∨ x = .ref T3 ∨ x = .ref T4 ∨ x = .ref T5 ∨ x = .ref T6 := by simpa using mx
      rcases q with rfl | rfl | rfl | rfl | rfl | rfl
      · exact g1
      · exact g2
      · exact g3
      · exact g4
      · exact g5
      · exact g6
    generalize ([.ref T1, .ref T2] ++ [.ref T3, .ref T4, .ref T5, .ref T6] : List V) = thg at all hJ23
    have s0J := s0D.trans sJ
    refine ⟨4, rfl, by decide, by decide, for_range (lo := 0) (n := 4) (fun j σ HX => ∃ (z10 z11 z12 : Option V), σ = [some (.ref a), some (.int (0 + (i : Nat))), some (.ref p), some (.ref n), some (.ref l), some (.ref t), some (.int (m : Int)), some (.ref L3), some v, some (.ref M3), z10, z11, z12] ∧ Same J23 HX) ⟨_, _, _, rfl, Same.refl _⟩ ?_ ?_⟩
    · rintro j σ HX hj ⟨z10, z11, z12, rfl, sx⟩
      refine ⟨_, rfl, M3, rfl, ⟨_, .of (sx _ _ hJ23)⟩, for_list (K := K) (a := M3) (xs := thg) (fun jj σ HY => ∃ (z11 z12 : Option V), σ = [some (.ref a), some (.int (0 + (i : Nat))), some (.ref p), some (.ref n), some (.ref l), some (.ref t), some (.int (m : Int)), some (.ref L3), some v, some (.ref M3), some (.int (0 + (j : Nat))), z11, z12] ∧ Same J23 HY) ⟨_, _, rfl, sx⟩ (fun jj σ HY _ q => ?_) ?_ ?_⟩
      · obtain ⟨_, _, _, sy⟩ := q
        exact .of (sy _ _ hJ23)
      · rintro jj x σ HY hx ⟨z11, z12, rfl, sy⟩
        obtain ⟨t', v', d', r', rfl, c1, c2, c3, c4⟩ := (all x (List.mem_of_getElem? hx)).same sy
        obtain ⟨e', f1, f2, f3⟩ := told_eq (K := K) c4
        refine ⟨t', _, rfl, c1, rfl, _, _, rfl, _, _, rfl, rfl, ?_⟩
        refine ⟨_, rfl, _, rfl, 0 + (j : Nat), v', d', r', rfl, c2, c3, c4, fun L HZ sZ hL => ⟨_, rfl, (by show 2 ≤ sizeLine; decide), fun M hM => ⟨.list [.str "steps", e'], .list [.str "steps", e'], .lst (.of (Same.new hM _ _ hL)) (.cons (.str _) (.cons (f1 _) .nil)), .lst (.of upd_same) (.cons (.str _) (.cons (f1 _) .nil)), f2, f2, _, rfl, ?_⟩⟩⟩
        rw [f3]
        exact iteF ⟨_, _, rfl, (sy.trans sZ).trans (Same.new hM)⟩
      · rintro σ HY ⟨z11, z12, rfl, sy⟩
        exact ⟨_, _, _, rfl, sy⟩
    · rintro σ HX ⟨z10, z11, z12, rfl, sx⟩
      exact ⟨_, _, _, _, _, _, _, _, _, _, _, _, rfl, s0J.trans sx⟩
end
end SE
namespace SE
open PySem PySem.Spec PyProof.Rows L2
section
/-! ### what the top has left -/
theorem scI_InvalidSteps : FnScope ["self", "index"] ["self", "index"] (defScope (inClass sInvalidsteps 0)) := ⟨rfl, rfl, rfl, by decide +kernel, rfl, by decide +kernel, by decide +kernel⟩
theorem def_mk {K : PySem.W.Frag} {h : Heap} {mg : Str → Option Value} {x : Str} {st : Stmt} {f : Addr} {oc : Value} {od an : Option Addr} {osl : Array (Option Value)} {kV doc pm cdv ct : Value} (X : K.In h) (G : h.Ns mainGlobals mg)
    (a : PySem.W.nsIn K mainGlobals x = some (some (.ref f))) (l : K.lookup f = some ⟨oc, od, .func (PySem.W.fnOf x x (defArgs st) (defBody st) (defScope st) .none kV doc pm an cdv ct), osl⟩)
    (c : PySem.W.codeIn K cdv x = true) (k : PySem.W.keepIn K (.ref f) = true) : Def K mg x st := ⟨f, _, fun_mk l c k, PySem.W.mg_of X G a⟩
theorem kit_below {K : PySem.W.Frag} {C S : Addr} (h1 : PySem.W.subIn K (.ref C) (.ref S) = some true) (h2 : PySem.W.typeIn K (.ref S) = some (.type "type")) (h3 : PySem.W.hasDictIn K S = true) : PySem.W.kitOne K (.ref C) (.ref S) = some true := by
  obtain ⟨cd, hc, _⟩ := PySem.W.any_some h3
  unfold PySem.W.kitOne
  split
  · rfl
  · show (if ((PySem.W.clsIn K S).isSome && PySem.W.typeIn K (.ref S) == some (.type "type")) = true then PySem.W.subIn K (.ref C) (.ref S) else none) = some true
    rw [if_pos (by rw [hc, h2]; rfl)]
    exact h1
theorem all_mk {l : PySem.W.OpenLaw} {w : World} {K : PySem.W.Frag} {h : Heap} {mg : Str → Option Value} {fa fL D S CX0 gX0 NX0 : Addr} {tk1 tk2 tk3 : Tok} (X : K.In h) (G : h.Ns mainGlobals mg) (hfa : mg "law" = some (.ref fa))
    {es : Array DictEntry} {n : Nat} {uP uQ : Value}
    {nmX0 qX0 : Str} {bsX0 : List Value} {snX0 : List Str} {subX0 : List Value} {abX0 : Bool} {colX0 : Option Bool} {ddX0 odX0 anX0 : Option Addr} {m0X0 m1X0 m2X0 m3X0 m5X0 : Option Value} {slX0 : Array (Option Value)} {ocX0 kVX0 dcX0 pmX0 cdX0 ctX0 : Value}
    {odL anL : Option Addr} {slL : Array (Option Value)} {ocL kVL dcL pmL cdL ctL : Value}
    (d_is_item : Def K mg "is_item" sIsItem)
    (d_is_step : Def K mg "is_step" sIsStep)
    (d_may_hold_steps : Def K mg "may_hold_steps" sMayHold)
    (d_is_named_step : Def K mg "is_named_step" sIsNamedStep)
    (d_check_named_steps : Def K mg "check_named_steps" sCheckNamedSteps)
    (d_split : Def K mg "split" sSplit)
    (d_effects_of : Def K mg "effects_of" sEffectsOf)
    (d_run_all : Def K mg "run_all" sRunAll)
    (d_interleavings : Def K mg "interleavings" sInterleavings)
    (d__law_pool : Def K mg "_law_pool" sPool)
    (d__law_take : Def K mg "_law_take" sTake)
    (d__law_name : Def K mg "_law_name" sName)
    (d__law_items : Def K mg "_law_items" sItems)
    (d__law_steps : Def K mg "_law_steps" sSteps)
    (d__law_named : Def K mg "_law_named" sLawNamed)
    (d__law_parts : Def K mg "_law_parts" sLawParts)
    (d__law_told : Def K mg "_law_told" sLawTold)
    (d__law_right : Def K mg "_law_right" sRight)
    (z_isinstance : PySem.W.nsIn K mainGlobals "isinstance" = some none)
    (z_str : PySem.W.nsIn K mainGlobals "str" = some none)
    (z_len : PySem.W.nsIn K mainGlobals "len" = some none)
    (z_all : PySem.W.nsIn K mainGlobals "all" = some none)
    (z_tuple : PySem.W.nsIn K mainGlobals "tuple" = some none)
    (z_list : PySem.W.nsIn K mainGlobals "list" = some none)
    (z_enumerate : PySem.W.nsIn K mainGlobals "enumerate" = some none)
    (z_range : PySem.W.nsIn K mainGlobals "range" = some none)
    (z_abs : PySem.W.nsIn K mainGlobals "abs" = some none)
    (z_int : PySem.W.nsIn K mainGlobals "int" = some none)
    (z_max : PySem.W.nsIn K mainGlobals "max" = some none)
    (z_min : PySem.W.nsIn K mainGlobals "min" = some none)
    (z_repr : PySem.W.nsIn K mainGlobals "repr" = some none)
    (cL : PySem.W.nsIn K mainGlobals "LETTERS" = some (some (.str abc tk1)))
    (cM : PySem.W.nsIn K mainGlobals "MOST_LETTERS" = some (some (.int 8 tk2)))
    (cS : PySem.W.nsIn K mainGlobals "MOST_STEPS" = some (some (.int 1000 tk3)))
    (cO : PySem.W.nsIn K mainGlobals "OPPOSITES" = some (some (.ref D)))
    (lO : K.lookup D = some ⟨.type "dict", none, .dict es n, #[]⟩)
    (kO : PySem.W.KeysLit w.params es.toList)
    (wO : (D == sysModules) = false)
    (pO : PySem.W.nsIn K D "push" = some (some uP))
    (qO : PySem.W.nsIn K D "pop" = some (some uQ))
    (rP : RelV (.str "pop") uP)
    (rQ : RelV (.str "push") uQ)
    (oK : OppKeys es.toList)
    (aS : PySem.W.nsIn K mainGlobals "StackError" = some (some (.ref S)))
    (tS : PySem.W.typeIn K (.ref S) = some (.type "type"))
    (hS : PySem.W.hasDictIn K S = true)
    (cg : PySem.W.specialIn K (.builtin "object.__class__") "__get__" = some (some (.builtin "getset_descriptor.__get__")))
    (ct : PySem.W.takesIn K (.builtin "object.__class__") = some true)
    (aX0 : PySem.W.nsIn K mainGlobals "InvalidSteps" = some (some (.ref CX0)))
    (xX0 : K.lookup CX0 = some (excClassObj nmX0 qX0 CX0 NX0 bsX0 [.ref S, .type "ValueError", .type "Exception", .type "BaseException", .type "object"] true snX0 subX0 abX0 colX0 ddX0 m0X0 m1X0 m2X0 m3X0 m5X0 "ValueError.__new__"))
    (saX0 : PySem.W.findIn K (.ref CX0) "__setattr__" = some (some (.builtin "object.__setattr__")))
    (gaX0 : PySem.W.findIn K (.ref CX0) "__getattribute__" = some (some (.builtin "BaseException.__getattribute__")))
    (ggX0 : PySem.W.findIn K (.ref CX0) "__getattr__" = some none)
    (nfX0 : PySem.W.findIn K (.ref CX0) "index" = some none)
    (iiX0 : PySem.W.findIn K (.ref CX0) "__init__" = some (some (.ref gX0)))
    (tiX0 : PySem.W.typeIn K (.ref gX0) = some (.type "function"))
    (lX0 : K.lookup gX0 = some ⟨ocX0, odX0, .func (PySem.W.fnOf "__init__" "InvalidSteps.__init__" (defArgs (inClass sInvalidsteps 0)) (defBody (inClass sInvalidsteps 0)) (defScope (inClass sInvalidsteps 0)) .none kVX0 dcX0 pmX0 anX0 cdX0 ctX0), slX0⟩)
    (cX0 : PySem.W.codeIn K cdX0 "InvalidSteps.__init__" = true)
    (kX0 : PySem.W.keepIn K (.ref gX0) = true)
    (kCX0 : PySem.W.keepIn K (.ref CX0) = true)
    (eCX0 : PySem.W.subIn K (.ref CX0) (.type "BaseException") = some true)
    (tCX0 : PySem.W.typeIn K (.ref CX0) = some (.type "type"))
    (hCX0 : PySem.W.hasDictIn K CX0 = true)
    (sCX0 : PySem.W.subIn K (.ref CX0) (.ref CX0) = some true)
    (sSX0 : PySem.W.subIn K (.ref CX0) (.ref S) = some true)
    (ccX0 : PySem.W.findIn K (.ref CX0) "__class__" = some (some (.builtin "object.__class__")))
    (moX0 : PySem.W.mroIn K CX0 (.type "object") = some true)
    (aL : PySem.W.nsIn K mainGlobals "law" = some (some (.ref fL)))
    (lL : K.lookup fL = some ⟨ocL, odL, .func (PySem.W.fnOf "law" "law" (defArgs sLaw) (defBody sLaw) (defScope sLaw) .none kVL dcL pmL anL cdL ctL), slL⟩)
    (ckL : PySem.W.codeIn K cdL "law" = true)
    (kL : PySem.W.keepIn K (.ref fL) = true) :
    ∃ fd : FuncData, (∀ (s : Shared) (v : Value), BindsTo s fd ⟨[v], []⟩ [("_law_script", v)]) ∧ ∀ base : Heap, K.In base → base.Ns mainGlobals mg → GOk l.prog w K mg base 8 fa fd ["_law_script"] (spLaw K) := by
  have e := hfa.symm.trans (PySem.W.mg_of X G aL)
  cases e
  have F := fun_mk (st := sLaw) lL ckL kL
  have m_isinstance : mg "isinstance" = none := PySem.W.mg_none_of X G z_isinstance
  have m_str : mg "str" = none := PySem.W.mg_none_of X G z_str
  have m_len : mg "len" = none := PySem.W.mg_none_of X G z_len
  have m_all : mg "all" = none := PySem.W.mg_none_of X G z_all
  have m_tuple : mg "tuple" = none := PySem.W.mg_none_of X G z_tuple
  have m_list : mg "list" = none := PySem.W.mg_none_of X G z_list
  have m_enumerate : mg "enumerate" = none := PySem.W.mg_none_of X G z_enumerate
  have m_range : mg "range" = none := PySem.W.mg_none_of X G z_range
  have m_abs : mg "abs" = none := PySem.W.mg_none_of X G z_abs
  have m_int : mg "int" = none := PySem.W.mg_none_of X G z_int
  have m_max : mg "max" = none := PySem.W.mg_none_of X G z_max
  have m_min : mg "min" = none := PySem.W.mg_none_of X G z_min
  have m_repr : mg "repr" = none := PySem.W.mg_none_of X G z_repr
  have B : Blt mg := ⟨m_isinstance, m_str, m_len, m_all, m_tuple, m_list, m_enumerate⟩
  refine ⟨PySem.W.fnOf "law" "law" (defArgs sLaw) (defBody sLaw) (defScope sLaw) .none kVL dcL pmL anL cdL ctL, fun s v => .of_eq rfl, fun base _ _ => ?_⟩
  have gS := PySem.W.mg_of X G aS
  have oeX0 : OexC K CX0 := ⟨⟨_, _, _, _, _, _, _, _, _, _, _, _, _, _, _, xX0, rfl⟩, saX0, eCX0, tCX0, kCX0⟩
  have FX0 := fun_mk (st := inClass sInvalidsteps 0) lX0 cX0 kX0
  have TX0 : XcC l.prog w K mg base "InvalidSteps" "index" CX0 := ⟨oeX0, PySem.W.mg_of X G aX0, ⟨gX0, _, iiX0, tiX0, init_ok FX0 scI_InvalidSteps oeX0 nfX0 rfl (.inl rfl) (.inl rfl) (by decide) (by decide), FX0.binds (ps := ["self", "index"]) fun _ _ _ _ _ _ us hl => match us, hl with | [_, _], _ => rfl⟩, ⟨gaX0, ggX0, eCX0, hCX0⟩, nfX0, ccX0, cg, ct, moX0, PySem.W.exm_ref eCX0 hCX0 tCX0 sCX0⟩
  have kiX0 := kit_below sSX0 tS hS
  have Co := (⟨⟨_, PySem.W.mg_of X G cL⟩, ⟨_, PySem.W.mg_of X G cM⟩, ⟨_, PySem.W.mg_of X G cS⟩, ⟨D, es, n, uP, uQ, PySem.W.mg_of X G cO, ⟨lO, kO, wO⟩, pO, rP, qO, rQ⟩⟩ : Cons K w mg)
  have O2 := (⟨D, es, n, uP, uQ, PySem.W.mg_of X G cO, ⟨lO, kO, wO⟩, pO, qO, oK⟩ : Opp2 K w mg)
  have gTake := has_take (P := l.prog) (w := w) (base := base) d__law_take
  have gPool := has_pool (P := l.prog) (w := w) (base := base) d__law_pool m_len m_abs m_int
  have gName := has_name d__law_name gTake m_range
  have gItems := has_items d__law_items gName m_range
  have gSt := has_steps d__law_steps gTake m_range m_len
  have gItem := has_isItem (P := l.prog) (w := w) (base := base) d_is_item B Co
  have gIsStep := has_isStep d_is_step gItem B Co
  have gMay := has_may (P := l.prog) (w := w) (base := base) d_may_hold_steps B Co
  have gIn := has_isN d_is_named_step gItem gIsStep B
  have gCn := has_chkN d_check_named_steps gMay gIn B
  have gSp := has_split d_split gCn
  have gNm := has_named d__law_named gTake gSt m_len
  have gPa := has_parts (P := l.prog) (w := w) (base := base) d__law_parts
  have gRi := has_right d__law_right gPa gSp B m_repr m_range
  have gItX := has_itemX (P := l.prog) (w := w) (base := base) d_is_item B Co
  have gStX := has_stepX d_is_step gItX B O2
  have gMyX := has_mayX (P := l.prog) (w := w) (base := base) d_may_hold_steps B Co
  have gInX := has_isNX d_is_named_step gItX gStX B
  have gCX := hasX_chkN d_check_named_steps gMyX gInX TX0 B
  have gSX := hasX_split d_split gCX
  have gEX := hasX_effs d_effects_of gSX
  have gIX := hasX_ilv d_interleavings gSX
  have gRX := hasX_rall d_run_all gSX
  have gTo := has_told d__law_told TX0 gSX gEX gRX gIX
  exact ok_law F gPool gTake gItems gNm gRi gSp gTo B m_range m_max m_min
end
end SE
open PySem PySem.W PyProof.Rows
set_option maxHeartbeats 0 in
theorem PySem.Challenge.cw_stackeffect_k50_steps_of_several_stacks_holds : PySem.Challenge.rw_stackeffect_k50_steps_of_several_stacks.Holds := by
  w_on; o_law; k_head; (case hw => w_witness2)
  k_fill
  refine SE.walkG (l := PySem.Challenge.rw_stackeffect_k50_steps_of_several_stacks) (n := 63) (k := 8) (x := "_law_script") (sp := SE.spLaw) rfl (by decide) rfl ⟨rfl, by decide, by decide⟩ (fun w h Y => PySem.W.kIn_of Y) ?F (fun _ _ a ns hl hS => ⟨a, ns, rfl, hS, hl, fun _ => rfl⟩)
  case F =>
    intro w mg fa h KX G hmg
    refine' SE.all_mk KX G hmg ?d_is_item ?d_is_step ?d_may_hold_steps ?d_is_named_step ?d_check_named_steps ?d_split ?d_effects_of ?d_run_all ?d_interleavings ?d__law_pool ?d__law_take ?d__law_name ?d__law_items ?d__law_steps ?d__law_named ?d__law_parts ?d__law_told ?d__law_right ?z_isinstance ?z_str ?z_len ?z_all ?z_tuple ?z_list ?z_enumerate ?z_range ?z_abs ?z_int ?z_max ?z_min ?z_repr ?cL ?cM ?cS ?cO ?lO ?kO ?wO ?pO ?qO ?rP ?rQ ?oK ?aS ?tS ?hS ?cg ?ct ?aX0 ?xX0 ?saX0 ?gaX0 ?ggX0 ?nfX0 ?iiX0 ?tiX0 ?lX0 ?cX0 ?kX0 ?kCX0 ?eCX0 ?tCX0 ?hCX0 ?sCX0 ?sSX0 ?ccX0 ?moX0 ?aL ?lL ?ckL ?kL
    (case d_is_item => refine' SE.def_mk KX G ?a ?l ?c ?k; (case a => k_is); (case l => k_is); (case c => k_is); (case k => k_is))
    (case d_is_step => refine' SE.def_mk KX G ?a ?l ?c ?k; (case a => k_is); (case l => k_is); (case c => k_is); (case k => k_is))
    (case d_may_hold_steps => refine' SE.def_mk KX G ?a ?l ?c ?k; (case a => k_is); (case l => k_is); (case c => k_is); (case k => k_is))
    (case d_is_named_step => refine' SE.def_mk KX G ?a ?l ?c ?k; (case a => k_is); (case l => k_is); (case c => k_is); (case k => k_is))
    (case d_check_named_steps => refine' SE.def_mk KX G ?a ?l ?c ?k; (case a => k_is); (case l => k_is); (case c => k_is); (case k => k_is))
    (case d_split => refine' SE.def_mk KX G ?a ?l ?c ?k; (case a => k_is); (case l => k_is); (case c => k_is); (case k => k_is))
    (case d_effects_of => refine' SE.def_mk KX G ?a ?l ?c ?k; (case a => k_is); (case l => k_is); (case c => k_is); (case k => k_is))
    (case d_run_all => refine' SE.def_mk KX G ?a ?l ?c ?k; (case a => k_is); (case l => k_is); (case c => k_is); (case k => k_is))
    (case d_interleavings => refine' SE.def_mk KX G ?a ?l ?c ?k; (case a => k_is); (case l => k_is); (case c => k_is); (case k => k_is))
    (case d__law_pool => refine' SE.def_mk KX G ?a ?l ?c ?k; (case a => k_is); (case l => k_is); (case c => k_is); (case k => k_is))
    (case d__law_take => refine' SE.def_mk KX G ?a ?l ?c ?k; (case a => k_is); (case l => k_is); (case c => k_is); (case k => k_is))
    (case d__law_name => refine' SE.def_mk KX G ?a ?l ?c ?k; (case a => k_is); (case l => k_is); (case c => k_is); (case k => k_is))
    (case d__law_items => refine' SE.def_mk KX G ?a ?l ?c ?k; (case a => k_is); (case l => k_is); (case c => k_is); (case k => k_is))
    (case d__law_steps => refine' SE.def_mk KX G ?a ?l ?c ?k; (case a => k_is); (case l => k_is); (case c => k_is); (case k => k_is))
    (case d__law_named => refine' SE.def_mk KX G ?a ?l ?c ?k; (case a => k_is); (case l => k_is); (case c => k_is); (case k => k_is))
    (case d__law_parts => refine' SE.def_mk KX G ?a ?l ?c ?k; (case a => k_is); (case l => k_is); (case c => k_is); (case k => k_is))
    (case d__law_told => refine' SE.def_mk KX G ?a ?l ?c ?k; (case a => k_is); (case l => k_is); (case c => k_is); (case k => k_is))
    (case d__law_right => refine' SE.def_mk KX G ?a ?l ?c ?k; (case a => k_is); (case l => k_is); (case c => k_is); (case k => k_is))
    (case z_isinstance => k_is)
    (case z_str => k_is)
    (case z_len => k_is)
    (case z_all => k_is)
    (case z_tuple => k_is)
    (case z_list => k_is)
    (case z_enumerate => k_is)
    (case z_range => k_is)
    (case z_abs => k_is)
    (case z_int => k_is)
    (case z_max => k_is)
    (case z_min => k_is)
    (case z_repr => k_is)
    (case cL => k_is)
    (case cM => k_is)
    (case cS => k_is)
    (case cO => k_is)
    (case lO => k_is)
    (case kO => exact ⟨⟨_, _, rfl, rfl⟩, ⟨_, _, rfl, rfl⟩, trivial⟩)
    (case wO => rfl)
    (case pO => k_is)
    (case qO => k_is)
    (case rP => exact ⟨_, rfl⟩)
    (case rQ => exact ⟨_, rfl⟩)
    (case oK => exact ⟨⟨_, _, rfl, .inl rfl⟩, ⟨_, _, rfl, .inr rfl⟩, trivial⟩)
    (case aS => k_is)
    (case tS => k_is)
    (case hS => k_is)
    (case cg => k_is)
    (case ct => k_is)
    (case aX0 => k_is)
    (case xX0 => k_is)
    (case saX0 => k_is)
    (case gaX0 => k_is)
    (case ggX0 => k_is)
    (case nfX0 => k_is)
    (case iiX0 => k_is)
    (case tiX0 => k_is)
    (case lX0 => k_is)
    (case cX0 => k_is)
    (case kX0 => k_is)
    (case kCX0 => k_is)
    (case eCX0 => k_is)
    (case tCX0 => k_is)
    (case hCX0 => k_is)
    (case sCX0 => first | rfl | k_is)
    (case sSX0 => first | rfl | k_is)
    (case ccX0 => k_is)
    (case moX0 => k_is)
    (case aL => k_is)
    (case lL => k_is)
    (case ckL => k_is)
    (case kL => k_is)
