import PyProof.Rows.All
import Wide.All
import OpenK.AllK
import Wide.FinOn
import PyProof.EqAt
import PyProof.EqKinds
import PyProof.TupleCall
import HandS.Base
import HandS.Call
import HandS.List
import HandS.Ends
import HandS.Words
import HandS.Comp
import HandS.Dict
import HandS.Iter
import HandS.Text
import HandS.WordsList
import HandS.Defaults
import PyProof.EnumMake
import PyProof.Draws
import KE.GoesMore
import KE.KRevSl
import PyProof.ReprLen
import PyProof.ReprText
import HandS.More
import HandS.Evl
import HandS.Walk
import HandS.IsInst
import HandS.TupAny
import HandS.Style
import HandS.TupMul
import HandS.Strs
import HandS.Set
import HandS.GenBody
import HandS.GenYield
import HandS.GenCall
import HandS.GenList
import PyProof.GenComp
import HandS.Property
import HandS.ClsMeth
import HandS.MakeKwOnly
import PyProof.InstEq
import KE.KFmtOwn
import HandS.OwnEq
import HandS.FStr
import KE.KAssignIn
import HandS.DictComp
import HandS.SetKeys
import KE.KEqDict
import HandS.DictSubView
import PyProof.DictWalks
import HandS.Flow
import PySem.Challenge.RW_stackeffect_k20_roots
set_option Elab.async false
set_option linter.all false
set_option maxRecDepth 100000
set_option maxHeartbeats 4000000
/-! Defs called where no repr is under way: their promise (GOk), their call, the law's head, and repr of plain data. -/
namespace SE
open PySem PySem.Spec PyProof.Rows L2

/-- the promise of a def whose caller has no repr under way -/
structure GOk (P : Program) (w : World) (K : PySem.W.Frag) (mg : Str → Option Value) (base : Heap) (k : Nat) (f : Addr) (fd : FuncData) (ps : List Str) (sp : Sp) : Prop where
  len : ∀ xs H Q E, sp xs H Q E → xs.length = ps.length
  run : ∀ (A : Around) (out : List Env) (s : Shared) (H : Hp) (args : Args) (us : List Value) (xs : List V) (Q : VK) (E : XK), A.guards = some [] → Room k A → Env0 P w K mg base A out s H →
    BindsTo s fd args (ps.zip us) → Vals xs us → sp xs H Q E → codeAny (model P w) A (.call (.ref f) args) (CR (fun _ _ _ _ _ _ => False) out P w H s Q E) s

section
variable {P : Program} {w : World} {K : PySem.W.Frag} {mg : Str → Option Value} {base : Heap}
theorem gok_of {k : Nat} {f : Addr} {nm ql : Str} {pars : Arguments} {bd : List Stmt} {sc : Scope} {dV kV doc pm cv ct oc : Value} {an od : Option Addr}
    {osl : Array (Option Value)} {N ps : List Str} {sp : Sp} (look : K.lookup f = some ⟨oc, od, .func (PySem.W.fnOf nm ql pars bd sc dV kV doc pm an cv ct), osl⟩) (hcode : PySem.W.codeIn K cv ql = true) (S : FnScope N ps sc)
    (len : ∀ xs H Q E, sp xs H Q E → xs.length = ps.length)
    (hbd : ∀ (A : Around) (out : List Env) (s : Shared) (H : Hp) (xs : List V) (Q : VK) (E : XK), A.guards = some [] → Room k (A.deeper (envOfC ql sc s.heap.objs.size f cv)) → sp xs H Q E →
      ∃ t, PSs (cxOf (fun _ _ _ _ _ _ => False) P w K mg base N ql sc f cv A out s H E) bd t ∧ t { nx := fun _ H2 => Q .non H2, rt := Q } (start N xs) H) :
    GOk P w K mg base (k + 1) f (PySem.W.fnOf nm ql pars bd sc dV kV doc pm an cv ct) ps sp := by
  constructor
  · exact len
  intro A out s H args us xs Q E hgu hroom env hbind hvals hpre
  have hlen := len _ _ _ _ hpre
  have kin : K.In s.heap := env.mod.kin.keeps fun b o z => (env.bs b o z).1
  have nolim : s.heap.NoLimit := env.mod.nolimit.keeps fun b o z => (env.bs b o z).1
  have kinds : ∀ y ∈ ps.zip us, sc.names.lookup y.1 = some .local ∨ (sc.names.lookup y.1 = some .cell ∧ ((cellsFrom (s.heap.objs.size + 1) sc.names []).lookup y.1).isSome = true) := by
    rintro ⟨n, v⟩ hy
    rcases S.par n (List.of_mem_zip hy).1 with q | q
    · exact .inl q
    · exact .inr ⟨q, PySem.W.cellsFrom_some _ _ _ (.inl q)⟩
  apply codeAny_call_function hroom.depth (kin _ _ look) rfl S.co S.gen rfl (PySem.W.codeRec_of kin hcode)
  apply hbind
  refine wpAny_newFunctionEnv_cells S.kind kinds fun ev hev s2 inc => ?_
  subst hev
  refine ⟨nolim.keeps inc.toInCall.keep, codeAny_func ?_⟩
  obtain ⟨t, der, rd⟩ := hbd A out s H xs Q E hgu (hroom.deeper _) hpre
  have J0 : Inv (cxOf (fun _ _ _ _ _ _ => False) P w K mg base N ql sc f cv A out s H E) [] (start N xs) H s2 := inv_start S hroom.hd env hlen hvals inc
  refine wpAny_mono (der.run [] s2 (start N xs) H _ J0 rd) (fun fl s3 hs => ?_) fun e s3 hs => hs
  cases fl with
  | ret u =>
    obtain ⟨v, σ3, H3, J, rv, q⟩ := hs
    exact ⟨v, H3, J.os, J.bare, J.base, J.hok, rv, q⟩
  | next =>
    obtain ⟨σ3, H3, J, q⟩ := hs
    exact ⟨V.non, H3, J.os, J.bare, J.base, J.hok, rfl, q⟩
  | brk => exact hs.elim fun _ z => z.elim fun _ z => z.2.elim
  | cont => exact hs.elim fun _ z => z.elim fun _ z => z.2.elim
theorem gok_mk {x ql : Str} {st : Stmt} {f : Addr} {fd : FuncData} {N ps : List Str} {k : Nat} {sp : Sp} (F : Fun K x ql st f fd) (S : FnScope N ps (defScope st)) (len : ∀ xs H Q E, sp xs H Q E → xs.length = ps.length)
    (hbd : ∀ (cv : Value) (A : Around) (out : List Env) (s : Shared) (H : Hp) (xs : List V) (Q : VK) (E : XK), A.guards = some [] → Room k (A.deeper (envOfC ql (defScope st) s.heap.objs.size f cv)) → sp xs H Q E →
      ∃ t, PSs (cxOf CX0 P w K mg base N ql (defScope st) f cv A out s H E).nox (defBody st) t ∧ t { nx := fun _ H2 => Q .non H2, rt := Q } (start N xs) H) : GOk P w K mg base (k + 1) f fd ps sp := by
  obtain ⟨oc, od, kV, doc, pm, an, cv, ct, osl, rfl, look, hcode⟩ := F.ex
  refine gok_of look hcode S len fun A out s H xs Q E hgu hr hpre => ?_
  obtain ⟨t, a, b⟩ := hbd cv A out s H xs Q E hgu hr hpre
  exact ⟨t, a.nox, b⟩
end

section
variable {X : Cx} {k : Nat} {f : Addr} {fd : FuncData} {ps : List Str} {sp : Sp} {x : Str} {p pos : Pos} {e : Expr} {es : List Expr} {t : TA}
theorem pe_callG (F : GOk X.prog X.w X.K X.mg X.base k f fd ps sp) (hgu : X.A.guards = some []) (hr : Room k X.A) (hg : Gl X x) (hm : X.mg x = some (.ref f)) (hk : PySem.W.keepIn X.K (.ref f) = true) (hb : Binds X.K fd ps [])
    (ha : PA X (e :: es) t) (hdb : (x == ("__debug__" : Str)) = false := by decide) (he : starEach (e :: es) X.env = (false, eval e X.env) :: starEach es X.env := by rfl) (hpl : (backTo pos (starEach es X.env)).any (·.1) = false := by rfl) :
    PE X (.Call (.Name x p) (e :: es) [] pos) (tCall sp [] (fun _ _ _ => False) t) := by
  constructor
  intro pins s σ H Q I h
  apply wpAny_Call_Name_kw
  apply ld_glob I hg hm _ hdb
  refine PySem.W.callWith_K (h₀ := X.base) I.ok.mod.kin hk (thn (ha.run pos pins s σ H _ I h) fun us s1 hh => ?_) he hpl
  obtain ⟨xs, H1, I1, r, q⟩ := hh
  refine ⟨I1.kIn, ?_⟩
  have q' : sp xs H1 Q (fun _ _ _ => False) := by rw [List.append_nil] at q; exact q
  have hl : us.length = ps.length := by rw [← r.length]; exact F.len _ _ _ _ q'
  have hb' := hb s1 us I1.kIn (by rw [List.append_nil]; exact hl)
  rw [List.append_nil] at hb'
  refine wpAny_call (codeAny_mono (F.run X.A X.stack s1 H1 ⟨us, []⟩ us xs Q _ hgu hr I1.env0 hb' r q') fun r2 s2 hq => ?_)
  cases r2 with
  | error _ => exact hq.elim
  | ok fl =>
    cases fl with
    | ret _ => exact I1.after hq
    | next => exact hq.elim
    | brk => exact hq.elim
    | cont => exact hq.elim
end

section
variable {X : Cx}
/-- repr(x), x plain data -/
def rRep (K : PySem.W.Frag) : List V → Hp → VK → Prop := fun xs H Q => ∃ (x : V) (d : PyData), xs = [x] ∧ Dp K H x d ∧ (∃ a, x = .ref a) ∧ d.showable = true ∧ d.hasDict = false ∧ d.depth ≤ 20 ∧ d.shown.length ≤ sizeLine ∧ Q (.str d.shown) H
theorem call_rep (hgu : X.A.guards = some []) (hu : X.A.units + 64 < cLine) : CallR X (.builtin "repr") (rRep X.K) := by
  intro pins s σ H xs us Q I r h
  obtain ⟨x, d, rfl, hd, ⟨a, rfl⟩, hs, hn, hdep, hz, q⟩ := h
  cases r with
  | cons r1 r2 =>
    cases r2
    cases r1
    obtain ⟨as, rd⟩ := Dp.reads I d (.ref a) (.ref a) hd rfl
    refine repr_of_reads' rd hs (PyData.noDict_hsm hn) hgu (by omega) (fun _ _ z => z) (fun h' u tk hk => ?_) hz
    exact ⟨.str d.shown, H, I.kept (t' := tk) hk, ⟨_, rfl⟩, q⟩
end
/-! ### the law's head -/
theorem lawG {P : Program} {w : World} {K : PySem.W.Frag} {mg mb : Str → Option Value} {k : Nat} {fa a : Addr} {fd : FuncData} {x : Str} {sp : Sp} {s1 : Shared} {vs : List Value} {ns : List Int}
    (kin : K.In s1.heap) (hns : s1.heap.Ns mainGlobals mg) (hbn : s1.heap.Ns builtinsNs mb) (hbb : ∀ x : Str, x ≠ "__name__" → mb x = bootBuiltins x) (nolim : s1.heap.NoLimit) (hg : s1.gens = #[])
    (hobj : s1.heap.get? a = some { cls := .type "list", data := .seq vs.toArray }) (hi : IntsAre vs ns) (hz : ns.length ≤ sizeLine) (hr : Room k callerA)
    (F : ∀ base : Heap, K.In base → base.Ns mainGlobals mg → GOk P w K mg base k fa fd [x] sp) (hbind : ∀ (s : Shared) (u : Value), BindsTo s fd ⟨[u], []⟩ [(x, u)])
    (hsp : ∀ H : Hp, SqL K H a (ns.map V.int) → sp [.ref a] H (fun v _ => v = .bl true) fun _ _ _ => False) :
    codeAny (model P w) callerA (.call (.ref fa) ⟨[.ref a], []⟩) (fun r s2 => r = .ok (.ret (.bool true)) ∧ OldK s1.heap s2.heap ∧ s2.os = s1.os ∧ AllBare s2.gens) s1 := by
  have rel := vals_ints hi
  have same := hi.length
  have go : ∀ H : Hp, (∀ b u, H b = some u → b = a ∧ K.lookup a = none ∧ ∃ o xs, u = .frz o (.lst xs)) → SqL K H a (ns.map V.int) → HOk P w H s1.heap →
      codeAny (model P w) callerA (.call (.ref fa) ⟨[.ref a], []⟩) (fun r s2 => r = .ok (.ret (.bool true)) ∧ OldK s1.heap s2.heap ∧ s2.os = s1.os ∧ AllBare s2.gens) s1 := by
    intro H only hS hok
    have free : ∀ {b : Addr}, b ≠ a → H b = none := fun {b} hb => by
      cases q : H b with
      | none => rfl
      | some u => exact absurd (only b u q).1 hb
    have freeD : ∀ {b : Addr} {o : Obj} {es : Array DictEntry} {ep : Nat}, s1.heap.get? b = some o → o.data = .dict es ep → H b = none := fun {b o es ep} e d => by
      by_cases hb : b = a
      · subst hb
        rw [hobj] at e
        cases e
        cases d
      · exact free hb
    have ns2 : ∀ {b : Addr} {m : Str → Option Value}, s1.heap.Ns b m → (hidT s1.heap H).Ns b m := by
      rintro b m ⟨o, es, ep, e, d, r⟩
      exact ⟨o, es, ep, hidT_get e (freeD e d), d, r⟩
    have kin2 : K.In (hidT s1.heap H) := by
      intro b o e
      refine hidT_get (kin b o e) ?_
      cases q : H b with
      | none => rfl
      | some u =>
        obtain ⟨eb, nk, _⟩ := only b u q
        subst eb
        rw [nk] at e
        cases e
    have mod : Mod K mg (hidT s1.heap H) := by
      refine ⟨kin2, ns2 hns, ⟨mb, ns2 hbn, hbb⟩, ?_⟩
      obtain ⟨mc, h1, h2⟩ := nolim
      exact ⟨mc, ns2 h1, h2⟩
    have env : Env0 P w K mg (hidT s1.heap H) callerA [] s1 H :=
      ⟨rfl, mod, fun b o e => of_hidT e, Nat.le_of_eq (hidT_size _ _), trivial, fun b hb => (by cases (show b ∈ ([] : List Addr) from hb)), hok, .of_eq hg⟩
    have runs := (F _ kin2 (ns2 hns)).run callerA [] s1 H ⟨[.ref a], []⟩ [.ref a] [.ref a] (fun v _ => v = .bl true) (fun _ _ _ => False) rfl hr env (hbind s1 (.ref a)) (.cons rfl .nil) (hsp H hS)
    refine codeAny_mono runs fun r s2 h => ?_
    cases r with
    | error _ => exact h.elim
    | ok fl =>
      cases fl with
      | next => exact h.elim
      | brk => exact h.elim
      | cont => exact h.elim
      | ret u =>
        obtain ⟨v, H2, os, bare, un, hok2, r2, q⟩ := h
        have q2 : v = .bl true := q
        subst q2
        obtain rfl : u = Value.bool true := r2
        refine ⟨rfl, OldK.of_keep fun b o e => ?_, os, bare⟩
        cases z : H b with
        | none => exact un.keep b o e z (fun m => by cases (show b ∈ ([] : List Addr) from m)) (fun m => by cases m)
        | some u2 =>
          obtain ⟨_, _, ob, ys, eu⟩ := only b u2 z
          subst eu
          obtain ⟨e1, _⟩ := hok b _ z
          obtain ⟨e2, _⟩ := hok2 b _ (un.frzs b ob _ z)
          rw [e] at e1
          cases e1
          exact e2
  cases hk : K.lookup a with
  | some o =>
    have e := kin a o hk
    rw [hobj] at e
    cases e
    refine go (fun _ => none) (fun b u z => nomatch z) (.inr ⟨_, vs.toArray, _, hk, rfl, rfl, rfl, by rw [List.size_toArray, same]; exact hz, by simpa using rel⟩) (fun b u z => nomatch z)
  | none =>
    have at1 : ∀ {b : Addr} {u : HO}, (if b = a then some (HO.frz { cls := .type "list", data := .seq vs.toArray } (.lst (ns.map V.int))) else none) = some u → b = a ∧ u = .frz { cls := .type "list", data := .seq vs.toArray } (.lst (ns.map V.int)) := fun {b u} z => by
      by_cases hb : b = a
      · rw [if_pos hb] at z
        cases z
        exact ⟨hb, rfl⟩
      · rw [if_neg hb] at z
        cases z
    refine go (fun b => if b = a then some (.frz { cls := .type "list", data := .seq vs.toArray } (.lst (ns.map V.int))) else none) (fun b u z => ?_) (.inl (.inr ⟨{ cls := .type "list", data := .seq vs.toArray }, if_pos rfl⟩)) (fun b u z => ?_)
    · obtain ⟨e1, e2⟩ := at1 z
      exact ⟨e1, hk, _, _, e2⟩
    · obtain ⟨e1, e2⟩ := at1 z
      subst e1
      subst e2
      exact ⟨hobj, by rw [List.length_map]; exact hz, vs, _, rel, hobj⟩
theorem walkG {l : PySem.W.OpenLaw} {n k : Nat} {q : Program} {loose : List Str} {XP : (Str → Option Value) → Heap → Prop} {YP : World → Heap → Prop} {d : DefRec} {K : Params → PySem.W.Frag} {sp : PySem.W.Frag → Sp} {x : Str}
    (hn : l.most = some n) (hn2 : n ≤ sizeLine) (hdf : d.params.defaults = []) (hr : Room k callerA) (hY : ∀ (w : World) (h : Heap), YP w h → (K w.params).In h)
    (F : ∀ (w : World) (mg : Str → Option Value) (fa : Addr) (h : Heap), (K w.params).In h → h.Ns mainGlobals mg → mg d.name = some (.ref fa) →
      ∃ fd : FuncData, (∀ (s : Shared) (u : Value), BindsTo s fd ⟨[u], []⟩ [(x, u)]) ∧ ∀ base : Heap, (K w.params).In base → base.Ns mainGlobals mg → GOk l.prog w (K w.params) mg base k fa fd [x] (sp (K w.params)))
    (hsp : ∀ (K : PySem.W.Frag) (H : Hp) (a : Addr) (ns : List Int), ns.length ≤ n → SqL K H a (ns.map V.int) → sp K [.ref a] H (fun v _ => v = .bl true) fun _ _ _ => False) :
    PySem.W.WalkO q loose XP YP l.row.toRowW d [] (fun f vs => PySem.call f vs) := by
  apply Att.attach_call hn hdf
  intro w s0 s1 mg mb fa o pm cd doc a vs ns G Y ho hd hcd hmg hobj hints hlen hg
  have kin := hY w _ Y
  obtain ⟨fd, hb, hF⟩ := F w mg fa _ kin G.T.g hmg
  exact lawG kin G.T.g G.T.b G.T.builtins G.T.nolimit hg hobj hints (Nat.le_trans hlen hn2) hr hF hb fun H hS => hsp _ H a ns hlen hS
end SE
/-! Defs by their names. -/
namespace SE
open PySem PySem.Spec PyProof.Rows L2
section
variable {P : Program} {w : World} {K : PySem.W.Frag} {mg : Str → Option Value} {base : Heap}
/-- the def st stands under its name -/
def Def (K : PySem.W.Frag) (mg : Str → Option Value) (x : Str) (st : Stmt) : Prop := ∃ f fd, Fun K x x st f fd ∧ mg x = some (.ref f)
/-- a def that keeps the promise sp stands under the name x; dvs: the values of its defaults -/
def Has (P : Program) (w : World) (K : PySem.W.Frag) (mg : Str → Option Value) (base : Heap) (x : Str) (k : Nat) (ps : List Str) (dvs : List V) (sp : Sp) : Prop :=
  ∃ f fd ds, FnOk P w K mg base CX0 k f fd ps sp ∧ mg x = some (.ref f) ∧ PySem.W.keepIn K (.ref f) = true ∧ Binds K fd ps ds ∧ Vals dvs ds ∧ ∃ st, Fun K x x st f fd
def GHas (P : Program) (w : World) (K : PySem.W.Frag) (mg : Str → Option Value) (base : Heap) (x : Str) (k : Nat) (ps : List Str) (sp : Sp) : Prop :=
  ∃ f fd, GOk P w K mg base k f fd ps sp ∧ mg x = some (.ref f) ∧ PySem.W.keepIn K (.ref f) = true ∧ Binds K fd ps []
abbrev Bx (P : Program) (w : World) (K : PySem.W.Frag) (mg : Str → Option Value) (base : Heap) (N : List Str) (x : Str) (st : Stmt) (f : Addr) (cv : Value) (A : Around) (out : List Env) (s : Shared) (H : Hp) (E : XK) : Cx :=
  (cxOf CX0 P w K mg base N x (defScope st) f cv A out s H E).nox
theorem has_of {x : Str} {st : Stmt} {N ps : List Str} {k : Nat} {sp : Sp} (D : Def K mg x st) (S : FnScope N ps (defScope st))
    (hb : ∀ (kV doc pm : Value) (an : Option Addr) (cv ct : Value) (us : List Value), us.length = ps.length → bindArgs (PySem.W.fnOf x x (defArgs st) (defBody st) (defScope st) .none kV doc pm an cv ct) ⟨us, []⟩ = pure (ps.zip us))
    (len : ∀ xs H Q E, sp xs H Q E → xs.length = ps.length)
    (hbd : ∀ (f : Addr) (cv : Value) (A : Around) (out : List Env) (s : Shared) (H : Hp) (xs : List V) (Q : VK) (E : XK), Room k (A.deeper (envOfC x (defScope st) s.heap.objs.size f cv)) → sp xs H Q E →
      ∃ t, PSs (Bx P w K mg base N x st f cv A out s H E) (defBody st) t ∧ t { nx := fun _ H2 => Q .non H2, rt := Q } (start N xs) H) : Has P w K mg base x (k + 1) ps [] sp := by
  obtain ⟨f, fd, F, hm⟩ := D
  exact ⟨f, fd, [], F.ok S len fun cv A out s H xs Q E hr h => hbd f cv A out s H xs Q E hr h, hm, F.kp, F.binds hb, .nil, st, F⟩
theorem ghas_of {x : Str} {st : Stmt} {N ps : List Str} {k : Nat} {sp : Sp} (D : Def K mg x st) (S : FnScope N ps (defScope st))
    (hb : ∀ (kV doc pm : Value) (an : Option Addr) (cv ct : Value) (us : List Value), us.length = ps.length → bindArgs (PySem.W.fnOf x x (defArgs st) (defBody st) (defScope st) .none kV doc pm an cv ct) ⟨us, []⟩ = pure (ps.zip us))
    (len : ∀ xs H Q E, sp xs H Q E → xs.length = ps.length)
    (hbd : ∀ (f : Addr) (cv : Value) (A : Around) (out : List Env) (s : Shared) (H : Hp) (xs : List V) (Q : VK) (E : XK), A.guards = some [] → Room k (A.deeper (envOfC x (defScope st) s.heap.objs.size f cv)) → sp xs H Q E →
      ∃ t, PSs (Bx P w K mg base N x st f cv A out s H E) (defBody st) t ∧ t { nx := fun _ H2 => Q .non H2, rt := Q } (start N xs) H) : GHas P w K mg base x (k + 1) ps sp := by
  obtain ⟨f, fd, F, hm⟩ := D
  exact ⟨f, fd, gok_mk F S len fun cv A out s H xs Q E hg hr h => hbd f cv A out s H xs Q E hg hr h, hm, F.kp, F.binds hb⟩
theorem Has.mono {x : Str} {j k : Nat} {ps : List Str} {dvs : List V} {sp : Sp} (h : Has P w K mg base x j ps dvs sp) (hk : j ≤ k) : Has P w K mg base x k ps dvs sp := by
  obtain ⟨f, fd, ds, F, r⟩ := h
  exact ⟨f, fd, ds, F.mono hk, r⟩
theorem Has.fun {x : Str} {k : Nat} {ps : List Str} {dvs : List V} {sp : Sp} {st : Stmt} (h : Has P w K mg base x k ps dvs sp) (D : Def K mg x st) : ∃ f fd, FnOk P w K mg base CX0 k f fd ps sp ∧ mg x = some (.ref f) ∧ PySem.W.keepIn K (.ref f) = true ∧ Fun K x x st f fd := by
  obtain ⟨f, fd, ds, G, hm, hk, hb, hd, st2, F2⟩ := h
  obtain ⟨g, fe, F, hg⟩ := D
  have e : f = g := by
    rw [hm] at hg
    cases hg
    rfl
  subst e
  have e2 : fd = fe := by
    obtain ⟨_, _, _, _, _, _, _, _, _, _, l1, _⟩ := F.ex
    obtain ⟨_, _, _, _, _, _, _, _, _, _, l2, _⟩ := F2.ex
    rw [l1] at l2
    cases l2
    rfl
  subst e2
  exact ⟨f, fd, G, hm, hk, F⟩
end
section
variable {X : Cx} {k : Nat} {ps : List Str} {sp : Sp} {x : Str} {p pos : Pos} {e : Expr} {es : List Expr} {t : TA} {dvs : List V}
theorem pe_has (h : Has X.prog X.w X.K X.mg X.base x k ps dvs sp) (hr : Room k X.A) (ha : PA X (e :: es) t) (hg : Gl X x := by rfl) (hdb : (x == ("__debug__" : Str)) = false := by decide)
    (he : starEach (e :: es) X.env = (false, eval e X.env) :: starEach es X.env := by rfl) (hpl : (backTo pos (starEach es X.env)).any (·.1) = false := by rfl) : PE X (.Call (.Name x p) (e :: es) [] pos) (tCall sp dvs E0 t) := by
  obtain ⟨f, fd, ds, F, hm, hk, hb, hd, _⟩ := h
  exact pe_call F hr hg hm hk hb hd pass0 ha hdb he hpl
theorem pe_ghas (h : GHas X.prog X.w X.K X.mg X.base x k ps sp) (hgu : X.A.guards = some []) (hr : Room k X.A) (ha : PA X (e :: es) t) (hg : Gl X x := by rfl) (hdb : (x == ("__debug__" : Str)) = false := by decide)
    (he : starEach (e :: es) X.env = (false, eval e X.env) :: starEach es X.env := by rfl) (hpl : (backTo pos (starEach es X.env)).any (·.1) = false := by rfl) : PE X (.Call (.Name x p) (e :: es) [] pos) (tCall sp [] E0 t) := by
  obtain ⟨f, fd, F, hm, hk, hb⟩ := h
  exact pe_callG F hgu hr hg hm hk hb ha hdb he hpl
end
/-! ### heaps -/
theorem Same.tup {K : PySem.W.Frag} {H H' : Hp} {a : Addr} {xs : List V} (e : Same H H') (h : SqT K H a xs) : SqT K H' a xs := by
  rcases h with (h | ⟨o, h⟩) | h
  · exact .inl (.inl (e _ _ h))
  · exact .inl (.inr ⟨o, e _ _ h⟩)
  · exact .inr h
theorem Same.new {H : Hp} {p : Addr} {o : HO} (h : H p = none) : Same H (upd H p o) := fun b u z => by
  rw [upd_ne (ne_of_none z h)]
  exact z
/-- all but what stands at p -/
def But (p : Addr) (H H' : Hp) : Prop := ∀ b o, b ≠ p → H b = some o → H' b = some o
theorem But.refl (p : Addr) (H : Hp) : But p H H := fun _ _ _ h => h
theorem But.trans {p : Addr} {H H1 H2 : Hp} (a : But p H H1) (b : But p H1 H2) : But p H H2 := fun c o n h => b c o n (a c o n h)
theorem But.of {p : Addr} {H H1 : Hp} (a : Same H H1) : But p H H1 := fun c o _ h => a c o h
theorem But.at {p : Addr} {H : Hp} {o : HO} : But p H (upd H p o) := fun c u n h => by
  rw [upd_ne n]
  exact h
/-- what H does not know may change -/
theorem But.free {p q : Addr} {H H1 : Hp} {o : HO} (a : But p H H1) (h : H q = none) : But p H (upd H1 q o) := fun c u n z => by
  rw [upd_ne (ne_of_none z h)]
  exact a c u n z
theorem Same.free2 {q : Addr} {H H1 : Hp} {o : HO} (a : Same H H1) (h : H q = none) : Same H (upd H1 q o) := fun c u z => by
  rw [upd_ne (ne_of_none z h)]
  exact a c u z
theorem But.none {p q : Addr} {H H1 : Hp} (a : But p H H1) (n : q ≠ p) (h : H1 q = Option.none) : H q = Option.none := by
  cases z : H q with
  | none => rfl
  | some o =>
    rw [a q o n z] at h
    cases h
/-! ### the drawn numbers -/
/-- a pool: two numbers -/
structure Pool (H : Hp) (p : Addr) : Prop where
  ex : ∃ m s : Int, H p = some (.lst [.int m, .int s]) ∧ 0 ≤ m ∧ 0 ≤ s ∧ s < 2147483647
theorem Pool.ne {H : Hp} {p t : Addr} {xs : List V} (h : Pool H p) (ht : H t = some (.tup xs)) : t ≠ p := by
  obtain ⟨m, s, e, _⟩ := h.ex
  intro z
  rw [z, e] at ht
  cases ht
theorem Pool.free {H : Hp} {p q : Addr} (h : Pool H p) (hq : H q = none) : q ≠ p := by
  obtain ⟨m, s, e, _⟩ := h.ex
  intro z
  rw [z, e] at hq
  cases hq
theorem Pool.same {H H' : Hp} {p : Addr} (h : Pool H p) (s : Same H H') : Pool H' p := by
  obtain ⟨m, n, e, r⟩ := h.ex
  exact ⟨m, n, s _ _ e, r⟩
theorem Pool.upd {H : Hp} {p q : Addr} {o : HO} (h : Pool H p) (n : q ≠ p) : Pool (L2.upd H q o) p := by
  obtain ⟨m, k, e, r⟩ := h.ex
  exact ⟨m, k, by rw [upd_ne (Ne.symm n)]; exact e, r⟩
end SE
/-! enumerate(t) and t[::-1] of a tuple. -/
namespace SE
open PySem PySem.Spec PyProof.Rows L2
section
open Sem (wp)
open AutoSeq1 (wpAny_loadPart')
theorem meets_enum_newT (t : Addr) (items : Array Value) (n : Nat) (dct : Option Addr) (sl : Array (Option Value)) :
    Meets (Builtin.«enumerate.__new__» ⟨[.type "enumerate", .ref t], []⟩) (fun _ R s => s.heap.get? t = some { cls := .type "tuple", dict := dct, data := .seq items n, slots := sl } ∧
      R (.ok (.ret (.ref (s.heap.push { cls := .type "tuple_iterator", data := .fields #[.ref t, .int 0 0] }).objs.size)))
        { s with heap := (s.heap.push { cls := .type "tuple_iterator", data := .fields #[.ref t, .int 0 0] }).push { cls := .type "enumerate", data := .fields #[.none, .bool false, .ref s.heap.objs.size, rawInt 0, .none, .none] } }) := by
  refine .of_wp fun prog w A R s h => ?_
  obtain ⟨hp, g, d, tk, os⟩ := s
  obtain ⟨ht, h⟩ := h
  have hsub := sub_enumerate
  have hT : Heap.IsTuple (Shared.heap ⟨hp, g, d, tk, os⟩) t items := ⟨_, ht, rfl, n, rfl⟩
  wp_walk using wpAny_loadPart' ht
  refine wpAny_stack_any fun st => wpAny_pure ?_
  split
  · rename_i c _ _ _ _ _
    cases (c == Value.type "enumerate")
    · wp_walk using wpAny_loadPart' ht, wpAny_pyIter_tuple hT
      exact ⟨_, rfl, h⟩
    · wp_walk using wpAny_loadPart' ht, wpAny_pyIter_tuple hT
      exact ⟨_, rfl, h⟩
  · wp_walk using wpAny_loadPart' ht, wpAny_pyIter_tuple hT
    exact ⟨_, rfl, h⟩
end
section
variable {prog : Program} {w : World} {A : Around} {E : Value → Shared → Prop} {s : Shared}
theorem call_enumT {t : Addr} {items : Array Value} {Q : Value → Shared → Prop} (hT : s.heap.IsTuple t items)
    (h : ∀ h', IsEnum h' (s.heap.objs.size + 1) s.heap.objs.size 0 .none → h'.IsTupleIter s.heap.objs.size t 0 → (∀ b o, s.heap.get? b = some o → h'.get? b = some o) → Q (.ref (s.heap.objs.size + 1)) { s with heap := h' }) :
    wpAny (model prog w) A (call (.type "enumerate") [.ref t]) Q E s := by
  obtain ⟨⟨c, dct, dt, sl⟩, ht, hc, n, hd⟩ := hT
  simp only at hc hd
  subst hc hd
  refine callType_new F.called_enumerate (by decide) (F.typeCall_enumerate_1 _) (F.newCall_enumerate_1 _) (fun obj => F.args_object_init_2 obj _) F.entry_enumerate_new (meets_enum_newT t items n dct sl) ⟨ht, ?_⟩
  have hz : (s.heap.push { cls := .type "tuple_iterator", data := .fields #[.ref t, .int 0 0] }).objs.size = s.heap.objs.size + 1 := Heap.size_push ..
  show _ ∧ _
  rw [hz]
  have he : IsEnum ((s.heap.push { cls := .type "tuple_iterator", data := .fields #[.ref t, .int 0 0] }).push
      { cls := .type "enumerate", data := .fields #[.none, .bool false, .ref s.heap.objs.size, rawInt 0, .none, .none] }) (s.heap.objs.size + 1) s.heap.objs.size 0 .none := by
    have z := Heap.get?_push_size (s.heap.push { cls := .type "tuple_iterator", data := .fields #[.ref t, .int 0 0] })
      (o := { cls := .type "enumerate", data := .fields #[.none, .bool false, .ref s.heap.objs.size, rawInt 0, .none, .none] }) rfl
    rw [hz] at z
    exact z
  exact ⟨⟨_, he, rfl⟩, h _ he ⟨_, Heap.get?_push_of_some _ (Heap.get?_push_size _ rfl), rfl, rfl⟩ fun b o x => Heap.get?_push_of_some _ (Heap.get?_push_of_some _ x)⟩
end
/-- the tuple at a, each item in a new pair -/
def ItE (K : PySem.W.Frag) (a : Addr) : It :=
  ⟨fun i H => ∃ (xs : List V) (x : V), SqT K H a xs ∧ xs[i]? = some x, fun i H v H' => ∃ T x, v = .ref T ∧ H T = none ∧ H' = upd H T (.tup [.int (i : Nat), x]) ∧ ∀ xs, SqT K H a xs → xs[i]? = some x, fun i H => ∃ xs : List V, SqT K H a xs ∧ xs.length ≤ i⟩
theorem turn_enumT {P : Program} {w : World} {K : PySem.W.Frag} {elts : List Expr} {kk : Nat} {tpos : Pos} (a e it : Addr) :
    Turn P w K (.Tuple elts kk tpos) (ItE K a) [e, it] e (fun i h => (∃ old, IsEnum h e it ((i : Nat) : Int) old) ∧ h.IsTupleIter it a i ∧ e ≠ it ∧ a ≠ it ∧ a ≠ e) where
  mem := by simp
  obj := fun i h st b hb => by
    obtain ⟨⟨old, he⟩, ⟨o, ho, hc, hd⟩, _⟩ := st
    have ee : b = e ∨ b = it := by simpa using hb
    rcases ee with z | z
    · rw [z]
      exact ⟨_, he, fun v q => nomatch q⟩
    · rw [z]
      exact ⟨o, ho, fun v q => by rw [hd] at q; cases q⟩
  keep := fun i h h' st k => by
    obtain ⟨⟨old, he⟩, hi, hne⟩ := st
    exact ⟨⟨old, k e (by simp) _ he⟩, (let ⟨o, ho, r⟩ := hi; ⟨o, k it (by simp) o ho, r⟩), hne⟩
  item := by
    intro X hP hw hK hc i pins s σ H E I hf st hg
    subst hP hw hK
    obtain ⟨⟨old, he⟩, hit, hne, hai, hae⟩ := st
    obtain ⟨xs, x, hq, hx⟩ := hg
    obtain ⟨its, rv, p, hz⟩ := I.tuple hq
    obtain ⟨u, hu, ru⟩ := rv.get hx
    have hel : e < s.heap.objs.size := Heap.lt_size he
    have hil : it < s.heap.objs.size := by
      obtain ⟨_, q, _⟩ := hit
      exact Heap.lt_size q
    have hlt : i < its.toArray.size := by
      rw [List.size_toArray, ← rv.length]
      exact (List.getElem?_eq_some_iff.mp hx).1
    have D : Draws X.prog X.w X.A.in1 it [it, a] its.toArray.size (fun j v => its.toArray[j]? = some v) (fun j h => h.IsTupleIter it a j ∧ h.IsTuple a its.toArray) := Draws.tuple (A := X.A.in1) (I.ok.hd hc) it a hai its.toArray
    refine wpAny_pyNext_enum_itemD D he ⟨hit, p⟩ hlt hne (by simp [Ne.symm hae, hne]) fun v h1 tk hv ho hit1 hT hsz hk => ?_
    have ev : v = u := by
      have z : some v = some u := by rw [← hv]; simpa using hu
      exact Option.some.inj z
    subst ev
    refine ⟨_, rfl, wpAny_letOwnedTupleGo_enum (s := { s with heap := h1, toks := tk + 1 }) ho fun h2 he2 sb => ?_⟩
    have hT2 : h2.get? s.heap.objs.size = some { cls := .type "tuple", data := .seq #[.int i tk, v] } := (sb.2 _ (Nat.ne_of_gt hel)).trans hT
    have new : ObjOk X.prog X.w (upd H s.heap.objs.size (.tup [.int (i : Nat), x])) h2 s.heap.objs.size (.tup [.int (i : Nat), x]) :=
      ⟨by show 2 ≤ sizeLine; decide, [.int i tk, v], .cons ⟨_, rfl⟩ (.cons ru .nil), ⟨_, hT2, rfl, _, rfl⟩⟩
    have J : Inv X pins σ (upd H s.heap.objs.size (.tup [.int (i : Nat), x])) { s with heap := h2, toks := tk + 1 } :=
      I.turnedNew (ch := [e, it]) (fun b ob hb q => (sb.2 b (fun z => hb (by simp [z]))).trans (hk b ob (fun z => hb (by simp [z])) (fun z => hb (by simp [z])) q)) hf (Nat.le_refl _) new
    refine ⟨.ref s.heap.objs.size, _, J, rfl, ⟨_, x, rfl, I.hok.fresh (Nat.le_refl _), rfl, fun ys hy => by rw [I.tuple_inj hy hq]; exact hx⟩, ⟨⟨v, ?_⟩, ?_, hne, hai, hae⟩, fun b hb => ?_⟩
    · have e1 : ((i + 1 : Nat) : Int) = (i : Int) + 1 := by omega
      rw [e1]
      exact he2
    · obtain ⟨o, ho2, r⟩ := hit1.1
      exact ⟨o, (sb.2 it (Ne.symm hne)).trans ho2, r⟩
    · have hb2 : b < s.heap.objs.size := by
        have ee : b = e ∨ b = it := by simpa using hb
        rcases ee with z | z
        · rw [z]; exact hel
        · rw [z]; exact hil
      rw [upd_ne (Nat.ne_of_lt hb2)]
      exact (hf b hb).1
  done := by
    intro X hP hw hK hc i pins s σ H E I hf st hg
    subst hP hw hK
    obtain ⟨⟨old, he⟩, hit, hne, hai, hae⟩ := st
    obtain ⟨xs, hq, hx⟩ := hg
    obtain ⟨its, rv, p, hz⟩ := I.tuple hq
    obtain ⟨f0, f1, f2, f3, f4, f5⟩ := hf it (by simp)
    have hl := rv.length
    have D : Draws X.prog X.w X.A.in1 it [it, a] i (fun j v => its.toArray[j]? = some v) (fun j h => j = i ∧ h.IsTupleIter it a i ∧ h.IsTuple a its.toArray ∧ its.toArray.size ≤ i) := by
      have D0 := Draws.tuple (prog := X.prog) (w := X.w) (A := X.A.in1) (I.ok.hd hc) it a hai its.toArray
      refine ⟨fun j h z => D0.live i h ⟨z.2.1, z.2.2.1⟩, fun j h h' z k => ⟨z.1, (D0.frame i h h' ⟨z.2.1, z.2.2.1⟩ k).1, (D0.frame i h h' ⟨z.2.1, z.2.2.1⟩ k).2, z.2.2.2⟩, fun j s Q E hj z k => ?_, fun s Q E z k => ?_⟩
      · exact absurd z.1 (Nat.ne_of_lt hj)
      · exact wpAny_nextOf_tuple_end (I.ok.hd hc) z.2.1 z.2.2.1 (Array.getElem?_eq_none z.2.2.2) k
    exact wpAny_pyNext_enum_endD D he ⟨rfl, hit, p, by rw [List.size_toArray]; omega⟩ fun h' eb => ⟨rfl, I.turned (t' := s.toks) (fun b o hb q => eb b o hb q) f0 f1 f3 f4 f5⟩
  self := fun A i s Q E st h => let ⟨⟨_, he⟩, _⟩ := st; wpAny_pyIter_enum he h
def iEnumT (K : PySem.W.Frag) (ta : TA) : TI := fun σ H R => ta σ H fun vs H1 => ∃ a xs, vs = [.ref a] ∧ SqT K H1 a xs ∧ R (ItE K a) H1
theorem pi_enumT {X : Cx} {e : Expr} {ta : TA} {p pos tpos : Pos} {elts : List Expr} {kk : Nat} (hg : Gl X "enumerate") (hm : X.mg "enumerate" = none) (ha : PA X [e] ta) (hs : starEach [e] X.env = [(false, eval e X.env)] := by rfl) :
    PI X (.Tuple elts kk tpos) (.Call (.Name "enumerate" p) [e] [] pos) (iEnumT X.K ta) := by
  constructor
  intro pins s σ H R I h
  refine Call_ (ld_blt I hg hm boot_enumerate (PyProof.Rows.callWith_type1 (thn (ha.run pos pins s σ H _ I h) fun us s1 hh => ?_) hs rfl))
  obtain ⟨vs, H1, I1, r1, a, xs, ex, hq, q⟩ := hh
  subst ex
  cases r1 with
  | cons r rr =>
    cases rr
    cases r
    obtain ⟨its, rv, p2, hz⟩ := I1.tuple hq
    refine call_enumT p2 fun h2 he hit hk => wpAny_pyIter_enum he ?_
    have I2 : Inv X pins σ H1 { s1 with heap := h2 } := I1.kept (t' := s1.toks) hk
    have hlt : a < s1.heap.objs.size := p2.lt
    refine ⟨s1.heap.objs.size + 1, [s1.heap.objs.size + 1, s1.heap.objs.size], _, _, H1, rfl, I2, turn_enumT a (s1.heap.objs.size + 1) s1.heap.objs.size, ⟨⟨.none, he⟩, hit, Nat.succ_ne_self _, Nat.ne_of_lt hlt, Nat.ne_of_lt (Nat.lt_succ_of_lt hlt)⟩, fun b hb => ?_, q⟩
    have ee : b = s1.heap.objs.size + 1 ∨ b = s1.heap.objs.size := by simpa using hb
    have hle : s1.heap.objs.size ≤ b := by
      rcases ee with z | z
      · rw [z]; exact Nat.le_add_right _ _
      · rw [z]; exact Nat.le_refl _
    exact I1.fpOk hle (I1.hok.fresh hle)
/-! ### t[::-1] -/
section
variable {prog : Program} {w : World} {A : Around} {E : Value → Shared → Prop} {s : Shared}
theorem back_pick (xs : Array Value) (n : Nat) (hn : n = xs.size) : (List.range n).filterMap (fun (m : Nat) => xs[(((n : Int) - 1) + (m : Int) * (-1)).toNat]?) = xs.toList.reverse := by
  subst hn
  have e : (fun (m : Nat) => xs[(((xs.size : Nat) : Int) - 1 + (m : Int) * (-1)).toNat]?) = fun m => xs[xs.size - 1 - m]? := by
    funext m
    have z : (((xs.size : Nat) : Int) - 1 + (m : Int) * (-1)).toNat = xs.size - 1 - m := by omega
    rw [z]
  rw [e]
  have a := PySem.W.krv_pick xs
  have b : PySem.slicePick xs none none (some (-1)) = ((List.range xs.size).filterMap fun m => xs[xs.size - 1 - m]?).toArray := by
    unfold PySem.slicePick
    rw [PySem.W.krv_bounds]
    show ((PySem.sliceRange ((xs.size : Int) - 1) (-1) (-1)).filterMap (xs[·]?)).toArray = _
    rw [PySem.W.krv_sliceRange, List.filterMap_map]
    rfl
  have c := a.symm.trans b
  have d := congrArg Array.toList c
  exact d.symm
theorem applied_back {sl : Addr} {vs : Value} {n : Nat} {Q : Int × Int × Nat → Shared → Prop} (hs : s.heap.IsSliceOf sl .none .none vs) (pv : IsPart vs (some (-1)))
    (h : Q ((n : Int) - 1, -1, n) s) : wpAny (model prog w) A (Builtin.Slice.sliceApplied (.ref sl) (pure (n : Int))) Q E s := by
  obtain ⟨os, hos, hcs, hds⟩ := id hs
  unfold Builtin.Slice.sliceApplied Builtin.Slice.sliceFields
  refine wpAny_bind (wpAny_bind (wpAny_field hos hds (x := .none) rfl (wpAny_bind (wpAny_field hos hds (x := .none) rfl (wpAny_bind (wpAny_field hos hds (x := vs) rfl (wpAny_pure ?_)))))))
  refine wpAny_bind (HT.slicePart_ pv ?_)
  show wpAny _ _ (if ((-1 : Int) == 0) = true then _ else _) _ _ s
  rw [if_neg (by decide)]
  refine wpAny_bind (HT.slicePart_ .none (wpAny_bind (HT.slicePart_ .none (wpAny_bind (wpAny_pure ?_)))))
  show wpAny _ _ (pure ((n : Int) - 1, (-1 : Int), Builtin.Slice.slicePlaces ((n : Int) - 1) (-1) (-1))) _ _ s
  have e : Builtin.Slice.slicePlaces ((n : Int) - 1) (-1) (-1) = n := by
    unfold Builtin.Slice.slicePlaces
    rw [if_neg (by decide)]
    by_cases hn : (n : Int) - 1 > -1
    · rw [if_pos hn, show (- -1 : Int) = 1 by decide, Int.ediv_one]
      omega
    · rw [if_neg hn]
      omega
  rw [e]
  exact wpAny_pure h
theorem item_back {t sl : Addr} {items : Array Value} {vs : Value} {Q : Value → Shared → Prop} (ht : IsTup s.heap t items) (hs : s.heap.IsSliceOf sl .none .none vs) (pv : IsPart vs (some (-1)))
    (h : Q (.ref s.heap.objs.size) { s with heap := s.heap.push { cls := .type "tuple", data := .seq items.toList.reverse.toArray } }) (hsz : items.size ≤ sizeLine) : wpAny (model prog w) A (getItem (.ref t) (.ref sl)) Q E s := by
  have hok : sizeOk (.seq items.toList.reverse.toArray) := by
    show items.toList.reverse.toArray.size ≤ sizeLine
    rw [List.size_toArray, List.length_reverse, Array.length_toList]
    exact hsz
  obtain ⟨os, hos, hcs, hds⟩ := id hs
  have hTs : s.TypeIs (.ref sl) "slice" := ⟨os, hos, hcs⟩
  unfold getItem
  try with_reducible refine wpAny_holding ?_
  first | refine wpAny_bind (wpAny_pure ?_) | skip
  refine wpAny_bind (wpAny_sequenceKey ht.typeIs (by decide) ?_)
  refine wpAny_bind (wpAny_callSpecial?_slot (name := Str.ofString "__getitem__") ht.typeIs PyProof.Rows.slot_tuple_getitem (wpAny_call_entry PyProof.Rows.slot_tuple_getitem ht.typeIs entry_tuple_getitem ?_ (args_tuple_getitem _ _)))
  show wpAny _ _ (Builtin.Tuple.tupleItemsOf (.ref t) >>= _) _ _ s
  refine wpAny_bind (tupleItemsOf_ ht ?_)
  refine wpAny_bind (wpAny_typeOf hTs ?_)
  rw [if_pos (by decide)]
  refine wpAny_bind (applied_back hs pv ?_)
  have hno : ¬ ((((items.size : Int) - 1) == 0 && (-1 : Int) == 1 && items.size == items.size) = true) := by
    intro q
    rw [Bool.and_eq_true, Bool.and_eq_true] at q
    exact absurd q.1.2 (by decide)
  show wpAny _ _ (if (((items.size : Int) - 1) == 0 && (-1 : Int) == 1 && items.size == items.size) = true then _ else _) _ _ s
  rw [if_neg hno, back_pick items items.size rfl]
  first
    | exact wpAny_bind (m := Builtin.Tuple.tupleExact _) (wpAny_newObj_type (wpAny_pure ⟨_, rfl, wpAny_pure h⟩) hok)
    | exact wpAny_bind (m := Builtin.Tuple.tupleExact _) (wpAny_newObj_type (wpAny_bind (wpAny_pure (wpAny_pure ⟨_, rfl, wpAny_pure h⟩))) hok)
    | exact wpAny_bind (wpAny_bind (m := Builtin.Tuple.tupleExact _) (wpAny_newObj_type (wpAny_pure (wpAny_pure ⟨_, rfl, wpAny_pure h⟩)) hok))
    | exact wpAny_bind (wpAny_bind (m := Builtin.Tuple.tupleExact _) (wpAny_newObj_type (wpAny_pure ⟨_, rfl, wpAny_pure h⟩) hok))
end
def tRevT (K : PySem.W.Frag) (te : TE) : TE := fun σ H Q => te σ H fun x H1 => ∃ a xs, x = .ref a ∧ SqT K H1 a xs ∧ ∀ p, H1 p = none → Q (.ref p) (upd H1 p (.tup xs.reverse))
theorem pe_revT {X : Cx} {e : Expr} {te : TE} {k : Nat} {p1 p2 p3 pos : Pos} (he : PE X e te) : PE X (.Subscript e (.Slice none none (some (.UnaryOp .USub (.Constant (.int 1) k p1) p2)) p3) pos) (tRevT X.K te) := by
  constructor
  intro pins s σ H Q I h
  refine Subscript_ (thn (he.run pins s σ H _ I h) fun v s1 hh => ?_)
  obtain ⟨x, H1, I1, r1, a, xs, ex, hx, q⟩ := hh
  subst ex
  cases r1
  have hst : PO X (some (.UnaryOp .USub (.Constant (.int 1) k p1) p2)) (tPart (tUn (rU fun i => .int (-i)) (tC (.int 1)))) := po_some (pe_un un_neg pe_int)
  refine wpAny_Slice (thn (po_none.run pins s1 σ H1 (fun o H2 => o = none ∧ H2 = H1) I1 ⟨rfl, rfl⟩) fun vl s2 hl => ?_)
  obtain ⟨l, H2, I2, pl, el, e2⟩ := hl
  subst el e2
  refine thn (po_none.run pins s2 σ H2 (fun o H3 => o = none ∧ H3 = H2) I2 ⟨rfl, rfl⟩) fun vu s3 hu => ?_
  obtain ⟨u, H3, I3, pu, eu, e3⟩ := hu
  subst eu e3
  refine thn (hst.run pins s3 σ H3 (fun o H4 => o = some (-1) ∧ H4 = H3) I3 ⟨1, rfl, -1, rfl, rfl, rfl⟩) fun vs s4 ho => ?_
  obtain ⟨o, H4, I4, ps, eo, e4⟩ := ho
  subst eo e4
  cases pl
  cases pu
  have I5 : Inv X pins σ H4 { s4 with heap := s4.heap.push { cls := .type "slice", data := .fields #[.none, .none, vs] } } := I4.kept (t' := s4.toks) fun b ob q => Heap.get?_push_of_some _ q
  obtain ⟨its, r, ht, hz⟩ := I5.tuple hx
  have hlen := r.length
  show wpAny (model X.prog X.w) X.A (subscriptTail e (.Slice none none (some (.UnaryOp .USub (.Constant (.int 1) k p1) p2)) p3) (.ref a) (.ref s4.heap.objs.size)) (EP X pins σ Q) X.xe { s4 with heap := s4.heap.push { cls := .type "slice", data := .fields #[.none, .none, vs] } }
  refine tail_any (ops := [.ref a, .ref s4.heap.objs.size]) ht.typeIs (PyProof.Rows.slot_tuple_getitem.lookup) ?_ (by with_unfolding_all rfl)
  refine item_back ht (Heap.IsSliceOf.new _ .none .none vs) ps ?_ (by rw [List.size_toArray]; omega)
  refine ⟨.ref _, _, I5.laid (t' := s4.toks) (o := .tup xs.reverse) (fun b ob q => Heap.get?_push_of_some _ q) (Nat.le_refl _) ?_, rfl, q _ (I5.hok.fresh (Nat.le_refl _))⟩
  exact ⟨by rw [List.length_reverse]; exact hz, _, r.reverse, IsTup.new _ _⟩
end SE
/-! Plain data: texts, steps; when they are equal, how they are shown. -/
namespace SE
open PySem PySem.Spec PyProof.Rows L2
/-- a text that is an item -/
structure Item (z : Str) : Prop where
  pos : 1 ≤ z.length
  most : z.length ≤ 8
  low : ∀ c ∈ z.cps.toList, 97 ≤ c ∧ c ≤ 122
/-- data that may be compared and shown: its depth, its weight -/
structure Nice (k B : Nat) (d : PyData) : Prop where
  lay : d.canLay0 = true
  dep : d.depth ≤ k
  sh : d.showable = true
  nd : d.hasDict = false
  ish : d.intsShort 13 = true
  wt : d.weight ≤ B
theorem Nice.mono {k j B C : Nat} {d : PyData} (h : Nice k B d) (hk : k ≤ j) (hB : B ≤ C) : Nice j C d := ⟨h.lay, Nat.le_trans h.dep hk, h.sh, h.nd, h.ish, Nat.le_trans h.wt hB⟩
theorem nice_str {z : Str} {B : Nat} (hc : ∀ c ∈ z.cps.toList, c < 0x110000) (hB : z.length ≤ B) : Nice 0 B (.str z) := by
  refine ⟨?_, ?_, ?_, ?_, ?_, ?_⟩
  · simp only [PyData.canLay0, PyData.strOk]
    rw [← Array.all_toList, List.all_eq_true]
    intro c h
    exact decide_eq_true (hc c h)
  · simp only [PyData.depth]
    exact Nat.le_refl _
  · simp only [PyData.showable]
  · simp only [PyData.hasDict]
  · simp only [PyData.intsShort]
  · simp only [PyData.weight]
    exact hB
theorem Item.nice {z : Str} (h : Item z) : Nice 0 8 (.str z) := nice_str (fun c hc => by have := (h.low c hc).2; omega) h.most
theorem nice_all {k B : Nat} : ∀ {ds : List PyData}, (∀ d ∈ ds, Nice k B d) → PyData.canLayAll0 ds = true ∧ PyData.depthAll ds ≤ k ∧ PyData.showableAll ds = true ∧ PyData.hasDictAll ds = false ∧ PyData.intsShortAll 13 ds = true ∧ PyData.weightAll ds ≤ ds.length * (B + 1)
  | [], _ => by
    refine ⟨?_, ?_, ?_, ?_, ?_, ?_⟩
    · simp only [PyData.canLayAll0]
    · simp only [PyData.depthAll]
      exact Nat.zero_le _
    · simp only [PyData.showableAll]
    · simp only [PyData.hasDictAll]
    · simp only [PyData.intsShortAll]
    · simp only [PyData.weightAll]
      exact Nat.zero_le _
  | d :: ds, h => by
    obtain ⟨a1, a2, a3, a4, a5, a6⟩ := nice_all (ds := ds) fun x hx => h x (List.mem_cons_of_mem _ hx)
    have q := h d List.mem_cons_self
    refine ⟨?_, ?_, ?_, ?_, ?_, ?_⟩
    · simp only [PyData.canLayAll0, q.lay, a1, Bool.and_self]
    · simp only [PyData.depthAll]
      exact Nat.max_le.mpr ⟨q.dep, a2⟩
    · simp only [PyData.showableAll, q.sh, a3, Bool.and_self]
    · simp only [PyData.hasDictAll, q.nd, a4, Bool.or_self]
    · simp only [PyData.intsShortAll, q.ish, a5, Bool.and_self]
    · simp only [PyData.weightAll, List.length_cons]
      have := q.wt
      rw [Nat.add_mul]
      omega
theorem nice_list {k B : Nat} {ds : List PyData} (h : ∀ d ∈ ds, Nice k B d) : Nice (k + 1) (ds.length * (B + 1)) (.list ds) := by
  obtain ⟨a1, a2, a3, a4, a5, a6⟩ := nice_all h
  exact ⟨by simp only [PyData.canLay0]; exact a1, by simp only [PyData.depth]; omega, by simp only [PyData.showable]; exact a3, by simp only [PyData.hasDict]; exact a4, by simp only [PyData.intsShort]; exact a5, by simp only [PyData.weight]; exact a6⟩
theorem nice_tuple {k B : Nat} {ds : List PyData} (h : ∀ d ∈ ds, Nice k B d) : Nice (k + 1) (ds.length * (B + 1)) (.tuple ds) := by
  obtain ⟨a1, a2, a3, a4, a5, a6⟩ := nice_all h
  exact ⟨by simp only [PyData.canLay0]; exact a1, by simp only [PyData.depth]; omega, by simp only [PyData.showable]; exact a3, by simp only [PyData.hasDict]; exact a4, by simp only [PyData.intsShort]; exact a5, by simp only [PyData.weight]; exact a6⟩
theorem Nice.shaped {k B : Nat} {d : PyData} (h : Nice k B d) (hk : k ≤ 64) : SeqAt.shaped d = true := by
  unfold SeqAt.shaped
  rw [h.lay, Bool.true_and]
  exact decide_eq_true (Nat.le_trans h.dep hk)
theorem Nice.shown {k B : Nat} {d : PyData} (h : Nice k B d) (hk : k ≤ 64) (hB : B ≤ 2 ^ 20) : d.shown.length ≤ sizeLine := by
  refine PyData.shown_fits_of_layable0 (B := 13) (by decide) (by decide) ?_ h.ish
  unfold PyData.layable0
  rw [h.lay, Bool.true_and, Bool.and_eq_true]
  exact ⟨decide_eq_true (Nat.le_trans h.dep hk), decide_eq_true (Nat.le_trans h.wt hB)⟩
theorem Nice.eqv {k B : Nat} {d : PyData} (h : Nice k B d) : PyData.eqv d d = true := SeqAt.eqv_refl d h.lay
/-! ### texts -/
theorem dp_strs {K : PySem.W.Frag} {H : Hp} : ∀ zs : List Str, DpAll K H (zs.map V.str) (zs.map PyData.str)
  | [] => .nil
  | z :: zs => .cons (.str z) (dp_strs zs)
theorem eqvAll_strs : ∀ a b : List Str, PyData.eqvAll (a.map .str) (b.map .str) = decide (a = b)
  | [], [] => by simp [PyData.eqvAll]
  | [], y :: b => by simp [PyData.eqvAll]
  | x :: a, [] => by simp [PyData.eqvAll]
  | x :: a, y :: b => by
    rw [List.map_cons, List.map_cons]
    unfold PyData.eqvAll
    rw [eqvAll_strs a b]
    unfold PyData.eqv
    by_cases e : x = y
    · subst e
      simp
    · simp [e]
theorem eqv_listS (a b : List Str) : PyData.eqv (.list (a.map .str)) (.list (b.map .str)) = decide (a = b) := by
  unfold PyData.eqv
  exact eqvAll_strs a b
theorem eqv_tupS (a b : List Str) : PyData.eqv (.tuple (a.map .str)) (.tuple (b.map .str)) = decide (a = b) := by
  unfold PyData.eqv
  exact eqvAll_strs a b
theorem nice_strs {zs : List Str} (h : ∀ z ∈ zs, Item z) : ∀ d ∈ zs.map PyData.str, Nice 0 8 d := by
  intro d hd
  obtain ⟨z, hz, rfl⟩ := List.mem_map.mp hd
  exact (h z hz).nice
/-! ### steps -/
abbrev Stp := Bool × Str
def act (b : Bool) : Str := if b then "push" else "pop"
theorem act_nice (b : Bool) : Nice 0 8 (.str (act b)) := by
  cases b
  · exact nice_str (by decide +kernel) (by decide +kernel)
  · exact nice_str (by decide +kernel) (by decide +kernel)
def stepD (s : Stp) : PyData := .tuple [.str (act s.1), .str s.2]
theorem stepD_nice {s : Stp} (h : Item s.2) : Nice 1 18 (stepD s) := by
  refine (nice_tuple (k := 0) (B := 8) (ds := [.str (act s.1), .str s.2]) ?_).mono (Nat.le_refl _) (by show 2 * 9 ≤ 18; decide)
  intro d hd
  rcases List.mem_cons.mp hd with q | q
  · rw [q]
    exact act_nice _
  · rw [List.mem_singleton.mp q]
    exact h.nice
/-- a step -/
def StepV (K : PySem.W.Frag) (H : Hp) (v : V) (s : Stp) : Prop := ∃ t, v = .ref t ∧ SqT K H t [.str (act s.1), .str s.2]
abbrev StepsV (K : PySem.W.Frag) (H : Hp) : List V → List Stp → Prop := Paired (StepV K H)
theorem StepV.same {K : PySem.W.Frag} {H H' : Hp} {v : V} {s : Stp} (h : StepV K H v s) (e : Same H H') : StepV K H' v s := by
  obtain ⟨t, rfl, q⟩ := h
  exact ⟨t, rfl, Same.tup e q⟩
theorem StepsV.same {K : PySem.W.Frag} {H H' : Hp} {xs : List V} {ss : List Stp} (h : StepsV K H xs ss) (e : Same H H') : StepsV K H' xs ss := Paired.mapP h fun _ _ q => q.same e
theorem StepsV.at {K : PySem.W.Frag} {H : Hp} : ∀ {xs : List V} {ss : List Stp} {i : Nat} {v : V}, StepsV K H xs ss → xs[i]? = some v → ∃ s, ss[i]? = some s ∧ StepV K H v s
  | _, _, _, _, .nil, h => by simp at h
  | _, _, 0, _, .cons a _, h => by
    have e := Option.some.inj h
    subst e
    exact ⟨_, rfl, a⟩
  | _, _, i + 1, _, .cons _ r, h => StepsV.at (i := i) r h
theorem dp_steps {K : PySem.W.Frag} {H : Hp} : ∀ {xs : List V} {ss : List Stp}, StepsV K H xs ss → DpAll K H xs (ss.map stepD)
  | _, _, .nil => .nil
  | _, _, .cons a r => by
    obtain ⟨t, rfl, q⟩ := a
    exact .cons (.tup q (.cons (.str _) (.cons (.str _) .nil))) (dp_steps r)
theorem nice_steps {ss : List Stp} (h : ∀ s ∈ ss, Item s.2) : ∀ d ∈ ss.map stepD, Nice 1 18 d := by
  intro d hd
  obtain ⟨s, hs, rfl⟩ := List.mem_map.mp hd
  exact stepD_nice (h s hs)
theorem StepsV.rev {K : PySem.W.Frag} {H : Hp} : ∀ {xs : List V} {ss : List Stp}, StepsV K H xs ss → StepsV K H xs.reverse ss.reverse
  | _, _, .nil => .nil
  | _, _, .cons a r => by
    rw [List.reverse_cons, List.reverse_cons]
    exact (StepsV.rev r).snoc a
/-- the exchange of push and pop -/
def flip1 (s : Stp) : Stp := (!s.1, s.2)
def revM (ss : List Stp) : List Stp := ss.reverse.map flip1
/-- what a step makes of a stack -/
def stepM (s : Stp) (zs : List Str) : Option (List Str) := if s.1 then some (s.2 :: zs) else match zs with
  | [] => none
  | z :: r => if z = s.2 then some r else none
def runM : List Stp → List Str → Option (List Str)
  | [], zs => some zs
  | s :: ss, zs => match stepM s zs with
    | none => none
    | some ws => runM ss ws
theorem runM_append : ∀ (a b : List Stp) (zs : List Str), runM (a ++ b) zs = (runM a zs).bind (runM b)
  | [], b, zs => rfl
  | s :: a, b, zs => by
    show (match stepM s zs with | none => none | some ws => runM (a ++ b) ws) = (match stepM s zs with | none => none | some ws => runM a ws).bind (runM b)
    cases stepM s zs with
    | none => rfl
    | some ws => exact runM_append a b ws
theorem stepM_flip {s : Stp} {zs ws : List Str} (h : stepM s zs = some ws) : stepM (flip1 s) ws = some zs := by
  obtain ⟨b, x⟩ := s
  cases b with
  | true =>
    have e : x :: zs = ws := by
      have q : some (x :: zs) = some ws := h
      exact Option.some.inj q
    subst e
    show (if x = x then some zs else none) = some zs
    rw [if_pos rfl]
  | false =>
    cases zs with
    | nil => exact absurd h (by intro q; cases q)
    | cons z r =>
      have q : (if z = x then some r else none) = some ws := h
      by_cases e : z = x
      · rw [if_pos e] at q
        have e2 := Option.some.inj q
        subst e2
        subst e
        rfl
      · rw [if_neg e] at q
        cases q
theorem runM_rev : ∀ (ss : List Stp) (zs ws : List Str), runM ss zs = some ws → runM (revM ss) ws = some zs
  | [], zs, ws, h => by
    have e : zs = ws := Option.some.inj h
    subst e
    rfl
  | s :: ss, zs, ws, h => by
    have h' : (match stepM s zs with | none => none | some ys => runM ss ys) = some ws := h
    cases e : stepM s zs with
    | none =>
      rw [e] at h'
      cases h'
    | some ys =>
      rw [e] at h'
      have ih := runM_rev ss ys ws h'
      show runM ((s :: ss).reverse.map flip1) ws = some zs
      rw [List.reverse_cons, List.map_append, runM_append]
      have ih' : runM (ss.reverse.map flip1) ws = some ys := ih
      rw [ih']
      show (match stepM (flip1 s) ys with | none => none | some ws => runM [] ws) = some zs
      rw [stepM_flip e]
      rfl
theorem revM_revM (ss : List Stp) : revM (revM ss) = ss := by
  unfold revM
  rw [← List.map_reverse, List.reverse_reverse, List.map_map]
  have e : flip1 ∘ flip1 = id := by
    funext s
    obtain ⟨b, x⟩ := s
    cases b <;> rfl
  rw [e, List.map_id]
theorem revM_items {ss : List Stp} (h : ∀ s ∈ ss, Item s.2) : ∀ s ∈ revM ss, Item s.2 := by
  intro s hs
  obtain ⟨t, ht, rfl⟩ := List.mem_map.mp hs
  exact h t (List.mem_reverse.mp ht)
theorem stepM_items {s : Stp} {zs ws : List Str} (h : stepM s zs = some ws) (hs : Item s.2) (hz : ∀ z ∈ zs, Item z) : ∀ z ∈ ws, Item z := by
  obtain ⟨b, x⟩ := s
  cases b with
  | true =>
    have e : x :: zs = ws := Option.some.inj (show some (x :: zs) = some ws from h)
    subst e
    intro z m
    rcases List.mem_cons.mp m with q | q
    · rw [q]
      exact hs
    · exact hz z q
  | false =>
    cases zs with
    | nil => exact absurd h (by intro q; cases q)
    | cons y r =>
      have q : (if y = x then some r else none) = some ws := h
      by_cases e : y = x
      · rw [if_pos e] at q
        have e2 := Option.some.inj q
        subst e2
        exact fun z m => hz z (List.mem_cons_of_mem _ m)
      · rw [if_neg e] at q
        cases q
theorem stepM_len {s : Stp} {zs ws : List Str} (h : stepM s zs = some ws) : ws.length ≤ zs.length + 1 := by
  obtain ⟨b, x⟩ := s
  cases b with
  | true =>
    have e : x :: zs = ws := Option.some.inj (show some (x :: zs) = some ws from h)
    subst e
    exact Nat.le_refl _
  | false =>
    cases zs with
    | nil => exact absurd h (by intro q; cases q)
    | cons y r =>
      have q : (if y = x then some r else none) = some ws := h
      by_cases e : y = x
      · rw [if_pos e] at q
        have e2 := Option.some.inj q
        subst e2
        rw [List.length_cons]
        omega
      · rw [if_neg e] at q
        cases q
end SE
namespace SE
open PySem PySem.Spec PyProof.Rows L2
def topS (i : Nat) : Stmt := PySem.Challenge.pw_stackeffect_k20_roots.main.body.getD i (.Pass ⟨0, 0, 0, 0⟩)
abbrev sWall : Stmt := topS 0
abbrev sStackerror : Stmt := topS 2
abbrev sInvalidword : Stmt := topS 3
abbrev sInvalidsteps : Stmt := topS 4
abbrev sInvalidnumber : Stmt := topS 5
abbrev sLimitexceeded : Stmt := topS 6
abbrev sIsWhole : Stmt := topS 8
abbrev sIsBetween : Stmt := topS 9
abbrev sCheckBetween : Stmt := topS 10
abbrev sIsItem : Stmt := topS 16
abbrev sIsWord : Stmt := topS 17
abbrev sIsStep : Stmt := topS 18
abbrev sMayHold : Stmt := topS 19
abbrev sChkSteps : Stmt := topS 20
abbrev sChkWord : Stmt := topS 21
abbrev sLeastPeak : Stmt := topS 23
abbrev sEffect : Stmt := topS 24
abbrev sJoined : Stmt := topS 25
abbrev sPartsOfStep : Stmt := topS 26
abbrev sEffectOf : Stmt := topS 27
abbrev sSharedWord : Stmt := topS 30
abbrev sRepeatedWords : Stmt := topS 31
abbrev sRepeatedPeak : Stmt := topS 32
abbrev sLengthOf : Stmt := topS 33
abbrev sItemAt : Stmt := topS 34
abbrev sWrittenOut : Stmt := topS 35
abbrev sPower : Stmt := topS 36
abbrev sRoots : Stmt := topS 37
abbrev sPool : Stmt := topS 39
abbrev sTake : Stmt := topS 40
abbrev sItems : Stmt := topS 41
abbrev sWord : Stmt := topS 42
abbrev sSteps : Stmt := topS 43
abbrev sLawRun : Stmt := topS 44
abbrev sLawStacks : Stmt := topS 45
abbrev sLawRootsRight : Stmt := topS 46
abbrev sLawEnumeratedRight : Stmt := topS 47
abbrev sLaw : Stmt := topS 48
end SE
namespace SE
open PySem PySem.Spec PyProof.Rows L2
section
variable {P : Program} {w : World} {K : PySem.W.Frag} {mg : Str → Option Value} {base : Heap}
/-! ### _law_take -/
def spTake : Sp := fun xs H Q _ => ∃ (p : Addr) (n : Int), xs = [.ref p, .int n] ∧ Pool H p ∧ 1 ≤ n ∧ n ≤ 100000 ∧
  ∀ (r : Int) (H' : Hp), But p H H' → Pool H' p → 0 ≤ r → r < n → Q (.int r) H'
theorem scTake : FnScope ["_law_pool_here", "_law_many", "_law_found"] ["_law_pool_here", "_law_many"] (defScope sTake) := ⟨rfl, rfl, rfl, by decide +kernel, rfl, by decide +kernel, by decide +kernel⟩
theorem has_take (D : Def K mg "_law_take" sTake) : Has P w K mg base "_law_take" 1 ["_law_pool_here", "_law_many"] [] spTake := by
  refine has_of D scTake (fun _ _ _ _ _ _ us hl => match us, hl with | [_, _], _ => rfl) (fun xs H Q E h => ?_) (fun f cv A out s H xs Q E hr h => ?_)
  · obtain ⟨p, n, rfl, _⟩ := h
    rfl
  · obtain ⟨p, n, rfl, hp, h1, h2, k⟩ := h
    obtain ⟨m, z, e, hm, hz0, hz1⟩ := hp.ex
    have a0 : atI [V.int m, V.int z] 0 = some (.int m) := atI_nat (j := 0) rfl
    refine ⟨_, pss_cons (ps_if (pt_cmpR op_gt (pe_ix ix_list (pv 0) pe_int (fun _ _ => rfl)) pe_int (nomark _))
        (pss_cons (ps_set (i := 2) scTake.nd rfl (.inl rfl) (pe_op op_modN (pe_ix ix_list (pv 0) pe_int (fun _ _ => rfl)) (pv 1)))
        (pss_cons (ps_asg (pe_op op_fdivN (pe_ix ix_list (pv 0) pe_int (fun _ _ => rfl)) (pv 1)) (pg_sub (pv 0) pe_int set_list))
        (pss_one (ps_ret (pv 2))))) pss_nil)
      (pss_cons (ps_asg (pe_op op_mod (pe_op op_add (pe_op op_mul (pe_ix ix_list (pv 0) pe_int (fun _ _ => rfl)) pe_int) pe_int) pe_int) (pg_sub (pv 0) pe_int set_list))
      (pss_one (ps_ret (pe_op op_modN (pe_op op_fdiv (pe_op op_mod (pe_op op_mul (pe_ix ix_list (pv 0) pe_int (fun _ _ => rfl)) (pe_ix ix_list (pv 0) pe_int (fun _ _ => rfl))) pe_int) pe_int) (pv 1))))), ?_⟩
    refine ⟨.ref p, rfl, p, _, 0, _, rfl, rfl, .of e, a0, m, 0, rfl, rfl, _, rfl, ite2 (fun c => ?_) (fun c => ?_)⟩
    · refine ⟨.ref p, rfl, p, _, 0, _, rfl, rfl, .of e, a0, .int n, rfl, m, n, rfl, rfl, (by omega), ?_⟩
      refine ⟨.ref p, rfl, p, _, 0, _, rfl, rfl, .of e, a0, .int n, rfl, m, n, rfl, rfl, ⟨by omega, by omega⟩, .ref p, rfl, p, _, 0, 0, rfl, rfl, e, rfl, ?_⟩
      refine ⟨_, rfl, k _ _ .at ⟨m.fdiv n, z, upd_same, ?_, hz0, hz1⟩ ?_ ?_⟩
      · rw [Int.fdiv_eq_ediv_of_nonneg _ (by omega)]
        exact Int.ediv_nonneg hm (by omega)
      · rw [Int.fmod_eq_emod_of_nonneg _ (by omega)]
        exact Int.emod_nonneg _ (by omega)
      · rw [Int.fmod_eq_emod_of_nonneg _ (by omega)]
        exact Int.emod_lt_of_pos _ (by omega)
    · have a1 : atI [V.int m, V.int z] 1 = some (.int z) := atI_nat (j := 1) rfl
      refine ⟨.ref p, rfl, p, _, 1, _, rfl, rfl, .of e, a1, z, 48271, rfl, rfl, .inl ⟨by omega, by omega⟩, _, 11, rfl, rfl, _, 2147483647, rfl, rfl, (by show (0 : Int) < 2147483647; decide), .ref p, rfl, p, _, 1, 1, rfl, rfl, e, rfl, ?_⟩
      have q0 : 0 ≤ (z * 48271 + 11) % 2147483647 := Int.emod_nonneg _ (by omega)
      have q1 : (z * 48271 + 11) % 2147483647 < 2147483647 := Int.emod_lt_of_pos _ (by omega)
      have e' : (upd H p (.lst ([V.int m, V.int z].set 1 (.int ((z * 48271 + 11) % 2147483647))))) p = some (.lst [V.int m, .int ((z * 48271 + 11) % 2147483647)]) := upd_same
      have a1' : atI [V.int m, V.int ((z * 48271 + 11) % 2147483647)] 1 = some (.int ((z * 48271 + 11) % 2147483647)) := atI_nat (j := 1) rfl
      refine ⟨.ref p, rfl, p, _, 1, _, rfl, rfl, .of e', a1', .ref p, rfl, p, _, 1, _, rfl, rfl, .of e', a1', ((z * 48271 + 11) % 2147483647), ((z * 48271 + 11) % 2147483647), rfl, rfl, .inl ⟨by omega, by omega⟩, _, 2147483629, rfl, rfl, (by show (0 : Int) < 2147483629; decide), _, 64, rfl, rfl, ⟨by decide, by decide⟩, .int n, rfl, _, n, rfl, rfl, (by omega), ?_⟩
      refine k _ _ .at ⟨m, ((z * 48271 + 11) % 2147483647), upd_same, hm, q0, q1⟩ ?_ ?_
      · rw [Int.fmod_eq_emod_of_nonneg _ (by omega)]
        exact Int.emod_nonneg _ (by omega)
      · rw [Int.fmod_eq_emod_of_nonneg _ (by omega)]
        exact Int.emod_lt_of_pos _ (by omega)
/-! ### _law_pool -/
def spPool (K : PySem.W.Frag) : Sp := fun xs H Q _ => ∃ (a : Addr) (ns : List Int) (i : Int), xs = [.ref a, .int i] ∧ SqL K H a (ns.map V.int) ∧ 0 ≤ i ∧ i ≤ 63 ∧
  ∀ (p : Addr) (H' : Hp), Same H H' → H p = none → Pool H' p → Q (.ref p) H'
theorem scPool : FnScope ["_law_script", "_law_k", "_law_cell", "_law_size", "_law_seed"] ["_law_script", "_law_k"] (defScope sPool) := ⟨rfl, rfl, rfl, by decide +kernel, rfl, by decide +kernel, by decide +kernel⟩
theorem has_pool (D : Def K mg "_law_pool" sPool) (ml : mg "len" = none) (ma : mg "abs" = none) (mi : mg "int" = none) : Has P w K mg base "_law_pool" 1 ["_law_script", "_law_k"] [] (spPool K) := by
  refine has_of D scPool (fun _ _ _ _ _ _ us hl => match us, hl with | [_, _], _ => rfl) (fun xs H Q E h => ?_) (fun f cv A out s H xs Q E hr h => ?_)
  · obtain ⟨a, ns, i, rfl, _⟩ := h
    rfl
  · obtain ⟨a, ns, i, rfl, hS, h0, h1, k⟩ := h
    refine ⟨_, pss_cons (ps_set (i := 2) scPool.nd rfl (.inl rfl) pe_int)
      (Evl.pss_cut (ps_if (pt_cmpR op_lt (pv 1) (pe_callB call_len_seq (by rfl) ml PySem.boot_len (pa_cons (pv 0) pa_nil)) (nomark _))
        (pss_one (ps_set (i := 2) scPool.nd rfl (.inl rfl) (pe_ix ix_list (pv 0) (pv 1) (fun _ _ => rfl)))) pss_nil)
      (pss_cons (ps_set (i := 3) scPool.nd rfl (.inl rfl) (pe_callB call_abs (by rfl) ma (by decide +kernel) (pa_cons (pv 2) pa_nil)))
      (pss_cons (ps_set (i := 4) scPool.nd rfl (.inl rfl) (pe_op op_mod (pe_op op_pow (pe_op op_add (pe_op op_add (pe_op op_add (pe_op op_mod (pv 2) pe_int) (pe_op op_mul (pe_op op_mul pe_int (pv 1)) (pv 1))) (pe_op op_mul pe_int (pv 1))) pe_int) pe_int) pe_int))
      (pss_one (ps_ret (pe_lst (pa_cons (pe_op op_mul (pv 3) (pe_callTy call_int1 (by rfl) mi (by decide +kernel) (pa_cons (pe_cmpR op_ge (pv 3) (pe_op op_pow pe_int pe_int) (nomark _)) pa_nil))) (pa_cons (pv 4) pa_nil)))))))), ?_⟩
    refine ⟨fun σ H2 => H2 = H ∧ ∃ c : Int, σ = [some (.ref a), some (.int i), some (.int c), none, none], ?_, ?_⟩
    · refine ⟨_, rfl, .ref a, rfl, a, _, rfl, .inl hS, i, _, rfl, rfl, _, rfl, ite2 (fun c => ?_) (fun c => ?_)⟩
      · have hi : i < ((ns.map V.int).length : Int) := of_decide_eq_true c
        rw [List.length_map] at hi
        have hj : i.toNat < ns.length := by omega
        refine ⟨.ref a, rfl, .int i, rfl, a, _, i, .int ns[i.toNat], rfl, rfl, hS, at_of (j := i.toNat) (by omega) ?_, rfl, ns[i.toNat], rfl⟩
        rw [List.getElem?_map, List.getElem?_eq_getElem hj]
        rfl
      · exact ⟨rfl, 0, rfl⟩
    · rintro σ H2 ⟨rfl, c, rfl⟩
      refine ⟨_, rfl, c, rfl, ?_⟩
      refine ⟨_, rfl, c, 2147483629, rfl, rfl, (by show (0 : Int) < 2147483629; decide), _, rfl, 104729, i, rfl, rfl, .inl ⟨by decide, by decide⟩, _, rfl, _, i, rfl, rfl, .inr ⟨by omega, by omega⟩, _, _, rfl, rfl, _, rfl, 7919, i, rfl, rfl, .inl ⟨by decide, by decide⟩, _, _, rfl, rfl, _, 11, rfl, rfl, _, 3, rfl, rfl, ⟨by decide, by decide, ?_⟩, _, 2147483647, rfl, rfl, (by show (0 : Int) < 2147483647; decide), ?_⟩
      · have b0 : 0 ≤ c % 2147483629 := Int.emod_nonneg _ (by omega)
        have b1 : c % 2147483629 < 2147483629 := Int.emod_lt_of_pos _ (by omega)
        have b2 : 0 ≤ 104729 * i * i := Int.mul_nonneg (by omega) h0
        have b3 : 104729 * i * i ≤ 104729 * 63 * 63 := Int.mul_le_mul (by omega) h1 h0 (by omega)
        omega
      · have t0 : ∀ y : Int, 0 ≤ y ^ 3 % 2147483647 ∧ y ^ 3 % 2147483647 < 2147483647 := fun y => ⟨Int.emod_nonneg _ (by omega), Int.emod_lt_of_pos _ (by omega)⟩
        have u0 : 0 ≤ (if c < 0 then -c else c) := by
          split <;> omega
        refine ⟨_, rfl, _, rfl, 10, 18, rfl, rfl, ⟨by decide, by decide, by decide⟩, _, _, rfl, rfl, .inr ⟨_, rfl, ?_⟩⟩
        have b01 : ∀ b : Bool, (0 : Int) ≤ (if b = true then 1 else 0) ∧ (if b = true then (1 : Int) else 0) ≤ 1 := fun b => by cases b <;> decide
        have g := b01 (decide (10 ^ Int.toNat 18 ≤ if c < 0 then -c else c))
        refine ⟨_, _, rfl, rfl, .inr ⟨by omega, by omega⟩, _, rfl, (by show 2 ≤ sizeLine; decide), fun p hp => k p _ (Same.new hp) hp ⟨_, _, upd_same, Int.mul_nonneg u0 g.1, (t0 _).1, (t0 _).2⟩⟩
end
end SE
namespace SE
open PySem PySem.Spec PyProof.Rows L2
theorem len_add (x y : Str) : (x ++ y).length = x.length + y.length := by
  show (x.cps ++ y.cps).size = _
  rw [Array.size_append]
  rfl
theorem cps_add (x y : Str) : (x ++ y).cps.toList = x.cps.toList ++ y.cps.toList := by
  show (x.cps ++ y.cps).toList = _
  exact Array.toList_append
abbrev abc : Str := Str.ofString "abcdefghijklmnopqrstuvwxyz"
theorem abc_len : abc.length = 26 := by decide +kernel
theorem abc_at (i : Nat) (h : i < 26) : ∃ c, abc.cps[i]? = some c ∧ 97 ≤ c ∧ c ≤ 122 := by
  have q : ∀ j : Fin 26, (abc.cps[j.1]?).any (fun c => decide (97 ≤ c) && decide (c ≤ 122)) = true := by decide +kernel
  have z := q ⟨i, h⟩
  simp only [Option.any_eq_true, Bool.and_eq_true, decide_eq_true_eq] at z
  obtain ⟨c, h1, h2, h3⟩ := z
  exact ⟨c, h1, h2, h3⟩
end SE
namespace SE
open PySem PySem.Spec PyProof.Rows L2
theorem nodup_le {α : Type} [DecidableEq α] : ∀ {ys zs : List α}, ys.Nodup → (∀ y ∈ ys, y ∈ zs) → ys.length ≤ zs.length
  | [], _, _, _ => Nat.zero_le _
  | y :: ys, zs, nd, h => by
    obtain ⟨n1, n2⟩ := List.nodup_cons.mp nd
    have hy : y ∈ zs := h y List.mem_cons_self
    have ih := nodup_le (zs := zs.erase y) n2 fun x hx => (List.mem_erase_of_ne (fun e => n1 (by rw [← e]; exact hx))).mpr (h x (List.mem_cons_of_mem _ hx))
    rw [List.length_erase_of_mem hy] at ih
    have : 0 < zs.length := List.length_pos_of_mem hy
    rw [List.length_cons]
    omega
theorem yes_in {σ : L2.St} {H : Hp} {F G : Hp → Prop} (h : F H) : tYes σ H (fun b H3 => if b = true then F H3 else G H3) := by
  show if true = true then F H else G H
  exact iteT h
theorem eqV_str (a b : Str) : eqV (.str a) (.str b) = (a == b) := by
  unfold eqV
  rfl
theorem inV_str (z : Str) : ∀ zs : List Str, inV (.str z) (zs.map V.str) = decide (z ∈ zs)
  | [] => by simp [inV]
  | y :: zs => by
    have ih := inV_str z zs
    unfold inV at ih ⊢
    rw [List.map_cons, List.any_cons, ih, eqV_str]
    by_cases e : y = z
    · subst e
      simp
    · have e2 : ¬ z = y := fun q => e q.symm
      simp [e, e2]
theorem flat_strs : ∀ zs : List Str, (zs.map V.str).all flatV = true
  | [] => rfl
  | y :: zs => by
    rw [List.map_cons, List.all_cons, flat_strs zs]
    rfl
/-- the names that are taken where one is drawn twice -/
def spare : List Str := abc.cps.toList.map fun c => (⟨#[c]⟩ : Str) ++ "zz"
theorem spare_len : spare.length = 26 := by decide +kernel
theorem spare_nd : spare.Nodup := by decide +kernel
theorem spare_item {z : Str} (h : z ∈ spare) : Item z := by
  have q : ∀ y ∈ spare, (decide (1 ≤ y.length) && decide (y.length ≤ 8) && y.cps.toList.all fun c => decide (97 ≤ c) && decide (c ≤ 122)) = true := by decide +kernel
  have e := q z h
  simp only [Bool.and_eq_true, decide_eq_true_eq, List.all_eq_true] at e
  exact ⟨e.1.1, e.1.2, e.2⟩
theorem spare_at {i c : Nat} (h : abc.cps[i]? = some c) : spare[i]? = some ((⟨#[c]⟩ : Str) ++ "zz") := by
  unfold spare
  rw [List.getElem?_map, Array.getElem?_toList, h]
  rfl
theorem abc_size : abc.cps.size = 26 := by decide +kernel
end SE
namespace SE
open PySem PySem.Spec PyProof.Rows L2
section
variable {P : Program} {w : World} {K : PySem.W.Frag} {mg : Str → Option Value} {base : Heap}
/-! ### _law_word -/
def spWord : Sp := fun xs H Q _ => ∃ (p l : Addr) (m : Int) (zs : List Str), xs = [.ref p, .ref l, .int m] ∧ Pool H p ∧ l ≠ p ∧ H l = some (.lst (zs.map V.str)) ∧ zs ≠ [] ∧ zs.length ≤ 100 ∧ 0 ≤ m ∧ m ≤ 900 ∧
  ∀ (t : Addr) (ws : List Str) (H' : Hp), But p H H' → Pool H' p → H t = none → H' t = some (.tup (ws.map V.str)) → (ws.length : Int) ≤ m → (∀ z ∈ ws, z ∈ zs) → Q (.ref t) H'
abbrev nWord : List Str := ["_law_pool_here", "_law_items_here", "_law_most", "_law_turn"]
theorem scWord : FnScope nWord ["_law_pool_here", "_law_items_here", "_law_most"] (defScope sWord) := ⟨rfl, rfl, rfl, by decide +kernel, rfl, by decide +kernel, by decide +kernel⟩
theorem pick_str {zs : List Str} {r : Int} (h0 : 0 ≤ r) (h1 : r < (zs.length : Int)) : ∃ z, z ∈ zs ∧ atI (zs.map V.str) r = some (.str z) := by
  have hj : r.toNat < zs.length := by omega
  refine ⟨zs[r.toNat], List.getElem_mem hj, at_of (j := r.toNat) (by omega) ?_⟩
  rw [List.getElem?_map, List.getElem?_eq_getElem hj]
  rfl
theorem has_word (D : Def K mg "_law_word" sWord) (GT : Has P w K mg base "_law_take" 1 ["_law_pool_here", "_law_many"] [] spTake) (mr : mg "range" = none) (ml : mg "len" = none) (mt : mg "tuple" = none) : Has P w K mg base "_law_word" 2 ["_law_pool_here", "_law_items_here", "_law_most"] [] spWord := by
  refine has_of D scWord (fun _ _ _ _ _ _ us hl => match us, hl with | [_, _, _], _ => rfl) (fun xs H Q E h => ?_) (fun f cv A out s H xs Q E hr h => ?_)
  · obtain ⟨p, l, m, zs, rfl, _⟩ := h
    rfl
  · obtain ⟨p, l, m, zs, rfl, hp, lp, hl, hne, hz, h0, h1, k⟩ := h
    refine ⟨_, pss_one (ps_ret (pe_callTy call_tuple_of (by rfl) mt (by decide +kernel) (pa_cons
      (pe_lc (own := [("_law_turn", 3)]) (g := gName 3) (tt := tYes) (te := tOp (rIxL K) (tVar 1) (tCall spTake [] E0 (tCons (tVar 0) (tCons (tCB (Evl.rLenS K) (tCons (tVar 1) tNil)) tNil)))) rfl scWord.nd
        (pi_range1 (by rfl) mr (pa_cons (pe_has GT hr (pa_cons (pv 0) (pa_cons (pe_op op_add (pv 2) pe_int) pa_nil))) pa_nil)) (blkOk_by (own := [("_law_turn", 3)]) (N := nWord) (sc := defScope sWord) (by decide +kernel))
        (fun _ _ _ _ _ => pg_name (i := 3) scWord.nd rfl (.inl rfl)) (fun _ _ _ _ _ => pts_nil)
        (fun _ _ _ _ _ => pe_ix ix_list (pv 1) (pe_has GT hr (pa_cons (pv 0) (pa_cons (pe_callB call_len_seq (by rfl) ml PySem.boot_len (pa_cons (pv 1) pa_nil)) pa_nil))) (fun _ _ => rfl))) pa_nil))), ?_⟩
    refine ⟨_, rfl, _, rfl, m, 1, rfl, rfl, p, m + 1, rfl, hp, by omega, by omega, fun n H1 b1 p1 n0 n1 => ?_⟩
    have hl1 : H1 l = some (.lst (zs.map V.str)) := b1 l _ lp hl
    refine ⟨n, rfl, by omega, by omega, fun D hD => lc_range (lo := 0) (n := n.toNat) (fun i H2 => ∃ ws : List Str, H2 D = some (.lst (ws.map V.str)) ∧ ws.length = i ∧ (∀ z ∈ ws, z ∈ zs) ∧ But p H H2 ∧ Pool H2 p ∧ H2 l = some (.lst (zs.map V.str))) ?_ ?_ ?_⟩
    · have Dp : D ≠ p := p1.free hD
      exact ⟨[], upd_same, rfl, fun z q => (by cases q), b1.free (b1.none Dp hD), p1.upd Dp, by rw [upd_ne (ne_of_none hl1 hD)]; exact hl1⟩
    · rintro i H2 hi ⟨ws, hw, wl, wz, b2, p2, hl2⟩
      have Dp : D ≠ p := p1.free hD
      have Dl : l ≠ D := ne_of_none hl1 hD
      have hzp : 0 < zs.length := List.length_pos_iff.mpr hne
      refine ⟨rfl, yes_in ⟨_, rfl, _, rfl, _, rfl, l, _, rfl, .inl (.of hl2), p, _, rfl, p2, ?_, ?_, fun r H3 b3 p3 r0 r1 => ?_⟩⟩
      · rw [List.length_map]
        omega
      · rw [List.length_map]
        omega
      · rw [List.length_map] at r1
        obtain ⟨z, zm, az⟩ := pick_str r0 r1
        have hl3 : H3 l = some (.lst (zs.map V.str)) := b3 l _ lp hl2
        have hD3 : H3 D = some (.lst (ws.map V.str)) := b3 D _ Dp hw
        refine ⟨l, _, r, _, rfl, rfl, .of hl3, az, _, hD3, ?_, ws ++ [z], ?_, ?_, ?_, (b2.trans b3).free (b1.none Dp hD), p3.upd Dp, ?_⟩
        · rw [List.length_map, wl]
          exact small1000 (by omega)
        · rw [upd_same, List.map_append]
          rfl
        · rw [List.length_append, wl]
          rfl
        · intro y hy
          rcases List.mem_append.mp hy with q | q
          · exact wz y q
          · rw [List.mem_singleton.mp q]
            exact zm
        · rw [upd_ne Dl]
          exact hl3
    · rintro H2 ⟨ws, hw, wl, wz, b2, p2, hl2⟩
      refine ⟨D, _, rfl, .inl ⟨.of hw, fun t ht => ?_⟩⟩
      have tp : t ≠ p := p2.free ht
      refine k t ws _ (b2.free (b2.none tp ht)) (p2.upd tp) (b2.none tp ht) upd_same ?_ wz
      omega
end
end SE
namespace SE
open PySem PySem.Spec PyProof.Rows L2
/-- a test whose ways meet -/
def tCutT (t : TT) : TT := fun σ H Q => ∃ M : Bool → Hp → Prop, t σ H M ∧ ∀ b H2, M b H2 → Q b H2
theorem pt_cut {X : Cx} {e : Expr} {t : TT} (h : PT X e t) : PT X e (tCutT t) := ⟨fun pins s σ H Q I hw => by
  obtain ⟨M, h1, h2⟩ := hw
  refine thn (h.run pins s σ H M I h1) fun b s2 z => ?_
  obtain ⟨H2, I2, q⟩ := z
  exact ⟨H2, I2, h2 b H2 q⟩⟩
theorem cut_map {α : Type} (f : α → V) (hs : List α) (lo hi : Option Int) : cutV (hs.map f) lo hi = ((hs.drop (HT.sIx hs.length 0 lo)).take (HT.sIx hs.length hs.length hi - HT.sIx hs.length 0 lo)).map f := by
  unfold cutV
  rw [List.length_map, List.map_take, List.map_drop]
theorem cut_mem {α : Type} {x : α} {hs : List α} {a b : Nat} (h : x ∈ (hs.drop a).take b) : x ∈ hs := List.mem_of_mem_drop (List.mem_of_mem_take h)
/-- steps whose tuples stand in the heap -/
abbrev StepsH (H : Hp) : List V → List Stp → Prop := Paired fun v s => ∃ t, v = .ref t ∧ H t = some (.tup [.str (act s.1), .str s.2])
theorem StepsH.v {K : PySem.W.Frag} {H : Hp} {xs : List V} {ss : List Stp} (h : StepsH H xs ss) : StepsV K H xs ss := Paired.mapP h fun _ _ q => by
  obtain ⟨t, e, z⟩ := q
  exact ⟨t, e, .of z⟩
theorem StepsH.but {H H' : Hp} {p : Addr} {xs : List V} {ss : List Stp} (h : StepsH H xs ss) (hp : Pool H p) (b : But p H H') : StepsH H' xs ss := Paired.mapP h fun _ _ q => by
  obtain ⟨t, e, z⟩ := q
  exact ⟨t, e, b t _ (hp.ne z) z⟩
theorem StepsH.upd {H : Hp} {q : Addr} {o : HO} {xs : List V} {ss : List Stp} (h : StepsH H xs ss) (hq : ∀ ys, H q ≠ some (.tup ys)) : StepsH (upd H q o) xs ss := Paired.mapP h fun _ _ r => by
  obtain ⟨t, e, z⟩ := r
  refine ⟨t, e, ?_⟩
  rw [upd_ne (fun w => hq _ (by rw [← w]; exact z))]
  exact z
end SE
namespace SE
open PySem PySem.Spec PyProof.Rows L2
/-! ### what is never reached; types -/
theorem pe_never {X : Cx} {e : Expr} : PE X e (fun _ _ _ => False) := ⟨fun _ _ _ _ _ _ h => h.elim⟩
theorem ty_tup {K : PySem.W.Frag} {H : Hp} {a : Addr} {xs : List V} (h : SqT K H a xs) : TyX K H (.ref a) (.type "tuple") := by
  rcases h with (h | ⟨o, h⟩) | ⟨o, its, n, h1, h2, _⟩
  · exact .base (.tup h)
  · exact .fTuple h
  · exact .kTuple h1 h2
theorem ty_lst {K : PySem.W.Frag} {H : Hp} {a : Addr} {xs : List V} (h : SqL K H a xs) : TyX K H (.ref a) (.type "list") := by
  rcases h with (h | ⟨o, h⟩) | ⟨o, its, n, h1, h2, _⟩
  · exact .base (.lst h)
  · exact .base (.frz h)
  · exact .kList h1 h2
theorem bl_snoc (n : Nat) : (List.replicate n true).map V.bl ++ [V.bl true] = (List.replicate (n + 1) true).map V.bl := by
  rw [List.replicate_succ', List.map_append]
  rfl
theorem all_true (n : Nat) : (List.replicate n true).all id = true := by
  rw [List.all_eq_true]
  intro b hb
  rw [(List.mem_replicate.mp hb).2]
  rfl
theorem abc_has {c : Nat} (h : 97 ≤ c ∧ c ≤ 122) : c ∈ abc.cps.toList := by
  have q : ∀ j : Fin 26, (97 + j.1) ∈ abc.cps.toList := by decide +kernel
  have z := q ⟨c - 97, by omega⟩
  have e : 97 + (c - 97) = c := by omega
  rw [← e]
  exact z
/-- the module's constants -/
structure Cons (K : PySem.W.Frag) (w : World) (mg : Str → Option Value) : Prop where
  let_ : ∃ t, mg "LETTERS" = some (.str abc t)
  ml : ∃ t, mg "MOST_LETTERS" = some (.int 8 t)
  ms : ∃ t, mg "MOST_STEPS" = some (.int 1000 t)
  opp : ∃ (d : Addr) (es : Array DictEntry) (n : Nat) (u v : Value), mg "OPPOSITES" = some (.ref d) ∧ KDict K w d es n ∧ PySem.W.nsIn K d "push" = some (some u) ∧ RelV (.str "pop") u ∧ PySem.W.nsIn K d "pop" = some (some v) ∧ RelV (.str "push") v
/-- built-in names that the module leaves as they are -/
structure Blt (mg : Str → Option Value) : Prop where
  isi : mg "isinstance" = none
  str : mg "str" = none
  len : mg "len" = none
  all : mg "all" = none
  tup : mg "tuple" = none
  lst : mg "list" = none
  enu : mg "enumerate" = none
section
variable {P : Program} {w : World} {K : PySem.W.Frag} {mg : Str → Option Value} {base : Heap}
/-! ### is_item -/
def spIsItem : Sp := fun xs H Q _ => ∃ (z : Str), xs = [.str z] ∧ Item z ∧ ∀ H', Same H H' → Q (.bl true) H'
theorem scIsItem : FnScope ["value", "letter"] ["value"] (defScope sIsItem) := ⟨rfl, rfl, rfl, by decide +kernel, rfl, by decide +kernel, by decide +kernel⟩
theorem has_isItem (D : Def K mg "is_item" sIsItem) (B : Blt mg) (C : Cons K w mg) : Has P w K mg base "is_item" 1 ["value"] [] spIsItem := by
  obtain ⟨tl, hL⟩ := C.let_
  obtain ⟨tm, hM⟩ := C.ml
  refine has_of D scIsItem (fun _ _ _ _ _ _ us hl => match us, hl with | [_], _ => rfl) (fun xs H Q E h => ?_) (fun f cv A out s H xs Q E hr h => ?_)
  · obtain ⟨z, rfl, _⟩ := h
    rfl
  · obtain ⟨z, rfl, iz, k⟩ := h
    refine ⟨_, pss_cons (ps_if (PW.pt (pw_or (pt_not (pt_val (pe_callB call_isi (by rfl) B.isi (by decide +kernel) (pa_cons (pv 0) (pa_cons (pe_bltn (v := .ty "str") (by rfl) B.str (by decide +kernel) rfl) pa_nil)))))
        (pw_or1 (pt_not (pt_chain op_le op_le pe_int (pe_callB call_len_str (by rfl) B.len PySem.boot_len (pa_cons (pv 0) pa_nil)) (pe_glob (v := .int 8) rfl hM ⟨_, rfl⟩)))))) (pss_one (ps_ret pe_bl)) pss_nil)
      (pss_one (ps_ret (pe_callB (cr_all rfl) (by rfl) B.all (by decide +kernel) (pa_cons
        (pe_lc (own := [("letter", 1)]) (g := gName 1) (tt := tYes) rfl scIsItem.nd (pi_str (pv 0)) (blkOk_by (own := [("letter", 1)]) (N := ["value", "letter"]) (sc := defScope sIsItem) (by decide +kernel))
          (fun _ _ _ _ _ => pg_name (i := 1) scIsItem.nd rfl (.inl rfl)) (fun _ _ _ _ _ => pts_nil) (fun _ _ _ _ _ => pe_cmpR op_in_sign (pv 1) (pe_glob (v := .str abc) rfl hL ⟨_, rfl⟩) (by rfl))) pa_nil)))), ?_⟩
    refine ⟨_, rfl, _, .ty "str", .type "str", .type "str", true, rfl, .ty _, .base (.str z), kit_ty (by decide +kernel), true, rfl, iteF ?_⟩
    have p1 : (1 : Int) ≤ (z.length : Int) := by have := iz.pos; omega
    have p2 : (z.length : Int) ≤ 8 := by have := iz.most; omega
    refine ⟨_, rfl, z, rfl, Nat.le_of_lt (small1000 (by have := iz.most; omega)), 1, _, rfl, rfl, true, congrArg V.bl (decide_eq_true p1), iteT ⟨_, 8, rfl, rfl, true, congrArg V.bl (decide_eq_true p2), iteF ?_⟩⟩
    refine ⟨_, rfl, z, rfl, fun D hD => lc_it walk_str (fun j H2 => H2 D = some (.lst ((List.replicate j true).map V.bl)) ∧ Same H H2) ⟨upd_same, Same.new hD⟩ (fun _ _ _ _ => trivial) ?_ ?_⟩
    · rintro j x H2 H3 hj ⟨h2, s2⟩ ⟨rfl, c, hc, rfl⟩
      refine ⟨rfl, yes_in ⟨_, rfl, c, abc, rfl, rfl, _, h2, ?_, ?_, ?_⟩⟩
      · rw [List.length_map, List.length_replicate]
        have : j < z.length := hj
        have := iz.most
        exact small1000 (by omega)
      · have cm : c ∈ z.cps.toList := by
          have q : z.cps.toList[j]? = some c := by rw [Array.getElem?_toList]; exact hc
          exact List.mem_of_getElem? q
        rw [upd_same, decide_eq_true (abc_has (iz.low c cm)), bl_snoc]
      · exact Same.free2 s2 hD
    · rintro H2 ⟨h2, s2⟩
      refine ⟨D, _, rfl, .of h2, ?_⟩
      rw [all_true]
      exact k H2 s2
/-! ### is_word -/
def spIsWord (K : PySem.W.Frag) : Sp := fun xs H Q _ => ∃ (a : Addr) (zs : List Str), xs = [.ref a] ∧ SqT K H a (zs.map V.str) ∧ zs.length ≤ 5000 ∧ (∀ z ∈ zs, Item z) ∧ ∀ H', Same H H' → Q (.bl true) H'
theorem scIsWord : FnScope ["value", "item"] ["value"] (defScope sIsWord) := ⟨rfl, rfl, rfl, by decide +kernel, rfl, by decide +kernel, by decide +kernel⟩
theorem has_isWord (D : Def K mg "is_word" sIsWord) (G : Has P w K mg base "is_item" 1 ["value"] [] spIsItem) (B : Blt mg) : Has P w K mg base "is_word" 2 ["value"] [] (spIsWord K) := by
  refine has_of D scIsWord (fun _ _ _ _ _ _ us hl => match us, hl with | [_], _ => rfl) (fun xs H Q E h => ?_) (fun f cv A out s H xs Q E hr h => ?_)
  · obtain ⟨a, zs, rfl, _⟩ := h
    rfl
  · obtain ⟨a, zs, rfl, hT, hz, hI, k⟩ := h
    refine ⟨_, pss_one (ps_ret (pe_and (pe_callB call_isi (by rfl) B.isi (by decide +kernel) (pa_cons (pv 0) (pa_cons (pe_bltn (v := .ty "tuple") (by rfl) B.tup (by decide +kernel) rfl) pa_nil)))
      (pe_one (pe_callB (cr_all rfl) (by rfl) B.all (by decide +kernel) (pa_cons
        (pe_lc (own := [("item", 1)]) (g := gName 1) (tt := tYes) (te := tCall spIsItem [] E0 (tCons (tVar 1) tNil)) rfl scIsWord.nd (pi_tup (pv 0)) (blkOk_by (own := [("item", 1)]) (N := ["value", "item"]) (sc := defScope sIsWord) (by decide +kernel))
          (fun _ _ _ _ _ => pg_name (i := 1) scIsWord.nd rfl (.inl rfl)) (fun _ _ _ _ _ => pts_nil) (fun _ _ _ _ _ => pe_has G hr (pa_cons (pv 1) pa_nil))) pa_nil))))), ?_⟩
    refine ⟨_, rfl, _, .ty "tuple", .type "tuple", .type "tuple", true, rfl, .ty _, ty_tup hT, kit_ty (by decide +kernel), true, rfl, iteT ?_⟩
    refine ⟨_, rfl, a, rfl, ⟨_, hT⟩, fun D hD => lc_tup (K := K) (a := a) (xs := zs.map V.str) (fun j H2 => H2 D = some (.lst ((List.replicate j true).map V.bl)) ∧ Same H H2) ⟨upd_same, Same.new hD⟩ (fun _ _ _ q => Same.tup q.2 hT) ?_ ?_⟩
    · rintro j x H2 hj ⟨h2, s2⟩
      have jl : j < zs.length := by
        have := (List.getElem?_eq_some_iff.mp hj).1
        rwa [List.length_map] at this
      rw [List.getElem?_map, List.getElem?_eq_getElem jl] at hj
      have e := Option.some.inj hj
      subst e
      refine ⟨rfl, yes_in ⟨_, rfl, zs[j], rfl, hI _ (List.getElem_mem jl), fun H3 s3 => ⟨_, s3 _ _ h2, ?_, ?_, ?_⟩⟩⟩
      · rw [List.length_map, List.length_replicate]
        exact Nat.lt_of_lt_of_le jl (Nat.le_trans hz (by decide))
      · rw [upd_same, bl_snoc]
      · exact Same.free2 (s2.trans s3) hD
    · rintro H2 ⟨h2, s2⟩
      refine ⟨D, _, rfl, .of h2, ?_⟩
      rw [all_true]
      exact k H2 s2
/-! ### is_step -/
def spIsStep (K : PySem.W.Frag) : Sp := fun xs H Q _ => ∃ (v : V) (s : Stp), xs = [v] ∧ StepV K H v s ∧ Item s.2 ∧ ∀ H', Same H H' → Q (.bl true) H'
theorem scIsStep : FnScope ["value", "action", "item"] ["value"] (defScope sIsStep) := ⟨rfl, rfl, rfl, by decide +kernel, rfl, by decide +kernel, by decide +kernel⟩
theorem has_isStep (D : Def K mg "is_step" sIsStep) (G : Has P w K mg base "is_item" 1 ["value"] [] spIsItem) (B : Blt mg) (C : Cons K w mg) : Has P w K mg base "is_step" 2 ["value"] [] (spIsStep K) := by
  obtain ⟨d, es, n, u1, u2, hO, KD, n1, r1, n2, r2⟩ := C.opp
  refine has_of D scIsStep (fun _ _ _ _ _ _ us hl => match us, hl with | [_], _ => rfl) (fun xs H Q E h => ?_) (fun f cv A out s H xs Q E hr h => ?_)
  · obtain ⟨v, st, rfl, _⟩ := h
    rfl
  · obtain ⟨v, st, rfl, ⟨t, rfl, hT⟩, iz, k⟩ := h
    refine ⟨_, pss_cons (ps_if (PW.pt (pw_or (pt_not (pt_val (pe_callB call_isi (by rfl) B.isi (by decide +kernel) (pa_cons (pv 0) (pa_cons (pe_bltn (v := .ty "tuple") (by rfl) B.tup (by decide +kernel) rfl) pa_nil)))))
        (pw_or1 (pt_cmpR op_ne (pe_callB call_len_seq (by rfl) B.len PySem.boot_len (pa_cons (pv 0) pa_nil)) pe_int (nomark _))))) (pss_one (ps_ret pe_bl)) pss_nil)
      (pss_cons (ps_asg (pv 0) (pg_tup (by rfl) (pgs_cons (pg_name (i := 1) scIsStep.nd rfl (.inl rfl)) (pgs_cons (pg_name (i := 2) scIsStep.nd rfl (.inl rfl)) pgs_nil))))
      (pss_one (ps_ret (pe_and (pe_callB call_isi (by rfl) B.isi (by decide +kernel) (pa_cons (pv 1) (pa_cons (pe_bltn (v := .ty "str") (by rfl) B.str (by decide +kernel) rfl) pa_nil)))
        (pe_and (pe_cmpR (op_in_kd KD) (pv 1) (pe_glob (v := .ref d) rfl hO rfl) (by rfl)) (pe_one (pe_has G hr (pa_cons (pv 2) pa_nil)))))))), ?_⟩
    refine ⟨_, rfl, _, .ty "tuple", .type "tuple", .type "tuple", true, rfl, .ty _, ty_tup hT, kit_ty (by decide +kernel), true, rfl, iteF ?_⟩
    refine ⟨_, rfl, t, _, rfl, .inr hT, rfl, _, rfl, iteF ?_⟩
    refine ⟨_, rfl, t, _, rfl, hT, rfl, _, _, rfl, _, _, rfl, rfl, ?_⟩
    refine ⟨_, rfl, _, .ty "str", .type "str", .type "str", true, rfl, .ty _, .base (.str _), kit_ty (by decide +kernel), true, rfl, iteT ?_⟩
    have inO : ∃ r, PySem.W.nsIn K d (act st.1) = some r ∧ r.isSome = true := by
      cases e : st.1 with
      | true => exact ⟨some u1, n1, rfl⟩
      | false => exact ⟨some u2, n2, rfl⟩
    obtain ⟨r, hr1, hr2⟩ := inO
    refine ⟨_, rfl, act st.1, r, rfl, rfl, hr1, r.isSome, rfl, ?_⟩
    rw [hr2]
    exact iteT ⟨_, rfl, st.2, rfl, iz, k⟩
end
end SE
namespace SE
open PySem PySem.Spec PyProof.Rows L2
section
variable {P : Program} {w : World} {K : PySem.W.Frag} {mg : Str → Option Value} {base : Heap}
/-! ### may_hold_steps -/
def spMay (K : PySem.W.Frag) : Sp := fun xs H Q _ => ∃ (a : Addr) (ys : List V), xs = [.ref a] ∧ (SqL K H a ys ∨ SqT K H a ys) ∧ ys.length ≤ 1000 ∧ ∀ H', Same H H' → Q (.bl true) H'
theorem scMay : FnScope ["value"] ["value"] (defScope sMayHold) := ⟨rfl, rfl, rfl, by decide +kernel, rfl, by decide +kernel, by decide +kernel⟩
theorem has_may (D : Def K mg "may_hold_steps" sMayHold) (B : Blt mg) (C : Cons K w mg) : Has P w K mg base "may_hold_steps" 1 ["value"] [] (spMay K) := by
  obtain ⟨tm, hM⟩ := C.ms
  refine has_of D scMay (fun _ _ _ _ _ _ us hl => match us, hl with | [_], _ => rfl) (fun xs H Q E h => ?_) (fun f cv A out s H xs Q E hr h => ?_)
  · obtain ⟨a, ys, rfl, _⟩ := h
    rfl
  · obtain ⟨a, ys, rfl, hS, hl, k⟩ := h
    refine ⟨_, pss_one (ps_ret (pe_and (pe_callB call_isiT (by rfl) B.isi (by decide +kernel) (pa_cons (pv 0) (pa_cons (pe_tup (pa_cons (pe_bltn (v := .ty "list") (by rfl) B.lst (by decide +kernel) rfl) (pa_cons (pe_bltn (v := .ty "tuple") (by rfl) B.tup (by decide +kernel) rfl) pa_nil))) pa_nil)))
      (pe_one (pe_cmpR op_le (pe_callB call_len_seq (by rfl) B.len PySem.boot_len (pa_cons (pv 0) pa_nil)) (pe_glob (v := .int 1000) rfl hM ⟨_, rfl⟩) (nomark _))))), ?_⟩
    refine ⟨_, rfl, (by show 2 ≤ sizeLine; decide), fun t ht => ?_⟩
    have s1 : Same H (upd H t (.tup [.ty "list", .ty "tuple"])) := Same.new ht
    have p1 : (ys.length : Int) ≤ 1000 := by omega
    have ty : ∃ T, TyX K (upd H t (.tup [.ty "list", .ty "tuple"])) (.ref a) T ∧ PySem.W.kitAny K T [.type "list", .type "tuple"] = some true := by
      rcases hS with q | q
      · exact ⟨_, ty_lst (Same.seq s1 q), kitAny_cons (b := true) (kit_ty (by decide +kernel)) (fun z => (by cases z)) (fun _ => rfl)⟩
      · exact ⟨_, ty_tup (Same.tup s1 q), kitAny_cons (b := false) (kit_ty (by decide +kernel)) (fun _ => kitAny_cons (b := true) (kit_ty (by decide +kernel)) (fun z => (by cases z)) (fun _ => rfl)) (fun z => (by cases z))⟩
    obtain ⟨T, ty1, ty2⟩ := ty
    refine ⟨_, t, _, T, _, true, rfl, upd_same, .cons (.ty _) (.cons (.ty _) .nil), ty1, ty2, true, rfl, iteT ?_⟩
    refine ⟨_, rfl, a, ys, rfl, hS.imp (Same.seq s1) (Same.tup s1), _, 1000, rfl, rfl, ?_⟩
    show Q (V.bl (decide ((ys.length : Int) ≤ 1000))) _
    rw [decide_eq_true p1]
    exact k _ s1
/-! ### check_steps -/
def spChkSteps (K : PySem.W.Frag) : Sp := fun xs H Q _ => ∃ (a : Addr) (ys : List V) (ss : List Stp), xs = [.ref a] ∧ (SqL K H a ys ∨ SqT K H a ys) ∧ ys.length ≤ 1000 ∧ StepsV K H ys ss ∧ (∀ s ∈ ss, Item s.2) ∧ ∀ H', Same H H' → Q .non H'
theorem scChk : FnScope ["steps", "index", "step"] ["steps"] (defScope sChkSteps) := ⟨rfl, rfl, rfl, by decide +kernel, rfl, by decide +kernel, by decide +kernel⟩
theorem walk_enumT {K : PySem.W.Frag} {a : Addr} {xs : List V} : Walk (ItE K a) xs.length (fun H => SqT K H a xs) (YPair (fun i => some (.int (i : Nat))) (fun i => xs[i]?)) := by
  refine ⟨fun i _ hi q => ⟨xs, xs[i], q, by simp [hi]⟩, fun _ q => ⟨xs, q, Nat.le_refl _⟩, fun i H v H2 _ q y => ?_⟩
  obtain ⟨T, x, h1, h2, h3, h4⟩ := y
  exact ⟨T, .int (i : Nat), x, h1, h2, h3, rfl, h4 xs q⟩
theorem has_chkSteps (D : Def K mg "check_steps" sChkSteps) (GM : Has P w K mg base "may_hold_steps" 1 ["value"] [] (spMay K)) (GS : Has P w K mg base "is_step" 2 ["value"] [] (spIsStep K)) (B : Blt mg) : Has P w K mg base "check_steps" 3 ["steps"] [] (spChkSteps K) := by
  refine has_of D scChk (fun _ _ _ _ _ _ us hl => match us, hl with | [_], _ => rfl) (fun xs H Q E h => ?_) (fun f cv A out s H xs Q E hr h => ?_)
  · obtain ⟨a, ys, ss, rfl, _⟩ := h
    rfl
  · obtain ⟨a, ys, ss, rfl, hS, hl, hV, hI, k⟩ := h
    have hr1 : Room 1 _ := hr.mono (by decide)
    have one : ∀ {i : Nat} {y : V} {H2 : Hp}, ys[i]? = some y → Same H H2 → ∃ s, StepV K H2 y s ∧ Item s.2 := by
      intro i y H2 hy s2
      obtain ⟨st, h1, h2⟩ := StepsV.at hV hy
      exact ⟨st, h2.same s2, hI st (List.mem_of_getElem? h1)⟩
    rcases hS with hS | hS
    · refine ⟨_, pss_cons (ps_if (pt_not (pt_val (pe_has GM hr1 (pa_cons (pv 0) pa_nil)))) pss_never pss_nil)
        (pss_one (ps_for PassesOwn.never rfl (pi_enum (by rfl) B.enu (pa_cons (pv 0) pa_nil)) (pg_tup (by rfl) (pgs_cons (pg_name (i := 1) scChk.nd rfl (.inl rfl)) (pgs_cons (pg_name (i := 2) scChk.nd rfl (.inl rfl)) pgs_nil)))
          (pss_one (ps_if (pt_not (pt_val (pe_has GS hr (pa_cons (pv 2) pa_nil)))) pss_never pss_nil)))), ?_⟩
      refine ⟨_, rfl, a, ys, rfl, .inl hS, hl, fun H1 s1 => ⟨true, rfl, iteF ?_⟩⟩
      refine ⟨_, rfl, a, ys, rfl, Same.seq s1 hS, for_it (walk_enum (K := K) (a := a) (xs := ys)) (fun i σ H2 => ∃ y1 y2, σ = [some (.ref a), y1, y2] ∧ Same H H2) ⟨none, none, rfl, s1⟩ (fun i σ H2 _ q => ?_) ?_ ?_⟩
      · obtain ⟨_, _, _, s2⟩ := q
        exact Same.seq s2 hS
      · rintro i x σ H2 H3 hi ⟨y1, y2, rfl, s2⟩ ⟨T, p, y, rfl, nT, rfl, hp, hy⟩
        refine ⟨T, _, rfl, .of upd_same, rfl, _, _, rfl, _, _, rfl, rfl, ?_⟩
        have s3 : Same H (upd H2 T (.tup [p, y])) := Same.free2 s2 (s2.free nT)
        obtain ⟨st, h1, h2⟩ := one hy s3
        exact ⟨_, rfl, y, st, rfl, h1, h2, fun H4 s4 => ⟨true, rfl, iteF ⟨_, _, rfl, s3.trans s4⟩⟩⟩
      · rintro σ H2 ⟨y1, y2, rfl, s2⟩
        exact k H2 s2
    · refine ⟨_, pss_cons (ps_if (pt_not (pt_val (pe_has GM hr1 (pa_cons (pv 0) pa_nil)))) pss_never pss_nil)
        (pss_one (ps_for PassesOwn.never rfl (pi_enumT (by rfl) B.enu (pa_cons (pv 0) pa_nil)) (pg_tup (by rfl) (pgs_cons (pg_name (i := 1) scChk.nd rfl (.inl rfl)) (pgs_cons (pg_name (i := 2) scChk.nd rfl (.inl rfl)) pgs_nil)))
          (pss_one (ps_if (pt_not (pt_val (pe_has GS hr (pa_cons (pv 2) pa_nil)))) pss_never pss_nil)))), ?_⟩
      refine ⟨_, rfl, a, ys, rfl, .inr hS, hl, fun H1 s1 => ⟨true, rfl, iteF ?_⟩⟩
      refine ⟨_, rfl, a, ys, rfl, Same.tup s1 hS, for_it (walk_enumT (K := K) (a := a) (xs := ys)) (fun i σ H2 => ∃ y1 y2, σ = [some (.ref a), y1, y2] ∧ Same H H2) ⟨none, none, rfl, s1⟩ (fun i σ H2 _ q => ?_) ?_ ?_⟩
      · obtain ⟨_, _, _, s2⟩ := q
        exact Same.tup s2 hS
      · rintro i x σ H2 H3 hi ⟨y1, y2, rfl, s2⟩ ⟨T, p, y, rfl, nT, rfl, hp, hy⟩
        refine ⟨T, _, rfl, .of upd_same, rfl, _, _, rfl, _, _, rfl, rfl, ?_⟩
        have s3 : Same H (upd H2 T (.tup [p, y])) := Same.free2 s2 (s2.free nT)
        obtain ⟨st, h1, h2⟩ := one hy s3
        exact ⟨_, rfl, y, st, rfl, h1, h2, fun H4 s4 => ⟨true, rfl, iteF ⟨_, _, rfl, s3.trans s4⟩⟩⟩
      · rintro σ H2 ⟨y1, y2, rfl, s2⟩
        exact k H2 s2
/-! ### check_word, is_limit, check_limit, check_run, is_too_high -/
def spChkWord (K : PySem.W.Frag) : Sp := fun xs H Q _ => ∃ (a : Addr) (zs : List Str), xs = [.ref a] ∧ SqT K H a (zs.map V.str) ∧ zs.length ≤ 5000 ∧ (∀ z ∈ zs, Item z) ∧ ∀ H', Same H H' → Q .non H'
theorem scCw : FnScope ["word"] ["word"] (defScope sChkWord) := ⟨rfl, rfl, rfl, by decide +kernel, rfl, by decide +kernel, by decide +kernel⟩
theorem has_chkWord (D : Def K mg "check_word" sChkWord) (G : Has P w K mg base "is_word" 2 ["value"] [] (spIsWord K)) : Has P w K mg base "check_word" 3 ["word"] [] (spChkWord K) := by
  refine has_of D scCw (fun _ _ _ _ _ _ us hl => match us, hl with | [_], _ => rfl) (fun xs H Q E h => ?_) (fun f cv A out s H xs Q E hr h => ?_)
  · obtain ⟨a, zs, rfl, _⟩ := h
    rfl
  · obtain ⟨a, zs, rfl, hT, hz, hI, k⟩ := h
    refine ⟨_, pss_one (ps_if (pt_not (pt_val (pe_has G hr (pa_cons (pv 0) pa_nil)))) pss_never pss_nil), ?_⟩
    exact ⟨_, rfl, a, zs, rfl, hT, hz, hI, fun H1 s1 => ⟨true, rfl, iteF (k H1 s1)⟩⟩
end
end SE
namespace SE
open PySem PySem.Spec PyProof.Rows L2
/-- a def with keyword-only defaults alone -/
def DefK (K : PySem.W.Frag) (mg : Str → Option Value) (x : Str) (st : Stmt) (kws : List (Str × V)) : Prop := ∃ f fd, Fun K x x st f fd ∧ FunD K x x (defArgs st) (defBody st) (defScope st) [] kws f fd ∧ mg x = some (.ref f)
end SE
namespace SE
open PySem PySem.Spec PyProof.Rows L2
section
variable {P : Program} {w : World} {K : PySem.W.Frag} {mg : Str → Option Value} {base : Heap}
/-! ### is_whole, is_between, check_between -/
def spWhole : Sp := fun xs H Q _ => ∃ n : Int, xs = [.int n] ∧ Q (.bl true) H
theorem scWh : FnScope ["value"] ["value"] (defScope sIsWhole) := ⟨rfl, rfl, rfl, by decide +kernel, rfl, by decide +kernel, by decide +kernel⟩
theorem has_whole (D : Def K mg "is_whole" sIsWhole) (B : Blt mg) (mi : mg "int" = none) (mb : mg "bool" = none) : Has P w K mg base "is_whole" 1 ["value"] [] spWhole := by
  refine has_of D scWh (fun _ _ _ _ _ _ us hl => match us, hl with | [_], _ => rfl) (fun xs H Q E h => ?_) (fun f cv A out s H xs Q E hr h => ?_)
  · obtain ⟨n, rfl, _⟩ := h
    rfl
  · obtain ⟨n, rfl, k⟩ := h
    refine ⟨_, pss_one (ps_ret (pe_and (pe_callB call_isi (by rfl) B.isi (by decide +kernel) (pa_cons (pv 0) (pa_cons (pe_bltn (v := .ty "int") (by rfl) mi (by decide +kernel) rfl) pa_nil)))
      (pe_one (pe_not (pe_callB call_isi (by rfl) B.isi (by decide +kernel) (pa_cons (pv 0) (pa_cons (pe_bltn (v := .ty "bool") (by rfl) mb (by decide +kernel) rfl) pa_nil))))))), ?_⟩
    refine ⟨_, rfl, _, .ty "int", .type "int", .type "int", true, rfl, .ty _, .base (.int n), kit_ty (by decide +kernel), true, rfl, iteT ?_⟩
    exact ⟨_, rfl, _, .ty "bool", .type "int", .type "bool", false, rfl, .ty _, .base (.int n), kit_ty (by decide +kernel), false, rfl, k⟩
def spBet : Sp := fun xs H Q _ => ∃ v lo hi : Int, xs = [.int v, .int lo, .int hi] ∧ lo ≤ v ∧ v ≤ hi ∧ Q (.bl true) H
theorem scBet : FnScope ["value", "least", "most"] ["value", "least", "most"] (defScope sIsBetween) := ⟨rfl, rfl, rfl, by decide +kernel, rfl, by decide +kernel, by decide +kernel⟩
theorem has_bet (D : Def K mg "is_between" sIsBetween) (G : Has P w K mg base "is_whole" 1 ["value"] [] spWhole) : Has P w K mg base "is_between" 2 ["value", "least", "most"] [] spBet := by
  refine has_of D scBet (fun _ _ _ _ _ _ us hl => match us, hl with | [_, _, _], _ => rfl) (fun xs H Q E h => ?_) (fun f cv A out s H xs Q E hr h => ?_)
  · obtain ⟨v, lo, hi, rfl, _⟩ := h
    rfl
  · obtain ⟨v, lo, hi, rfl, h1, h2, k⟩ := h
    refine ⟨_, pss_one (ps_ret (pe_and (pe_has G hr (pa_cons (pv 0) pa_nil)) (pe_one (pe_chain op_le op_le (pv 1) (pv 0) (pv 2))))), ?_⟩
    refine ⟨_, rfl, v, rfl, true, rfl, iteT ⟨_, rfl, _, rfl, lo, v, rfl, rfl, true, congrArg V.bl (decide_eq_true h1), iteT ⟨_, rfl, v, hi, rfl, rfl, ?_⟩⟩⟩
    show Q (V.bl (decide (v ≤ hi))) H
    rw [decide_eq_true h2]
    exact k
def spChkB : Sp := fun xs H Q _ => ∃ v lo hi : Int, xs = [.int v, .int lo, .int hi] ∧ lo ≤ v ∧ v ≤ hi ∧ Q .non H
theorem scChkB : FnScope ["value", "least", "most"] ["value", "least", "most"] (defScope sCheckBetween) := ⟨rfl, rfl, rfl, by decide +kernel, rfl, by decide +kernel, by decide +kernel⟩
theorem has_chkB (D : Def K mg "check_between" sCheckBetween) (G : Has P w K mg base "is_between" 2 ["value", "least", "most"] [] spBet) : Has P w K mg base "check_between" 3 ["value", "least", "most"] [] spChkB := by
  refine has_of D scChkB (fun _ _ _ _ _ _ us hl => match us, hl with | [_, _, _], _ => rfl) (fun xs H Q E h => ?_) (fun f cv A out s H xs Q E hr h => ?_)
  · obtain ⟨v, lo, hi, rfl, _⟩ := h
    rfl
  · obtain ⟨v, lo, hi, rfl, h1, h2, k⟩ := h
    refine ⟨_, pss_one (ps_if (pt_not (pt_val (pe_has G hr (pa_cons (pv 0) (pa_cons (pv 1) (pa_cons (pv 2) pa_nil)))))) pss_never pss_nil), ?_⟩
    exact ⟨_, rfl, _, rfl, _, rfl, v, lo, hi, rfl, h1, h2, true, rfl, iteF k⟩
end
end SE
/-! (x,) * n for n up to 5000. -/
namespace SE
open PySem PySem.Spec PyProof.Rows L2
def rRepB (K : PySem.W.Frag) : R2 := fun x y H Q => ∃ (l : Addr) (k : Int) (v : V), x = .ref l ∧ y = .int k ∧ SqT K H l [v] ∧ 2 ≤ k ∧ k ≤ 5000 ∧ ∀ p, H p = none → Q (.ref p) (upd H p (.tup (List.replicate k.toNat v)))
theorem op_repB {X : Cx} : OpR X (binaryOp .Mult) (rRepB X.K) := by
  intro pins s σ H x y a u Q I rx ry h
  obtain ⟨l, k, v, rfl, rfl, hT, h1, h2, q⟩ := h
  cases rx
  obtain ⟨t, rfl⟩ := ry
  obtain ⟨its, r, ⟨⟨cls, dd, data, sl⟩, ho, hc, n, hd⟩, hs⟩ := I.tuple hT
  simp only at hc hd
  subst hc hd
  obtain ⟨w, rfl⟩ : ∃ w, its = [w] := by
    cases r with
    | cons r1 r2 =>
      cases r2
      exact ⟨_, rfl⟩
  have sz : (([w] : List Value).toArray.size : Int) * k = k := by
    show ((1 : Nat) : Int) * k = k
    omega
  have rep : ∀ {α : Type} (z : α), (List.replicate k.toNat [z]).flatten = List.replicate k.toNat z := fun z => List.flatten_replicate_singleton
  have big : k.toNat ≤ sizeLine := by
    rw [sizeLine_eq]
    omega
  refine wpAny_binaryOp_repeat_ref (T := "tuple") (U := "int") (by decide) ⟨_, ho, rfl⟩ (fun s2 => typeIs_int s2 k t) noFill_tuple_mul F.fills_int_mul F.slot_int_rmul repeat_tuple F.slot_int_index.lookup ?_
  refine call_meets F.slot_int_rmul (typeIs_int s k t) F.entry_int_rmul (F.args_int_rmul_2 _ _) (int_rmul_tuple k t l _ n dd sl) ⟨ho, rfl, ⟨_, ho, rfl⟩, ?_⟩
  refine call_meets F.slot_tuple_mul ⟨_, ho, rfl⟩ F.entry_tuple_mul (F.args_tuple_mul_2 _ _) (tuple_mulW l _ n dd sl k t ?_ ?_ ?_ ?_ ?_ ?_) ⟨ho, ?_⟩
  · rw [decide_eq_false (by omega), decide_eq_false (by omega)]
    rfl
  · show (false || k == 1) = false
    rw [Bool.false_or]
    exact beq_eq_false_iff_ne.mpr (by omega)
  · show (decide (k ≤ 0) || false) = false
    rw [Bool.or_false]
    exact decide_eq_false (by omega)
  · rw [sz]
    omega
  · rw [sz]
    unfold Builtin.Tuple.tupleTooMany
    rw [sizeLine_eq]
    exact decide_eq_false (by omega)
  · rw [size_rep, List.size_toArray, rep, List.length_replicate]
    exact big
  · rw [size_rep, rep]
    refine ⟨.ref s.heap.objs.size, _, I.laid (t' := s.toks) (o := .tup (List.replicate k.toNat v)) (fun b ob e => Heap.get?_push_of_some _ e) (Nat.le_refl _) ?_, rfl, q _ (I.hok.fresh (Nat.le_refl _))⟩
    refine ⟨by rw [List.length_replicate]; exact big, _, ?_, IsTup.new _ _⟩
    have z := r.rep k.toNat
    rw [rep, rep] at z
    exact z
end SE
/-! Tuples: t * n, t + u, t[a:b] whichever object comes out; len(set(t)) of texts. -/
namespace SE
open PySem PySem.Spec PyProof.Rows L2
section
variable {X : Cx}
theorem tmul_one (l : Addr) (w : Value) (n : Nat) (dd : Option Addr) (sl : Array (Option Value)) (u : Tok) :
    Meets (Builtin.«tuple.__mul__» ⟨[.ref l, .int 1 u], []⟩) (fun _ R s => s.heap.get? l = some { cls := .type "tuple", dict := dd, data := .seq #[w] n, slots := sl } ∧ R (.ok (.ret (Value.ref l))) s) :=
  .of_wp fun prog wd A R s h => by
    obtain ⟨hp, g, d, tk, os⟩ := s
    obtain ⟨hl, h⟩ := h
    have f1 := AutoSeq1.idx_int
    wp_walk using AutoSeq1.wpAny_loadPart' hl
    exact ⟨_, rfl, h⟩
theorem tmul_none (l : Addr) (w : Value) (n : Nat) (dd : Option Addr) (sl : Array (Option Value)) (k : Int) (u : Tok) (h0 : -1000000 ≤ k) (h1 : k ≤ 0) :
    Meets (Builtin.«tuple.__mul__» ⟨[.ref l, .int k u], []⟩) (fun _ R s => s.heap.get? l = some { cls := .type "tuple", dict := dd, data := .seq #[w] n, slots := sl } ∧
      R (.ok (.ret (Value.ref s.heap.objs.size))) { s with heap := s.heap.push { cls := .type "tuple", data := .seq #[] } }) :=
  .of_wp fun prog wd A R s h => by
    obtain ⟨hp, g, d, tk, os⟩ := s
    obtain ⟨hl, h⟩ := h
    have f1 := AutoSeq1.idx_int
    have c0 : (decide (k < -(2 ^ 63)) || decide (k ≥ 2 ^ 63)) = false := by
      rw [decide_eq_false (by omega), decide_eq_false (by omega)]
      rfl
    have c1 : ((#[w] : Array Value).isEmpty || k == 1) = false := by
      show (false || k == 1) = false
      rw [Bool.false_or]
      exact beq_eq_false_iff_ne.mpr (by omega)
    have c2 : (decide (k ≤ 0) || (#[w] : Array Value).isEmpty) = true := by
      rw [decide_eq_true h1]
      rfl
    wp_walk using AutoSeq1.wpAny_loadPart' hl
    repeat (first
      | (refine wpAny_ite_false (decide_eq_false (by rw [c0]; exact Bool.false_ne_true)) ?_; wp_walk using AutoSeq1.wpAny_loadPart' hl)
      | (refine wpAny_ite_false (decide_eq_false (by rw [c1]; exact Bool.false_ne_true)) ?_; wp_walk using AutoSeq1.wpAny_loadPart' hl)
      | (refine wpAny_ite_true (decide_eq_true (by rw [c2])) ?_; wp_walk using AutoSeq1.wpAny_loadPart' hl))
    exact ⟨_, rfl, h⟩
/-- (x,) * k, any k -/
def rRepS (K : PySem.W.Frag) : R2 := fun x y H Q => ∃ (l : Addr) (k : Int) (v : V), x = .ref l ∧ y = .int k ∧ SqT K H l [v] ∧ -1000000 ≤ k ∧ k ≤ 5000 ∧ ∀ (p : Addr) (H' : Hp), Same H H' → SqT K H' p (List.replicate k.toNat v) → Q (.ref p) H'
theorem op_repS : OpR X (binaryOp .Mult) (rRepS X.K) := by
  intro pins s σ H x y a u Q I rx ry h
  obtain ⟨l, k, v, rfl, rfl, hT, h1, h2, q⟩ := h
  by_cases c : 2 ≤ k
  · exact op_repB pins s σ H _ _ a u Q I rx ry ⟨l, k, v, rfl, rfl, hT, c, h2, fun p hp => q p _ (Same.new hp) (.of upd_same)⟩
  cases rx
  obtain ⟨t, rfl⟩ := ry
  obtain ⟨its, r, ⟨⟨cls, dd, data, sl⟩, ho, hc, n, hd⟩, hs⟩ := I.tuple hT
  simp only at hc hd
  subst hc hd
  obtain ⟨w, rfl⟩ : ∃ w, its = [w] := by
    cases r with
    | cons r1 r2 =>
      cases r2
      exact ⟨_, rfl⟩
  refine wpAny_binaryOp_repeat_ref (T := "tuple") (U := "int") (by decide) ⟨_, ho, rfl⟩ (fun s2 => typeIs_int s2 k t) noFill_tuple_mul F.fills_int_mul F.slot_int_rmul repeat_tuple F.slot_int_index.lookup ?_
  refine call_meets F.slot_int_rmul (typeIs_int s k t) F.entry_int_rmul (F.args_int_rmul_2 _ _) (int_rmul_tuple k t l _ n dd sl) ⟨ho, rfl, ⟨_, ho, rfl⟩, ?_⟩
  by_cases c1 : k = 1
  · subst c1
    refine call_meets F.slot_tuple_mul ⟨_, ho, rfl⟩ F.entry_tuple_mul (F.args_tuple_mul_2 _ _) (tmul_one l w n dd sl t) ⟨ho, ?_⟩
    exact ⟨.ref l, H, I, rfl, q l H (Same.refl H) hT⟩
  · have k0 : k ≤ 0 := by omega
    refine call_meets F.slot_tuple_mul ⟨_, ho, rfl⟩ F.entry_tuple_mul (F.args_tuple_mul_2 _ _) (tmul_none l w n dd sl k t h1 k0) ⟨ho, ?_⟩
    refine ⟨.ref s.heap.objs.size, _, I.laid (t' := s.toks) (o := .tup []) (fun b ob e => Heap.get?_push_of_some _ e) (Nat.le_refl _) ?_, rfl, q _ _ (Same.new (I.hok.fresh (Nat.le_refl _))) ?_⟩
    · exact ⟨Nat.zero_le _, [], .nil, IsTup.new _ _⟩
    · rw [show k.toNat = 0 by omega]
      exact .of upd_same
/-- t + u -/
def rCatS (K : PySem.W.Frag) : R2 := fun x y H Q => ∃ (a b : Addr) (xs ys : List V), x = .ref a ∧ y = .ref b ∧ SqT K H a xs ∧ SqT K H b ys ∧ xs.length + ys.length ≤ sizeLine ∧ ∀ (p : Addr) (H' : Hp), Same H H' → SqT K H' p (xs ++ ys) → Q (.ref p) H'
theorem op_catS : OpR X (binaryOp .Add) (rCatS X.K) := by
  intro pins s σ H x y v u Q I rx ry h
  obtain ⟨a, b, xs, ys, rfl, rfl, ha, hb, hz, q⟩ := h
  refine op_catA pins s σ H _ _ v u Q I rx ry ⟨a, b, xs, ys, rfl, rfl, ha, hb, hz, fun e => ?_, fun _ e => ?_, fun _ _ p hp => q p _ (Same.new hp) (.of upd_same)⟩
  · subst e
    exact q b H (Same.refl H) hb
  · subst e
    exact q a H (Same.refl H) (by rw [List.append_nil]; exact ha)
/-- t[lo:hi] -/
def rSlS (K : PySem.W.Frag) : V → Option Int → Option Int → Hp → VK → Prop := fun x lo hi H Q => ∃ (a : Addr) (xs : List V), x = .ref a ∧ SqT K H a xs ∧ ∀ (p : Addr) (H' : Hp), Same H H' → SqT K H' p (cutV xs lo hi) → Q (.ref p) H'
theorem sl_tupS : SlR X (rSlS X.K) := by
  intro pins s σ H x v vl vu lo hi sl Q I rx hs pl pu h
  obtain ⟨a, xs, rfl, hx, q⟩ := h
  refine sl_tupA pins s σ H _ v vl vu lo hi sl Q I rx hs pl pu ⟨a, xs, rfl, hx, fun e => q a H (Same.refl H) ?_, fun _ p hp => q p _ (Same.new hp) (.of upd_same)⟩
  have e2 : cutV xs lo hi = xs := by
    unfold cutV
    rw [e.1, e.2, List.drop_zero, Nat.sub_zero, List.take_length]
  rw [e2]
  exact hx
end
end SE
/-! A for in a generator's body; a generator def called with keywords. -/
namespace SE
open PySem PySem.Spec PyProof.Rows L2 GenW
section
variable {X : Cx}
def tGFor (wi : TI) (g : TG) (tb : TGn) : TGn := fun D ys σ H => wi σ H fun J H1 => ∃ W : Nat → Nat → List V → L2.St → Hp → Prop, (∃ m, W 0 m ys σ H1) ∧ ∀ i m ys σ H, W i m ys σ H →
  (J.stop i H ∧ D.nx ys σ H) ∨ (J.go i H ∧ ∃ N : List V → L2.St → Hp → Prop, (∀ zs σ2 H2, N zs σ2 H2 → ∃ j, j < m ∧ W (i + 1) j zs σ2 H2) ∧ ∀ x H2, J.yld i H x H2 → g x σ H2 fun σ3 H3 => tb { D with nx := N, ct := N, bk := D.nx } ys σ3 H3)
theorem gs_for {tg iter : Expr} {body : List Stmt} {pos : Pos} {wi : TI} {g : TG} {tb : TGn} (hp : PassesOwn (model X.prog X.w) X.A X.env X.xe) (hc : X.calm = true) (hi : PI X tg iter wi) (hg : PG X tg g) (hb : GSs X body tb)
    (hs : ∀ x, foldedSetIterable iter X.env x = pure x := by intro _; rfl) : GS X (.For tg iter body [] pos) (tGFor wi g tb) := by
  constructor
  intro A S ip R n ys s₀ c fs K J gd lv s σ H D gc hn k hI ht
  obtain ⟨acc, cc, r, I⟩ := hI
  rw [exec_For]
  refine seg_bind_wrap (wpAny_standAt ?_)
  refine seg_bind_wrap ?_
  rw [gc.over]
  refine wpAny_mono (hi.run _ s σ H _ I ht) (fun v s1 h1 => ?_) fun x s2 hx => k.exc n s₀ x s2 hx
  refine seg_bind_wrap (wpAny_of_eq (hs v) ?_)
  refine seg_bind_wrap (wpAny_standAt ?_)
  refine seg_bind_wrap (wpAny_holding ?_)
  rw [gc.over]
  refine wpAny_mono h1 (fun itv s2 h2 => ?_) fun x s3 hx => k.exc n s₀ x s3 hx
  obtain ⟨it, fp, tn, Jt, H2, e2, I2, T, st2, f2, W, ⟨m0, w0⟩, turn⟩ := h2
  subst e2
  refine seg_call fun p => ?_
  have gl := fun (kk : Result → Sem PySem.Fin) => gc_loop (X := X) (k := kk) (c' := .forLoop tg (.ref it) body [] X.env) (l := lv []) (kp := []) (p := p) gc rfl rfl
  have apart : ∀ b ∈ fp, b ≠ S := fun b hb z => by
    obtain ⟨_, _, _, _, _, q⟩ := f2 b hb
    exact q (S, lstObj acc cc) (List.mem_append_right _ List.mem_cons_self) z.symm
  have fpok : ∀ {acc2 : Array Value} {c2 : Nat} {H3 : Hp}, (∀ b ∈ fp, H3 b = none) → ∀ b ∈ fp, FpOk X ((S, lstObj acc2 c2) :: ip) H3 b := by
    intro acc2 c2 H3 hn3 b hb
    obtain ⟨_, a2, a3, a4, a5, a6⟩ := f2 b hb
    refine ⟨hn3 b hb, a2, a3, a4, a5, fun q hq => ?_⟩
    rcases List.mem_append.mp hq with z | z
    · exact a6 q (List.mem_append_left _ z)
    · rcases List.mem_cons.mp z with y | y
      · rw [y]
        exact Ne.symm (apart b hb)
      · exact a6 q (List.mem_append_right _ (List.mem_cons_of_mem _ y))
  have loop : ∀ (m n i : Nat) (ys : List V) (s₀ s : Shared) (σ : L2.St) (H : Hp), n + ys.length = sizeLine → W i m ys σ H → GI X S ip ys σ H s → tn i s.heap → (∀ b ∈ fp, H b = none) →
      Seg (model X.prog X.w) A R (GY X S) n s₀ (.forLoop tg (.ref it) body [] X.env) ((model X.prog X.w).den (.forLoop tg (.ref it) body [] X.env))
        (.ret (fun r => ((match r with | .ok f => (.pure f : Sem Flow) | .error e => .raise e).onRaise (cameBack X.env)).wrap K J gd lv) none (gd false) (lv []) c p [] :: fs) s := by
    intro m
    induction m using Nat.strongRecOn with
    | ind m ih =>
      intro n i ys s₀ s σ H hn w hI st fr
      have ee : ∀ (n : Nat) (s₀ : Shared) (x : Value) (s4 : Shared), X.xe x s4 → Seg (model X.prog X.w) A R (GY X S) n s₀ (.forLoop tg (.ref it) body [] X.env)
          ((do noteFrame x X.env; theTreesLotGoes x : Sem Unit).bind fun _ => .raise x)
          (.ret (fun r => ((match r with | .ok f => (.pure f : Sem Flow) | .error e => .raise e).onRaise (cameBack X.env)).wrap K J gd lv) none (gd false) (lv []) c p [] :: fs) s4 := fun n s₀ x s4 hx => by
        rw [Sem.bind_eq_wrap]
        refine seg_wrap ?_
        rw [(gl _).over]
        refine wpAny_bind (wpAny_mono (hp x s4 hx) (fun _ s5 hcb => wpAny_theTreesLotGoes ?_) fun y s5 hcb => ?_)
        · exact seg_leaf (.error x) (seg_cameBack gc k hcb)
        · exact seg_leaf (.error y) (seg_cameBack gc k hcb)
      show Seg _ A R _ n s₀ _ ((forTurn tg (.ref it) body [] X.env).onRaise (fun x => do noteFrame x X.env; theTreesLotGoes x)) _ s
      unfold forTurn
      rw [Sem.onRaise_eq_wrap]
      refine seg_bind_wrap (wpAny_standAt ?_)
      refine seg_bind_wrap ?_
      rw [(gl _).over]
      obtain ⟨acc3, c3, r3, I3⟩ := hI
      rcases turn i m ys σ H w with ⟨stop, qn⟩ | ⟨go, N, hN, step⟩
      · refine wpAny_onRaise (wpAny_mono (T.done X rfl rfl rfl hc i _ s σ H X.xe I3 (fpok fr) st stop) (fun rr s4 hh => ?_) fun x s4 hx => wpAny_standAt (ee n s₀ x s4 hx))
        obtain ⟨hr, I4⟩ := hh
        subst hr
        refine seg_again rfl ?_
        show Seg _ A R _ n s₀ _ (do return Fin.done (← (execs [] X.env).onRaise (fun x => do noteFrame x X.env; theTreesLotGoes x))) _ s4
        exact seg_leaf (.ok .next) (k.ok n ys s₀ s4 .next hn ⟨σ, H, ⟨acc3, c3, r3, I4⟩, qn⟩)
      · refine wpAny_onRaise (wpAny_mono (T.item X rfl rfl rfl hc i _ s σ H X.xe I3 (fpok fr) st go) (fun rr s4 hh => ?_) fun x s4 hx => wpAny_standAt (ee n s₀ x s4 hx))
        obtain ⟨u, hr, h4⟩ := hh
        subst hr
        refine seg_bind_wrap ?_
        rw [(gl _).over]
        refine wpAny_mono h4 (fun _ s5 hh => ?_) fun x s5 hx => ee n s₀ x s5 hx
        obtain ⟨x, H5, I5, r5, y5, st5, fr5⟩ := hh
        have I6 := I5.pinned (fpok fr5) (T.obj _ _ st5)
        refine seg_bind_wrap ?_
        rw [(gl _).over]
        refine wpAny_mono (hg.run _ s5 σ H5 x u _ I6 r5 (step x H5 y5)) (fun _ s6 hh => ?_) fun x s6 hx => ee n s₀ x s6 hx
        obtain ⟨σ6, H6, I7, q6⟩ := hh
        have gb : GC X S (ip ++ pinsAt fp s5.heap) A (.forLoop tg (.ref it) body [] X.env) (.ret (fun r => ((match r with | .ok f => (.pure f : Sem Flow) | .error e => .raise e).onRaise (cameBack X.env)).wrap K J gd lv) none (gd false) (lv []) c p [] :: fs) id := by
          have q := gl (fun r => ((match r with | .ok f => (.pure f : Sem Flow) | .error e => .raise e).onRaise (cameBack X.env)).wrap K J gd lv)
          refine ⟨q.pn, fun z hz => ?_, q.apart, q.over, q.split, q.guard, q.gd⟩
          rcases List.mem_append.mp hz with y | y
          · exact q.ip z y
          · exact apart z.1 (of_pinsAt y).1
        rw [Sem.bind_eq_wrap', Sem.wrap_wrap]
        refine hb.run A S (ip ++ pinsAt fp s5.heap) R n ys s₀ _ _ _ _ id id s6 σ6 H6 { D with nx := N, ct := N, bk := D.nx } gb hn ⟨fun n2 zs s7 s8 f hn2 hs8 => ?_, fun n2 s7 x s8 hx => ee n2 s7 x s8 hx⟩ ⟨acc3, c3, r3, I7⟩ q6
        have again : ∀ {σ8 : L2.St} {H8 : Hp}, GI X S (ip ++ pinsAt fp s5.heap) zs σ8 H8 s8 → N zs σ8 H8 → Seg (model X.prog X.w) A R (GY X S) n2 s7 (.forLoop tg (.ref it) body [] X.env) ((model X.prog X.w).den (.forLoop tg (.ref it) body [] X.env))
            (.ret (fun r => ((match r with | .ok f => (.pure f : Sem Flow) | .error e => .raise e).onRaise (cameBack X.env)).wrap K J gd lv) none (gd false) (lv []) c p [] :: fs) s8 := by
          intro σ8 H8 G8 n8
          obtain ⟨j, hj, w8⟩ := hN zs σ8 H8 n8
          obtain ⟨acc8, c8, r8, I8⟩ := G8
          have pin8 : ∀ b ∈ fp, ∀ o, s5.heap.get? b = some o → s8.heap.get? b = some o ∧ H8 b = none := fun b hb o e => by
            have q := I8.pin (b, o) (List.mem_append_right _ (List.mem_cons_of_mem _ (List.mem_append_right _ (mem_pinsAt hb e))))
            exact ⟨q.1, q.2.1⟩
          refine ih j hj n2 (i + 1) zs s7 s8 σ8 H8 hn2 w8 ⟨acc8, c8, r8, I8.pins_of fun q hq => I8.pin q (List.mem_append_right _ ?_)⟩ (T.keep _ _ _ st5 fun b hb o e => (pin8 b hb o e).1) fun b hb => ?_
          · rcases List.mem_cons.mp hq with y | y
            · rw [y]
              exact List.mem_cons_self
            · exact List.mem_cons_of_mem _ (List.mem_append_left _ y)
          · obtain ⟨o, e, _⟩ := T.obj _ _ st5 b hb
            exact (pin8 b hb o e).2
        have thin : ∀ {σ8 : L2.St} {H8 : Hp}, GI X S (ip ++ pinsAt fp s5.heap) zs σ8 H8 s8 → GI X S ip zs σ8 H8 s8 := by
          intro σ8 H8 G8
          obtain ⟨acc8, c8, r8, I8⟩ := G8
          refine ⟨acc8, c8, r8, I8.pins_of fun q hq => I8.pin q (List.mem_append_right _ ?_)⟩
          rcases List.mem_cons.mp hq with y | y
          · rw [y]
            exact List.mem_cons_self
          · exact List.mem_cons_of_mem _ (List.mem_append_left _ y)
        cases f with
        | next =>
          obtain ⟨σ8, H8, G8, n8⟩ := hs8
          exact seg_again rfl (again G8 n8)
        | cont =>
          obtain ⟨σ8, H8, G8, n8⟩ := hs8
          exact seg_again rfl (again G8 n8)
        | brk =>
          obtain ⟨σ8, H8, G8, n8⟩ := hs8
          exact seg_leaf (.ok .next) (k.ok n2 zs s7 s8 .next hn2 ⟨σ8, H8, thin G8, n8⟩)
        | ret v =>
          obtain ⟨x8, σ8, H8, G8, r8, n8⟩ := hs8
          exact seg_leaf (.ok (.ret v)) (k.ok n2 zs s7 s8 (.ret v) hn2 ⟨x8, σ8, H8, thin G8, r8, n8⟩)
  exact loop m0 n 0 ys s₀ s2 σ H2 hn w0 ⟨acc, cc, r, I2⟩ st2 fun b hb => (f2 b hb).1
end
end SE
/-! Calls by keywords. -/
namespace SE
open PySem PySem.Spec PyProof.Rows L2 GenW
section
variable {K : PySem.W.Frag} {x qual : Str} {params : Arguments} {body : List Stmt} {scope : Scope} {kws : List (Str × V)} {f : Addr} {fd : FuncData} {ps : List Str}
/-- keyword-only defaults alone; ms: those that lack -/
theorem kb_some (F : FunD K x qual params body scope [] kws f fd) (n : Nat) (ks : List Str) (ms : List (Str × V)) (g : {α : Type} → List α → List α → List α → List α) (hk : kws ≠ []) (hms : ∀ q ∈ ms, q ∈ kws)
    (hrel : ∀ {vs mz zs : List V} {us mv ws : List Value}, Vals vs us → Vals mz mv → Vals zs ws → Vals (g vs mz zs) (g us mv ws))
    (h : ∀ (D : Addr) (doc pm : Value) (an : Option Addr) (cv ct : Value) (us mv ws : List Value), us.length = n → mv.length = ms.length → ws.length = ks.length →
      KwChain D ((ms.map (·.1)).zip mv) (bindArgs (PySem.W.fnOf x qual params body scope .none (.ref D) doc pm an cv ct) ⟨us, ks.zip ws⟩) (ps.zip (g us mv ws))) :
    ∃ mv : List Value, KBn K fd ps n ks (fun us ws => g us mv ws) (fun vs zs => g vs (ms.map (·.2)) zs) := by
  obtain ⟨oc, od, dV, kV, doc, pm, an, cv, ct, osl, rfl, look, hc, hD, hK⟩ := F.ex
  rcases hD with ⟨_, rfl⟩ | ⟨e, _⟩
  · rcases hK with e | ⟨D, rfl, hq⟩
    · exact absurd e hk
    · obtain ⟨mv, hl, rk, hks⟩ := kwd_vals (ms := ms) fun q hm => hq q (hms q hm)
      exact ⟨mv, fun s us ws X l1 l2 => BindsTo.of_looks fun M => KwChain.looks X hks (h D doc pm an cv ct us mv ws l1 hl l2), fun r1 r2 => hrel r1 rk r2⟩
  · exact absurd rfl e
theorem kb_all {st : Stmt} (F : Fun K x qual st f fd) (n : Nat) (ks : List Str) (g : {α : Type} → List α → List α → List α)
    (hrel : ∀ {vs zs : List V} {us ws : List Value}, Vals vs us → Vals zs ws → Vals (g vs zs) (g us ws))
    (h : ∀ (kV doc pm : Value) (an : Option Addr) (cv ct : Value) (us ws : List Value), us.length = n → ws.length = ks.length → bindArgs (PySem.W.fnOf x qual (defArgs st) (defBody st) (defScope st) .none kV doc pm an cv ct) ⟨us, ks.zip ws⟩ = pure (ps.zip (g us ws))) :
    KBn K fd ps n ks (fun us ws => g us ws) (fun vs zs => g vs zs) := by
  obtain ⟨oc, od, kV, doc, pm, an, cv, ct, osl, rfl, look, hc⟩ := F.ex
  exact ⟨fun s us ws X l1 l2 => .of_eq (h kV doc pm an cv ct us ws l1 l2), fun r1 r2 => hrel r1 r2⟩
end
section
variable {X : Cx} {k n : Nat} {f : Addr} {fd : FuncData} {ps ks : List Str} {sp : Sp} {E : XK} {x : Str} {p pos : Pos} {e : Expr} {es : List Expr} {kws : List Keyword} {t tk : TA} {g : List Value → List Value → List Value} {gV : List V → List V → List V}
/-- f(k = v, ..) -/
theorem pe_kw0 (F : FnOk X.prog X.w X.K X.mg X.base CX0 k f fd ps sp) (hr : Room k X.A) (hg : Gl X x) (hm : X.mg x = some (.ref f)) (hk : PySem.W.keepIn X.K (.ref f) = true) (hb : KBn X.K fd ps 0 ks g gV)
    (hkw : PK X kws tk) (hall : (backToKw pos (keywordEach kws X.env)).all (·.1.isSome) = true := by rfl) (hks : (backToKw pos (keywordEach kws X.env)).filterMap (·.1) = ks := by rfl)
    (hdb : (x == ("__debug__" : Str)) = false := by decide) (hpl : ((backTo pos (starEach [] X.env)).any (·.1) || (backToKw pos (keywordEach kws X.env)).any (·.1.isNone)) = false := by rfl) :
    PE X (.Call (.Name x p) [] kws pos) (tCallN 0 ks.length sp gV E0 tNil tk) := by
  constructor
  intro pins s σ H Q I h
  apply wpAny_Call_Name_kw
  apply ld_glob I hg hm _ hdb
  refine PySem.W.callWith_KW0 (h₀ := X.base) I.ok.mod.kin hk hall (thn (hkw.run pos pins s σ H _ I h) fun ws s2 hh => ?_) hpl
  obtain ⟨zs, H2, I2, rz, l1, l2, q2⟩ := hh
  refine ⟨I2.kIn, ?_⟩
  rw [hks]
  exact run_fnN F hr hb pass0 I2 .nil rz l1 l2 q2
/-! ### generators -/
variable {sg : SpG}
theorem run_gkw {pins : List (Addr × Obj)} {σ : L2.St} {H : Hp} {s : Shared} {us ws : List Value} {vs zs : List V} {cont : List V → Hp → Prop} {E1 : Value → Shared → Prop} (F : GFn X.prog X.w X.K X.mg X.base k f fd ps sg) (hr : Room k X.A) (hb : KBn X.K fd ps n ks g gV)
    (I : Inv X pins σ H s) (r : Vals vs us) (rz : Vals zs ws) (l1 : vs.length = n) (l2 : zs.length = ks.length) (h : sg (gV vs zs) H cont E) :
    wpAny (model X.prog X.w) X.A (call (.ref f) us (ks.zip ws)) (fun u s2 => ∃ H1 sc ex, Inv X pins σ H1 sc ∧ ExOk X pins ex ∧ GMade X.prog X.w k X.stack H1 sc ex cont E u s2) E1 s := by
  have r2 := hb.rel r rz
  refine wpAny_call (codeAny_mono (F.run X.A X.stack s H ⟨us, ks.zip ws⟩ (g us ws) (gV vs zs) cont E hr I.env0 (hb.to s us ws I.kIn (r.length.symm.trans l1) (rz.length.symm.trans l2)) r2 h) fun rr s2 hq => ?_)
  cases rr with
  | error _ => exact hq.elim
  | ok fl =>
    cases fl with
    | ret u => exact ⟨H, s, [], I, .nil, hq⟩
    | next => exact hq.elim
    | brk => exact hq.elim
    | cont => exact hq.elim
def tGenN (n m : Nat) (sg : SpG) (gV : List V → List V → List V) (E : XK) (t tk : TA) : TGen := fun σ H cont => t σ H fun vs H1 => tk σ H1 fun zs H2 => vs.length = n ∧ zs.length = m ∧ sg (gV vs zs) H2 cont E
theorem pgen_kw (F : GFn X.prog X.w X.K X.mg X.base k f fd ps sg) (hr : Room k X.A) (hg : Gl X x) (hm : X.mg x = some (.ref f)) (hk : PySem.W.keepIn X.K (.ref f) = true) (hb : KBn X.K fd ps n ks g gV)
    (ha : PA X (e :: es) t) (hkw : PK X kws tk) (hall : (backToKw pos (keywordEach kws X.env)).all (·.1.isSome) = true := by rfl) (hks : (backToKw pos (keywordEach kws X.env)).filterMap (·.1) = ks := by rfl)
    (hdb : (x == ("__debug__" : Str)) = false := by decide) (he : starEach (e :: es) X.env = (false, eval e X.env) :: starEach es X.env := by rfl)
    (hpl : ((backTo pos (starEach (e :: es) X.env)).any (·.1) || (backToKw pos (keywordEach kws X.env)).any (·.1.isNone)) = false := by rfl) :
    PGen X k (.Call (.Name x p) (e :: es) kws pos) (tGenN n ks.length sg gV E t tk) E := by
  constructor
  intro pins s σ H cont I h
  apply wpAny_Call_Name_kw
  apply ld_glob I hg hm _ hdb
  refine PySem.W.callWith_KW (h₀ := X.base) I.ok.mod.kin hk hall (thn (ha.run pos pins s σ H _ I h) fun us s1 hh => ?_) hpl he
  obtain ⟨vs, H1, I1, r, q⟩ := hh
  refine thn (hkw.run pos pins s1 σ H1 _ I1 q) fun ws s2 hh => ?_
  obtain ⟨zs, H2, I2, rz, l1, l2, q2⟩ := hh
  refine ⟨I2.kIn, ?_⟩
  rw [hks]
  exact run_gkw F hr hb I2 r rz l1 l2 q2
theorem pgen_kw0 (F : GFn X.prog X.w X.K X.mg X.base k f fd ps sg) (hr : Room k X.A) (hg : Gl X x) (hm : X.mg x = some (.ref f)) (hk : PySem.W.keepIn X.K (.ref f) = true) (hb : KBn X.K fd ps 0 ks g gV)
    (hkw : PK X kws tk) (hall : (backToKw pos (keywordEach kws X.env)).all (·.1.isSome) = true := by rfl) (hks : (backToKw pos (keywordEach kws X.env)).filterMap (·.1) = ks := by rfl)
    (hdb : (x == ("__debug__" : Str)) = false := by decide) (hpl : ((backTo pos (starEach [] X.env)).any (·.1) || (backToKw pos (keywordEach kws X.env)).any (·.1.isNone)) = false := by rfl) :
    PGen X k (.Call (.Name x p) [] kws pos) (tGenN 0 ks.length sg gV E tNil tk) E := by
  constructor
  intro pins s σ H cont I h
  apply wpAny_Call_Name_kw
  apply ld_glob I hg hm _ hdb
  refine PySem.W.callWith_KW0 (h₀ := X.base) I.ok.mod.kin hk hall (thn (hkw.run pos pins s σ H _ I h) fun ws s2 hh => ?_) hpl
  obtain ⟨zs, H2, I2, rz, l1, l2, q2⟩ := hh
  refine ⟨I2.kIn, ?_⟩
  rw [hks]
  exact run_gkw F hr hb I2 .nil rz l1 l2 q2
/-- nothing is raised by a generator that raises nothing -/
theorem pass_gen : Passes (CX X.prog X.w) X E0 := by
  intro pins σ H s e s2 I h
  obtain ⟨a, B, H2, cls, d, _, _, _, _, _, _, _, q⟩ := h
  exact q.elim
theorem nostop0 {K : PySem.W.Frag} : NoStop K E0 := fun _ _ _ h => h.elim
end
end SE
namespace SE
open PySem PySem.Spec PyProof.Rows L2
/-! ### rules: a class held by a local name, called; a classmethod called with nothing -/
section
variable {X : Cx} {CX : CXT} {k i : Nat} {f C p g : Addr} {mc : Value} {fd : FuncData} {ps : List Str} {sp : Sp} {dvs : List V} {ds : List Value} {E : XK} {x m : Str} {pn pos apos : Pos} {o e : Expr} {es : List Expr} {ta : TE} {t : TA} {pl : Sem Bool}
def tMakeL (i : Nat) (C : Addr) (sp : Sp) (dvs : List V) (E : XK) (t : TA) : TE := fun σ H Q => σ[i]? = some (some (.ref C)) ∧ tMake C sp dvs E t σ H Q
theorem pe_makeL (M : Mk X.K C f) (F : FnOk X.prog X.w X.K X.mg X.base CX k f fd ps sp) (hr : Room (k + 1) X.A) (hN : X.N[i]? = some x) (hv : Vis X.env.scope x) (hb : Binds X.K fd ps ds) (hd : Vals dvs ds) (hx : Passes CX X E)
    (ha : PA X (e :: es) t) (hdb : (x == ("__debug__" : Str)) = false := by decide) (hcd : (x == ("__classdict__" : Str)) = false := by decide)
    (he : starEach (e :: es) X.env = (false, eval e X.env) :: starEach es X.env := by rfl) (hpl : (backTo pos (starEach es X.env)).any (·.1) = false := by rfl) :
    PE X (.Call (.Name x pn) (e :: es) [] pos) (tMakeL i C sp dvs E t) := by
  constructor
  intro pins s σ H Q I h
  obtain ⟨hs, ht⟩ := h
  refine wpAny_Call_Name_kw (thn ((pe_var (pos := pn) hN hv hdb hcd).run pins s σ H (fun v H1 => v = .ref C ∧ H1 = H) I ⟨.ref C, hs, rfl, rfl⟩) fun u s1 hh => ?_)
  obtain ⟨v, H1, I1, r1, rfl, rfl⟩ := hh
  cases r1
  refine PySem.W.callWith_K (h₀ := X.base) I.ok.mod.kin M.kp (thn (ha.run pos pins s1 σ _ _ I1 ht) fun us s2 hh => ?_) he hpl
  obtain ⟨vs, H2, I2, r, q⟩ := hh
  exact ⟨I2.kIn, run_make M F hr hb hd hx I2 r q⟩
/-- C.m() -/
def tCMeth0 (C : Addr) (sp : Sp) (E : XK) (ta : TE) : TE := fun σ H Q => ta σ H fun x H1 => x = .ref C ∧ sp [.ref C] H1 Q E
theorem pe_cmeth0 (he : PE X o ta) (r : ClX.CRead X.K C mc) (c : ClX.CMet X.K C mc m p g) (F : FnR X.prog X.w X.K X.mg X.base CX k g sp) (hr : Room k X.A) (hx : Passes CX X E)
    (ht : eval (.Call (.Attribute o m apos) [] [] pos) X.env = (do
      let v ← eval o X.env
      standAt apos.atName
      let (f, first) ← holding [v] (getMethod v m pl)
      callWith pos f first (backTo pos (starEach [] X.env)) (backToKw pos (keywordEach [] X.env))) := by rfl) :
    PE X (.Call (.Attribute o m apos) [] [] pos) (tCMeth0 C sp E ta) := by
  constructor
  intro pins s σ H Q I h
  refine PySem.W.methodCall_KW (pl := pl) (thn (he.run pins s σ H _ I h) fun u s1 hh => ?_) ht
  obtain ⟨v, H1, I1, rx, ex, q⟩ := hh
  subst ex
  obtain rfl : u = Value.ref C := rx
  refine ClX.getmethcm_ok I1 r c fun s2 I2 => ?_
  exact PySem.W.callWith_M0 ⟨ClX.pin_at I2, I2.kIn⟩ c.fi (ClX.run_cm (us := []) (vs := []) F hr hx I2 .nil q)
end
end SE
namespace SE
open PySem PySem.Spec PyProof.Rows L2
/-! ### the class Effect -/
abbrev sInit : Stmt := inClass sEffect 0
abbrev sNever : Stmt := inClass sEffect 2
abbrev sPops : Stmt := inClass sEffect 4
abbrev sPushes : Stmt := inClass sEffect 5
abbrev sPeak : Stmt := inClass sEffect 6
abbrev sChange : Stmt := inClass sEffect 7
abbrev sIsNever : Stmt := inClass sEffect 8
def eF (a b c : V) : List (Str × V) := [("needs", a), ("leaves", b), ("highest", c)]
theorem eF_new (a b c : V) : putF "highest" c (putF "leaves" b (putF "needs" a [])) = eF a b c := by
  have h1 : ¬ (("needs" : Str) = "leaves") := by decide +kernel
  have h2 : ¬ (("needs" : Str) = "highest") := by decide +kernel
  have h3 : ¬ (("leaves" : Str) = "highest") := by decide +kernel
  simp only [putF, h1, h2, h3, if_false]
  rfl
theorem eF_two (a b : V) : (putF "leaves" b (putF "needs" a [])).length < 1000 := by
  have h1 : ¬ (("needs" : Str) = "leaves") := by decide +kernel
  simp only [putF, h1, if_false]
  show 2 < 1000
  decide
theorem eF_n (x a b c : V) : putF "needs" x (eF a b c) = eF x b c := by
  unfold eF
  simp only [putF, if_true]
theorem eF_l (x a b c : V) : putF "leaves" x (eF a b c) = eF a x c := by
  have h1 : ¬ (("needs" : Str) = "leaves") := by decide +kernel
  unfold eF
  simp only [putF, h1, if_false, if_true]
theorem eF_h (x a b c : V) : putF "highest" x (eF a b c) = eF a b x := by
  have h2 : ¬ (("needs" : Str) = "highest") := by decide +kernel
  have h3 : ¬ (("leaves" : Str) = "highest") := by decide +kernel
  unfold eF
  simp only [putF, h2, h3, if_false, if_true]
theorem eF_needs (a b c : V) : (eF a b c).lookup ("needs" : Str) = some a := by
  rw [← eF_new, lookup_putF, if_neg (by decide +kernel), lookup_putF, if_neg (by decide +kernel), lookup_putF, if_pos rfl]
theorem eF_leaves (a b c : V) : (eF a b c).lookup ("leaves" : Str) = some b := by
  rw [← eF_new, lookup_putF, if_neg (by decide +kernel), lookup_putF, if_pos rfl]
theorem eF_high (a b c : V) : (eF a b c).lookup ("highest" : Str) = some c := by
  rw [← eF_new, lookup_putF, if_pos rfl]
/-- an effect that is not never -/
structure EffAt (K : PySem.W.Frag) (C : Addr) (H : Hp) (e : Addr) (xs ys : List Str) (p : Int) : Prop where
  ex : ∃ dx u v, H e = some (.ins C dx (eF (.ref u) (.ref v) (.int p))) ∧ SqT K H u (xs.map V.str) ∧ SqT K H v (ys.map V.str)
theorem EffAt.same {K : PySem.W.Frag} {C : Addr} {H H' : Hp} {e : Addr} {xs ys : List Str} {p : Int} (h : EffAt K C H e xs ys p) (s : Same H H') : EffAt K C H' e xs ys p := by
  obtain ⟨dx, u, v, h1, h2, h3⟩ := h.ex
  exact ⟨dx, u, v, s _ _ h1, Same.tup s h2, Same.tup s h3⟩
structure NevAt (C : Addr) (H : Hp) (e : Addr) : Prop where
  ex : ∃ dx, H e = some (.ins C dx (eF .non .non .non))
theorem NevAt.same {C : Addr} {H H' : Hp} {e : Addr} (h : NevAt C H e) (s : Same H H') : NevAt C H' e := by
  obtain ⟨dx, h1⟩ := h.ex
  exact ⟨dx, s _ _ h1⟩
/-- the least peak -/
def lp (xs ys : List Str) : Int := if (ys.length : Int) - (xs.length : Int) > 0 then (ys.length : Int) - (xs.length : Int) else 0
def pkV : Option Int → V
  | none => .non
  | some p => .int p
structure EC (K : PySem.W.Frag) (mg : Str → Option Value) (C : Addr) : Prop where
  cl : Cls K C
  nN : NoAttr K C "needs"
  nL : NoAttr K C "leaves"
  nH : NoAttr K C "highest"
  mgE : mg "Effect" = some (.ref C)
section
variable {P : Program} {w : World} {K : PySem.W.Frag} {mg : Str → Option Value} {base : Heap} {C : Addr}
def spLeast (K : PySem.W.Frag) : Sp := fun vs H Q _ => ∃ (a b : Addr) (xs ys : List Str), vs = [.ref a, .ref b] ∧ SqT K H a (xs.map V.str) ∧ SqT K H b (ys.map V.str) ∧ Q (.int (lp xs ys)) H
theorem scLe : FnScope ["pops", "pushes"] ["pops", "pushes"] (defScope sLeastPeak) := ⟨rfl, rfl, rfl, by decide +kernel, rfl, by decide +kernel, by decide +kernel⟩
theorem has_least (D : Def K mg "least_peak" sLeastPeak) (B : Blt mg) (mx : mg "max" = none) : Has P w K mg base "least_peak" 1 ["pops", "pushes"] [] (spLeast K) := by
  refine has_of D scLe (fun _ _ _ _ _ _ us hl => match us, hl with | [_, _], _ => rfl) (fun xs H Q E h => ?_) (fun f cv A out s H xs Q E hr h => ?_)
  · obtain ⟨a, b, xs, ys, rfl, _⟩ := h
    rfl
  · obtain ⟨a, b, xs, ys, rfl, ha, hb, k⟩ := h
    refine ⟨_, pss_one (ps_ret (pe_callB (call_max2 rfl) (by rfl) mx (by decide +kernel) (pa_cons pe_int (pa_cons (pe_op op_sub (pe_callB call_len_seq (by rfl) B.len PySem.boot_len (pa_cons (pv 1) pa_nil)) (pe_callB call_len_seq (by rfl) B.len PySem.boot_len (pa_cons (pv 0) pa_nil))) pa_nil)))), ?_⟩
    refine ⟨_, rfl, b, _, rfl, .inr hb, _, rfl, a, _, rfl, .inr ha, _, _, rfl, rfl, 0, _, rfl, ?_⟩
    rw [List.length_map, List.length_map]
    exact k
def spInit (K : PySem.W.Frag) (C : Addr) : Sp := fun vs H Q _ => ∃ (x dx a b : Addr) (xs ys : List Str) (pk : Option Int), vs = [.ref x, .ref a, .ref b, pkV pk] ∧ H x = some (.ins C dx []) ∧ SqT K H a (xs.map V.str) ∧ SqT K H b (ys.map V.str) ∧
  xs.length ≤ 5000 ∧ ys.length ≤ 5000 ∧ (∀ z ∈ xs, Item z) ∧ (∀ z ∈ ys, Item z) ∧ (∀ p, pk = some p → lp xs ys ≤ p) ∧
  ∀ H', (∀ b o, H b = some o → b ≠ x → H' b = some o) → H' x = some (.ins C dx (eF (.ref a) (.ref b) (.int (pk.getD (lp xs ys))))) → Q .non H'
abbrev pInit : List Str := ["self", "pops", "pushes", "peak"]
theorem scIn : FnScope ["self", "pops", "pushes", "peak", "least"] pInit (defScope sInit) := ⟨rfl, rfl, rfl, by decide +kernel, rfl, by decide +kernel, by decide +kernel⟩
theorem ok_init {f : Addr} {fd : FuncData} (F : Fun K "__init__" "Effect.__init__" sInit f fd) (T : EC K mg C) (GW : Has P w K mg base "check_word" 3 ["word"] [] (spChkWord K)) (GL : Has P w K mg base "least_peak" 1 ["pops", "pushes"] [] (spLeast K)) (GH : Has P w K mg base "is_whole" 1 ["value"] [] spWhole) :
    FnOk P w K mg base CX0 4 f fd pInit (spInit K C) := by
  refine F.ok scIn (fun vs H Q E h => ?_) (fun cdv A outer s H vs Q E hr h => ?_)
  · obtain ⟨x, dx, a, b, xs, ys, pk, rfl, _⟩ := h
    rfl
  · obtain ⟨x, dx, a, b, xs, ys, pk, rfl, hx, ha, hb, l1, l2, i1, i2, hp, k⟩ := h
    have hr1 : Room 1 _ := hr.mono (by decide)
    refine ⟨_, pss_cons (ps_expr (pe_has GW hr (pa_cons (pv 1) pa_nil))) (pss_cons (ps_expr (pe_has GW hr (pa_cons (pv 2) pa_nil)))
      (pss_cons (ps_set (i := 4) scIn.nd rfl (.inl rfl) (pe_has GL hr1 (pa_cons (pv 1) (pa_cons (pv 2) pa_nil))))
      (pss_cons (ps_if (pt_cut (PW.pt (pw_and (pt_cmpR op_notN (pv 3) pe_non (nomark _)) (pw_and1 (PW.pt (pw_or (pt_not (pt_val (pe_has GH hr1 (pa_cons (pv 3) pa_nil)))) (pw_or1 (pt_cmpR op_lt (pv 3) (pv 4) (nomark _))))))))) pss_never pss_nil)
      (pss_cons (ps_fld (pv 0) (pv 1) rfl) (pss_cons (ps_fld (pv 0) (pv 2) rfl)
      (pss_one (ps_fld (pv 0) (pe_ifExp (pt_cmpR op_isN (pv 3) pe_non (nomark _)) (pv 4) (pv 3)) rfl))))))), ?_⟩
    refine ⟨_, rfl, a, xs, rfl, ha, l1, i1, fun H1 s1 => ⟨_, rfl, b, ys, rfl, Same.tup s1 hb, l2, i2, fun H2 s2 => ?_⟩⟩
    have s12 := s1.trans s2
    refine ⟨_, rfl, _, rfl, a, b, xs, ys, rfl, Same.tup s12 ha, Same.tup s12 hb, ?_⟩
    refine ⟨fun c H3 => c = false ∧ H3 = H2, ?_, ?_⟩
    · cases pk with
      | none => exact ⟨_, rfl, rfl, false, rfl, iteF ⟨rfl, rfl⟩⟩
      | some p =>
        have hq := hp p rfl
        refine ⟨_, rfl, rfl, true, rfl, iteT ⟨_, rfl, p, rfl, true, rfl, iteF ⟨_, rfl, _, rfl, p, lp xs ys, rfl, rfl, _, rfl, ?_, rfl⟩⟩⟩
        exact decide_eq_false (by omega)
    rintro c H3 ⟨rfl, rfl⟩
    refine iteF ?_
    have hx3 := s12 _ _ hx
    have fin : ∀ z : V, z = .int (pk.getD (lp xs ys)) → Q .non (upd (upd (upd H3 x (.ins C dx (putF "needs" (.ref a) []))) x (.ins C dx (putF "leaves" (.ref b) (putF "needs" (.ref a) [])))) x (.ins C dx (putF "highest" z (putF "leaves" (.ref b) (putF "needs" (.ref a) []))))) := by
      intro z ez
      refine k _ (fun c o e ne => ?_) ?_
      · rw [upd_ne ne, upd_ne ne, upd_ne ne]
        exact s12 _ _ e
      · rw [upd_same, eF_new, ez]
    refine ⟨_, rfl, _, rfl, x, C, dx, [], rfl, hx3, T.cl, T.nN, (by show 0 < 1000; decide), _, rfl, _, rfl, x, C, dx, _, rfl, upd_same, T.cl, T.nL, (by show 1 < 1000; decide), ?_⟩
    cases pk with
    | none => exact ⟨_, rfl, rfl, true, rfl, iteT ⟨_, rfl, _, rfl, x, C, dx, _, rfl, upd_same, T.cl, T.nH, eF_two _ _, fin _ rfl⟩⟩
    | some p => exact ⟨_, rfl, rfl, false, rfl, iteF ⟨_, rfl, _, rfl, x, C, dx, _, rfl, upd_same, T.cl, T.nH, eF_two _ _, fin _ rfl⟩⟩
end
end SE
namespace SE
open PySem PySem.Spec PyProof.Rows L2
/-- a property of the class C with its promise -/
def PropHas (P : Program) (w : World) (K : PySem.W.Frag) (mg : Str → Option Value) (base : Heap) (C : Addr) (f : Str) (k : Nat) (sp : Sp) : Prop := ∃ p g fd, PropOf K C f p g ∧ FnOk P w K mg base CX0 k g fd ["self"] sp ∧ Binds K fd ["self"] []
theorem pe_propH {X : Cx} {C : Addr} {f : Str} {k : Nat} {sp : Sp} {e : Expr} {ta : TE} {pos : Pos} (h : PropHas X.prog X.w X.K X.mg X.base C f k sp) (he : PE X e ta) (c : Cls X.K C) (hr : Room (k + 1) X.A)
    (hab : attributeBase e f X.env (eval e X.env) = eval e X.env := by rfl) : PE X (.Attribute e f pos) (tProp C sp [] E0 ta) := by
  obtain ⟨p, g, fd, hp, F, hb⟩ := h
  exact pe_prop he c hp F hr hb .nil pass0 hab
section
variable {P : Program} {w : World} {K : PySem.W.Frag} {mg : Str → Option Value} {base : Heap} {C : Addr}
/-! ### properties -/
/-- of an effect that is not never: its parts -/
def spPops (K : PySem.W.Frag) (C : Addr) : Sp := fun vs H Q _ => ∃ (e : Addr) (xs ys : List Str) (p : Int), vs = [.ref e] ∧ EffAt K C H e xs ys p ∧ ∀ u, SqT K H u (xs.map V.str) → Q (.ref u) H
def spPush (K : PySem.W.Frag) (C : Addr) : Sp := fun vs H Q _ => ∃ (e : Addr) (xs ys : List Str) (p : Int), vs = [.ref e] ∧ EffAt K C H e xs ys p ∧ ∀ u, SqT K H u (ys.map V.str) → Q (.ref u) H
def spChan (K : PySem.W.Frag) (C : Addr) : Sp := fun vs H Q _ => ∃ (e : Addr) (xs ys : List Str) (p : Int), vs = [.ref e] ∧ EffAt K C H e xs ys p ∧ Q (.int ((ys.length : Int) - (xs.length : Int))) H
def spIsNev (K : PySem.W.Frag) (C : Addr) : Sp := fun vs H Q _ => ∃ (e : Addr), vs = [.ref e] ∧ ((∃ xs ys p, EffAt K C H e xs ys p ∧ Q (.bl false) H) ∨ (NevAt C H e ∧ Q (.bl true) H))
theorem scPo : FnScope ["self"] ["self"] (defScope sPops) := ⟨rfl, rfl, rfl, by decide +kernel, rfl, by decide +kernel, by decide +kernel⟩
theorem scPu : FnScope ["self"] ["self"] (defScope sPushes) := ⟨rfl, rfl, rfl, by decide +kernel, rfl, by decide +kernel, by decide +kernel⟩
theorem scCh : FnScope ["self"] ["self"] (defScope sChange) := ⟨rfl, rfl, rfl, by decide +kernel, rfl, by decide +kernel, by decide +kernel⟩
theorem scNv : FnScope ["self"] ["self"] (defScope sIsNever) := ⟨rfl, rfl, rfl, by decide +kernel, rfl, by decide +kernel, by decide +kernel⟩
theorem ok_pops {f : Addr} {fd : FuncData} (F : Fun K "pops" "Effect.pops" sPops f fd) (T : EC K mg C) : FnOk P w K mg base CX0 1 f fd ["self"] (spPops K C) := by
  refine F.ok scPo (fun vs H Q E h => ?_) (fun cdv A outer s H vs Q E hr h => ?_)
  · obtain ⟨e, xs, ys, p, rfl, _⟩ := h
    rfl
  · obtain ⟨e, xs, ys, p, rfl, h, k⟩ := h
    obtain ⟨dx, u, v, h1, h2, h3⟩ := h.ex
    exact ⟨_, pss_one (ps_ret (pe_fld (pv 0) rfl)), _, rfl, e, C, dx, _, _, rfl, h1, T.cl, T.nN, eF_needs _ _ _, k u h2⟩
theorem ok_push {f : Addr} {fd : FuncData} (F : Fun K "pushes" "Effect.pushes" sPushes f fd) (T : EC K mg C) : FnOk P w K mg base CX0 1 f fd ["self"] (spPush K C) := by
  refine F.ok scPu (fun vs H Q E h => ?_) (fun cdv A outer s H vs Q E hr h => ?_)
  · obtain ⟨e, xs, ys, p, rfl, _⟩ := h
    rfl
  · obtain ⟨e, xs, ys, p, rfl, h, k⟩ := h
    obtain ⟨dx, u, v, h1, h2, h3⟩ := h.ex
    exact ⟨_, pss_one (ps_ret (pe_fld (pv 0) rfl)), _, rfl, e, C, dx, _, _, rfl, h1, T.cl, T.nL, eF_leaves _ _ _, k v h3⟩
theorem ok_chan {f : Addr} {fd : FuncData} (F : Fun K "change" "Effect.change" sChange f fd) (T : EC K mg C) (B : Blt mg) : FnOk P w K mg base CX0 1 f fd ["self"] (spChan K C) := by
  refine F.ok scCh (fun vs H Q E h => ?_) (fun cdv A outer s H vs Q E hr h => ?_)
  · obtain ⟨e, xs, ys, p, rfl, _⟩ := h
    rfl
  · obtain ⟨e, xs, ys, p, rfl, h, k⟩ := h
    obtain ⟨dx, u, v, h1, h2, h3⟩ := h.ex
    refine ⟨_, pss_one (ps_ret (pe_ifExp (pt_cmpR op_isN (pe_fld (pv 0) rfl) pe_non (nomark _)) pe_non (pe_op op_sub (pe_callB call_len_seq (by rfl) B.len PySem.boot_len (pa_cons (pe_fld (pv 0) rfl) pa_nil)) (pe_callB call_len_seq (by rfl) B.len PySem.boot_len (pa_cons (pe_fld (pv 0) rfl) pa_nil))))), ?_⟩
    refine ⟨_, rfl, e, C, dx, _, _, rfl, h1, T.cl, T.nN, eF_needs _ _ _, rfl, false, rfl, iteF ?_⟩
    refine ⟨_, rfl, e, C, dx, _, _, rfl, h1, T.cl, T.nL, eF_leaves _ _ _, v, _, rfl, .inr h3, _, rfl, e, C, dx, _, _, rfl, h1, T.cl, T.nN, eF_needs _ _ _, u, _, rfl, .inr h2, _, _, rfl, rfl, ?_⟩
    rw [List.length_map, List.length_map]
    exact k
theorem ok_isNev {f : Addr} {fd : FuncData} (F : Fun K "is_never" "Effect.is_never" sIsNever f fd) (T : EC K mg C) : FnOk P w K mg base CX0 1 f fd ["self"] (spIsNev K C) := by
  refine F.ok scNv (fun vs H Q E h => ?_) (fun cdv A outer s H vs Q E hr h => ?_)
  · obtain ⟨e, rfl, _⟩ := h
    rfl
  · obtain ⟨e, rfl, h⟩ := h
    refine ⟨_, pss_one (ps_ret (pe_cmpR op_isN (pe_fld (pv 0) rfl) pe_non (nomark _))), ?_⟩
    rcases h with ⟨xs, ys, p, h, k⟩ | ⟨h, k⟩
    · obtain ⟨dx, u, v, h1, h2, h3⟩ := h.ex
      exact ⟨_, rfl, e, C, dx, _, _, rfl, h1, T.cl, T.nN, eF_needs _ _ _, rfl, k⟩
    · obtain ⟨dx, h1⟩ := h.ex
      exact ⟨_, rfl, e, C, dx, _, _, rfl, h1, T.cl, T.nN, eF_needs _ _ _, rfl, k⟩
/-! ### Effect(a, b), Effect.never() -/
/-- the class can be called -/
def Makes (P : Program) (w : World) (K : PySem.W.Frag) (mg : Str → Option Value) (base : Heap) (C : Addr) : Prop := ∃ f fd, Mk K C f ∧ FnOk P w K mg base CX0 4 f fd pInit (spInit K C) ∧ FunD K "__init__" "Effect.__init__" (defArgs sInit) (defBody sInit) (defScope sInit) [] [("peak", .non)] f fd
theorem Makes.two (h : Makes P w K mg base C) : ∃ f fd ds, Mk K C f ∧ FnOk P w K mg base CX0 4 f fd pInit (spInit K C) ∧ Vals [V.non] ds ∧ Binds K fd pInit ds := by
  obtain ⟨f, fd, M, F, FD⟩ := h
  obtain ⟨ds, hd, hb⟩ := FD.binds0 (ps := pInit) 3 (by simp) rfl (fun D doc pm an cv ct us ks h1 h2 => match us, ks, h1, h2 with | [_, _, _], [_], _, _ => ⟨_, _, _, _, _, _, rfl, rfl, rfl⟩)
  exact ⟨f, fd, ds, M, F, hd, hb⟩
/-- what Effect(a, b) asks -/
def tEff2 (K : PySem.W.Frag) (C : Addr) (t : TA) : TE := fun σ H Q => t σ H fun vs H1 => ∃ (a b : Addr) (xs ys : List Str), vs = [.ref a, .ref b] ∧ SqT K H1 a (xs.map V.str) ∧ SqT K H1 b (ys.map V.str) ∧ xs.length ≤ 5000 ∧ ys.length ≤ 5000 ∧ (∀ z ∈ xs, Item z) ∧ (∀ z ∈ ys, Item z) ∧
  ∀ (e : Addr) (H' : Hp), Same H1 H' → H1 e = none → EffAt K C H' e xs ys (lp xs ys) → Q (.ref e) H'
theorem make_imp {vs : List V} {H1 : Hp} {Q : VK} (h : ∃ (a b : Addr) (xs ys : List Str), vs = [.ref a, .ref b] ∧ SqT K H1 a (xs.map V.str) ∧ SqT K H1 b (ys.map V.str) ∧ xs.length ≤ 5000 ∧ ys.length ≤ 5000 ∧ (∀ z ∈ xs, Item z) ∧ (∀ z ∈ ys, Item z) ∧
    ∀ (e : Addr) (H' : Hp), Same H1 H' → H1 e = none → EffAt K C H' e xs ys (lp xs ys) → Q (.ref e) H') : ∀ x dx, H1 x = none → H1 dx = none → dx ≠ x →
    spInit K C (.ref x :: (vs ++ [V.non])) (upd (upd H1 dx (.own x)) x (.ins C dx [])) (fun v H2 => v = .non ∧ Q (.ref x) H2) E0 := by
  intro x dx nx nd ne
  obtain ⟨a, b, xs, ys, rfl, ha, hb, l1, l2, i1, i2, k⟩ := h
  have s0 : Same H1 (upd (upd H1 dx (.own x)) x (.ins C dx [])) := Same.made nx nd fun b o e _ => e
  refine ⟨x, dx, a, b, xs, ys, none, rfl, upd_same, Same.tup s0 ha, Same.tup s0 hb, l1, l2, i1, i2, fun p z => (by cases z), fun H' kp hx => ⟨rfl, ?_⟩⟩
  have s1 : Same H1 H' := fun c o e => kp c o (s0 c o e) (ne_of_none e nx)
  exact k x H' s1 nx ⟨dx, a, b, hx, Same.tup s1 ha, Same.tup s1 hb⟩
theorem pe_eff2 {X : Cx} {p pos : Pos} {e1 e2 : Expr} {t : TA} (M : Makes X.prog X.w X.K X.mg X.base C) (mgE : X.mg "Effect" = some (.ref C)) (hr : Room 5 X.A) (ha : PA X [e1, e2] t) (hg : Gl X "Effect" := by rfl)
    (he : starEach [e1, e2] X.env = (false, eval e1 X.env) :: starEach [e2] X.env := by rfl) (hpl : (backTo pos (starEach [e2] X.env)).any (·.1) = false := by rfl) :
    PE X (.Call (.Name "Effect" p) [e1, e2] [] pos) (tEff2 X.K C t) := by
  obtain ⟨f, fd, ds, Mk1, F, hd, hb⟩ := M.two
  constructor
  intro pins s σ H Q I h
  refine wpAny_Call_Name_kw (ld_glob I hg mgE ?_ (by decide))
  refine PySem.W.callWith_K (h₀ := X.base) I.ok.mod.kin Mk1.kp (thn (ha.run pos pins s σ H _ I h) fun us s1 hh => ?_) he hpl
  obtain ⟨vs, H1, I1, r, q⟩ := hh
  exact ⟨I1.kIn, run_make Mk1 F hr hb hd pass0 I1 r (make_imp q)⟩
/-! ### Effect.never() -/
def spNever (C : Addr) : Sp := fun vs H Q _ => vs = [.ref C] ∧ ∀ (e : Addr) (H' : Hp), Same H H' → NevAt C H' e → Q (.ref e) H'
theorem scNe : FnScope ["cls", "effect"] ["cls"] (defScope sNever) := ⟨rfl, rfl, rfl, by decide +kernel, rfl, by decide +kernel, by decide +kernel⟩
theorem ok_never {g : Addr} {gd : FuncData} (F : Fun K "never" "Effect.never" sNever g gd) (T : EC K mg C) (M : Makes P w K mg base C) : FnOk P w K mg base CX0 6 g gd ["cls"] (spNever C) := by
  obtain ⟨f, fd, ds, Mk1, FI, hd, hb⟩ := M.two
  refine F.ok scNe (fun vs H Q E h => ?_) (fun cdv A outer s H vs Q E hr h => ?_)
  · obtain ⟨rfl, _⟩ := h
    rfl
  · obtain ⟨rfl, k⟩ := h
    refine ⟨_, pss_cons (ps_set (i := 1) scNe.nd rfl (.inl rfl) (pe_makeL (i := 0) Mk1 FI hr rfl (.inl rfl) hb hd pass0 (pa_cons (pe_tup pa_nil) (pa_cons (pe_tup pa_nil) pa_nil))))
      (pss_cons (ps_fld (pv 1) pe_non rfl) (pss_cons (ps_fld (pv 1) pe_non rfl) (pss_cons (ps_fld (pv 1) pe_non rfl) (pss_one (ps_ret (pv 1)))))), ?_⟩
    refine ⟨rfl, Nat.zero_le _, fun t1 h1 => ⟨Nat.zero_le _, fun t2 h2 => ?_⟩⟩
    have n2 : t1 ≠ t2 := ne_of_none upd_same h2
    have s2 : Same H (upd (upd H t1 (.tup [])) t2 (.tup [])) := Same.free2 (Same.new h1) ((Same.new h1).free h2)
    intro y dy ny nd nyd
    have s3 : Same (upd (upd H t1 (.tup [])) t2 (.tup [])) (upd (upd (upd (upd H t1 (.tup [])) t2 (.tup [])) dy (.own y)) y (.ins C dy [])) := Same.made ny nd fun b o z _ => z
    refine ⟨y, dy, t1, t2, [], [], none, rfl, upd_same, Same.tup s3 (.of (by rw [upd_ne n2]; exact upd_same)), Same.tup s3 (.of upd_same), Nat.zero_le _, Nat.zero_le _, fun z m => (by cases m), fun z m => (by cases m), fun p z => (by cases z), fun H' kp e1 => ⟨rfl, ?_⟩⟩
    have s4 : Same H H' := fun c o z => kp c o (s3 _ _ (s2 c o z)) (ne_of_none z (s2.free ny))
    have hne : H y = none := s2.free ny
    refine ⟨_, rfl, y, C, dy, _, rfl, e1, T.cl, T.nN, (by show 3 < 1000; decide), _, rfl, y, C, dy, _, rfl, upd_same, T.cl, T.nL, (by rw [eF_n]; show 3 < 1000; decide), _, rfl, y, C, dy, _, rfl, upd_same, T.cl, T.nH, (by rw [eF_n, eF_l]; show 3 < 1000; decide), _, rfl, ?_⟩
    refine k y _ ?_ ⟨dy, ?_⟩
    · exact Same.free2 (Same.free2 (Same.free2 s4 hne) hne) hne
    · rw [upd_same, eF_n, eF_l, eF_h]
/-- the classmethod -/
def NeverHas (P : Program) (w : World) (K : PySem.W.Frag) (mg : Str → Option Value) (base : Heap) (C : Addr) : Prop := ∃ mc p g, ClX.CRead K C mc ∧ ClX.CMet K C mc "never" p g ∧ FnR P w K mg base CX0 6 g (spNever C)
theorem pe_never0 {X : Cx} {p apos pos : Pos} {pl : Sem Bool} (h : NeverHas X.prog X.w X.K X.mg X.base C) (mgE : X.mg "Effect" = some (.ref C)) (hr : Room 6 X.A) (hg : Gl X "Effect" := by rfl)
    (ht : eval (.Call (.Attribute (.Name "Effect" p) "never" apos) [] [] pos) X.env = (do
      let v ← eval (.Name "Effect" p) X.env
      standAt apos.atName
      let (f, first) ← holding [v] (getMethod v "never" pl)
      callWith pos f first (backTo pos (starEach [] X.env)) (backToKw pos (keywordEach [] X.env))) := by rfl) :
    PE X (.Call (.Attribute (.Name "Effect" p) "never" apos) [] [] pos) (tCMeth0 C (spNever C) E0 (tC (.ref C))) := by
  obtain ⟨mc, q, g, r, c, F⟩ := h
  exact pe_cmeth0 (pl := pl) (pe_glob hg mgE rfl) r c F hr pass0 ht
end
end SE
namespace SE
open PySem PySem.Spec PyProof.Rows L2
section
variable {P : Program} {w : World} {K : PySem.W.Frag} {mg : Str → Option Value} {base : Heap} {C : Addr}
/-! ### Effect(a, b, peak = c) -/
def tEffK (K : PySem.W.Frag) (C : Addr) (t : TA) (tk : TE) : TE := fun σ H Q => t σ H fun vs H1 => tCons tk tNil σ H1 fun zs H2 => ∃ (a b : Addr) (xs ys : List Str) (pk : Option Int), vs = [.ref a, .ref b] ∧ zs = [pkV pk] ∧ SqT K H2 a (xs.map V.str) ∧ SqT K H2 b (ys.map V.str) ∧ xs.length ≤ 5000 ∧ ys.length ≤ 5000 ∧
  (∀ z ∈ xs, Item z) ∧ (∀ z ∈ ys, Item z) ∧ (∀ p, pk = some p → lp xs ys ≤ p) ∧ ∀ (e : Addr) (H' : Hp), Same H2 H' → H2 e = none → EffAt K C H' e xs ys (pk.getD (lp xs ys)) → Q (.ref e) H'
theorem pe_effK {X : Cx} {p pos q1 : Pos} {e1 e2 c : Expr} {t : TA} {tk : TE} (M : Makes X.prog X.w X.K X.mg X.base C) (mgE : X.mg "Effect" = some (.ref C)) (hr : Room 5 X.A) (ha : PA X [e1, e2] t) (hc : PE X c tk) (hg : Gl X "Effect" := by rfl)
    (he : starEach [e1, e2] X.env = (false, eval e1 X.env) :: starEach [e2] X.env := by rfl) (hpl : ((backTo pos (starEach [e1, e2] X.env)).any (·.1) || (backToKw pos (keywordEach [⟨some "peak", c, q1⟩] X.env)).any (·.1.isNone)) = false := by rfl) :
    PE X (.Call (.Name "Effect" p) [e1, e2] [⟨some "peak", c, q1⟩] pos) (tEffK X.K C t tk) := by
  obtain ⟨f, fd, Mk1, F, FD⟩ := M
  obtain ⟨mv, kb⟩ := kb_some (ps := pInit) FD 3 ["peak"] [] (fun us _ ws => us ++ ws) (by simp) (fun q h => (by cases h)) (fun r1 _ r3 => r1.append r3) (fun D doc pm an cv ct us mv ws h1 h2 h3 => match us, mv, ws, h1, h2, h3 with | [_, _, _], [], [_], _, _, _ => rfl)
  constructor
  intro pins s σ H Q I h
  refine wpAny_Call_Name_kw (ld_glob I hg mgE ?_ (by decide))
  refine PySem.W.callWith_KW (h₀ := X.base) I.ok.mod.kin Mk1.kp rfl (thn (ha.run pos pins s σ H _ I h) fun us s1 hh => ?_) hpl he
  obtain ⟨vs, H1, I1, r, q⟩ := hh
  refine thn ((pk_cons (nm := some "peak") (kpos := q1) hc pk_nil).run pos pins s1 σ H1 _ I1 q) fun ws s2 hh => ?_
  obtain ⟨zs, H2, I2, rz, a, b, xs, ys, pk, rfl, rfl, ha2, hb2, l1, l2, i1, i2, hp, k⟩ := hh
  refine ⟨I2.kIn, ?_⟩
  refine run_makeK (ks := ["peak"]) (n := 2) Mk1 F hr kb pass0 I2 r rz rfl rfl ?_
  intro x dx nx nd ne
  have s0 : Same H2 (upd (upd H2 dx (.own x)) x (.ins C dx [])) := Same.made nx nd fun b o e _ => e
  refine ⟨x, dx, a, b, xs, ys, pk, rfl, upd_same, Same.tup s0 ha2, Same.tup s0 hb2, l1, l2, i1, i2, hp, fun H' kp hx => ⟨rfl, ?_⟩⟩
  have s3 : Same H2 H' := fun c o e => kp c o (s0 c o e) (ne_of_none e nx)
  exact k x H' s3 nx ⟨dx, a, b, hx, Same.tup s3 ha2, Same.tup s3 hb2⟩
/-! ### effects as values -/
abbrev Eff := Option (List Str × List Str × Int)
def EffV (K : PySem.W.Frag) (C : Addr) (H : Hp) (e : Addr) : Eff → Prop
  | none => NevAt C H e
  | some (xs, ys, p) => EffAt K C H e xs ys p
theorem EffV.same {H H' : Hp} {e : Addr} : ∀ {o : Eff}, EffV K C H e o → Same H H' → EffV K C H' e o
  | none, h, s => NevAt.same h s
  | some (_, _, _), h, s => EffAt.same h s
theorem EffV.ins {H : Hp} {e : Addr} : ∀ {o : Eff}, EffV K C H e o → ∃ dx fs, H e = some (.ins C dx fs)
  | none, h => by
    obtain ⟨dx, h1⟩ := NevAt.ex h
    exact ⟨dx, _, h1⟩
  | some (_, _, _), h => by
    obtain ⟨dx, u, v, h1, _⟩ := EffAt.ex h
    exact ⟨dx, _, h1⟩
/-! ### peak, nothing -/
def spPeak (K : PySem.W.Frag) (C : Addr) : Sp := fun vs H Q _ => ∃ (e : Addr) (xs ys : List Str) (p : Int), vs = [.ref e] ∧ EffAt K C H e xs ys p ∧ Q (.int p) H
theorem scPk : FnScope ["self"] ["self"] (defScope sPeak) := ⟨rfl, rfl, rfl, by decide +kernel, rfl, by decide +kernel, by decide +kernel⟩
theorem ok_peak {f : Addr} {fd : FuncData} (F : Fun K "peak" "Effect.peak" sPeak f fd) (T : EC K mg C) : FnOk P w K mg base CX0 1 f fd ["self"] (spPeak K C) := by
  refine F.ok scPk (fun vs H Q E h => ?_) (fun cdv A outer s H vs Q E hr h => ?_)
  · obtain ⟨e, xs, ys, p, rfl, _⟩ := h
    rfl
  · obtain ⟨e, xs, ys, p, rfl, h, k⟩ := h
    obtain ⟨dx, u, v, h1, h2, h3⟩ := h.ex
    exact ⟨_, pss_one (ps_ret (pe_fld (pv 0) rfl)), _, rfl, e, C, dx, _, _, rfl, h1, T.cl, T.nH, eF_high _ _ _, k⟩
end
end SE
namespace SE
open PySem PySem.Spec PyProof.Rows L2
/-! ### effects one after the other: the mathematics' side -/
abbrev Prt := List Str × List Str × Int
def comp (A B : Prt) : Option Prt :=
  if A.2.1.take (min A.2.1.length B.1.length) = B.1.take (min A.2.1.length B.1.length) then
    some (A.1 ++ B.1.drop (min A.2.1.length B.1.length), B.2.1 ++ A.2.1.drop (min A.2.1.length B.1.length), if (A.2.1.length : Int) - (A.1.length : Int) + B.2.2 > A.2.2 then (A.2.1.length : Int) - (A.1.length : Int) + B.2.2 else A.2.2)
  else none
def joinF : Prt → List Prt → Eff
  | A, [] => some A
  | A, B :: r => match comp A B with
    | none => none
    | some D => joinF D r
def joinM (ps : List Prt) : Eff := joinF ([], [], 0) ps
def szP (ps : List Prt) : Nat := (ps.map fun B => B.1.length + B.2.1.length).sum
/-- a part that may be joined -/
structure PrtOk (B : Prt) : Prop where
  i1 : ∀ z ∈ B.1, Item z
  i2 : ∀ z ∈ B.2.1, Item z
  h0 : 0 ≤ B.2.2
  h1 : (B.2.1.length : Int) - (B.1.length : Int) ≤ B.2.2
theorem comp_ok {A B D : Prt} (hA : PrtOk A) (hB : PrtOk B) (h : comp A B = some D) : PrtOk D ∧ D.1.length + D.2.1.length ≤ A.1.length + A.2.1.length + (B.1.length + B.2.1.length) := by
  unfold comp at h
  split at h
  · cases h
    have q1 := hA.h0
    have q2 := hA.h1
    have q3 := hB.h1
    refine ⟨⟨fun z m => ?_, fun z m => ?_, ?_, ?_⟩, ?_⟩
    · rcases List.mem_append.mp m with q | q
      · exact hA.i1 z q
      · exact hB.i1 z (List.mem_of_mem_drop q)
    · rcases List.mem_append.mp m with q | q
      · exact hB.i2 z q
      · exact hA.i2 z (List.mem_of_mem_drop q)
    · dsimp only
      split <;> omega
    · dsimp only
      rw [List.length_append, List.length_append, List.length_drop, List.length_drop]
      have m1 := Nat.min_le_left A.2.1.length B.1.length
      have m2 := Nat.min_le_right A.2.1.length B.1.length
      generalize min A.2.1.length B.1.length = m at m1 m2 ⊢
      split <;> omega
    · show (A.1 ++ B.1.drop (min A.2.1.length B.1.length)).length + (B.2.1 ++ A.2.1.drop (min A.2.1.length B.1.length)).length ≤ _
      rw [List.length_append, List.length_append, List.length_drop, List.length_drop]
      omega
  · cases h
theorem PrtOk.lp {D : Prt} (h : PrtOk D) : lp D.1 D.2.1 ≤ D.2.2 := by
  have q1 := h.h0
  have q2 := h.h1
  unfold SE.lp
  split <;> omega
theorem cutF_to {α : Type} (f : α → V) (xs : List α) (j : Nat) : cutV (xs.map f) none (some (j : Int)) = (xs.take j).map f := by
  unfold cutV
  rw [List.length_map]
  have e1 : HT.sIx xs.length 0 none = 0 := rfl
  rw [e1, HT.sIx_nat, List.drop_zero, Nat.sub_zero, ← List.map_take]
  congr 1
  by_cases c : j ≤ xs.length
  · rw [Nat.min_eq_left c]
  · rw [Nat.min_eq_right (by omega), List.take_length, List.take_of_length_le (by omega)]
theorem cutF_from {α : Type} (f : α → V) (xs : List α) (j : Nat) : cutV (xs.map f) (some (j : Int)) none = (xs.drop j).map f := by
  unfold cutV
  rw [List.length_map]
  have e1 : HT.sIx xs.length xs.length none = xs.length := rfl
  rw [e1, HT.sIx_nat, ← List.map_drop, ← List.map_take]
  congr 1
  by_cases c : j ≤ xs.length
  · rw [Nat.min_eq_left c, List.take_of_length_le (by rw [List.length_drop]; exact Nat.le_refl _)]
  · rw [Nat.min_eq_right (by omega), List.drop_of_length_le (Nat.le_refl _), List.drop_of_length_le (by omega), List.take_nil]
theorem min_int (a b : Nat) : (if (b : Int) < (a : Int) then (b : Int) else (a : Int)) = ((min a b : Nat) : Int) := by
  split <;> omega
/-- a part as a tuple -/
def PrtV (K : PySem.W.Frag) (H : Hp) (v : V) (B : Prt) : Prop := ∃ t a b, v = .ref t ∧ SqT K H t [.ref a, .ref b, .int B.2.2] ∧ SqT K H a (B.1.map V.str) ∧ SqT K H b (B.2.1.map V.str)
theorem PrtV.same {K : PySem.W.Frag} {H H' : Hp} {v : V} {B : Prt} (h : PrtV K H v B) (s : Same H H') : PrtV K H' v B := by
  obtain ⟨t, a, b, e, h1, h2, h3⟩ := h
  exact ⟨t, a, b, e, Same.tup s h1, Same.tup s h2, Same.tup s h3⟩
section
variable {P : Program} {w : World} {K : PySem.W.Frag} {mg : Str → Option Value} {base : Heap} {C : Addr}
/-! ### joined -/
def spJoin (K : PySem.W.Frag) (C : Addr) : Sp := fun vs H Q _ => ∃ (a : Addr) (us : List V) (ps : List Prt), vs = [.ref a] ∧ SqL K H a us ∧ Paired (PrtV K H) us ps ∧ (∀ B ∈ ps, PrtOk B) ∧ szP ps ≤ 5000 ∧ ∀ (e : Addr) (H' : Hp), Same H H' → EffV K C H' e (joinM ps) → Q (.ref e) H'
theorem scJo : FnScope ["parts", "pops", "pushes", "peak", "needed", "left", "highest", "shared"] ["parts"] (defScope sJoined) := ⟨rfl, rfl, rfl, by decide +kernel, rfl, by decide +kernel, by decide +kernel⟩
theorem paired_at {α β : Type} {F : α → β → Prop} : ∀ {l₁ : List α} {l₂ : List β} {i : Nat} {x : α}, Paired F l₁ l₂ → l₁[i]? = some x → ∃ y, l₂[i]? = some y ∧ F x y
  | _, _, _, _, .nil, h => by simp at h
  | _, _, 0, _, .cons r _, h => ⟨_, rfl, by cases h; exact r⟩
  | _, _, i + 1, _, .cons _ t, h => by
    obtain ⟨y, h1, h2⟩ := paired_at t (i := i) h
    exact ⟨y, h1, h2⟩
theorem paired_len {α β : Type} {F : α → β → Prop} : ∀ {l₁ : List α} {l₂ : List β}, Paired F l₁ l₂ → l₁.length = l₂.length
  | _, _, .nil => rfl
  | _, _, .cons _ t => congrArg Nat.succ (paired_len t)
theorem has_join (D : Def K mg "joined" sJoined) (T : EC K mg C) (M : Makes P w K mg base C) (GN : NeverHas P w K mg base C) (B : Blt mg) (mx : mg "max" = none) (mn : mg "min" = none) : Has P w K mg base "joined" 7 ["parts"] [] (spJoin K C) := by
  refine has_of D scJo (fun _ _ _ _ _ _ us hl => match us, hl with | [_], _ => rfl) (fun xs H Q E h => ?_) (fun f cv A out s H xs Q E hr h => ?_)
  · obtain ⟨a, us, ps, rfl, _⟩ := h
    rfl
  · obtain ⟨a, us, ps, rfl, hS, hV, hO, hz, k⟩ := h
    have hr5 : Room 5 _ := hr.mono (by decide)
    refine ⟨_, pss_cons (ps_asg (pe_tup (pa_cons (pe_tup pa_nil) (pa_cons (pe_tup pa_nil) (pa_cons pe_int pa_nil)))) (pg_tup (by rfl) (pgs_cons (pg_name (i := 1) scJo.nd rfl (.inl rfl)) (pgs_cons (pg_name (i := 2) scJo.nd rfl (.inl rfl)) (pgs_cons (pg_name (i := 3) scJo.nd rfl (.inl rfl)) pgs_nil)))))
      (pss_cons (ps_for PassesOwn.never rfl (pi_list (pv 0)) (pg_tup (by rfl) (pgs_cons (pg_name (i := 4) scJo.nd rfl (.inl rfl)) (pgs_cons (pg_name (i := 5) scJo.nd rfl (.inl rfl)) (pgs_cons (pg_name (i := 6) scJo.nd rfl (.inl rfl)) pgs_nil))))
        (pss_cons (ps_set (i := 7) scJo.nd rfl (.inl rfl) (pe_callB (call_min2 rfl) (by rfl) mn (by decide +kernel) (pa_cons (pe_callB call_len_seq (by rfl) B.len PySem.boot_len (pa_cons (pv 2) pa_nil)) (pa_cons (pe_callB call_len_seq (by rfl) B.len PySem.boot_len (pa_cons (pv 4) pa_nil)) pa_nil))))
        (pss_cons (ps_if (pt_cut (pt_cmpR (op_neD hr.units) (pe_slice sl_tupS (pv 2) po_none (po_some (pv 7))) (pe_slice sl_tupS (pv 4) po_none (po_some (pv 7))) (nomark _))) (pss_one (ps_ret (pe_never0 GN T.mgE hr))) pss_nil)
        (pss_cons (ps_set (i := 3) scJo.nd rfl (.inl rfl) (pe_callB (call_max2 rfl) (by rfl) mx (by decide +kernel) (pa_cons (pv 3) (pa_cons (pe_op op_add (pe_op op_sub (pe_callB call_len_seq (by rfl) B.len PySem.boot_len (pa_cons (pv 2) pa_nil)) (pe_callB call_len_seq (by rfl) B.len PySem.boot_len (pa_cons (pv 1) pa_nil))) (pv 6)) pa_nil))))
        (pss_cons (ps_set (i := 1) scJo.nd rfl (.inl rfl) (pe_op op_catS (pv 1) (pe_slice sl_tupS (pv 4) (po_some (pv 7)) po_none)))
        (pss_one (ps_set (i := 2) scJo.nd rfl (.inl rfl) (pe_op op_catS (pv 5) (pe_slice sl_tupS (pv 2) (po_some (pv 7)) po_none)))))))))
      (pss_one (ps_ret (pe_effK M T.mgE hr5 (pa_cons (pv 1) (pa_cons (pv 2) pa_nil)) (pv 3))))), ?_⟩
    refine ⟨Nat.zero_le _, fun t1 ht1 => ⟨Nat.zero_le _, fun t2 ht2 => ?_⟩⟩
    have n12 : t1 ≠ t2 := ne_of_none upd_same ht2
    have s0 : Same H (upd (upd H t1 (.tup [])) t2 (.tup [])) := Same.free2 (Same.new ht1) ((Same.new ht1).free ht2)
    have shp : ∀ {zs : List Str}, (∀ z ∈ zs, Item z) → SeqAt.shaped (.tuple (zs.map PyData.str)) = true := fun {zs} q => (nice_tuple (nice_strs q)).shaped (by decide)
    refine ⟨(by show 3 ≤ sizeLine; decide), fun t3 ht3 => ⟨t3, _, rfl, .of upd_same, rfl, _, _, rfl, _, _, rfl, _, _, rfl, rfl, ?_⟩⟩
    have s00 := Same.new (o := .tup [.ref t1, .ref t2, .int 0]) ht3
    generalize upd (upd (upd H t1 (.tup [])) t2 (.tup [])) t3 (.tup [.ref t1, .ref t2, .int 0]) = H1 at s00 ⊢
    have w1 : SqT K H1 t1 (([] : List Str).map V.str) := Same.tup s00 (.of (by rw [upd_ne n12]; exact upd_same))
    have w2 : SqT K H1 t2 (([] : List Str).map V.str) := Same.tup s00 (.of upd_same)
    replace s0 := s0.trans s00
    refine ⟨_, rfl, a, rfl, ⟨_, Same.seq s0 hS⟩, for_list (K := K) (a := a) (xs := us) (fun i σ H2 => ∃ (u v : Addr) (A : Prt) (y4 y5 y6 y7 : Option V), σ = [some (.ref a), some (.ref u), some (.ref v), some (.int A.2.2), y4, y5, y6, y7] ∧ Same H H2 ∧ SqT K H2 u (A.1.map V.str) ∧ SqT K H2 v (A.2.1.map V.str) ∧ PrtOk A ∧ joinM ps = joinF A (ps.drop i) ∧ A.1.length + A.2.1.length + szP (ps.drop i) ≤ 5000)
      ⟨t1, t2, ([], [], 0), none, none, none, none, rfl, s0, w1, w2, ⟨fun z m => (by cases m), fun z m => (by cases m), Int.le_refl _, Int.le_refl _⟩, rfl, by rw [List.drop_zero]; show 0 + 0 + szP ps ≤ 5000; omega⟩ (fun i σ H2 _ q => ?_) ?_ ?_⟩
    · obtain ⟨_, _, _, _, _, _, _, _, s2, _⟩ := q
      exact Same.seq s2 hS
    · rintro i x σ H2 hx ⟨u, v, A, y4, y5, y6, y7, rfl, s2, hu, hv, oA, hj, hsz⟩
      obtain ⟨Bp, hB, hP⟩ := paired_at hV hx
      obtain ⟨t, p1, p2, rfl, q1, q2, q3⟩ := hP.same s2
      have oB := hO Bp (List.mem_of_getElem? hB)
      have hd : ps.drop i = Bp :: ps.drop (i + 1) := by
        obtain ⟨hl, he⟩ := List.getElem?_eq_some_iff.mp hB
        rw [List.drop_eq_getElem_cons hl, he]
      have hsz2 : A.1.length + A.2.1.length + (Bp.1.length + Bp.2.1.length) + szP (ps.drop (i + 1)) ≤ 5000 := by
        rw [hd] at hsz
        have e : szP (Bp :: ps.drop (i + 1)) = Bp.1.length + Bp.2.1.length + szP (ps.drop (i + 1)) := by
          unfold szP
          rw [List.map_cons, List.sum_cons]
        omega
      refine ⟨t, _, rfl, q1, rfl, _, _, rfl, _, _, rfl, _, _, rfl, rfl, ?_⟩
      refine ⟨_, rfl, v, _, rfl, .inr hv, _, rfl, p1, _, rfl, .inr q2, _, _, rfl, ?_⟩
      rw [List.length_map, List.length_map, min_int]
      -- do they fit
      refine ⟨fun b H3 => b = !decide (A.2.1.take (min A.2.1.length Bp.1.length) = Bp.1.take (min A.2.1.length Bp.1.length)) ∧ Same H2 H3, ?_, ?_⟩
      · refine ⟨_, rfl, _, rfl, _, rfl, v, _, rfl, hv, fun c1 H3 s3 hc1 => ⟨_, rfl, _, rfl, _, rfl, p1, _, rfl, Same.tup s3 q2, fun c2 H4 s4 hc2 => ?_⟩⟩
        rw [cutF_to] at hc1 hc2
        refine ⟨.tuple ((A.2.1.take (min A.2.1.length Bp.1.length)).map .str), .tuple ((Bp.1.take (min A.2.1.length Bp.1.length)).map .str), .tup (Same.tup s4 hc1) (dp_strs _), .tup hc2 (dp_strs _), shp (fun z m => oA.i2 z (List.mem_of_mem_take m)), shp (fun z m => oB.i1 z (List.mem_of_mem_take m)), _, rfl, ?_, s3.trans s4⟩
        rw [eqv_tupS]
      rintro b H3 ⟨rfl, s3⟩
      have s23 := s2.trans s3
      by_cases c : A.2.1.take (min A.2.1.length Bp.1.length) = Bp.1.take (min A.2.1.length Bp.1.length)
      rotate_left
      · rw [decide_eq_false c]
        refine iteT ⟨rfl, rfl, fun e H4 s4 he => k e H4 (s23.trans s4) ?_⟩
        have ej : joinM ps = none := by
          rw [hj, hd]
          unfold joinF comp
          rw [if_neg c]
        rw [ej]
        exact he
      rw [decide_eq_true c]
      refine iteF ?_
      refine ⟨_, rfl, _, rfl, v, _, rfl, .inr (Same.tup s3 hv), _, rfl, u, _, rfl, .inr (Same.tup s3 hu), _, _, rfl, rfl, _, rfl, _, _, rfl, rfl, _, _, rfl, ?_⟩
      rw [List.length_map, List.length_map]
      refine ⟨_, rfl, _, rfl, _, rfl, _, rfl, p1, _, rfl, Same.tup s3 q2, fun c1 H4 s4 hc1 => ?_⟩
      rw [cutF_from] at hc1
      refine ⟨u, c1, _, _, rfl, rfl, Same.tup (s3.trans s4) hu, hc1, ?_, fun u2 H5 s5 hu2 => ?_⟩
      · rw [List.length_map, List.length_map, List.length_drop, sizeLine_eq]
        omega
      have s35 := (s3.trans s4).trans s5
      refine ⟨_, rfl, _, rfl, _, rfl, _, rfl, v, _, rfl, Same.tup s35 hv, fun c2 H6 s6 hc2 => ?_⟩
      rw [cutF_from] at hc2
      refine ⟨p2, c2, _, _, rfl, rfl, Same.tup (s35.trans s6) q3, hc2, ?_, fun v2 H7 s7 hv2 => ?_⟩
      · rw [List.length_map, List.length_map, List.length_drop, sizeLine_eq]
        omega
      obtain ⟨Dp, hD⟩ : ∃ Dp, comp A Bp = some Dp := by
        unfold comp
        rw [if_pos c]
        exact ⟨_, rfl⟩
      have oD := comp_ok oA oB hD
      have e1 : Dp.1 = A.1 ++ Bp.1.drop (min A.2.1.length Bp.1.length) ∧ Dp.2.1 = Bp.2.1 ++ A.2.1.drop (min A.2.1.length Bp.1.length) ∧ Dp.2.2 = if (A.2.1.length : Int) - (A.1.length : Int) + Bp.2.2 > A.2.2 then (A.2.1.length : Int) - (A.1.length : Int) + Bp.2.2 else A.2.2 := by
        unfold comp at hD
        rw [if_pos c] at hD
        cases hD
        exact ⟨rfl, rfl, rfl⟩
      rw [← List.map_append, ← e1.1] at hu2
      rw [← List.map_append, ← e1.2.1] at hv2
      refine ⟨u2, v2, Dp, some (.ref p1), some (.ref p2), some (.int Bp.2.2), some (.int ((min A.2.1.length Bp.1.length : Nat) : Int)), ?_, s2.trans ((s35.trans s6).trans s7), Same.tup (s6.trans s7) hu2, hv2, oD.1, ?_, ?_⟩
      · rw [e1.2.2]
        rfl
      · rw [hj, hd]
        conv => lhs; unfold joinF
        rw [hD]
      · have := oD.2
        omega
    · rintro σ H2 ⟨u, v, A, y4, y5, y6, y7, rfl, s2, hu, hv, oA, hj, hsz⟩
      rw [paired_len hV, List.drop_length] at hj
      refine ⟨_, rfl, _, rfl, _, rfl, u, v, A.1, A.2.1, some A.2.2, rfl, rfl, hu, hv, by omega, by omega, oA.i1, oA.i2, fun p z => ?_, fun e H3 s3 _ he => ?_⟩
      · cases z
        exact oA.lp
      · refine k e H3 (s2.trans s3) ?_
        rw [hj]
        exact he
end
end SE
namespace SE
open PySem PySem.Spec PyProof.Rows L2
/-! ### effect_of -/
def partM (s : Stp) : Prt := if s.1 = true then ([], [s.2], 1) else ([s.2], [], 0)
def effM (ss : List Stp) : Eff := joinM (ss.map partM)
theorem partM_ok {s : Stp} (h : Item s.2) : PrtOk (partM s) := by
  unfold partM
  split
  · exact ⟨fun z m => (by cases m), fun z m => (by rw [List.mem_singleton.mp m]; exact h), (by show (0 : Int) ≤ 1; decide), (by show ((1 : Nat) : Int) - ((0 : Nat) : Int) ≤ 1; decide)⟩
  · exact ⟨fun z m => (by rw [List.mem_singleton.mp m]; exact h), fun z m => (by cases m), (by show (0 : Int) ≤ 0; decide), (by show ((0 : Nat) : Int) - ((1 : Nat) : Int) ≤ 0; decide)⟩
theorem szP_steps : ∀ ss : List Stp, szP (ss.map partM) = ss.length
  | [] => rfl
  | s :: ss => by
    have ih := szP_steps ss
    unfold szP at ih ⊢
    rw [List.map_cons, List.map_cons, List.sum_cons, ih, List.length_cons]
    unfold partM
    split
    · show 0 + 1 + ss.length = _
      omega
    · show 1 + 0 + ss.length = _
      omega
theorem tup_updL {K : PySem.W.Frag} {H : Hp} {D t : Addr} {xs us : List V} {o : HO} (hD : H D = some (.lst us)) (h : SqT K H t xs) : SqT K (upd H D o) t xs := by
  rcases h with (h | ⟨p, h⟩) | h
  · exact .inl (.inl (by rw [upd_ne (ne_of h hD (by intro z; cases z))]; exact h))
  · exact .inl (.inr ⟨p, by rw [upd_ne (ne_of h hD (by intro z; cases z))]; exact h⟩)
  · exact .inr h
theorem PrtV.updL {K : PySem.W.Frag} {H : Hp} {D : Addr} {us : List V} {v : V} {B : Prt} {o : HO} (hD : H D = some (.lst us)) (h : PrtV K H v B) : PrtV K (upd H D o) v B := by
  obtain ⟨t, a, b, e, h1, h2, h3⟩ := h
  exact ⟨t, a, b, e, tup_updL hD h1, tup_updL hD h2, tup_updL hD h3⟩
theorem Paired.snoc2 {α β : Type} {F : α → β → Prop} : ∀ {l₁ : List α} {l₂ : List β} {x : α} {y : β}, Paired F l₁ l₂ → F x y → Paired F (l₁ ++ [x]) (l₂ ++ [y])
  | _, _, _, _, .nil, h => .cons h .nil
  | _, _, _, _, .cons r t, h => .cons r (Paired.snoc2 t h)
section
variable {P : Program} {w : World} {K : PySem.W.Frag} {mg : Str → Option Value} {base : Heap} {C : Addr}
def spPart (K : PySem.W.Frag) : Sp := fun vs H Q _ => ∃ (v : V) (s : Stp), vs = [v] ∧ StepV K H v s ∧ ∀ (u : V) (H' : Hp), Same H H' → PrtV K H' u (partM s) → Q u H'
theorem scPt : FnScope ["step", "action", "item"] ["step"] (defScope sPartsOfStep) := ⟨rfl, rfl, rfl, by decide +kernel, rfl, by decide +kernel, by decide +kernel⟩
theorem has_part (D : Def K mg "parts_of_step" sPartsOfStep) : Has P w K mg base "parts_of_step" 1 ["step"] [] (spPart K) := by
  refine has_of D scPt (fun _ _ _ _ _ _ us hl => match us, hl with | [_], _ => rfl) (fun xs H Q E h => ?_) (fun f cv A out s H xs Q E hr h => ?_)
  · obtain ⟨v, st, rfl, _⟩ := h
    rfl
  · obtain ⟨v, st, rfl, ⟨t, rfl, hT⟩, k⟩ := h
    refine ⟨_, pss_cons (ps_asg (pv 0) (pg_tup (by rfl) (pgs_cons (pg_name (i := 1) scPt.nd rfl (.inl rfl)) (pgs_cons (pg_name (i := 2) scPt.nd rfl (.inl rfl)) pgs_nil))))
      (pss_one (ps_ret (pe_ifExp (pt_cmpR op_eq (pv 1) pe_str (nomark _)) (pe_tup (pa_cons (pe_tup pa_nil) (pa_cons (pe_tup (pa_cons (pv 2) pa_nil)) (pa_cons pe_int pa_nil)))) (pe_tup (pa_cons (pe_tup (pa_cons (pv 2) pa_nil)) (pa_cons (pe_tup pa_nil) (pa_cons pe_int pa_nil))))))), ?_⟩
    refine ⟨_, rfl, t, _, rfl, hT, rfl, _, _, rfl, _, _, rfl, rfl, ?_⟩
    obtain ⟨b, z⟩ := st
    cases b with
    | true =>
      refine ⟨_, rfl, rfl, true, congrArg V.bl (decide_eq_true (show V.str (act true) = V.str "push" from rfl)), iteT ?_⟩
      refine ⟨Nat.zero_le _, fun a ha => ⟨_, rfl, (by show 1 ≤ sizeLine; decide), fun c hc => ⟨(by show 3 ≤ sizeLine; decide), fun q hq => ?_⟩⟩⟩
      have nac : a ≠ c := ne_of_none upd_same hc
      have naq : a ≠ q := ne_of_none (by rw [upd_ne nac]; exact upd_same) hq
      have ncq : c ≠ q := ne_of_none upd_same hq
      refine k (.ref q) _ ?_ ⟨q, a, c, rfl, .of upd_same, .of ?_, .of ?_⟩
      · exact Same.free2 (Same.free2 (Same.new ha) ((Same.new ha).free hc)) ((Same.free2 (Same.new ha) ((Same.new ha).free hc)).free hq)
      · rw [upd_ne naq, upd_ne nac]
        exact upd_same
      · rw [upd_ne ncq]
        exact upd_same
    | false =>
      refine ⟨_, rfl, rfl, false, congrArg V.bl (decide_eq_false (fun y => absurd (V.str.inj (show V.str (act false) = V.str "push" from y)) (by decide +kernel))), iteF ?_⟩
      refine ⟨_, rfl, (by show 1 ≤ sizeLine; decide), fun a ha => ⟨Nat.zero_le _, fun c hc => ⟨(by show 3 ≤ sizeLine; decide), fun q hq => ?_⟩⟩⟩
      have nac : a ≠ c := ne_of_none upd_same hc
      have naq : a ≠ q := ne_of_none (by rw [upd_ne nac]; exact upd_same) hq
      have ncq : c ≠ q := ne_of_none upd_same hq
      refine k (.ref q) _ ?_ ⟨q, a, c, rfl, .of upd_same, .of ?_, .of ?_⟩
      · exact Same.free2 (Same.free2 (Same.new ha) ((Same.new ha).free hc)) ((Same.free2 (Same.new ha) ((Same.new ha).free hc)).free hq)
      · rw [upd_ne naq, upd_ne nac]
        exact upd_same
      · rw [upd_ne ncq]
        exact upd_same
def spEffOf (K : PySem.W.Frag) (C : Addr) : Sp := fun vs H Q _ => ∃ (a : Addr) (ys : List V) (ss : List Stp), vs = [.ref a] ∧ SqL K H a ys ∧ ys.length ≤ 1000 ∧ StepsV K H ys ss ∧ (∀ s ∈ ss, Item s.2) ∧ ∀ (e : Addr) (H' : Hp), Same H H' → EffV K C H' e (effM ss) → Q (.ref e) H'
theorem scEo : FnScope ["steps", "step"] ["steps"] (defScope sEffectOf) := ⟨rfl, rfl, rfl, by decide +kernel, rfl, by decide +kernel, by decide +kernel⟩
theorem has_effOf (D : Def K mg "effect_of" sEffectOf) (GC : Has P w K mg base "check_steps" 3 ["steps"] [] (spChkSteps K)) (GP : Has P w K mg base "parts_of_step" 1 ["step"] [] (spPart K)) (GJ : Has P w K mg base "joined" 7 ["parts"] [] (spJoin K C)) :
    Has P w K mg base "effect_of" 8 ["steps"] [] (spEffOf K C) := by
  refine has_of D scEo (fun _ _ _ _ _ _ us hl => match us, hl with | [_], _ => rfl) (fun xs H Q E h => ?_) (fun f cv A out s H xs Q E hr h => ?_)
  · obtain ⟨a, ys, ss, rfl, _⟩ := h
    rfl
  · obtain ⟨a, ys, ss, rfl, hS, hl, hV, hI, k⟩ := h
    have hr1 : Room 1 _ := hr.mono (by decide)
    have hr3 : Room 3 _ := hr.mono (by decide)
    have hln : ys.length = ss.length := hV.length
    refine ⟨_, pss_cons (ps_expr (pe_has GC hr3 (pa_cons (pv 0) pa_nil))) (pss_one (ps_ret (pe_has GJ hr (pa_cons
      (pe_lc (own := [("step", 1)]) (g := gName 1) (tt := tYes) (te := tCall (spPart K) [] E0 (tCons (tVar 1) tNil)) rfl scEo.nd (pi_list (pv 0)) (blkOk_by (own := [("step", 1)]) (N := ["steps", "step"]) (sc := defScope sEffectOf) (by decide +kernel))
        (fun _ _ _ _ _ => pg_name (i := 1) scEo.nd rfl (.inl rfl)) (fun _ _ _ _ _ => pts_nil) (fun _ _ _ _ _ => pe_has GP hr1 (pa_cons (pv 1) pa_nil))) pa_nil)))), ?_⟩
    refine ⟨_, rfl, a, ys, ss, rfl, .inl hS, hl, hV, hI, fun H1 s1 => ?_⟩
    refine ⟨_, rfl, a, rfl, ⟨_, Same.seq s1 hS⟩, fun D hD => lc_list (K := K) (a := a) (xs := ys) (fun j H2 => ∃ us, H2 D = some (.lst us) ∧ Paired (PrtV K H2) us ((ss.take j).map partM) ∧ Same H1 H2) ⟨[], upd_same, .nil, Same.new hD⟩ (fun j H2 _ q => ?_) ?_ ?_⟩
    · obtain ⟨_, _, _, s2⟩ := q
      exact Same.seq (s1.trans s2) hS
    · rintro j x H2 hx ⟨us, hu, hP, s2⟩
      obtain ⟨st, h1, h2⟩ := StepsV.at hV hx
      refine ⟨rfl, yes_in ⟨_, rfl, x, st, rfl, h2.same (s1.trans s2), fun u H3 s3 hp => ⟨us, s3 _ _ hu, ?_, us ++ [u], upd_same, ?_, ?_⟩⟩⟩
      · have l2 := paired_len hP
        rw [List.length_map, List.length_take] at l2
        rw [sizeLine_eq]
        omega
      · have e1 : (ss.take (j + 1)).map partM = (ss.take j).map partM ++ [partM st] := by
          rw [List.take_add_one, h1, List.map_append]
          rfl
        rw [e1]
        have hu3 := s3 _ _ hu
        exact Paired.snoc2 (Paired.mapP hP fun v B q => (q.same s3).updL hu3) (hp.updL hu3)
      · exact Same.free2 (s2.trans s3) hD
    · rintro H2 ⟨us, hu, hP, s2⟩
      rw [hln, List.take_length] at hP
      refine ⟨D, us, ss.map partM, rfl, .of hu, hP, fun Bp m => ?_, ?_, fun e H3 s3 he => k e H3 ((s1.trans s2).trans s3) he⟩
      · obtain ⟨st, ms, rfl⟩ := List.mem_map.mp m
        exact partM_ok (hI st ms)
      · rw [szP_steps]
        omega
end
end SE
/-! == and != by an own __eq__, whatever it answers; repr by an own __repr__. -/
namespace SE
open PySem PySem.Spec PyProof.Rows L2
section
variable {prog : Program} {w : World} {A : Around} {E : Value → Shared → Prop} {s : Shared} {K : PySem.W.Frag} {x y C f : Addr} {ox oy : Obj} {od oe : Option Obj} {Q : Value → Shared → Prop}
/-- a special method that is a built-in's slot -/
theorem bound_slot {M : Model} {name : Str} {id : String} {args : List Value} {R : Option Value → Shared → Prop} (X : K.In s.heap) (I : PySem.W.InstAt s.heap x ox C od) (hs : PySem.W.findIn K (.ref C) name = some (some (.builtin id)))
    (hb : ∀ v, bindSpecial (.builtin id) v = pure (.builtin id, [v])) (h : wpAny M A (call (.builtin id) (.ref x :: args)) (fun v => R (some v)) E s) : wpAny M A (callSpecialIfBound? (.ref x) name args) R E s := by
  simp only [callSpecialIfBound?, bindSpecialIfBound?]
  refine wpAny_holding (wpAny_bind (wpAny_bind (wpAny_bind (I.type.here ((PySem.W.looks_findIn X hs).here (wpAny_bind (wpAny_askSetting (wpAny_ite ?_))))))))
  have last : wpAny M A (call (.builtin id) ([.ref x] ++ args) >>= fun v => pure (some v)) R E s := wpAny_bind (wpAny_mono h (fun v s2 z => wpAny_pure z) fun _ _ z => z)
  split
  · exact wpAny_bind ((PySem.W.Looks.of_pure (hb _)).here (wpAny_pure (by exact last)))
  · exact wpAny_tryCatch (wpAny_bind ((PySem.W.Looks.of_pure (hb _)).here (wpAny_pure (by exact last))))
open Builtin in
theorem ne_call {v : Value} (hu : A.in1.units < cLine) (X : K.In s.heap) (I : PySem.W.InstAt s.heap x ox C od) (hm : PySem.W.mroIn K C (.type "object") = some true) (hs : PySem.W.findIn K (.ref C) "__eq__" = some (some (.ref f))) (hf : PySem.W.isFn K (.ref f) = true)
    (h : wpAny (model prog w) A.in1 (call (.ref f) [.ref x, v]) (fun r s2 => ∃ b, r = .bool b ∧ Q (.bool (!b)) s2) E s) : wpAny (model prog w) A (call (.builtin "object.__ne__") [.ref x, v]) Q E s := by
  refine wpAny_call (codeAny_call_builtin PySem.F.cmp_object.ne.plain PySem.F.cmpEntry_ne (PySem.W.check_slot PySem.F.cmpKind_ne PySem.F.cmpSplit_ne (I.type.andThen (PySem.W.looks_mroIn X hm)) (PySem.F.cmpArgs_ne _ _) ?_))
  unfold Builtin.«object.__ne__»
  refine wpAny_bind (m := slotArgs "__ne__" 1 _) (wpAny_pure ?_)
  refine wpAny_bind (m := cRoomFor _ _) (wpAny_cRoomFor hu ?_)
  refine wpAny_bind (m := callSpecialIfBound? (.ref x) (Str.ofString "__eq__") _) (PySem.W.ifBound_K X I hs hf (wpAny_mono h (fun r s2 z => ?_) fun _ _ z => z))
  obtain ⟨b, rfl, q⟩ := z
  exact wpAny_bind (wpAny_truthy_bool (wpAny_pure q))
theorem ne_inst (hu : A.units + 1 < cLine) (X : K.In s.heap) (I : PySem.W.InstAt s.heap x ox C od) (J : PySem.W.InstAt s.heap y oy C oe) (hm : PySem.W.mroIn K C (.type "object") = some true)
    (hn : PySem.W.findIn K (.ref C) "__ne__" = some (some (.builtin "object.__ne__"))) (hs : PySem.W.findIn K (.ref C) "__eq__" = some (some (.ref f))) (hf : PySem.W.isFn K (.ref f) = true)
    (h : wpAny (model prog w) A.in1 (call (.ref f) [.ref x, .ref y]) (fun r s2 => ∃ b, r = .bool b ∧ Q (.bool (!b)) s2) E s) : wpAny (model prog w) A (richCompare .NotEq (.ref x) (.ref y)) Q E s := by
  have one : wpAny (model prog w) A (tryCompare (.ref x) (cmpInfo .NotEq).2.1 (.ref y)) (fun r s2 => ∃ v, r = some v ∧ Q v s2) E s := by
    unfold tryCompare
    refine wpAny_bind (bound_slot X I hn PySem.F.cmp_object.ne.bind (ne_call hu X I hm hs hf (wpAny_mono h (fun v s2 z => ?_) fun _ _ z => z)))
    obtain ⟨b, rfl, q⟩ := z
    exact ⟨b, rfl, wpAny_pure ⟨_, rfl, q⟩⟩
  unfold richCompare
  simp only [oneThing_ref]
  refine wpAny_holding (wpAny_bind (wpAny_cRoomFor (Nat.lt_of_succ_lt hu) (wpAny_bind (I.type.here (wpAny_bind (J.type.here ?_))))))
  rw [show (Value.ref C != Value.ref C) = false by simp]
  simp only [Bool.false_eq_true, if_false]
  refine wpAny_bind (wpAny_pure ?_)
  simp only [Bool.false_eq_true, if_false]
  refine wpAny_bind (wpAny_mono one (fun r s2 z => ?_) fun _ _ z => z)
  obtain ⟨v, rfl, q⟩ := z
  exact wpAny_pure q
end
/-! ### the rules -/
/-- what an own == promises -/
def spEqB (R : Addr → Addr → Bool → Hp → Prop) : Sp := fun vs H Q _ => ∃ (a b : Addr) (c : Bool), vs = [.ref a, .ref b] ∧ R a b c H ∧ ∀ H', Same H H' → Q (.bl c) H'
def rCmp (C : Addr) (R : Addr → Addr → Bool → Hp → Prop) (neg : Bool) : R2 := fun x y H Q => ∃ (a b : Addr) (c : Bool) (dx dy : Addr) (fs gs : List (Str × V)), x = .ref a ∧ y = .ref b ∧ H a = some (.ins C dx fs) ∧ H b = some (.ins C dy gs) ∧ R a b c H ∧ ∀ H', Same H H' → Q (.bl (c != neg)) H'
section
variable {X : Cx} {n : Nat} {C f : Addr} {fd : FuncData} {ps : List Str} {R : Addr → Addr → Bool → Hp → Prop}
theorem op_eqE (F : FnOk X.prog X.w X.K X.mg X.base CX0 n f fd ps (spEqB R)) (hs : PySem.W.findIn X.K (.ref C) "__eq__" = some (some (.ref f))) (hf : PySem.W.isFn X.K (.ref f) = true) (hb : Binds X.K fd ps []) (hr : Room n X.A) : OpR X (compareOp .Eq) (rCmp C R false) := by
  intro pins s σ H x y u v Q I rx ry hq
  obtain ⟨a, b, c, dx, dy, fs, gs, rfl, rfl, ha, hb2, hR, k⟩ := hq
  cases rx
  cases ry
  obtain ⟨mA, J, _⟩ := ins_get I.hok ha
  obtain ⟨mB, J2, _⟩ := ins_get I.hok hb2
  obtain ⟨od, J, _⟩ := J.look
  obtain ⟨oe, J2, _⟩ := J2.look
  obtain ⟨m, hF⟩ := I.fr
  show wpAny (model X.prog X.w) X.A (richCompare .Eq (.ref a) (.ref b)) (EP X pins σ Q) X.xe s
  refine PySem.W.cmp_K (op := .Eq) (tb := .ref C) hr.units0 hF I.ok.mod.kin J J2.type (by simp [PySem.W.notFirst]) hs hf ?_
  have hsp : spEqB R [.ref a, .ref b] H (fun z H' => z = .bl c ∧ Same H H') (fun _ _ _ => False) := ⟨a, b, c, rfl, hR, fun H' e => ⟨rfl, e⟩⟩
  have hl := F.len _ _ _ _ hsp
  refine wpAny_call (codeAny_mono (F.run X.A X.stack s H ⟨[.ref a, .ref b], []⟩ [.ref a, .ref b] [.ref a, .ref b] _ _ hr I.env0 (by simpa using hb s [.ref a, .ref b] I.kIn (by simpa using hl)) (.cons rfl (.cons rfl .nil)) hsp) fun r s2 hq => ?_)
  cases r with
  | error e => exact hq.elim
  | ok fl =>
    cases fl with
    | ret z =>
      obtain ⟨y, H2, I2, rz, ez, ex⟩ := I.after hq
      subst ez
      cases rz
      refine ⟨.bl c, H2, I2, rfl, ?_⟩
      have q := k H2 ex
      rw [show (c != false) = c by cases c <;> rfl] at q
      exact q
    | next => exact hq.elim
    | brk => exact hq.elim
    | cont => exact hq.elim
theorem op_neE (F : FnOk X.prog X.w X.K X.mg X.base CX0 n f fd ps (spEqB R)) (hs : PySem.W.findIn X.K (.ref C) "__eq__" = some (some (.ref f))) (hf : PySem.W.isFn X.K (.ref f) = true) (hb : Binds X.K fd ps []) (hm : PySem.W.mroIn X.K C (.type "object") = some true)
    (hn : PySem.W.findIn X.K (.ref C) "__ne__" = some (some (.builtin "object.__ne__"))) (hr : Room (n + 1) X.A) : OpR X (compareOp .NotEq) (rCmp C R true) := by
  intro pins s σ H x y u v Q I rx ry hq
  obtain ⟨a, b, c, dx, dy, fs, gs, rfl, rfl, ha, hb2, hR, k⟩ := hq
  cases rx
  cases ry
  obtain ⟨mA, J, _⟩ := ins_get I.hok ha
  obtain ⟨mB, J2, _⟩ := ins_get I.hok hb2
  obtain ⟨od, J, _⟩ := J.look
  obtain ⟨oe, J2, _⟩ := J2.look
  show wpAny (model X.prog X.w) X.A (richCompare .NotEq (.ref a) (.ref b)) (EP X pins σ Q) X.xe s
  refine ne_inst (by have := hr.in1.units0; exact this) I.kIn J J2 hm hn hs hf ?_
  have hsp : spEqB R [.ref a, .ref b] H (fun z H' => z = .bl c ∧ Same H H') (fun _ _ _ => False) := ⟨a, b, c, rfl, hR, fun H' e => ⟨rfl, e⟩⟩
  have hl := F.len _ _ _ _ hsp
  refine wpAny_call (codeAny_mono (F.run X.A.in1 X.stack s H ⟨[.ref a, .ref b], []⟩ [.ref a, .ref b] [.ref a, .ref b] _ _ hr.in1 I.env0.in1 (by simpa using hb s [.ref a, .ref b] I.kIn (by simpa using hl)) (.cons rfl (.cons rfl .nil)) hsp) fun r s2 hq => ?_)
  cases r with
  | error e => exact hq.elim
  | ok fl =>
    cases fl with
    | ret z =>
      obtain ⟨y, H2, I2, rz, ez, ex⟩ := I.after hq
      subst ez
      cases rz
      refine ⟨c, rfl, .bl (!c), H2, I2, rfl, ?_⟩
      have q := k H2 ex
      rw [show (c != true) = !c by cases c <;> rfl] at q
      exact q
    | next => exact hq.elim
    | brk => exact hq.elim
    | cont => exact hq.elim
/-- repr(o), an own __repr__ -/
theorem call_reprE {sp : Sp} (F : GOk X.prog X.w X.K X.mg X.base n f fd ["self"] sp) (hs : PySem.W.findIn X.K (.ref C) "__repr__" = some (some (.ref f))) (hf : PySem.W.isFn X.K (.ref f) = true) (hb : Binds X.K fd ["self"] []) (hgu : X.A.guards = some []) (hr : Room (n + 1) X.A) :
    CallR X (.builtin "repr") (fun xs H Q => ∃ (a dx : Addr) (fs : List (Str × V)), xs = [.ref a] ∧ H a = some (.ins C dx fs) ∧ sp [.ref a] H (fun v H' => ∃ z, v = .str z ∧ Q (.str z) H') (fun _ _ _ => False)) := by
  intro pins s σ H xs us Q I r h
  obtain ⟨a, dx, fs, rfl, ha, hsp⟩ := h
  cases r with
  | cons r1 r2 =>
    cases r2
    cases r1
    obtain ⟨mA, J, _⟩ := ins_get I.hok ha
    obtain ⟨od, J, _⟩ := J.look
    obtain ⟨m, hF⟩ := I.fr
    refine PySem.W.repr_K hr.in1.units0 hF I.ok.mod.kin J hs hf ?_
    refine wpAny_call (codeAny_mono (F.run X.A.in1 X.stack s H ⟨[.ref a], []⟩ [.ref a] [.ref a] _ _ hgu hr.in1 I.env0.in1 (by simpa using hb s [.ref a] I.kIn rfl) (.cons rfl .nil) hsp) fun r s2 hq => ?_)
    cases r with
    | error e => exact hq.elim
    | ok fl =>
      cases fl with
      | ret z =>
        obtain ⟨y, H2, I2, rz, t, ez, q⟩ := I.after hq
        subst ez
        obtain ⟨tk, rfl⟩ := rz
        exact ⟨.str t, H2, I2, ⟨_, rfl⟩, q⟩
      | next => exact hq.elim
      | brk => exact hq.elim
      | cont => exact hq.elim
/-- {x!r}, x plain data -/
def tFmtT (K : PySem.W.Frag) (te : TE) : TE := fun σ H Q => te σ H fun x H1 => ∃ (a : Addr) (d : PyData), x = .ref a ∧ Dp K H1 x d ∧ d.showable = true ∧ d.hasDict = false ∧ d.depth ≤ 20 ∧ d.shown.length ≤ sizeLine ∧ Q (.str d.shown) H1
theorem pe_fmtT {e : Expr} {te : TE} {pos : Pos} (hgu : X.A.guards = some []) (hu : X.A.units + 64 < cLine) (he : PE X e te) : PE X (.FormattedValue e 114 none pos) (tFmtT X.K te) := by
  constructor
  intro pins s σ H Q I h
  refine wpAny_FormattedValue_repr (thn (he.run pins s σ H _ I h) fun v s1 hv => ?_)
  obtain ⟨x, H1, I1, r1, a, d, rfl, hd, hs, hn, hdep, hz, q⟩ := hv
  cases r1
  obtain ⟨as, rd⟩ := Dp.reads I1 d (.ref a) (.ref a) hd rfl
  refine pyReprObj_of_reads rd hs (PyData.noDict_hsm hn) hgu (by omega) (fun _ _ z => z) (fun h2 u tk keep => ?_) hz
  have I2 := I1.kept (t' := tk) keep
  exact wpAny_formatField_str ⟨.str d.shown, H1, I2, ⟨u, rfl⟩, q⟩ ⟨.str d.shown, H1, I2.tok _, ⟨_, rfl⟩, q⟩ hz
end
theorem Nice.shownLe {k B : Nat} {d : PyData} (h : Nice k B d) : d.shown.length ≤ 15 * B + 13 := by
  have q := PyData.shown_le 13 (by decide) d (PyData.leavesShort_of_canLay0 13 d h.lay h.ish)
  have := h.wt
  omega
end SE
namespace SE
open PySem PySem.Spec PyProof.Rows L2
abbrev sEq : Stmt := inClass sEffect 13
abbrev sRepr : Stmt := inClass sEffect 14
/-- what isinstance asks of the class -/
structure EI (K : PySem.W.Frag) (C : Addr) : Prop where
  ha : PySem.W.findIn K (.ref C) "__class__" = some (some (.builtin "object.__class__"))
  hn : PySem.W.specialIn K (.builtin "object.__class__") "__get__" = some (some (.builtin "getset_descriptor.__get__"))
  ht : PySem.W.takesIn K (.builtin "object.__class__") = some true
  hm : PySem.W.mroIn K C (.type "object") = some true
  ki : PySem.W.kitOne K (.ref C) (.ref C) = some true
/-- the parts of an effect as data -/
def dN : Eff → PyData
  | none => .none
  | some (xs, _, _) => .tuple (xs.map .str)
def dL : Eff → PyData
  | none => .none
  | some (_, ys, _) => .tuple (ys.map .str)
def dH : Eff → PyData
  | none => .none
  | some (_, _, p) => .int p
/-- an effect whose words are of items -/
def EffOk : Eff → Prop
  | none => True
  | some (xs, ys, p) => (∀ z ∈ xs, Item z) ∧ (∀ z ∈ ys, Item z) ∧ xs.length ≤ 1000 ∧ ys.length ≤ 1000 ∧ 0 ≤ p ∧ p ≤ 100000
theorem eff_eqv (a b : Eff) : (PyData.eqv (dN a) (dN b) && (PyData.eqv (dL a) (dL b) && PyData.eqv (dH a) (dH b))) = decide (a = b) := by
  cases a with
  | none =>
    cases b with
    | none => simp [dN, dL, dH, PyData.eqv]
    | some b =>
      obtain ⟨x, y, p⟩ := b
      simp [dN, dL, dH, PyData.eqv]
  | some a =>
    obtain ⟨x, y, p⟩ := a
    cases b with
    | none => simp [dN, dL, dH, PyData.eqv]
    | some b =>
      obtain ⟨x2, y2, p2⟩ := b
      show (PyData.eqv (.tuple (x.map .str)) (.tuple (x2.map .str)) && (PyData.eqv (.tuple (y.map .str)) (.tuple (y2.map .str)) && PyData.eqv (.int p) (.int p2))) = _
      rw [eqv_tupS, eqv_tupS]
      have e : PyData.eqv (.int p) (.int p2) = decide (p = p2) := by
        unfold PyData.eqv
        by_cases c : p = p2
        · subst c
          simp
        · simp [c]
      rw [e]
      by_cases c1 : x = x2 <;> by_cases c2 : y = y2 <;> by_cases c3 : p = p2 <;> simp [c1, c2, c3]
def shownE : Eff → Str
  | none => "Effect.never()"
  | some (xs, ys, p) => Str.empty ++ "Effect(" ++ (PyData.tuple (xs.map .str)).shown ++ ", " ++ (PyData.tuple (ys.map .str)).shown ++ ", peak=" ++ toString p ++ ")"
section
variable {P : Program} {w : World} {K : PySem.W.Frag} {mg : Str → Option Value} {base : Heap} {C : Addr}
theorem EffV.dp {H : Hp} {e : Addr} : ∀ {o : Eff}, EffV K C H e o → ∃ dx u v p, H e = some (.ins C dx (eF u v p)) ∧ Dp K H u (dN o) ∧ Dp K H v (dL o) ∧ Dp K H p (dH o)
  | none, h => by
    obtain ⟨dx, h1⟩ := NevAt.ex h
    exact ⟨dx, _, _, _, h1, .non, .non, .non⟩
  | some (_, _, _), h => by
    obtain ⟨dx, u, v, h1, h2, h3⟩ := EffAt.ex h
    exact ⟨dx, _, _, _, h1, .tup h2 (dp_strs _), .tup h3 (dp_strs _), .int _⟩
theorem EffOk.shaped : ∀ {o : Eff}, EffOk o → SeqAt.shaped (dN o) = true ∧ SeqAt.shaped (dL o) = true ∧ SeqAt.shaped (dH o) = true
  | none, _ => ⟨rfl, rfl, rfl⟩
  | some (_, _, _), h => ⟨(nice_tuple (nice_strs h.1)).shaped (by decide), (nice_tuple (nice_strs h.2.1)).shaped (by decide), rfl⟩
/-! ### __eq__ -/
def rEff (K : PySem.W.Frag) (C : Addr) (a b : Addr) (c : Bool) (H : Hp) : Prop := ∃ o1 o2, EffV K C H a o1 ∧ EffV K C H b o2 ∧ EffOk o1 ∧ EffOk o2 ∧ c = decide (o1 = o2)
theorem scEq : FnScope ["self", "other"] ["self", "other"] (defScope sEq) := ⟨rfl, rfl, rfl, by decide +kernel, rfl, by decide +kernel, by decide +kernel⟩
theorem ok_eq {f : Addr} {fd : FuncData} (F : Fun K "__eq__" "Effect.__eq__" sEq f fd) (T : EC K mg C) (TI : EI K C) (B : Blt mg) : FnOk P w K mg base CX0 1 f fd ["self", "other"] (spEqB (rEff K C)) := by
  refine F.ok scEq (fun vs H Q E h => ?_) (fun cdv A outer s H vs Q E hr h => ?_)
  · obtain ⟨a, b, c, rfl, _⟩ := h
    rfl
  · obtain ⟨a, b, c, rfl, ⟨o1, o2, h1, h2, k1, k2, rfl⟩, k⟩ := h
    obtain ⟨dx, u, v, p, i1, d1, d2, d3⟩ := h1.dp
    obtain ⟨dy, u2, v2, p2, i2, g1, g2, g3⟩ := h2.dp
    obtain ⟨s1, s2, s3⟩ := k1.shaped
    obtain ⟨t1, t2, t3⟩ := k2.shaped
    refine ⟨_, pss_one (ps_ret (pe_and (pe_callB call_isi (by rfl) B.isi (by decide +kernel) (pa_cons (pv 1) (pa_cons (pe_glob (v := .ref C) rfl T.mgE rfl) pa_nil)))
      (pe_and (pe_cmpR (op_eqD hr.units) (pe_fld (pv 0) rfl) (pe_fld (pv 1) rfl) (nomark _)) (pe_and (pe_cmpR (op_eqD hr.units) (pe_fld (pv 0) rfl) (pe_fld (pv 1) rfl) (nomark _)) (pe_one (pe_cmpR (op_eqD hr.units) (pe_fld (pv 0) rfl) (pe_fld (pv 1) rfl) (nomark _))))))), ?_⟩
    have fin := k H (Same.refl H)
    rw [← eff_eqv] at fin
    refine ⟨_, rfl, _, .ref C, .ref C, .ref C, true, rfl, .own C, .base (.ins i2 T.cl TI.ha TI.hn TI.ht TI.hm), TI.ki, true, rfl, iteT ?_⟩
    refine ⟨_, rfl, a, C, dx, _, _, rfl, i1, T.cl, T.nN, eF_needs _ _ _, _, rfl, b, C, dy, _, _, rfl, i2, T.cl, T.nN, eF_needs _ _ _, dN o1, dN o2, d1, g1, s1, t1, _, rfl, ?_⟩
    cases e1 : PyData.eqv (dN o1) (dN o2) with
    | false =>
      rw [e1, Bool.false_and] at fin
      exact iteF fin
    | true =>
      rw [e1, Bool.true_and] at fin
      refine iteT ⟨_, rfl, a, C, dx, _, _, rfl, i1, T.cl, T.nL, eF_leaves _ _ _, _, rfl, b, C, dy, _, _, rfl, i2, T.cl, T.nL, eF_leaves _ _ _, dL o1, dL o2, d2, g2, s2, t2, _, rfl, ?_⟩
      cases e2 : PyData.eqv (dL o1) (dL o2) with
      | false =>
        rw [e2, Bool.false_and] at fin
        exact iteF fin
      | true =>
        rw [e2, Bool.true_and] at fin
        exact iteT ⟨_, rfl, a, C, dx, _, _, rfl, i1, T.cl, T.nH, eF_high _ _ _, _, rfl, b, C, dy, _, _, rfl, i2, T.cl, T.nH, eF_high _ _ _, dH o1, dH o2, d3, g3, s3, t3, fin⟩
/-! ### __repr__ -/
def spRepr (K : PySem.W.Frag) (C : Addr) : Sp := fun vs H Q _ => ∃ (e : Addr) (o : Eff), vs = [.ref e] ∧ EffV K C H e o ∧ EffOk o ∧ Q (.str (shownE o)) H
theorem scRp : FnScope ["self"] ["self"] (defScope sRepr) := ⟨rfl, rfl, rfl, by decide +kernel, rfl, by decide +kernel, by decide +kernel⟩
theorem ok_repr {f : Addr} {fd : FuncData} (F : Fun K "__repr__" "Effect.__repr__" sRepr f fd) (T : EC K mg C) : GOk P w K mg base 1 f fd ["self"] (spRepr K C) := by
  obtain ⟨oc, od, kV, doc, pm, an, cv, ct, osl, rfl, look, hcode⟩ := F.ex
  refine gok_of look hcode scRp (fun vs H Q E h => ?_) (fun A out s H vs Q E hgu hr h => ?_)
  · obtain ⟨e, o, rfl, _⟩ := h
    rfl
  · obtain ⟨e, o, rfl, h, ok, k⟩ := h
    have body : ∃ t, PSs (cxOf CX0 P w K mg base ["self"] "Effect.__repr__" (defScope sRepr) f cv A out s H E).nox (defBody sRepr) t ∧ t { nx := fun _ H2 => Q .non H2, rt := Q } (start ["self"] [.ref e]) H := by
      refine ⟨_, pss_cons (ps_if (pt_cmpR op_isN (pe_fld (pv 0) rfl) pe_non (nomark _)) (pss_one (ps_ret pe_str)) pss_nil)
        (pss_one (ps_ret (pe_joined (.cons pe_str (.cons (pe_fmtT hgu hr.units (pe_fld (pv 0) rfl)) (.cons pe_str (.cons (pe_fmtT hgu hr.units (pe_fld (pv 0) rfl)) (.cons pe_str (.cons (pe_fmtR (pe_fld (pv 0) rfl)) (.cons pe_str .nil)))))))))), ?_⟩
      cases o with
      | none =>
        obtain ⟨dx, h1⟩ := NevAt.ex h
        exact ⟨_, rfl, e, C, dx, _, _, rfl, h1, T.cl, T.nN, eF_needs _ _ _, rfl, true, rfl, iteT k⟩
      | some o =>
        obtain ⟨xs, ys, p⟩ := o
        obtain ⟨dx, u, v, h1, h2, h3⟩ := EffAt.ex h
        obtain ⟨i1, i2, l1, l2, p0, p1⟩ := ok
        have n1 := nice_tuple (nice_strs i1)
        have n2 := nice_tuple (nice_strs i2)
        have z1 := n1.shownLe
        have z2 := n2.shownLe
        rw [List.length_map] at z1 z2
        have tl : (toString p : Str).length ≤ 13 := by
          have := PyData.shown_int_le (i := p) (by omega)
          exact this
        have big : ∀ m : Nat, m ≤ 400000 → m ≤ sizeLine := fun m hm => by
          rw [sizeLine_eq]
          omega
        have w0 : (Str.empty : Str).length = 0 := by decide +kernel
        have w1 : ("Effect(" : Str).length = 7 := by decide +kernel
        have w2 : (", " : Str).length = 2 := by decide +kernel
        have w3 : (", peak=" : Str).length = 7 := by decide +kernel
        have w4 : (")" : Str).length = 1 := by decide +kernel
        have lg : p.natAbs.log2 < 1920 := PySem.Flt.log2_lt_of (by decide) (Nat.lt_of_lt_of_le (show p.natAbs < 2 ^ 17 by show _ < 131072; omega) (Nat.pow_le_pow_right (by decide) (by decide)))
        refine ⟨_, rfl, e, C, dx, _, _, rfl, h1, T.cl, T.nN, eF_needs _ _ _, rfl, false, rfl, iteF ?_⟩
        refine ⟨_, rfl, big _ ?_, _, rfl, e, C, dx, _, _, rfl, h1, T.cl, T.nN, eF_needs _ _ _, u, _, rfl, .tup h2 (dp_strs xs), n1.sh, n1.nd, Nat.le_trans n1.dep (by decide), big _ (by omega), _, rfl, big _ ?_, _, rfl, big _ ?_, _, rfl, e, C, dx, _, _, rfl, h1, T.cl, T.nL, eF_leaves _ _ _, v, _, rfl, .tup h3 (dp_strs ys), n2.sh, n2.nd, Nat.le_trans n2.dep (by decide), big _ (by omega), _, rfl, big _ ?_, _, rfl, big _ ?_, _, rfl, e, C, dx, _, _, rfl, h1, T.cl, T.nH, eF_high _ _ _, .inr ⟨p, rfl, lg, _, rfl, big _ ?_, _, rfl, big _ ?_, k⟩⟩
        all_goals (simp only [len_add, w0, w1, w2, w3, w4]; omega)
    obtain ⟨t, a, b⟩ := body
    exact ⟨t, a.nox, b⟩
end
end SE
/-! o.f as one of several targets. -/
namespace SE
open PySem PySem.Spec PyProof.Rows L2
section
variable {X : Cx} {o : Expr} {f : Str} {pos : Pos} {to : TE}
def gFld (K : PySem.W.Frag) (to : TE) (f : Str) : TG := fun v σ H Q => to σ H fun x H1 => ∃ (a C dx : Addr) (fs : List (Str × V)), x = .ref a ∧ H1 a = some (.ins C dx fs) ∧ Cls K C ∧ NoAttr K C f ∧ fs.length < 1000 ∧ Q σ (upd H1 a (.ins C dx (putF f v fs)))
theorem pg_fld (ho : PE X o to) : PG X (.Attribute o f pos) (gFld X.K to f) := by
  constructor
  intro pins s σ H v u Q I r h
  refine PySem.W.kas_attr (thn (ho.run pins s σ H _ I h) fun ov s1 hh => ?_)
  obtain ⟨x, H1, I1, rx, a, C, dx, fs, rfl, ha, c, n, l, q⟩ := hh
  cases rx
  exact setattr_ok I1 ha c n l r fun s2 I2 => ⟨σ, _, I2, q⟩
end
end SE
namespace SE
open PySem PySem.Spec PyProof.Rows L2
/-! ### powers: the words of a power -/
abbrev Rep := List Str × List Str × Nat
def repM (A : Rep) : List Str := A.1 ++ (List.replicate A.2.2 A.2.1).flatten
theorem rep_len (n : Nat) (m : List Str) : (List.replicate n m).flatten.length = n * m.length := by
  induction n with
  | zero => simp
  | succ n ih =>
    rw [List.replicate_succ, List.flatten_cons, List.length_append, ih, Nat.succ_mul]
    omega
theorem repM_len (A : Rep) : (repM A).length = A.1.length + A.2.1.length * A.2.2 := by
  unfold repM
  rw [List.length_append, rep_len, Nat.mul_comm]
theorem rep_at (m : List Str) : ∀ (n j : Nat), j < n * m.length → (List.replicate n m).flatten[j]? = m[j % m.length]?
  | 0, j, h => by simp at h
  | n + 1, j, h => by
    rw [List.replicate_succ, List.flatten_cons]
    by_cases c : j < m.length
    · rw [List.getElem?_append_left c, Nat.mod_eq_of_lt c]
    · rw [List.getElem?_append_right (by omega), rep_at m n (j - m.length) (by rw [Nat.succ_mul] at h; omega)]
      rw [← Nat.mod_eq_sub_mod (by omega)]
theorem repM_at (A : Rep) (i : Nat) (h : i < (repM A).length) : (i < A.1.length → (repM A)[i]? = A.1[i]?) ∧ (A.1.length ≤ i → 0 < A.2.1.length ∧ (repM A)[i]? = A.2.1[(i - A.1.length) % A.2.1.length]?) := by
  rw [repM_len] at h
  refine ⟨fun c => ?_, fun c => ?_⟩
  · unfold repM
    rw [List.getElem?_append_left c]
  · have p : 0 < A.2.1.length := by
      rcases Nat.eq_zero_or_pos A.2.1.length with z | z
      · rw [z] at h
        omega
      · exact z
    refine ⟨p, ?_⟩
    unfold repM
    rw [List.getElem?_append_right c, rep_at]
    rw [Nat.mul_comm]
    omega
def RepV (K : PySem.W.Frag) (H : Hp) (v : V) (A : Rep) : Prop := ∃ t a b, v = .ref t ∧ SqT K H t [.ref a, .ref b, .int (A.2.2 : Nat)] ∧ SqT K H a (A.1.map V.str) ∧ SqT K H b (A.2.1.map V.str)
theorem RepV.same {K : PySem.W.Frag} {H H' : Hp} {v : V} {A : Rep} (h : RepV K H v A) (s : Same H H') : RepV K H' v A := by
  obtain ⟨t, a, b, e, h1, h2, h3⟩ := h
  exact ⟨t, a, b, e, Same.tup s h1, Same.tup s h2, Same.tup s h3⟩
def swM (xs ys : List Str) : Option (List Str) := if xs.take (min xs.length ys.length) = ys.take (min xs.length ys.length) then some (xs.take (min xs.length ys.length)) else none
def rwM : Eff → Nat → Option (Rep × Rep)
  | _, 0 => some (([], [], 0), ([], [], 0))
  | none, _ + 1 => none
  | some (x, y, _), 1 => some ((x, [], 0), (y, [], 0))
  | some (x, y, _), n + 2 => match swM x y with
    | none => none
    | some w => some ((w, x.drop w.length, n + 2), (w, y.drop w.length, n + 2))
def PairV (K : PySem.W.Frag) (H : Hp) (v1 v2 : V) : Option (Rep × Rep) → Prop
  | none => v1 = .non ∧ v2 = .non
  | some (A, B) => RepV K H v1 A ∧ RepV K H v2 B
theorem PairV.same {K : PySem.W.Frag} {H H' : Hp} {v1 v2 : V} : ∀ {r : Option (Rep × Rep)}, PairV K H v1 v2 r → Same H H' → PairV K H' v1 v2 r
  | none, h, _ => h
  | some (_, _), h, s => ⟨h.1.same s, h.2.same s⟩
def pkM : Eff → Nat → Int
  | _, 0 => 0
  | none, _ + 1 => 0
  | some (x, y, p), n + 1 => p + (if (y.length : Int) - (x.length : Int) > 0 then (y.length : Int) - (x.length : Int) else 0) * (n : Int)
section
variable {P : Program} {w : World} {K : PySem.W.Frag} {mg : Str → Option Value} {base : Heap} {C : Addr}
/-! ### shared_word -/
def spSw (K : PySem.W.Frag) (C : Addr) : Sp := fun vs H Q _ => ∃ (e : Addr) (xs ys : List Str) (p : Int), vs = [.ref e] ∧ EffAt K C H e xs ys p ∧ (∀ z ∈ xs, Item z) ∧ (∀ z ∈ ys, Item z) ∧
  ∀ (u : V) (H' : Hp), Same H H' → (match swM xs ys with | none => u = .non | some w => ∃ t, u = .ref t ∧ SqT K H' t (w.map V.str)) → Q u H'
theorem scSw : FnScope ["effect", "shared"] ["effect"] (defScope sSharedWord) := ⟨rfl, rfl, rfl, by decide +kernel, rfl, by decide +kernel, by decide +kernel⟩
theorem has_sw (D : Def K mg "shared_word" sSharedWord) (T : EC K mg C) (GP : PropHas P w K mg base C "pops" 1 (spPops K C)) (GQ : PropHas P w K mg base C "pushes" 1 (spPush K C)) (B : Blt mg) (mn : mg "min" = none) : Has P w K mg base "shared_word" 3 ["effect"] [] (spSw K C) := by
  refine has_of D scSw (fun _ _ _ _ _ _ us hl => match us, hl with | [_], _ => rfl) (fun xs H Q E h => ?_) (fun f cv A out s H xs Q E hr h => ?_)
  · obtain ⟨e, xs, ys, p, rfl, _⟩ := h
    rfl
  · obtain ⟨e, xs, ys, p, rfl, he, i1, i2, k⟩ := h
    have shp : ∀ {zs : List Str}, (∀ z ∈ zs, Item z) → SeqAt.shaped (.tuple (zs.map PyData.str)) = true := fun {zs} q => (nice_tuple (nice_strs q)).shaped (by decide)
    refine ⟨_, pss_cons (ps_set (i := 1) scSw.nd rfl (.inl rfl) (pe_callB (call_min2 rfl) (by rfl) mn (by decide +kernel) (pa_cons (pe_callB call_len_seq (by rfl) B.len PySem.boot_len (pa_cons (pe_propH GP (pv 0) T.cl hr) pa_nil)) (pa_cons (pe_callB call_len_seq (by rfl) B.len PySem.boot_len (pa_cons (pe_propH GQ (pv 0) T.cl hr) pa_nil)) pa_nil))))
      (pss_one (ps_ret (pe_ifExp (pt_cut (pt_cmpR (op_eqD hr.units) (pe_slice sl_tupS (pe_propH GP (pv 0) T.cl hr) po_none (po_some (pv 1))) (pe_slice sl_tupS (pe_propH GQ (pv 0) T.cl hr) po_none (po_some (pv 1))) (nomark _))) (pe_slice sl_tupS (pe_propH GP (pv 0) T.cl hr) po_none (po_some (pv 1))) pe_non))), ?_⟩
    have ins : ∀ {H2 : Hp}, Same H H2 → ∃ dx fs, H2 e = some (.ins C dx fs) := fun s2 => by
      obtain ⟨dx, u, v, h1, _, _⟩ := (he.same s2).ex
      exact ⟨dx, _, h1⟩
    obtain ⟨dx, fs, j1⟩ := ins (Same.refl H)
    refine ⟨_, rfl, e, dx, fs, rfl, j1, e, xs, ys, p, rfl, he, fun u hu => ⟨u, _, rfl, .inr hu, _, rfl, e, dx, fs, rfl, j1, e, xs, ys, p, rfl, he, fun v hv => ⟨v, _, rfl, .inr hv, _, _, rfl, ?_⟩⟩⟩
    rw [List.length_map, List.length_map, min_int]
    refine ⟨fun b H3 => b = decide (xs.take (min xs.length ys.length) = ys.take (min xs.length ys.length)) ∧ Same H H3, ?_, ?_⟩
    · refine ⟨_, rfl, e, dx, fs, rfl, j1, e, xs, ys, p, rfl, he, fun u hu => ⟨_, rfl, _, rfl, u, _, rfl, hu, fun c1 H3 s3 hc1 => ?_⟩⟩
      obtain ⟨dx3, fs3, j3⟩ := ins s3
      refine ⟨_, rfl, e, dx3, fs3, rfl, j3, e, xs, ys, p, rfl, he.same s3, fun v hv => ⟨_, rfl, _, rfl, v, _, rfl, hv, fun c2 H4 s4 hc2 => ?_⟩⟩
      rw [cutF_to] at hc1 hc2
      refine ⟨.tuple ((xs.take (min xs.length ys.length)).map .str), .tuple ((ys.take (min xs.length ys.length)).map .str), .tup (Same.tup s4 hc1) (dp_strs _), .tup hc2 (dp_strs _), shp (fun z m => i1 z (List.mem_of_mem_take m)), shp (fun z m => i2 z (List.mem_of_mem_take m)), _, rfl, ?_, s3.trans s4⟩
      rw [eqv_tupS]
    rintro b H3 ⟨rfl, s3⟩
    by_cases c : xs.take (min xs.length ys.length) = ys.take (min xs.length ys.length)
    · rw [decide_eq_true c]
      obtain ⟨dx3, fs3, j3⟩ := ins s3
      refine iteT ⟨_, rfl, e, dx3, fs3, rfl, j3, e, xs, ys, p, rfl, he.same s3, fun u hu => ⟨_, rfl, _, rfl, u, _, rfl, hu, fun c1 H4 s4 hc1 => ?_⟩⟩
      rw [cutF_to] at hc1
      refine k (.ref c1) H4 (s3.trans s4) ?_
      unfold swM
      rw [if_pos c]
      exact ⟨c1, rfl, hc1⟩
    · rw [decide_eq_false c]
      refine iteF (k .non H3 s3 ?_)
      unfold swM
      rw [if_neg c]
/-! ### repeated_words, repeated_peak -/
def spRw (K : PySem.W.Frag) (C : Addr) : Sp := fun vs H Q _ => ∃ (e : Addr) (o : Eff) (n : Nat), vs = [.ref e, .int (n : Int)] ∧ EffV K C H e o ∧ EffOk o ∧ n ≤ 100000 ∧
  ∀ (q : Addr) (v1 v2 : V) (H' : Hp), Same H H' → SqT K H' q [v1, v2] → PairV K H' v1 v2 (rwM o n) → Q (.ref q) H'
theorem scRw : FnScope ["effect", "exponent", "word"] ["effect", "exponent"] (defScope sRepeatedWords) := ⟨rfl, rfl, rfl, by decide +kernel, rfl, by decide +kernel, by decide +kernel⟩
theorem swM_sub {xs ys w : List Str} (h : swM xs ys = some w) : w.length ≤ xs.length ∧ w.length ≤ ys.length := by
  unfold swM at h
  split at h
  · cases h
    rw [List.length_take]
    omega
  · cases h
theorem has_rw (D : Def K mg "repeated_words" sRepeatedWords) (T : EC K mg C) (GP : PropHas P w K mg base C "pops" 1 (spPops K C)) (GQ : PropHas P w K mg base C "pushes" 1 (spPush K C)) (GN : PropHas P w K mg base C "is_never" 1 (spIsNev K C)) (GS : Has P w K mg base "shared_word" 3 ["effect"] [] (spSw K C)) (B : Blt mg) :
    Has P w K mg base "repeated_words" 4 ["effect", "exponent"] [] (spRw K C) := by
  refine has_of D scRw (fun _ _ _ _ _ _ us hl => match us, hl with | [_, _], _ => rfl) (fun xs H Q E h => ?_) (fun f cv A out s H xs Q E hr h => ?_)
  · obtain ⟨e, o, n, rfl, _⟩ := h
    rfl
  · obtain ⟨e, o, n, rfl, he, ok, hn, k⟩ := h
    have hr2 : Room 2 _ := hr.mono (by decide)
    refine ⟨_, pss_cons (ps_if (pt_cmpR op_eq (pv 1) pe_int (nomark _)) (pss_one (ps_ret (pe_tup (pa_cons (pe_tup (pa_cons (pe_tup pa_nil) (pa_cons (pe_tup pa_nil) (pa_cons pe_int pa_nil)))) (pa_cons (pe_tup (pa_cons (pe_tup pa_nil) (pa_cons (pe_tup pa_nil) (pa_cons pe_int pa_nil)))) pa_nil))))) pss_nil)
      (pss_cons (ps_if (pt_val (pe_propH GN (pv 0) T.cl hr2)) (pss_one (ps_ret (pe_tup (pa_cons pe_non (pa_cons pe_non pa_nil))))) pss_nil)
      (pss_cons (ps_if (pt_cmpR op_eq (pv 1) pe_int (nomark _)) (pss_one (ps_ret (pe_tup (pa_cons (pe_tup (pa_cons (pe_propH GP (pv 0) T.cl hr2) (pa_cons (pe_tup pa_nil) (pa_cons pe_int pa_nil)))) (pa_cons (pe_tup (pa_cons (pe_propH GQ (pv 0) T.cl hr2) (pa_cons (pe_tup pa_nil) (pa_cons pe_int pa_nil)))) pa_nil))))) pss_nil)
      (pss_cons (ps_set (i := 2) scRw.nd rfl (.inl rfl) (pe_has GS hr (pa_cons (pv 0) pa_nil)))
      (pss_cons (ps_if (pt_cmpR op_isN (pv 2) pe_non (nomark _)) (pss_one (ps_ret (pe_tup (pa_cons pe_non (pa_cons pe_non pa_nil))))) pss_nil)
      (pss_one (ps_ret (pe_tup (pa_cons (pe_tup (pa_cons (pv 2) (pa_cons (pe_slice sl_tupS (pe_propH GP (pv 0) T.cl hr2) (po_some (pe_callB call_len_seq (by rfl) B.len PySem.boot_len (pa_cons (pv 2) pa_nil))) po_none) (pa_cons (pv 1) pa_nil))))
        (pa_cons (pe_tup (pa_cons (pv 2) (pa_cons (pe_slice sl_tupS (pe_propH GQ (pv 0) T.cl hr2) (po_some (pe_callB call_len_seq (by rfl) B.len PySem.boot_len (pa_cons (pv 2) pa_nil))) po_none) (pa_cons (pv 1) pa_nil)))) pa_nil))))))))), ?_⟩
    refine ⟨_, rfl, rfl, _, rfl, ite2 (fun c => ?_) (fun c => ?_)⟩
    · have n0 : n = 0 := by
        have z := V.int.inj (of_decide_eq_true c)
        omega
      subst n0
      refine ⟨Nat.zero_le _, fun a1 h1 => ⟨Nat.zero_le _, fun a2 h2 => ⟨(by show 3 ≤ sizeLine; decide), fun a3 h3 => ⟨Nat.zero_le _, fun a4 h4 => ⟨Nat.zero_le _, fun a5 h5 => ⟨(by show 3 ≤ sizeLine; decide), fun a6 h6 => ⟨(by show 2 ≤ sizeLine; decide), fun a7 h7 => ?_⟩⟩⟩⟩⟩⟩⟩
      have s1 := Same.new (o := .tup []) h1
      have s2 := Same.new (o := .tup []) h2
      have s3 := Same.new (o := .tup [.ref a1, .ref a2, .int 0]) h3
      have s4 := Same.new (o := .tup []) h4
      have s5 := Same.new (o := .tup []) h5
      have s6 := Same.new (o := .tup [.ref a4, .ref a5, .int 0]) h6
      have s7 := Same.new (o := .tup [.ref a3, .ref a6]) h7
      have s47 := ((s4.trans s5).trans s6).trans s7
      refine k a7 (.ref a3) (.ref a6) _ (((s1.trans s2).trans s3).trans s47) (.of upd_same) ?_
      rw [show rwM o 0 = some (([], [], 0), ([], [], 0)) by cases o <;> rfl]
      exact ⟨⟨a3, a1, a2, rfl, Same.tup s47 (.of upd_same), Same.tup ((s2.trans s3).trans s47) (.of upd_same), Same.tup (s3.trans s47) (.of upd_same)⟩, ⟨a6, a4, a5, rfl, Same.tup s7 (.of upd_same), Same.tup ((s5.trans s6).trans s7) (.of upd_same), Same.tup (s6.trans s7) (.of upd_same)⟩⟩
    obtain ⟨m, rfl⟩ : ∃ m, n = m + 1 := by
      refine ⟨n - 1, ?_⟩
      have z : ¬ V.int (n : Int) = V.int 0 := fun q => c (decide_eq_true q)
      have : n ≠ 0 := fun q => z (by rw [q]; rfl)
      omega
    cases o with
    | none =>
      obtain ⟨dx, fs, j1⟩ := he.ins
      refine ⟨_, rfl, e, dx, fs, rfl, j1, e, rfl, .inr ⟨he, true, rfl, iteT ⟨(by show 2 ≤ sizeLine; decide), fun q hq => ?_⟩⟩⟩
      exact k q .non .non _ (Same.new hq) (.of upd_same) ⟨rfl, rfl⟩
    | some o =>
      obtain ⟨xs, ys, p⟩ := o
      have he1 : EffAt K C H e xs ys p := he
      obtain ⟨i1, i2, l1, l2, p0, p1⟩ := ok
      have ins : ∀ {H2 : Hp}, Same H H2 → ∃ dx fs, H2 e = some (.ins C dx fs) := fun s2 => by
        obtain ⟨dx, u, v, h1, _, _⟩ := (he1.same s2).ex
        exact ⟨dx, _, h1⟩
      obtain ⟨dx, fs, j1⟩ := ins (Same.refl H)
      refine ⟨_, rfl, e, dx, fs, rfl, j1, e, rfl, .inl ⟨xs, ys, p, he1, false, rfl, iteF ?_⟩⟩
      refine ⟨_, rfl, rfl, _, rfl, ite2 (fun c1 => ?_) (fun c1 => ?_)⟩
      · have m0 : m = 0 := by
          have z := V.int.inj (of_decide_eq_true c1)
          omega
        subst m0
        refine ⟨_, rfl, e, dx, fs, rfl, j1, e, xs, ys, p, rfl, he1, fun u hu => ⟨Nat.zero_le _, fun a2 h2 => ⟨(by show 3 ≤ sizeLine; decide), fun a3 h3 => ?_⟩⟩⟩
        have s2 := Same.new (o := .tup []) h2
        have s3 := Same.new (o := .tup [.ref u, .ref a2, .int 0]) h3
        obtain ⟨dx3, fs3, j3⟩ := ins (s2.trans s3)
        refine ⟨_, rfl, e, dx3, fs3, rfl, j3, e, xs, ys, p, rfl, he1.same (s2.trans s3), fun v hv => ⟨Nat.zero_le _, fun a5 h5 => ⟨(by show 3 ≤ sizeLine; decide), fun a6 h6 => ⟨(by show 2 ≤ sizeLine; decide), fun a7 h7 => ?_⟩⟩⟩⟩
        have s5 := Same.new (o := .tup []) h5
        have s6 := Same.new (o := .tup [.ref v, .ref a5, .int 0]) h6
        have s7 := Same.new (o := .tup [.ref a3, .ref a6]) h7
        have s57 := (s5.trans s6).trans s7
        refine k a7 (.ref a3) (.ref a6) _ ((s2.trans s3).trans s57) (.of upd_same) ?_
        exact ⟨⟨a3, u, a2, rfl, Same.tup s57 (.of upd_same), Same.tup ((s2.trans s3).trans s57) hu, Same.tup (s3.trans s57) (.of upd_same)⟩, ⟨a6, v, a5, rfl, Same.tup s7 (.of upd_same), Same.tup s57 hv, Same.tup (s6.trans s7) (.of upd_same)⟩⟩
      obtain ⟨m2, rfl⟩ : ∃ m2, m = m2 + 1 := by
        refine ⟨m - 1, ?_⟩
        have z : ¬ V.int ((m + 1 : Nat) : Int) = V.int 1 := fun q => c1 (decide_eq_true q)
        have : m ≠ 0 := fun q => z (by rw [q]; rfl)
        omega
      refine ⟨_, rfl, e, xs, ys, p, rfl, he1, i1, i2, fun u H2 s2 hu => ?_⟩
      cases hw : swM xs ys with
      | none =>
        rw [hw] at hu
        have hu' : u = .non := hu
        subst hu'
        refine ⟨_, rfl, rfl, true, rfl, iteT ⟨(by show 2 ≤ sizeLine; decide), fun q hq => ?_⟩⟩
        refine k q .non .non _ (s2.trans (Same.new hq)) (.of upd_same) ?_
        show PairV K _ _ _ (match swM xs ys with | none => none | some w => some ((w, xs.drop w.length, m2 + 2), (w, ys.drop w.length, m2 + 2)))
        rw [hw]
        exact ⟨rfl, rfl⟩
      | some wd =>
        rw [hw] at hu
        obtain ⟨t, rfl, ht⟩ := hu
        refine ⟨_, rfl, rfl, false, rfl, iteF ?_⟩
        obtain ⟨dx2, fs2, j2⟩ := ins s2
        refine ⟨_, rfl, _, rfl, e, dx2, fs2, rfl, j2, e, xs, ys, p, rfl, he1.same s2, fun pu hpu => ⟨_, rfl, t, _, rfl, .inr ht, _, rfl, pu, _, rfl, hpu, fun d1 H3 s3 hd1 => ?_⟩⟩
        rw [List.length_map, cutF_from] at hd1
        refine ⟨_, rfl, (by show 3 ≤ sizeLine; decide), fun a3 h3 => ?_⟩
        have s4 := Same.new (o := .tup [.ref t, .ref d1, .int ((m2 + 1 + 1 : Nat) : Int)]) h3
        have s24 := (s2.trans s3).trans s4
        obtain ⟨dx4, fs4, j4⟩ := ins s24
        refine ⟨_, rfl, _, rfl, e, dx4, fs4, rfl, j4, e, xs, ys, p, rfl, he1.same s24, fun pv' hpv => ⟨_, rfl, t, _, rfl, .inr (Same.tup (s3.trans s4) ht), _, rfl, pv', _, rfl, hpv, fun d2 H5 s5 hd2 => ?_⟩⟩
        rw [List.length_map, cutF_from] at hd2
        refine ⟨_, rfl, (by show 3 ≤ sizeLine; decide), fun a6 h6 => ⟨(by show 2 ≤ sizeLine; decide), fun a7 h7 => ?_⟩⟩
        have s6 := Same.new (o := .tup [.ref t, .ref d2, .int ((m2 + 1 + 1 : Nat) : Int)]) h6
        have s7 := Same.new (o := .tup [.ref a3, .ref a6]) h7
        have s57 := (s5.trans s6).trans s7
        refine k a7 (.ref a3) (.ref a6) _ (s24.trans s57) (.of upd_same) ?_
        show PairV K _ _ _ (match swM xs ys with | none => none | some w => some ((w, xs.drop w.length, m2 + 2), (w, ys.drop w.length, m2 + 2)))
        rw [hw]
        exact ⟨⟨a3, t, d1, rfl, Same.tup s57 (.of upd_same), Same.tup ((s3.trans s4).trans s57) ht, Same.tup (s4.trans s57) hd1⟩, ⟨a6, t, d2, rfl, Same.tup s7 (.of upd_same), Same.tup ((s3.trans s4).trans s57) ht, Same.tup (s6.trans s7) hd2⟩⟩
end
end SE
namespace SE
open PySem PySem.Spec PyProof.Rows L2
section
variable {P : Program} {w : World} {K : PySem.W.Frag} {mg : Str → Option Value} {base : Heap} {C : Addr}
/-! ### repeated_peak -/
def spRk (K : PySem.W.Frag) (C : Addr) : Sp := fun vs H Q _ => ∃ (e : Addr) (o : Eff) (n : Nat), vs = [.ref e, .int (n : Int)] ∧ EffV K C H e o ∧ EffOk o ∧ n ≤ 100000 ∧ (n = 0 ∨ o ≠ none) ∧ Q (.int (pkM o n)) H
theorem scRk : FnScope ["effect", "exponent"] ["effect", "exponent"] (defScope sRepeatedPeak) := ⟨rfl, rfl, rfl, by decide +kernel, rfl, by decide +kernel, by decide +kernel⟩
theorem has_rk (D : Def K mg "repeated_peak" sRepeatedPeak) (T : EC K mg C) (GK : PropHas P w K mg base C "peak" 1 (spPeak K C)) (GC : PropHas P w K mg base C "change" 1 (spChan K C)) (mx : mg "max" = none) : Has P w K mg base "repeated_peak" 3 ["effect", "exponent"] [] (spRk K C) := by
  refine has_of D scRk (fun _ _ _ _ _ _ us hl => match us, hl with | [_, _], _ => rfl) (fun xs H Q E h => ?_) (fun f cv A out s H xs Q E hr h => ?_)
  · obtain ⟨e, o, n, rfl, _⟩ := h
    rfl
  · obtain ⟨e, o, n, rfl, he, ok, hn, hz, k⟩ := h
    refine ⟨_, pss_one (ps_ret (pe_ifExp (pt_cmpR op_eq (pv 1) pe_int (nomark _)) pe_int (pe_op op_add (pe_propH GK (pv 0) T.cl hr) (pe_op op_mul (pe_callB (call_max2 rfl) (by rfl) mx (by decide +kernel) (pa_cons pe_int (pa_cons (pe_propH GC (pv 0) T.cl hr) pa_nil))) (pe_op op_sub (pv 1) pe_int))))), ?_⟩
    refine ⟨_, rfl, rfl, _, rfl, ite2 (fun c => ?_) (fun c => ?_)⟩
    · have n0 : n = 0 := by
        have z := V.int.inj (of_decide_eq_true c)
        omega
      subst n0
      rw [show pkM o 0 = 0 by cases o <;> rfl] at k
      exact k
    obtain ⟨m, rfl⟩ : ∃ m, n = m + 1 := by
      refine ⟨n - 1, ?_⟩
      have z : ¬ V.int (n : Int) = V.int 0 := fun q => c (decide_eq_true q)
      have : n ≠ 0 := fun q => z (by rw [q]; rfl)
      omega
    cases o with
    | none => exact absurd rfl (hz.resolve_left (by omega))
    | some o =>
      obtain ⟨xs, ys, p⟩ := o
      have he1 : EffAt K C H e xs ys p := he
      obtain ⟨i1, i2, l1, l2, p0, p1⟩ := ok
      obtain ⟨dx, fs, j1⟩ := he.ins
      refine ⟨_, rfl, e, dx, fs, rfl, j1, e, xs, ys, p, rfl, he1, _, rfl, e, dx, fs, rfl, j1, e, xs, ys, p, rfl, he1, 0, _, rfl, _, rfl, ((m + 1 : Nat) : Int), 1, rfl, rfl, _, _, rfl, rfl, .inl ?_, _, _, rfl, rfl, ?_⟩
      · constructor <;> split <;> omega
      · show Q (V.int (p + (if (ys.length : Int) - (xs.length : Int) > 0 then (ys.length : Int) - (xs.length : Int) else 0) * (((m + 1 : Nat) : Int) - 1))) H
        rw [show ((m + 1 : Nat) : Int) - 1 = (m : Int) by omega]
        exact k
/-! ### length_of, item_at, written_out -/
def spLn (K : PySem.W.Frag) : Sp := fun vs H Q _ => ∃ (v : V) (A : Rep), vs = [v] ∧ RepV K H v A ∧ A.1.length ≤ 100000 ∧ A.2.1.length ≤ 100000 ∧ Q (.int ((repM A).length : Nat)) H
theorem scLn : FnScope ["repeated", "word", "more", "times"] ["repeated"] (defScope sLengthOf) := ⟨rfl, rfl, rfl, by decide +kernel, rfl, by decide +kernel, by decide +kernel⟩
theorem has_ln (D : Def K mg "length_of" sLengthOf) (B : Blt mg) : Has P w K mg base "length_of" 1 ["repeated"] [] (spLn K) := by
  refine has_of D scLn (fun _ _ _ _ _ _ us hl => match us, hl with | [_], _ => rfl) (fun xs H Q E h => ?_) (fun f cv A out s H xs Q E hr h => ?_)
  · obtain ⟨v, A, rfl, _⟩ := h
    rfl
  · obtain ⟨v, R, rfl, ⟨t, a, b, rfl, h1, h2, h3⟩, l1, l2, k⟩ := h
    refine ⟨_, pss_cons (ps_asg (pv 0) (pg_tup (by rfl) (pgs_cons (pg_name (i := 1) scLn.nd rfl (.inl rfl)) (pgs_cons (pg_name (i := 2) scLn.nd rfl (.inl rfl)) (pgs_cons (pg_name (i := 3) scLn.nd rfl (.inl rfl)) pgs_nil)))))
      (pss_one (ps_ret (pe_op op_add (pe_callB call_len_seq (by rfl) B.len PySem.boot_len (pa_cons (pv 1) pa_nil)) (pe_op op_mul (pe_callB call_len_seq (by rfl) B.len PySem.boot_len (pa_cons (pv 2) pa_nil)) (pv 3))))), ?_⟩
    refine ⟨_, rfl, t, _, rfl, h1, rfl, _, _, rfl, _, _, rfl, _, _, rfl, rfl, ?_⟩
    refine ⟨_, rfl, a, _, rfl, .inr h2, _, rfl, b, _, rfl, .inr h3, _, rfl, _, _, rfl, rfl, .inl ⟨?_, ?_⟩, _, _, rfl, rfl, ?_⟩
    · omega
    · rw [List.length_map]
      omega
    · rw [repM_len] at k
      rw [List.length_map, List.length_map]
      have e : ((R.1.length + R.2.1.length * R.2.2 : Nat) : Int) = (R.1.length : Int) + (R.2.1.length : Int) * (R.2.2 : Int) := by push_cast; rfl
      rw [e] at k
      exact k
def spItm (K : PySem.W.Frag) : Sp := fun vs H Q _ => ∃ (v : V) (A : Rep) (i : Nat), vs = [v, .int (i : Int)] ∧ RepV K H v A ∧ A.1.length ≤ 100000 ∧ A.2.1.length ≤ 100000 ∧ i < (repM A).length ∧ ∀ z, (repM A)[i]? = some z → Q (.str z) H
theorem scItm : FnScope ["repeated", "index", "word", "more", "times"] ["repeated", "index"] (defScope sItemAt) := ⟨rfl, rfl, rfl, by decide +kernel, rfl, by decide +kernel, by decide +kernel⟩
theorem has_itm (D : Def K mg "item_at" sItemAt) (GB : Has P w K mg base "check_between" 3 ["value", "least", "most"] [] spChkB) (GL : Has P w K mg base "length_of" 1 ["repeated"] [] (spLn K)) (B : Blt mg) : Has P w K mg base "item_at" 4 ["repeated", "index"] [] (spItm K) := by
  refine has_of D scItm (fun _ _ _ _ _ _ us hl => match us, hl with | [_, _], _ => rfl) (fun xs H Q E h => ?_) (fun f cv A out s H xs Q E hr h => ?_)
  · obtain ⟨v, A, i, rfl, _⟩ := h
    rfl
  · obtain ⟨v, R, i, rfl, hR, l1, l2, hi, k⟩ := h
    have hr1 : Room 1 _ := hr.mono (by decide)
    refine ⟨_, pss_cons (ps_expr (pe_has GB hr (pa_cons (pv 1) (pa_cons pe_int (pa_cons (pe_ifExp (pt_cmpR op_isN (pv 0) pe_non (nomark _)) (pe_un un_neg pe_int) (pe_op op_sub (pe_has GL hr1 (pa_cons (pv 0) pa_nil)) pe_int)) pa_nil)))))
      (pss_cons (ps_asg (pv 0) (pg_tup (by rfl) (pgs_cons (pg_name (i := 2) scItm.nd rfl (.inl rfl)) (pgs_cons (pg_name (i := 3) scItm.nd rfl (.inl rfl)) (pgs_cons (pg_name (i := 4) scItm.nd rfl (.inl rfl)) pgs_nil)))))
      (pss_one (ps_ret (pe_ifExp (pt_cmpR op_lt (pv 1) (pe_callB call_len_seq (by rfl) B.len PySem.boot_len (pa_cons (pv 2) pa_nil)) (nomark _)) (pe_ix ix_tup (pv 2) (pv 1) (fun _ _ => rfl))
        (pe_ix ix_tup (pv 3) (pe_op op_modN (pe_op op_sub (pv 1) (pe_callB call_len_seq (by rfl) B.len PySem.boot_len (pa_cons (pv 2) pa_nil))) (pe_callB call_len_seq (by rfl) B.len PySem.boot_len (pa_cons (pv 3) pa_nil))) (fun _ _ => rfl)))))), ?_⟩
    obtain ⟨t, a, b, rfl, h1, h2, h3⟩ := id hR
    refine ⟨_, rfl, _, rfl, rfl, false, rfl, iteF ⟨_, rfl, _, R, rfl, hR, l1, l2, _, 1, rfl, rfl, (i : Int), 0, _, rfl, by omega, by omega, ?_⟩⟩
    refine ⟨_, rfl, t, _, rfl, h1, rfl, _, _, rfl, _, _, rfl, _, _, rfl, rfl, ?_⟩
    obtain ⟨q1, q2⟩ := repM_at R i hi
    refine ⟨_, rfl, _, rfl, a, _, rfl, .inr h2, _, _, rfl, rfl, _, rfl, ite2 (fun c => ?_) (fun c => ?_)⟩
    · have c2 : (i : Int) < ((R.1.map V.str).length : Int) := of_decide_eq_true c
      rw [List.length_map] at c2
      have il : i < R.1.length := by omega
      refine ⟨_, rfl, _, rfl, a, _, (i : Int), .str R.1[i], rfl, rfl, h2, atI_nat (j := i) ?_, k _ ?_⟩
      · rw [List.getElem?_map, List.getElem?_eq_getElem il]
        rfl
      · rw [q1 il, List.getElem?_eq_getElem il]
    · have c2 : ¬ (i : Int) < ((R.1.map V.str).length : Int) := fun z => c (decide_eq_true z)
      rw [List.length_map] at c2
      obtain ⟨mp, q3⟩ := q2 (by omega)
      have il : (i - R.1.length) % R.2.1.length < R.2.1.length := Nat.mod_lt _ mp
      refine ⟨_, rfl, _, rfl, _, rfl, a, _, rfl, .inr h2, (i : Int), _, rfl, rfl, _, rfl, b, _, rfl, .inr h3, _, _, rfl, rfl, ?_, b, _, _, .str R.2.1[(i - R.1.length) % R.2.1.length], rfl, rfl, h3, at_of (j := (i - R.1.length) % R.2.1.length) ?_ ?_, k _ ?_⟩
      · show ((R.2.1.map V.str).length : Int) ≠ 0
        rw [List.length_map]
        omega
      · rw [List.length_map, List.length_map, Int.fmod_eq_emod_of_nonneg _ (by omega)]
        have e : (i : Int) - (R.1.length : Int) = ((i - R.1.length : Nat) : Int) := by omega
        rw [e]
        rfl
      · rw [List.getElem?_map, List.getElem?_eq_getElem il]
        rfl
      · rw [q3, List.getElem?_eq_getElem il]
def spWo (K : PySem.W.Frag) : Sp := fun vs H Q _ => ∃ (v : V) (A : Rep), vs = [v] ∧ RepV K H v A ∧ (repM A).length ≤ 1000 ∧ A.2.1.length ≤ 100000 ∧ ∀ (u : Addr) (H' : Hp), Same H H' → SqT K H' u ((repM A).map V.str) → Q (.ref u) H'
abbrev nWo : List Str := ["repeated", "length", "index"]
theorem scWo : FnScope nWo ["repeated"] (defScope sWrittenOut) := ⟨rfl, rfl, rfl, by decide +kernel, rfl, by decide +kernel, by decide +kernel⟩
theorem has_wo (D : Def K mg "written_out" sWrittenOut) (GL : Has P w K mg base "length_of" 1 ["repeated"] [] (spLn K)) (GI : Has P w K mg base "item_at" 4 ["repeated", "index"] [] (spItm K)) (B : Blt mg) (mr : mg "range" = none) (hM : ∃ t, mg "MOST_WRITTEN" = some (.int 1000 t)) :
    Has P w K mg base "written_out" 5 ["repeated"] [] (spWo K) := by
  obtain ⟨tm, hM⟩ := hM
  refine has_of D scWo (fun _ _ _ _ _ _ us hl => match us, hl with | [_], _ => rfl) (fun xs H Q E h => ?_) (fun f cv A out s H xs Q E hr h => ?_)
  · obtain ⟨v, A, rfl, _⟩ := h
    rfl
  · obtain ⟨v, R, rfl, hR, l1, l2, k⟩ := h
    have hr1 : Room 1 _ := hr.mono (by decide)
    have l0 : R.1.length ≤ 100000 := by
      rw [repM_len] at l1
      omega
    refine ⟨_, pss_cons (ps_set (i := 1) scWo.nd rfl (.inl rfl) (pe_has GL hr1 (pa_cons (pv 0) pa_nil)))
      (pss_cons (ps_if (pt_cmpR op_gt (pv 1) (pe_glob (v := .int 1000) rfl hM ⟨_, rfl⟩) (nomark _)) pss_never pss_nil)
      (pss_one (ps_ret (pe_callTy call_tuple_of (by rfl) B.tup (by decide +kernel) (pa_cons
        (pe_lc (own := [("index", 2)]) (g := gName 2) (tt := tYes) (te := tCall (spItm K) [] E0 (tCons (tVar 0) (tCons (tVar 2) tNil))) rfl scWo.nd (pi_range1 (by rfl) mr (pa_cons (pv 1) pa_nil)) (blkOk_by (own := [("index", 2)]) (N := nWo) (sc := defScope sWrittenOut) (by decide +kernel))
          (fun _ _ _ _ _ => pg_name (i := 2) scWo.nd rfl (.inl rfl)) (fun _ _ _ _ _ => pts_nil) (fun _ _ _ _ _ => pe_has GI hr (pa_cons (pv 0) (pa_cons (pv 2) pa_nil)))) pa_nil))))), ?_⟩
    refine ⟨_, rfl, v, R, rfl, hR, l0, l2, ?_⟩
    refine ⟨_, rfl, _, 1000, rfl, rfl, _, rfl, ite2 (fun c => ?_) (fun c => ?_)⟩
    · have c2 : (1000 : Int) < ((repM R).length : Nat) := of_decide_eq_true c
      exact absurd c2 (by omega)
    refine ⟨_, rfl, ((repM R).length : Int), rfl, by omega, by omega, ?_⟩
    rw [Int.toNat_natCast]
    refine fun Dd hD => lc_range (lo := 0) (n := (repM R).length) (fun j H2 => H2 Dd = some (.lst (((repM R).take j).map V.str)) ∧ Same H H2) ⟨upd_same, Same.new hD⟩ ?_ ?_
    · rintro j H2 hj ⟨h2, s2⟩
      refine ⟨rfl, yes_in ⟨_, rfl, _, rfl, v, R, j, ?_, hR.same s2, l0, l2, hj, fun z hz => ⟨_, h2, ?_, ?_, ?_⟩⟩⟩
      · show [v, V.int (0 + (j : Nat))] = _
        rw [Int.zero_add]
      · rw [List.length_map, List.length_take, sizeLine_eq]
        omega
      · rw [upd_same, List.take_add_one, hz, List.map_append]
        rfl
      · exact Same.free2 s2 hD
    · rintro H2 ⟨h2, s2⟩
      rw [List.take_length] at h2
      exact ⟨Dd, _, rfl, .inl ⟨.of h2, fun u hu => k u _ (s2.trans (Same.new hu)) (.of upd_same)⟩⟩
end
end SE
namespace SE
open PySem PySem.Spec PyProof.Rows L2
/-! ### the class Power -/
abbrev sPInit : Stmt := inClass sPower 1
abbrev sPNever : Stmt := inClass sPower 2
abbrev sPPops : Stmt := inClass sPower 3
abbrev sPPush : Stmt := inClass sPower 4
abbrev sPPeak : Stmt := inClass sPower 5
abbrev sPopped : Stmt := inClass sPower 6
abbrev sPushed : Stmt := inClass sPower 7
abbrev sPEff : Stmt := inClass sPower 8
def hV : Option (Rep × Rep) → Int → V
  | none, _ => .non
  | some _, p => .int p
def powE : Option (Rep × Rep) → Int → Eff
  | none, _ => none
  | some (A, B), p => some (repM A, repM B, p)
structure PowAt (K : PySem.W.Frag) (D : Addr) (H : Hp) (a : Addr) (r : Option (Rep × Rep)) (p : Int) : Prop where
  ex : ∃ dx v1 v2, H a = some (.ins D dx (eF v1 v2 (hV r p))) ∧ PairV K H v1 v2 r
theorem PowAt.same {K : PySem.W.Frag} {D : Addr} {H H' : Hp} {a : Addr} {r : Option (Rep × Rep)} {p : Int} (h : PowAt K D H a r p) (s : Same H H') : PowAt K D H' a r p := by
  obtain ⟨dx, v1, v2, h1, h2⟩ := h.ex
  exact ⟨dx, v1, v2, s _ _ h1, h2.same s⟩
structure PCl (K : PySem.W.Frag) (mg : Str → Option Value) (D : Addr) : Prop where
  cl : Cls K D
  nN : NoAttr K D "needs"
  nL : NoAttr K D "leaves"
  nH : NoAttr K D "highest"
  mgP : mg "Power" = some (.ref D)
  most : ∃ mc u, ClX.CRead K D mc ∧ ClX.CVal K D mc "MOST" (.int 1000000000000000000000000000000) u
theorem tup_updI {K : PySem.W.Frag} {H : Hp} {x t C dx : Addr} {fs : List (Str × V)} {xs : List V} {o : HO} (hx : H x = some (.ins C dx fs)) (h : SqT K H t xs) : SqT K (upd H x o) t xs := by
  rcases h with (h | ⟨p, h⟩) | h
  · exact .inl (.inl (by rw [upd_ne (ne_of h hx (by intro z; cases z))]; exact h))
  · exact .inl (.inr ⟨p, by rw [upd_ne (ne_of h hx (by intro z; cases z))]; exact h⟩)
  · exact .inr h
theorem RepV.updI {K : PySem.W.Frag} {H : Hp} {x C dx : Addr} {fs : List (Str × V)} {v : V} {A : Rep} {o : HO} (hx : H x = some (.ins C dx fs)) (h : RepV K H v A) : RepV K (upd H x o) v A := by
  obtain ⟨t, a, b, e, h1, h2, h3⟩ := h
  exact ⟨t, a, b, e, tup_updI hx h1, tup_updI hx h2, tup_updI hx h3⟩
theorem PairV.updI {K : PySem.W.Frag} {H : Hp} {x C dx : Addr} {fs : List (Str × V)} {v1 v2 : V} {o : HO} (hx : H x = some (.ins C dx fs)) : ∀ {r : Option (Rep × Rep)}, PairV K H v1 v2 r → PairV K (upd H x o) v1 v2 r
  | none, h => h
  | some (_, _), h => ⟨h.1.updI hx, h.2.updI hx⟩
theorem EffV.updI {K : PySem.W.Frag} {E : Addr} {H : Hp} {x e C dx : Addr} {fs : List (Str × V)} {o : HO} (hx : H x = some (.ins C dx fs)) (ne : e ≠ x) : ∀ {r : Eff}, EffV K E H e r → EffV K E (upd H x o) e r
  | none, h => by
    obtain ⟨d, h1⟩ := NevAt.ex h
    exact NevAt.mk ⟨d, by rw [upd_ne ne]; exact h1⟩
  | some (_, _, _), h => by
    obtain ⟨d, u, v, h1, h2, h3⟩ := EffAt.ex h
    exact EffAt.mk ⟨d, u, v, by rw [upd_ne ne]; exact h1, tup_updI hx h2, tup_updI hx h3⟩
theorem eff_ne {K : PySem.W.Frag} {E D : Addr} {H : Hp} {x e dx : Addr} {r : Eff} (h : EffV K E H e r) (hx : H x = some (.ins D dx [])) : e ≠ x := by
  obtain ⟨d, u, v, p, h1, _⟩ := h.dp
  intro z
  rw [z, hx] at h1
  have h2 := Option.some.inj h1
  injection h2 with _ _ h3
  exact absurd h3 (by unfold eF; intro q; cases q)
theorem rw_none {o : Eff} {n : Nat} (h : rwM o n ≠ none) : n = 0 ∨ o ≠ none := by
  cases n with
  | zero => exact .inl rfl
  | succ n =>
    cases o with
    | none => exact absurd rfl h
    | some o => exact .inr (fun z => by cases z)
section
variable {P : Program} {w : World} {K : PySem.W.Frag} {mg : Str → Option Value} {base : Heap} {C D : Addr}
def spPInit (K : PySem.W.Frag) (C D : Addr) : Sp := fun vs H Q _ => ∃ (x dx e : Addr) (o : Eff) (n : Nat), vs = [.ref x, .ref e, .int (n : Int)] ∧ H x = some (.ins D dx []) ∧ EffV K C H e o ∧ EffOk o ∧ n ≤ 100000 ∧
  ∀ H', (∀ b o, H b = some o → b ≠ x → H' b = some o) → PowAt K D H' x (rwM o n) (pkM o n) → Q .non H'
theorem scPI : FnScope ["self", "effect", "exponent"] ["self", "effect", "exponent"] (defScope sPInit) := ⟨rfl, rfl, rfl, by decide +kernel, rfl, by decide +kernel, by decide +kernel⟩
theorem ok_pinit {f : Addr} {fd : FuncData} (F : Fun K "__init__" "Power.__init__" sPInit f fd) (T : PCl K mg D) (GB : Has P w K mg base "check_between" 3 ["value", "least", "most"] [] spChkB) (GR : Has P w K mg base "repeated_words" 4 ["effect", "exponent"] [] (spRw K C)) (GK : Has P w K mg base "repeated_peak" 3 ["effect", "exponent"] [] (spRk K C)) :
    FnOk P w K mg base CX0 5 f fd ["self", "effect", "exponent"] (spPInit K C D) := by
  obtain ⟨mc, um, cr, cv1⟩ := T.most
  refine F.ok scPI (fun vs H Q E h => ?_) (fun cdv A outer s H vs Q E hr h => ?_)
  · obtain ⟨x, dx, e, o, n, rfl, _⟩ := h
    rfl
  · obtain ⟨x, dx, e, o, n, rfl, hx, he, ok, hn, k⟩ := h
    have hr3 : Room 3 _ := hr.mono (by decide)
    refine ⟨_, pss_cons (ps_expr (pe_has GB hr3 (pa_cons (pv 2) (pa_cons pe_int (pa_cons (ClX.pe_cval (pe_glob (v := .ref D) rfl T.mgP rfl)) pa_nil)))))
      (pss_cons (ps_asg (pe_has GR hr (pa_cons (pv 1) (pa_cons (pv 2) pa_nil))) (pg_tup (by rfl) (pgs_cons (pg_fld (pv 0)) (pgs_cons (pg_fld (pv 0)) pgs_nil))))
      (pss_one (ps_fld (pv 0) (pe_ifExp (pt_cmpR op_isN (pe_fld (pv 0) rfl) pe_non (nomark _)) pe_non (pe_has GK hr3 (pa_cons (pv 1) (pa_cons (pv 2) pa_nil)))) rfl))), ?_⟩
    refine ⟨_, rfl, D, mc, _, um, rfl, cr, cv1, (n : Int), 0, _, rfl, by omega, by omega, ?_⟩
    refine ⟨_, rfl, _, rfl, e, o, n, rfl, he, ok, hn, fun q v1 v2 H2 s2 hq hp => ?_⟩
    have hx2 := s2 _ _ hx
    have ne := eff_ne he hx
    have he2 := he.same s2
    have a1 : (upd H2 x (.ins D dx (putF "needs" v1 []))) x = some (.ins D dx (putF "needs" v1 [])) := upd_same
    refine ⟨q, _, rfl, hq, rfl, _, _, rfl, ?_⟩
    refine ⟨_, rfl, x, D, dx, [], rfl, hx2, T.cl, T.nN, (by show 0 < 1000; decide), _, _, rfl, _, rfl, x, D, dx, _, rfl, a1, T.cl, T.nL, (by show 1 < 1000; decide), rfl, ?_⟩
    rw [upd_upd]
    have a2 : (upd H2 x (.ins D dx (putF "leaves" v2 (putF "needs" v1 [])))) x = some (.ins D dx (putF "leaves" v2 (putF "needs" v1 []))) := upd_same
    have lk : (putF "leaves" v2 (putF "needs" v1 [])).lookup ("needs" : Str) = some v1 := by
      rw [lookup_putF, if_neg (by decide +kernel), lookup_putF, if_pos rfl]
    have fin : ∀ z : V, z = hV (rwM o n) (pkM o n) → Q .non (upd (upd H2 x (.ins D dx (putF "leaves" v2 (putF "needs" v1 [])))) x (.ins D dx (putF "highest" z (putF "leaves" v2 (putF "needs" v1 []))))) := by
      intro z ez
      rw [upd_upd]
      refine k _ (fun b ob hb nb => ?_) ⟨dx, v1, v2, ?_, hp.updI hx2⟩
      · rw [upd_ne nb]
        exact s2 _ _ hb
      · rw [upd_same, eF_new, ez]
    refine ⟨_, rfl, x, D, dx, _, _, rfl, a2, T.cl, T.nN, lk, rfl, ?_⟩
    cases hrw : rwM o n with
    | none =>
      rw [hrw] at hp fin
      obtain ⟨rfl, rfl⟩ := hp
      exact ⟨true, rfl, iteT ⟨_, rfl, x, D, dx, _, rfl, a2, T.cl, T.nH, eF_two _ _, fin _ rfl⟩⟩
    | some AB =>
      obtain ⟨RA, RB⟩ := AB
      rw [hrw] at hp fin
      obtain ⟨⟨t, a, b, rfl, _⟩, _⟩ := hp
      refine ⟨false, rfl, iteF ⟨_, rfl, _, rfl, e, o, n, rfl, he2.updI hx2 ne, ok, hn, rw_none (by rw [hrw]; intro z; cases z), ?_⟩⟩
      exact ⟨_, rfl, x, D, dx, _, rfl, a2, T.cl, T.nH, eF_two _ _, fin _ rfl⟩
/-! ### Power(e, n) -/
def PMakes (P : Program) (w : World) (K : PySem.W.Frag) (mg : Str → Option Value) (base : Heap) (C D : Addr) : Prop := ∃ f fd, Mk K D f ∧ FnOk P w K mg base CX0 5 f fd ["self", "effect", "exponent"] (spPInit K C D) ∧ Binds K fd ["self", "effect", "exponent"] []
def tPow (K : PySem.W.Frag) (C D : Addr) (t : TA) : TE := fun σ H Q => t σ H fun vs H1 => ∃ (e : Addr) (o : Eff) (n : Nat), vs = [.ref e, .int (n : Int)] ∧ EffV K C H1 e o ∧ EffOk o ∧ n ≤ 100000 ∧ ∀ (q : Addr) (H' : Hp), Same H1 H' → PowAt K D H' q (rwM o n) (pkM o n) → Q (.ref q) H'
theorem pe_pow {X : Cx} {p pos : Pos} {e1 e2 : Expr} {t : TA} (M : PMakes X.prog X.w X.K X.mg X.base C D) (mgP : X.mg "Power" = some (.ref D)) (hr : Room 6 X.A) (ha : PA X [e1, e2] t) (hg : Gl X "Power" := by rfl)
    (he : starEach [e1, e2] X.env = (false, eval e1 X.env) :: starEach [e2] X.env := by rfl) (hpl : (backTo pos (starEach [e2] X.env)).any (·.1) = false := by rfl) :
    PE X (.Call (.Name "Power" p) [e1, e2] [] pos) (tPow X.K C D t) := by
  obtain ⟨f, fd, Mk1, F, hb⟩ := M
  constructor
  intro pins s σ H Q I h
  refine wpAny_Call_Name_kw (ld_glob I hg mgP ?_ (by decide))
  refine PySem.W.callWith_K (h₀ := X.base) I.ok.mod.kin Mk1.kp (thn (ha.run pos pins s σ H _ I h) fun us s1 hh => ?_) he hpl
  obtain ⟨vs, H1, I1, r, e, o, n, rfl, h1, h2, h3, k⟩ := hh
  refine ⟨I1.kIn, run_make (dvs := []) Mk1 F hr hb .nil pass0 I1 r ?_⟩
  intro x dx nx nd ne
  have s0 : Same H1 (upd (upd H1 dx (.own x)) x (.ins D dx [])) := Same.made nx nd fun b o e _ => e
  refine ⟨x, dx, e, o, n, rfl, upd_same, h1.same s0, h2, h3, fun H' kp hp => ⟨rfl, ?_⟩⟩
  exact k x H' (fun c o e => kp c o (s0 c o e) (ne_of_none e nx)) hp
/-! ### its properties -/
def spPN (K : PySem.W.Frag) (D : Addr) : Sp := fun vs H Q _ => ∃ (a : Addr) (r : Option (Rep × Rep)) (p : Int), vs = [.ref a] ∧ PowAt K D H a r p ∧ Q (.bl r.isNone) H
def lenV : Option Rep → V
  | none => .non
  | some A => .int ((repM A).length : Nat)
def RSm (r : Option (Rep × Rep)) : Prop := ∀ A B, r = some (A, B) → A.1.length ≤ 100000 ∧ A.2.1.length ≤ 100000 ∧ B.1.length ≤ 100000 ∧ B.2.1.length ≤ 100000
def spPL (K : PySem.W.Frag) (D : Addr) (which : Bool) : Sp := fun vs H Q _ => ∃ (a : Addr) (r : Option (Rep × Rep)) (p : Int), vs = [.ref a] ∧ PowAt K D H a r p ∧ RSm r ∧ Q (lenV (r.map fun z => if which = true then z.1 else z.2)) H
def spPP (K : PySem.W.Frag) (D : Addr) : Sp := fun vs H Q _ => ∃ (a : Addr) (r : Option (Rep × Rep)) (p : Int), vs = [.ref a] ∧ PowAt K D H a r p ∧ Q (hV r p) H
theorem scPN : FnScope ["self"] ["self"] (defScope sPNever) := ⟨rfl, rfl, rfl, by decide +kernel, rfl, by decide +kernel, by decide +kernel⟩
theorem scPP : FnScope ["self"] ["self"] (defScope sPPeak) := ⟨rfl, rfl, rfl, by decide +kernel, rfl, by decide +kernel, by decide +kernel⟩
theorem ok_pnev {f : Addr} {fd : FuncData} (F : Fun K "is_never" "Power.is_never" sPNever f fd) (T : PCl K mg D) : FnOk P w K mg base CX0 1 f fd ["self"] (spPN K D) := by
  refine F.ok scPN (fun vs H Q E h => ?_) (fun cdv A outer s H vs Q E hr h => ?_)
  · obtain ⟨a, r, p, rfl, _⟩ := h
    rfl
  · obtain ⟨a, r, p, rfl, h, k⟩ := h
    obtain ⟨dx, v1, v2, h1, h2⟩ := h.ex
    refine ⟨_, pss_one (ps_ret (pe_cmpR op_isN (pe_fld (pv 0) rfl) pe_non (nomark _))), ?_⟩
    refine ⟨_, rfl, a, D, dx, _, _, rfl, h1, T.cl, T.nN, eF_needs _ _ _, rfl, ?_⟩
    cases r with
    | none =>
      obtain ⟨rfl, rfl⟩ := h2
      exact k
    | some AB =>
      obtain ⟨⟨t, _, _, rfl, _⟩, _⟩ := h2
      exact k
theorem ok_ppk {f : Addr} {fd : FuncData} (F : Fun K "peak" "Power.peak" sPPeak f fd) (T : PCl K mg D) : FnOk P w K mg base CX0 1 f fd ["self"] (spPP K D) := by
  refine F.ok scPP (fun vs H Q E h => ?_) (fun cdv A outer s H vs Q E hr h => ?_)
  · obtain ⟨a, r, p, rfl, _⟩ := h
    rfl
  · obtain ⟨a, r, p, rfl, h, k⟩ := h
    obtain ⟨dx, v1, v2, h1, h2⟩ := h.ex
    exact ⟨_, pss_one (ps_ret (pe_fld (pv 0) rfl)), _, rfl, a, D, dx, _, _, rfl, h1, T.cl, T.nH, eF_high _ _ _, k⟩
/-! ### its methods -/
def spPop (K : PySem.W.Frag) (D : Addr) (which : Bool) : Sp := fun vs H Q _ => ∃ (a : Addr) (A B : Rep) (p : Int) (i : Nat), vs = [.ref a, .int (i : Int)] ∧ PowAt K D H a (some (A, B)) p ∧ RSm (some (A, B)) ∧ i < (repM (if which = true then A else B)).length ∧ ∀ z, (repM (if which = true then A else B))[i]? = some z → Q (.str z) H
/-- words that make an effect -/
def RGood (r : Option (Rep × Rep)) (p : Int) : Prop := ∀ A B, r = some (A, B) → (∀ z ∈ repM A, Item z) ∧ (∀ z ∈ repM B, Item z) ∧ (repM A).length ≤ 1000 ∧ (repM B).length ≤ 1000 ∧ lp (repM A) (repM B) ≤ p
def spPE (K : PySem.W.Frag) (C D : Addr) : Sp := fun vs H Q _ => ∃ (a : Addr) (r : Option (Rep × Rep)) (p : Int), vs = [.ref a] ∧ PowAt K D H a r p ∧ RSm r ∧ RGood r p ∧ ∀ (q : Addr) (H' : Hp), Same H H' → EffV K C H' q (powE r p) → Q (.ref q) H'
theorem scPE : FnScope ["self"] ["self"] (defScope sPEff) := ⟨rfl, rfl, rfl, by decide +kernel, rfl, by decide +kernel, by decide +kernel⟩
theorem ok_peff {f : Addr} {fd : FuncData} (F : Fun K "effect" "Power.effect" sPEff f fd) (T : PCl K mg D) (TE' : EC K mg C) (M : Makes P w K mg base C) (GN : NeverHas P w K mg base C) (GI : PropHas P w K mg base D "is_never" 1 (spPN K D)) (GW : Has P w K mg base "written_out" 5 ["repeated"] [] (spWo K)) :
    FnOk P w K mg base CX0 7 f fd ["self"] (spPE K C D) := by
  refine F.ok scPE (fun vs H Q E h => ?_) (fun cdv A outer s H vs Q E hr h => ?_)
  · obtain ⟨a, r, p, rfl, _⟩ := h
    rfl
  · obtain ⟨a, r, p, rfl, h, sm, gd, k⟩ := h
    have hr2 : Room 2 _ := hr.mono (by decide)
    have hr5 : Room 5 _ := hr.mono (by decide)
    obtain ⟨dx, v1, v2, h1, h2⟩ := h.ex
    refine ⟨_, pss_cons (ps_if (pt_val (pe_propH GI (pv 0) T.cl hr2)) (pss_one (ps_ret (pe_never0 GN TE'.mgE hr))) pss_nil)
      (pss_one (ps_ret (pe_effK M TE'.mgE hr5 (pa_cons (pe_has GW hr5 (pa_cons (pe_fld (pv 0) rfl) pa_nil)) (pa_cons (pe_has GW hr5 (pa_cons (pe_fld (pv 0) rfl) pa_nil)) pa_nil)) (pe_fld (pv 0) rfl)))), ?_⟩
    refine ⟨_, rfl, a, dx, _, rfl, h1, a, r, p, rfl, h, r.isNone, rfl, ?_⟩
    cases r with
    | none => exact iteT ⟨rfl, rfl, fun q H2 s2 hn => k q H2 s2 hn⟩
    | some AB =>
      obtain ⟨RA, RB⟩ := AB
      obtain ⟨_, sa, _, sb⟩ := sm RA RB rfl
      obtain ⟨i1, i2, l1, l2, hl⟩ := gd RA RB rfl
      refine iteF ⟨_, rfl, a, D, dx, _, _, rfl, h1, T.cl, T.nN, eF_needs _ _ _, v1, RA, rfl, h2.1, l1, sa, fun u H2 s2 hu => ?_⟩
      refine ⟨_, rfl, a, D, dx, _, _, rfl, s2 _ _ h1, T.cl, T.nL, eF_leaves _ _ _, v2, RB, rfl, h2.2.same s2, l2, sb, fun v H3 s3 hv => ?_⟩
      refine ⟨_, rfl, a, D, dx, _, _, rfl, s3 _ _ (s2 _ _ h1), T.cl, T.nH, eF_high _ _ _, u, v, repM RA, repM RB, some p, rfl, rfl, Same.tup s3 hu, hv, by omega, by omega, i1, i2, fun p2 z => ?_, fun e H4 s4 _ he => k e H4 ((s2.trans s3).trans s4) he⟩
      cases z
      exact hl
end
end SE
namespace SE
open PySem PySem.Spec PyProof.Rows L2
section
variable {P : Program} {w : World} {K : PySem.W.Frag} {mg : Str → Option Value} {base : Heap} {C : Addr}
/-! ### _law_items -/
def nm10 : List Str := ["a", "b", "ab", "ba", "aa", "z", "top", "item", "x", "zzzzzzzz"]
theorem nm10_ok {z : Str} (h : z ∈ nm10) : Item z := by
  have q : ∀ y ∈ nm10, (decide (1 ≤ y.length) && decide (y.length ≤ 8) && y.cps.toList.all fun c => decide (97 ≤ c) && decide (c ≤ 122)) = true := by decide +kernel
  have e := q z h
  simp only [Bool.and_eq_true, decide_eq_true_eq, List.all_eq_true] at e
  exact ⟨e.1.1, e.1.2, e.2⟩
def spItems2 : Sp := fun xs H Q _ => ∃ (p : Addr) (n : Int), xs = [.ref p, .int n] ∧ Pool H p ∧ 0 ≤ n ∧ n ≤ 10 ∧
  ∀ (l : Addr) (zs : List Str) (H' : Hp), But p H H' → Pool H' p → H l = none → l ≠ p → H' l = some (.lst (zs.map V.str)) → zs.length = n.toNat → (∀ z ∈ zs, Item z) → Q (.ref l) H'
theorem scIt2 : FnScope ["_law_pool_here", "_law_many", "_law_names", "_law_at"] ["_law_pool_here", "_law_many"] (defScope sItems) := ⟨rfl, rfl, rfl, by decide +kernel, rfl, by decide +kernel, by decide +kernel⟩
theorem has_items2 (D : Def K mg "_law_items" sItems) (GT : Has P w K mg base "_law_take" 1 ["_law_pool_here", "_law_many"] [] spTake) : Has P w K mg base "_law_items" 2 ["_law_pool_here", "_law_many"] [] spItems2 := by
  refine has_of D scIt2 (fun _ _ _ _ _ _ us hl => match us, hl with | [_, _], _ => rfl) (fun xs H Q E h => ?_) (fun f cv A out s H xs Q E hr h => ?_)
  · obtain ⟨p, n, rfl, _⟩ := h
    rfl
  · obtain ⟨p, n, rfl, hp, h0, h1, k⟩ := h
    refine ⟨_, pss_cons (ps_set (i := 2) scIt2.nd rfl (.inl rfl) (pe_lst (pa_cons pe_str (pa_cons pe_str (pa_cons pe_str (pa_cons pe_str (pa_cons pe_str (pa_cons pe_str (pa_cons pe_str (pa_cons pe_str (pa_cons pe_str (pa_cons pe_str pa_nil))))))))))))
      (pss_cons (ps_set (i := 3) scIt2.nd rfl (.inl rfl) (pe_has GT hr (pa_cons (pv 0) (pa_cons pe_int pa_nil))))
      (pss_one (ps_ret (pe_slice sl_list (pe_op op_cat (pe_slice sl_list (pv 2) (po_some (pv 3)) po_none) (pe_slice sl_list (pv 2) po_none (po_some (pv 3)))) po_none (po_some (pv 1)))))), ?_⟩
    refine ⟨(by show 10 ≤ sizeLine; decide), fun a ha => ?_⟩
    have ap : a ≠ p := hp.free ha
    have e10 : (upd H a (.lst [V.str "a", .str "b", .str "ab", .str "ba", .str "aa", .str "z", .str "top", .str "item", .str "x", .str "zzzzzzzz"])) a = some (.lst (nm10.map V.str)) := upd_same
    have b0 : But p H (upd H a (.lst [V.str "a", .str "b", .str "ab", .str "ba", .str "aa", .str "z", .str "top", .str "item", .str "x", .str "zzzzzzzz"])) := .of (Same.new ha)
    have p0 : Pool (upd H a (.lst [V.str "a", .str "b", .str "ab", .str "ba", .str "aa", .str "z", .str "top", .str "item", .str "x", .str "zzzzzzzz"])) p := hp.upd ap
    generalize upd H a (.lst [V.str "a", .str "b", .str "ab", .str "ba", .str "aa", .str "z", .str "top", .str "item", .str "x", .str "zzzzzzzz"]) = H1 at e10 b0 p0 ⊢
    refine ⟨_, rfl, p, 10, rfl, p0, by decide, by decide, fun r H2 b2 p2 r0 r1 => ?_⟩
    have e2 := b2 _ _ ap e10
    refine ⟨_, rfl, _, rfl, r, rfl, a, _, rfl, .of e2, fun c hc => ?_⟩
    have s3 := Same.new (o := .lst (cutV (nm10.map V.str) (some r) none)) hc
    refine ⟨_, rfl, _, rfl, r, rfl, a, _, rfl, .of (s3 _ _ e2), fun d hd => ?_⟩
    have bb : But p H H2 := b0.trans b2
    have cp : c ≠ p := p2.free hc
    have nc : H c = none := bb.none cp hc
    have dp : d ≠ p := (p2.upd cp).free hd
    have nd : H d = none := (bb.free nc).none dp hd
    rw [cut_map, cut_map]
    have i1 : HT.sIx nm10.length 0 (some r) = r.toNat := by
      unfold HT.sIx
      dsimp only
      rw [if_neg (by omega)]
      exact Nat.min_eq_left (by show r.toNat ≤ 10; omega)
    have i2 : HT.sIx nm10.length nm10.length (some r) = r.toNat := by
      unfold HT.sIx
      dsimp only
      rw [if_neg (by omega)]
      exact Nat.min_eq_left (by show r.toNat ≤ 10; omega)
    have i3 : HT.sIx nm10.length 0 none = 0 := rfl
    have i4 : HT.sIx nm10.length nm10.length none = nm10.length := rfl
    rw [i1, i2, i3, i4]
    generalize hA : (nm10.drop r.toNat).take (nm10.length - r.toNat) = As
    generalize hB : (nm10.drop 0).take (r.toNat - 0) = Bs
    have lA : As.length = 10 - r.toNat := by
      rw [← hA, List.length_take, List.length_drop]
      show min (10 - r.toNat) (10 - r.toNat) = _
      omega
    have lB : Bs.length = r.toNat := by
      rw [← hB, List.length_take, List.length_drop]
      show min (r.toNat - 0) (10 - 0) = _
      omega
    refine ⟨c, d, As.map V.str, Bs.map V.str, rfl, rfl, ?_, upd_same, ?_, fun g hg => ?_⟩
    · rw [upd_ne (ne_of_none upd_same hd)]
      exact upd_same
    · rw [List.length_map, List.length_map, sizeLine_eq]
      omega
    refine ⟨_, rfl, n, rfl, g, _, rfl, .of upd_same, fun l hl => ?_⟩
    rw [← List.map_append, cut_map]
    have j1 : HT.sIx (As ++ Bs).length 0 none = 0 := rfl
    have j2 : HT.sIx (As ++ Bs).length (As ++ Bs).length (some n) = n.toNat := by
      unfold HT.sIx
      dsimp only
      rw [if_neg (by omega)]
      exact Nat.min_eq_left (by rw [List.length_append]; omega)
    rw [j1, j2, List.drop_zero, Nat.sub_zero]
    have f1 := bb.free (o := .lst (As.map V.str)) nc
    have f2 := f1.free (o := .lst (Bs.map V.str)) nd
    have gp : g ≠ p := ((p2.upd cp).upd dp).free hg
    have ng : H g = none := f2.none gp hg
    have f3 := f2.free (o := .lst ((As ++ Bs).map V.str)) ng
    have lp' : l ≠ p := (((p2.upd cp).upd dp).upd gp).free hl
    have nl : H l = none := (f2.free ng).none lp' hl
    refine k l ((As ++ Bs).take n.toNat) _ (f3.free nl) ((((p2.upd cp).upd dp).upd gp).upd lp') nl lp' upd_same ?_ fun z hz => ?_
    · rw [List.length_take, List.length_append]
      omega
    · rcases List.mem_append.mp (List.mem_of_mem_take hz) with q | q
      · rw [← hA] at q
        exact nm10_ok (cut_mem q)
      · rw [← hB] at q
        exact nm10_ok (cut_mem q)
end
end SE
/-! repeated words: which exponents a word has -/
namespace SE
section
variable {α : Type}
/-- the word d, n times -/
def repW (n : Nat) (d : List α) : List α := (List.replicate n d).flatten
theorem repW_zero (d : List α) : repW 0 d = [] := rfl
theorem repW_succ (n : Nat) (d : List α) : repW (n + 1) d = d ++ repW n d := by
  unfold repW
  rw [List.replicate_succ, List.flatten_cons]
theorem repW_nil (n : Nat) : repW n ([] : List α) = [] := by
  induction n with
  | zero => rfl
  | succ n ih => rw [repW_succ, ih]; rfl
theorem repW_len (n : Nat) (d : List α) : (repW n d).length = n * d.length := by
  induction n with
  | zero => simp [repW]
  | succ n ih => rw [repW_succ, List.length_append, ih, Nat.succ_mul]; omega
theorem repW_get (d : List α) : ∀ (n j : Nat), j < n * d.length → (repW n d)[j]? = d[j % d.length]?
  | 0, j, h => by simp at h
  | n + 1, j, h => by
    rw [repW_succ]
    by_cases c : j < d.length
    · rw [List.getElem?_append_left c, Nat.mod_eq_of_lt c]
    · rw [List.getElem?_append_right (by omega), repW_get d n (j - d.length) (by rw [Nat.succ_mul] at h; omega)]
      rw [← Nat.mod_eq_sub_mod (by omega)]
theorem repW_take {n : Nat} (d : List α) (h : 0 < n) : (repW n d).take d.length = d := by
  obtain ⟨m, rfl⟩ : ∃ m, n = m + 1 := ⟨n - 1, by omega⟩
  rw [repW_succ, List.take_left']
  rfl
/-- the word of which r is the e-th power, if there is one -/
def rootW [DecidableEq α] (r : List α) (e : Nat) : Option (List α) :=
  if r.length / e * e = r.length ∧ repW e (r.take (r.length / e)) = r then some (r.take (r.length / e)) else none
theorem rootW_some [DecidableEq α] {r d : List α} {e : Nat} (h : rootW r e = some d) : repW e d = r := by
  unfold rootW at h
  split at h
  · rename_i c
    cases h
    exact c.2
  · cases h
theorem rootW_of [DecidableEq α] {r d : List α} {e : Nat} (he : 0 < e) (h : repW e d = r) : rootW r e = some d := by
  subst h
  have l := repW_len e d
  have q : (repW e d).length / e = d.length := by rw [l, Nat.mul_comm, Nat.mul_div_cancel _ he]
  unfold rootW
  rw [q, repW_take d he, if_pos ⟨by rw [l, Nat.mul_comm], rfl⟩]
/-- exponents from 2 on, with the roots -/
def rootsW [DecidableEq α] (r : List α) : List (Nat × List α) := (List.range' 2 (r.length - 1)).filterMap fun e => (rootW r e).map fun d => (e, d)
theorem rootsW_mem [DecidableEq α] {r d : List α} {e : Nat} (hr : r ≠ []) : (e, d) ∈ rootsW r ↔ 2 ≤ e ∧ repW e d = r := by
  unfold rootsW
  rw [List.mem_filterMap]
  constructor
  · rintro ⟨a, ha, h⟩
    rw [List.mem_range'] at ha
    obtain ⟨i, hi, rfl⟩ := ha
    cases q : rootW r (2 + 1 * i) with
    | none => rw [q] at h; cases h
    | some d' =>
      rw [q] at h
      have h' : (2 + 1 * i, d') = (e, d) := Option.some.inj h
      cases h'
      exact ⟨by omega, rootW_some q⟩
  · rintro ⟨h2, h⟩
    refine ⟨e, ?_, ?_⟩
    · rw [List.mem_range']
      have l := repW_len e d
      rw [h] at l
      have dp : 0 < d.length := by
        rcases Nat.eq_zero_or_pos d.length with z | z
        · rw [z, Nat.mul_zero] at l
          exact absurd (List.length_eq_zero_iff.mp l) hr
        · exact z
      have : e * 1 ≤ e * d.length := Nat.mul_le_mul_left e dp
      exact ⟨e - 2, by omega, by omega⟩
    · rw [rootW_of (by omega) h]
      rfl
/-! ### periods -/
def Per (f : Nat → α) (p : Nat) : Prop := ∀ i, f (i + p) = f i
theorem Per.sub {f : Nat → α} {p q : Nat} (hp : Per f p) (hq : Per f q) (h : p ≤ q) : Per f (q - p) := fun i => by
  have e := hp (i + (q - p))
  rw [show i + (q - p) + p = i + q by omega, hq i] at e
  exact e.symm
theorem Per.zero {f : Nat → α} : Per f 0 := fun i => rfl
theorem Per.add {f : Nat → α} {p q : Nat} (hp : Per f p) (hq : Per f q) : Per f (p + q) := fun i => by
  rw [← Nat.add_assoc, hq, hp]
theorem Per.mul {f : Nat → α} {p : Nat} (hp : Per f p) : ∀ k, Per f (k * p)
  | 0 => by rw [Nat.zero_mul]; exact Per.zero
  | k + 1 => by rw [Nat.succ_mul]; exact (Per.mul hp k).add hp
theorem Per.mod {f : Nat → α} {p : Nat} (hp : Per f p) (i : Nat) : f (i % p) = f i := by
  have e := hp.mul (i / p) (i % p)
  rw [Nat.mul_comm, Nat.mod_add_div] at e
  exact e.symm
theorem Per.gcd {f : Nat → α} : ∀ (m p q : Nat), p + q ≤ m → Per f p → Per f q → Per f (Nat.gcd p q)
  | 0, p, q, h, hp, hq => by
    rw [show p = 0 by omega, show q = 0 by omega]
    exact Per.zero
  | m + 1, p, q, h, hp, hq => by
    rcases Nat.eq_zero_or_pos p with z | z
    · rw [z, Nat.gcd_zero_left]; exact hq
    rcases Nat.eq_zero_or_pos q with y | y
    · rw [y, Nat.gcd_zero_right]; exact hp
    rcases Nat.le_total p q with c | c
    · have g := Per.gcd m p (q - p) (by omega) hp (hp.sub hq c)
      rw [Nat.gcd_sub_self_right c] at g
      exact g
    · have g := Per.gcd m (p - q) q (by omega) (hq.sub hp c) hq
      rw [Nat.gcd_sub_self_left c] at g
      exact g
/-- r over and over -/
def cyc (r : List α) (i : Nat) : Option α := r[i % r.length]?
theorem cyc_per {r d : List α} {e : Nat} (h : repW e d = r) : Per (cyc r) d.length := fun i => by
  unfold cyc
  have l := repW_len e d
  rw [h] at l
  rcases Nat.eq_zero_or_pos r.length with z | z
  · have r0 : r = [] := List.length_eq_zero_iff.mp z
    rw [r0]
    simp
  have a : ∀ j, r[j % r.length]? = d[j % d.length]? := fun j => by
    have lt := Nat.mod_lt j z
    conv => lhs; rw [← h]
    rw [repW_get d e _ (by rw [← l, h]; exact lt), h, l, Nat.mod_mul_left_mod]
  rw [a, a, Nat.add_mod_right]
theorem rep_of_per {r : List α} {g k : Nat} (hg : k * g = r.length) (h : Per (cyc r) g) : repW k (r.take g) = r := by
  rcases Nat.eq_zero_or_pos k with z | z
  · rw [z, Nat.zero_mul] at hg
    rw [z, repW_zero]
    exact (List.length_eq_zero_iff.mp hg.symm).symm
  have gl : g ≤ r.length := by
    have : 1 * g ≤ k * g := Nat.mul_le_mul_right g z
    omega
  have tl : (r.take g).length = g := by rw [List.length_take]; omega
  apply List.ext_getElem?
  intro j
  by_cases c : j < r.length
  · rw [repW_get _ _ _ (by rw [tl, hg]; exact c), tl]
    have g0 : 0 < g := by
      rcases Nat.eq_zero_or_pos g with y | y
      · rw [y, Nat.mul_zero] at hg; omega
      · exact y
    have lt := Nat.mod_lt j g0
    rw [List.getElem?_take_of_lt lt]
    have m := h.mod j
    unfold cyc at m
    rw [Nat.mod_eq_of_lt c, Nat.mod_eq_of_lt (by omega)] at m
    exact m
  · rw [List.getElem?_eq_none (by rw [repW_len, tl, hg]; omega), List.getElem?_eq_none (by omega)]
/-- the greatest exponent is a multiple of every other -/
theorem exp_dvd {r d u : List α} {e m : Nat} (hr : r ≠ []) (h1 : repW e d = r) (h2 : repW m u = r) (big : ∀ k v, repW k v = r → k ≤ e) : m ∣ e := by
  have l1 := repW_len e d
  have l2 := repW_len m u
  rw [h1] at l1
  rw [h2] at l2
  have g := Per.gcd _ _ _ (Nat.le_refl _) (cyc_per h1) (cyc_per h2)
  have z : 0 < r.length := List.length_pos_iff.mpr hr
  have d1 : Nat.gcd d.length u.length ∣ d.length := Nat.gcd_dvd_left _ _
  obtain ⟨k, hk⟩ := d1
  have gl : (e * k) * Nat.gcd d.length u.length = r.length := by rw [l1, Nat.mul_assoc, Nat.mul_comm k, ← hk]
  have q := big _ _ (rep_of_per gl g)
  have e0 : 0 < e := by
    rcases Nat.eq_zero_or_pos e with y | y
    · rw [y, Nat.zero_mul] at l1; omega
    · exact y
  have k1 : k = 1 := by
    have k0 : k ≠ 0 := by
      intro y
      rw [y, Nat.mul_zero] at hk
      rw [hk, Nat.mul_zero] at l1
      omega
    rcases Nat.lt_or_ge k 2 with y | y
    · omega
    · have : e * 2 ≤ e * k := Nat.mul_le_mul_left e y
      omega
  rw [k1, Nat.mul_one] at hk
  obtain ⟨t, ht⟩ : d.length ∣ u.length := hk ▸ Nat.gcd_dvd_right d.length u.length
  refine ⟨t, ?_⟩
  have dp : 0 < d.length := by
    rcases Nat.eq_zero_or_pos d.length with y | y
    · rw [y, Nat.mul_zero] at l1; omega
    · exact y
  have : e * d.length = (m * t) * d.length := by rw [← l1, l2, ht, Nat.mul_assoc, Nat.mul_comm t]
  exact Nat.eq_of_mul_eq_mul_right dp this
/-! ### few exponents -/
theorem asc_len : ∀ (L : List Nat) (a b : Nat), L.Pairwise (· < ·) → (∀ x ∈ L, a ≤ x ∧ x ≤ b) → L.length ≤ b + 1 - a
  | [], a, b, _, _ => Nat.zero_le _
  | x :: L, a, b, h, k => by
    obtain ⟨h1, h2⟩ := List.pairwise_cons.mp h
    have z := k x List.mem_cons_self
    have ih := asc_len L (x + 1) b h2 fun y m => ⟨h1 y m, (k y (List.mem_cons_of_mem _ m)).2⟩
    rw [List.length_cons]
    omega
theorem div_desc {n e f : Nat} (hn : 0 < n) (h1 : e ∣ n) (h2 : f ∣ n) (hl : e < f) : n / f < n / e := by
  obtain ⟨q, rfl⟩ := h1
  obtain ⟨u, hu⟩ := h2
  have e0 : 0 < e := Nat.pos_of_mul_pos_right hn
  have f0 : 0 < f := by omega
  rw [Nat.mul_div_cancel_left _ e0, hu, Nat.mul_div_cancel_left _ f0]
  rcases Nat.lt_or_ge u q with c | c
  · exact c
  · exfalso
    have u0 : 0 < u := by
      rcases Nat.eq_zero_or_pos u with z | z
      · rw [z, Nat.mul_zero] at hu; omega
      · exact z
    have a : e * q ≤ e * u := Nat.mul_le_mul_left e c
    have b : e * u < f * u := Nat.mul_lt_mul_of_pos_right hl u0
    omega
theorem few_div {n : Nat} {L : List Nat} (hn : 0 < n) (h1000 : n ≤ 1000) (asc : L.Pairwise (· < ·)) (k : ∀ e ∈ L, 2 ≤ e ∧ e ∣ n) : L.length < 64 := by
  have e1 : L.length = (L.filter fun e => decide (e < 32)).length + (L.filter fun e => !decide (e < 32)).length := by
    clear asc k
    induction L with
    | nil => rfl
    | cons x L ih =>
      by_cases c : x < 32
      · simp [List.filter_cons, c, ih]; omega
      · simp [List.filter_cons, c, ih]; omega
  have a1 := asc_len (L.filter fun e => decide (e < 32)) 2 31 (asc.filter _) fun x m => by
    obtain ⟨m1, m2⟩ := List.mem_filter.mp m
    have := of_decide_eq_true m2
    exact ⟨(k x m1).1, by omega⟩
  have a2 := asc_len (((L.filter fun e => !decide (e < 32)).map fun e => n / e).reverse) 1 31 (by
      rw [List.pairwise_reverse, List.pairwise_map]
      refine List.Pairwise.imp_of_mem (fun {x y} mx my hl => ?_) (asc.filter _)
      exact div_desc hn (k x (List.mem_filter.mp mx).1).2 (k y (List.mem_filter.mp my).1).2 hl) fun x m => by
    rw [List.mem_reverse, List.mem_map] at m
    obtain ⟨e, me, rfl⟩ := m
    obtain ⟨m1, m2⟩ := List.mem_filter.mp me
    have c : ¬ e < 32 := by simpa using m2
    obtain ⟨_, q, hq⟩ := k e m1
    have e0 : 0 < e := by omega
    rw [hq, Nat.mul_div_cancel_left _ e0]
    have q0 : 0 < q := by
      rcases Nat.eq_zero_or_pos q with z | z
      · rw [z, Nat.mul_zero] at hq; omega
      · exact z
    refine ⟨q0, ?_⟩
    rcases Nat.lt_or_ge q 32 with z | z
    · omega
    · have : 32 * 32 ≤ e * q := Nat.mul_le_mul (by omega) z
      omega
  rw [List.length_reverse, List.length_map] at a2
  omega
theorem rootsW_asc [DecidableEq α] (r : List α) : ((rootsW r).map (·.1)).Pairwise (· < ·) := by
  unfold rootsW
  have key : ∀ L : List Nat, L.Pairwise (· < ·) → ((L.filterMap fun e => (rootW r e).map fun d => (e, d)).map (·.1)).Pairwise (· < ·) ∧ ∀ x ∈ (L.filterMap fun e => (rootW r e).map fun d => (e, d)).map (·.1), x ∈ L := by
    intro L
    induction L with
    | nil => intro _; exact ⟨.nil, fun x m => m⟩
    | cons x L ih =>
      intro h
      obtain ⟨h1, h2⟩ := List.pairwise_cons.mp h
      obtain ⟨i1, i2⟩ := ih h2
      cases q : rootW r x with
      | none =>
        rw [List.filterMap_cons_none (by rw [q]; rfl)]
        exact ⟨i1, fun y m => List.mem_cons_of_mem _ (i2 y m)⟩
      | some d =>
        rw [List.filterMap_cons_some (b := (x, d)) (by rw [q]; rfl), List.map_cons]
        refine ⟨List.pairwise_cons.mpr ⟨fun y m => h1 y (i2 y m), i1⟩, fun y m => ?_⟩
        rcases List.mem_cons.mp m with z | z
        · rw [z]; exact List.mem_cons_self
        · exact List.mem_cons_of_mem _ (i2 y z)
  exact (key _ (List.pairwise_lt_range')).1
theorem rootsW_dvd [DecidableEq α] {r : List α} (hr : r ≠ []) {e : Nat} (m : e ∈ (rootsW r).map (·.1)) : 2 ≤ e ∧ e ∣ r.length := by
  obtain ⟨⟨e', d⟩, m1, rfl⟩ := List.mem_map.mp m
  obtain ⟨h1, h2⟩ := (rootsW_mem hr).mp m1
  refine ⟨h1, ⟨d.length, ?_⟩⟩
  rw [← h2, repW_len]
theorem rootsW_few [DecidableEq α] {r : List α} (hr : r ≠ []) (hl : r.length ≤ 1000) : (rootsW r).length < 64 := by
  have := few_div (List.length_pos_iff.mpr hr) hl (rootsW_asc r) fun e m => rootsW_dvd hr m
  rwa [List.length_map] at this
end
end SE
namespace SE
open PySem PySem.Spec PyProof.Rows L2
/-! ### roots, as mathematics -/
/-- one word begins with the other: w, and w with r behind it -/
def mkP (b : Bool) (w r : List Str) : List Str × List Str := if b = true then (w, w ++ r) else (w ++ r, w)
theorem sw_mk (b : Bool) (w r : List Str) : swM (mkP b w r).1 (mkP b w r).2 = some w := by
  cases b <;> simp [mkP, swM]
theorem sw_some {xs ys w : List Str} (h : swM xs ys = some w) : ∃ b r, (xs, ys) = mkP b w r := by
  unfold swM at h
  split at h
  · rename_i c
    have e := Option.some.inj h
    rcases Nat.le_total xs.length ys.length with l | l
    · rw [Nat.min_eq_left l, List.take_length] at c e
      subst e
      refine ⟨true, ys.drop xs.length, ?_⟩
      show (xs, ys) = (xs, xs ++ ys.drop xs.length)
      conv => lhs; rw [← List.take_append_drop xs.length ys, ← c]
    · rw [Nat.min_eq_right l, List.take_length] at c
      rw [Nat.min_eq_right l, c] at e
      subst e
      refine ⟨false, xs.drop ys.length, ?_⟩
      show (xs, ys) = (ys ++ xs.drop ys.length, ys)
      conv => lhs; rw [← List.take_append_drop ys.length xs, c]
  · cases h
theorem mk_rest (b : Bool) (w r : List Str) : (mkP b w r).1.drop w.length ++ (mkP b w r).2.drop w.length = r := by
  cases b <;> simp [mkP]
theorem mk_take (b : Bool) (w r : List Str) (n : Nat) : ((mkP b w r).1.take (w.length + n), (mkP b w r).2.take (w.length + n)) = mkP b w (r.take n) := by
  have z : w.take (w.length + n) = w := List.take_of_length_le (by omega)
  cases b <;> simp [mkP, List.take_append, z]
theorem rw_two (x y : List Str) (p : Int) (n : Nat) : rwM (some (x, y, p)) (n + 2) = match swM x y with | none => none | some w => some ((w, x.drop w.length, n + 2), (w, y.drop w.length, n + 2)) := rfl
theorem mk_inj {b c : Bool} {w r u v : List Str} (h : mkP b w r = mkP c u v) : w = u ∧ r = v := by
  have e1 := sw_mk b w r
  rw [h, sw_mk] at e1
  have e2 := (Option.some.inj e1).symm
  have e3 := mk_rest b w r
  rw [h, e2, mk_rest] at e3
  exact ⟨e2, e3.symm⟩
theorem mk_neq {b : Bool} {w r : List Str} : (mkP b w r).1 ≠ (mkP b w r).2 ↔ r ≠ [] := by
  cases b <;> simp [mkP]
/-- the words of a power -/
theorem rw_mk (b : Bool) (w d : List Str) (p : Int) (n : Nat) : ∃ A B, rwM (some ((mkP b w d).1, (mkP b w d).2, p)) (n + 1) = some (A, B) ∧ (repM A, repM B) = mkP b w (repW (n + 1) d) := by
  cases n with
  | zero => exact ⟨_, _, rfl, by cases b <;> simp [mkP, repM, repW]⟩
  | succ n =>
    refine ⟨(w, (mkP b w d).1.drop w.length, n + 2), (w, (mkP b w d).2.drop w.length, n + 2), ?_, ?_⟩
    · rw [rw_two, sw_mk]
    · have z := repW_nil (α := Str) (n + 2)
      unfold repW at z
      cases b with
      | true =>
        show ((w ++ (List.replicate (n + 2) (w.drop w.length)).flatten), (w ++ (List.replicate (n + 2) ((w ++ d).drop w.length)).flatten)) = (w, w ++ repW (n + 2) d)
        rw [List.drop_length, List.drop_left, z, List.append_nil]
        rfl
      | false =>
        show ((w ++ (List.replicate (n + 2) ((w ++ d).drop w.length)).flatten), (w ++ (List.replicate (n + 2) (w.drop w.length)).flatten)) = (w ++ repW (n + 2) d, w)
        rw [List.drop_length, List.drop_left, z, List.append_nil]
        rfl
/-- the words of a power from 2 on, if it is not never -/
def powW (xs ys : List Str) (n : Nat) : Option (List Str × List Str) := (rwM (some (xs, ys, 0)) n).map fun z => (repM z.1, repM z.2)
theorem rw_peak (xs ys : List Str) (p q : Int) (n : Nat) : rwM (some (xs, ys, p)) n = rwM (some (xs, ys, q)) n := by
  cases n with
  | zero => rfl
  | succ n => cases n <;> rfl
/-- the roots: exponents with effects -/
def rtsM (xs ys : List Str) : List (Nat × (List Str × List Str)) := match swM xs ys with
  | none => []
  | some w => (rootsW (xs.drop w.length ++ ys.drop w.length)).map fun q => (q.1, (xs.take (w.length + q.2.length), ys.take (w.length + q.2.length)))
theorem rts_mk (b : Bool) (w r : List Str) : rtsM (mkP b w r).1 (mkP b w r).2 = (rootsW r).map fun q => (q.1, ((mkP b w r).1.take (w.length + q.2.length), (mkP b w r).2.take (w.length + q.2.length))) := by
  unfold rtsM
  rw [sw_mk]
  dsimp only
  rw [mk_rest]
theorem rts_take {b : Bool} {w r d : List Str} {e : Nat} (he : 0 < e) (h : repW e d = r) : ((mkP b w r).1.take (w.length + d.length), (mkP b w r).2.take (w.length + d.length)) = mkP b w d := by
  rw [mk_take, ← h, repW_take d he]
/-- exactly the effects whose power has these words -/
theorem rts_mem {xs ys P Q : List Str} {e : Nat} (hn : xs ≠ ys) (he : 2 ≤ e) : (e, (P, Q)) ∈ rtsM xs ys ↔ powW P Q e = some (xs, ys) := by
  constructor
  · intro m
    cases hs : swM xs ys with
    | none =>
      unfold rtsM at m
      rw [hs] at m
      cases m
    | some w =>
      obtain ⟨b, r, hp⟩ := sw_some hs
      have e1 : xs = (mkP b w r).1 := congrArg Prod.fst hp
      have e2 : ys = (mkP b w r).2 := congrArg Prod.snd hp
      rw [e1, e2, rts_mk] at m
      rw [e1, e2] at hn
      obtain ⟨⟨e', d⟩, m1, m2⟩ := List.mem_map.mp m
      obtain ⟨k1, k2⟩ := (rootsW_mem (mk_neq.mp hn)).mp m1
      have m3 := m2
      dsimp only at m3
      rw [rts_take (by omega) k2] at m3
      obtain ⟨e3, m4⟩ := Prod.mk.inj m3
      subst e3
      have x1 : P = (mkP b w d).1 := congrArg Prod.fst m4.symm
      have x2 : Q = (mkP b w d).2 := congrArg Prod.snd m4.symm
      obtain ⟨A, B, h1, h2⟩ := rw_mk b w d 0 (e' - 1)
      rw [show e' - 1 + 1 = e' by omega] at h1 h2
      unfold powW
      rw [x1, x2, h1, Option.map_some]
      dsimp only
      rw [h2, k2, hp]
  · intro h
    have k : ∃ v, swM P Q = some v := by
      obtain ⟨n, rfl⟩ : ∃ n, e = n + 2 := ⟨e - 2, by omega⟩
      cases hs : swM P Q with
      | none =>
        have : powW P Q (n + 2) = none := by
          unfold powW
          rw [rw_two, hs]
          rfl
        rw [this] at h
        cases h
      | some v => exact ⟨v, rfl⟩
    obtain ⟨v, hv⟩ := k
    obtain ⟨b, d, hp⟩ := sw_some hv
    have e1 : P = (mkP b v d).1 := congrArg Prod.fst hp
    have e2 : Q = (mkP b v d).2 := congrArg Prod.snd hp
    obtain ⟨A, B, h1, h2⟩ := rw_mk b v d 0 (e - 1)
    rw [show e - 1 + 1 = e by omega] at h1 h2
    unfold powW at h
    rw [e1, e2, h1, Option.map_some] at h
    have h3 := Option.some.inj h
    rw [h2] at h3
    have x1 : xs = (mkP b v (repW e d)).1 := congrArg Prod.fst h3.symm
    have x2 : ys = (mkP b v (repW e d)).2 := congrArg Prod.snd h3.symm
    rw [x1, x2] at hn
    rw [x1, x2, rts_mk]
    refine List.mem_map.mpr ⟨(e, d), (rootsW_mem (mk_neq.mp hn)).mpr ⟨he, rfl⟩, ?_⟩
    dsimp only
    rw [rts_take (by omega) rfl, hp]
theorem rts_asc (xs ys : List Str) : ((rtsM xs ys).map (·.1)).Pairwise (· < ·) := by
  unfold rtsM
  cases swM xs ys with
  | none => exact .nil
  | some w =>
    have e := rootsW_asc (xs.drop w.length ++ ys.drop w.length)
    dsimp only
    rw [List.map_map]
    exact e
/-- what is known of a root -/
theorem rts_root {xs ys : List Str} {q : Nat × (List Str × List Str)} (hn : xs ≠ ys) (m : q ∈ rtsM xs ys) : 2 ≤ q.1 ∧ ∃ b w d, q.2 = mkP b w d ∧ (xs, ys) = mkP b w (repW q.1 d) ∧ d ≠ [] := by
  cases hs : swM xs ys with
  | none =>
    unfold rtsM at m
    rw [hs] at m
    cases m
  | some w =>
    obtain ⟨b, r, hp⟩ := sw_some hs
    have e1 : xs = (mkP b w r).1 := congrArg Prod.fst hp
    have e2 : ys = (mkP b w r).2 := congrArg Prod.snd hp
    rw [e1, e2, rts_mk] at m
    rw [e1, e2] at hn
    have rn := mk_neq.mp hn
    obtain ⟨⟨e', d⟩, m1, rfl⟩ := List.mem_map.mp m
    obtain ⟨k1, k2⟩ := (rootsW_mem rn).mp m1
    refine ⟨k1, b, w, d, rts_take (by omega) k2, ?_, fun z => ?_⟩
    · rw [hp, ← k2]
    · rw [z, repW_nil] at k2
      exact rn k2.symm
end SE
namespace SE
open PySem PySem.Spec PyProof.Rows L2
abbrev sNeutral : Stmt := inClass sEffect 9
theorem map_rep (xs : List Str) : ∀ n : Nat, (List.replicate n (xs.map V.str)).flatten = (repW n xs).map V.str
  | 0 => rfl
  | n + 1 => by rw [List.replicate_succ, List.flatten_cons, map_rep xs n, repW_succ, List.map_append]
theorem Same.but3 {H H3 H4 : Hp} {p : Addr} (s : Same H H3) (hp : H p = none) (b : But p H3 H4) : Same H H4 := fun c o e => b c o (ne_of_none e hp) (s c o e)
theorem tup_lb {K : PySem.W.Frag} {H H' : Hp} {u l : Addr} {xs ys : List V} (h : SqT K H u xs) (hl : H l = some (.lst ys)) (b : But l H H') : SqT K H' u xs := by
  rcases h with h | h
  · refine .inl ?_
    rcases h with h | ⟨o, h⟩
    · exact .inl (b _ _ (ne_of h hl (by intro z; cases z)) h)
    · exact .inr ⟨o, b _ _ (ne_of h hl (by intro z; cases z)) h⟩
  · exact .inr h
theorem EffAt.lb {K : PySem.W.Frag} {C : Addr} {H H' : Hp} {e l : Addr} {xs ys : List Str} {zs : List V} {p : Int} (h : EffAt K C H e xs ys p) (hl : H l = some (.lst zs)) (b : But l H H') : EffAt K C H' e xs ys p := by
  obtain ⟨dx, u, v, h1, h2, h3⟩ := h.ex
  exact ⟨dx, u, v, b _ _ (ne_of h1 hl (by intro z; cases z)) h1, tup_lb h2 hl b, tup_lb h3 hl b⟩
section
variable {P : Program} {w : World} {K : PySem.W.Frag} {mg : Str → Option Value} {base : Heap} {C : Addr}
/-! ### is_neutral -/
def neuM : Eff → Bool
  | none => false
  | some (xs, ys, _) => decide (xs = ys)
def spNeu (K : PySem.W.Frag) (C : Addr) : Sp := fun vs H Q _ => ∃ (e : Addr) (o : Eff), vs = [.ref e] ∧ EffV K C H e o ∧ EffOk o ∧ Q (.bl (neuM o)) H
theorem scNeu : FnScope ["self"] ["self"] (defScope sNeutral) := ⟨rfl, rfl, rfl, by decide +kernel, rfl, by decide +kernel, by decide +kernel⟩
theorem ok_neu {f : Addr} {fd : FuncData} (F : Fun K "is_neutral" "Effect.is_neutral" sNeutral f fd) (T : EC K mg C) : FnOk P w K mg base CX0 1 f fd ["self"] (spNeu K C) := by
  refine F.ok scNeu (fun vs H Q E h => ?_) (fun cdv A outer s H vs Q E hr h => ?_)
  · obtain ⟨e, o, rfl, _⟩ := h
    rfl
  · obtain ⟨e, o, rfl, h, ok, k⟩ := h
    refine ⟨_, pss_one (ps_ret (pe_and (pe_cmpR op_notN (pe_fld (pv 0) rfl) pe_non (nomark _)) (pe_one (pe_cmpR (op_eqD hr.units) (pe_fld (pv 0) rfl) (pe_fld (pv 0) rfl) (nomark _))))), ?_⟩
    cases o with
    | none =>
      obtain ⟨dx, h1⟩ := NevAt.ex h
      exact ⟨_, rfl, e, C, dx, _, _, rfl, h1, T.cl, T.nN, eF_needs _ _ _, rfl, _, rfl, iteF k⟩
    | some o =>
      obtain ⟨xs, ys, p⟩ := o
      obtain ⟨dx, u, v, h1, h2, h3⟩ := EffAt.ex h
      obtain ⟨i1, i2, l1, l2, p0, p1⟩ := ok
      refine ⟨_, rfl, e, C, dx, _, _, rfl, h1, T.cl, T.nN, eF_needs _ _ _, rfl, _, rfl, iteT ⟨_, rfl, e, C, dx, _, _, rfl, h1, T.cl, T.nN, eF_needs _ _ _, _, rfl, e, C, dx, _, _, rfl, h1, T.cl, T.nL, eF_leaves _ _ _, .tuple (xs.map .str), .tuple (ys.map .str), .tup h2 (dp_strs _), .tup h3 (dp_strs _), (nice_tuple (nice_strs i1)).shaped (by decide), (nice_tuple (nice_strs i2)).shaped (by decide), ?_⟩⟩
      rw [eqv_tupS]
      exact k
/-! ### roots -/
def RtE (K : PySem.W.Frag) (C : Addr) (H : Hp) (u : V) (q : Nat × (List Str × List Str)) : Prop := ∃ t a, u = .ref t ∧ SqT K H t [.int (q.1 : Nat), .ref a] ∧ EffAt K C H a q.2.1 q.2.2 (lp q.2.1 q.2.2)
theorem RtE.same {H H' : Hp} {u : V} {q : Nat × (List Str × List Str)} (h : RtE K C H u q) (s : Same H H') : RtE K C H' u q := by
  obtain ⟨t, a, e, h1, h2⟩ := h
  exact ⟨t, a, e, Same.tup s h1, h2.same s⟩
theorem RtE.lb {H H' : Hp} {u : V} {l : Addr} {ys : List V} {q : Nat × (List Str × List Str)} (h : RtE K C H u q) (hl : H l = some (.lst ys)) (b : But l H H') : RtE K C H' u q := by
  obtain ⟨t, a, e, h1, h2⟩ := h
  exact ⟨t, a, e, tup_lb h1 hl b, h2.lb hl b⟩
def RtL (K : PySem.W.Frag) (C : Addr) (H : Hp) (us : List V) (qs : List (Nat × (List Str × List Str))) : Prop := Paired (RtE K C H) us qs
theorem RtL.same {H H' : Hp} : ∀ {us : List V} {qs : List (Nat × (List Str × List Str))}, RtL K C H us qs → Same H H' → RtL K C H' us qs
  | _, _, .nil, _ => .nil
  | _, _, .cons r t, s => .cons (r.same s) (RtL.same t s)
theorem RtL.lb {H H' : Hp} {l : Addr} {ys : List V} (hl : H l = some (.lst ys)) (b : But l H H') : ∀ {us : List V} {qs : List (Nat × (List Str × List Str))}, RtL K C H us qs → RtL K C H' us qs
  | _, _, .nil => .nil
  | _, _, .cons r t => .cons (r.lb hl b) (RtL.lb hl b t)
theorem RtL.snoc {H : Hp} {u : V} {q : Nat × (List Str × List Str)} (r : RtE K C H u q) : ∀ {us : List V} {qs : List (Nat × (List Str × List Str))}, RtL K C H us qs → RtL K C H (us ++ [u]) (qs ++ [q])
  | _, _, .nil => .cons r .nil
  | _, _, .cons r' t => .cons r' (RtL.snoc r t)
def spRoots (K : PySem.W.Frag) (C : Addr) : Sp := fun vs H Q _ => ∃ (e : Addr) (o : Eff), vs = [.ref e] ∧ EffV K C H e o ∧ EffOk o ∧ (∀ H', Same H H' → (o = none ∨ neuM o = true) → Q .non H') ∧
  ∀ (xs ys : List Str) (p : Int), o = some (xs, ys, p) → xs ≠ ys → ∀ (l : Addr) (us : List V) (H' : Hp), Same H H' → H l = none → H' l = some (.lst us) → RtL K C H' us (rtsM xs ys) → Q (.ref l) H'
abbrev nRts : List Str := ["effect", "word", "rest", "found", "exponent", "size", "end"]
theorem scRts : FnScope nRts ["effect"] (defScope sRoots) := ⟨rfl, rfl, rfl, by decide +kernel, rfl, by decide +kernel, by decide +kernel⟩
theorem has_roots (D : Def K mg "roots" sRoots) (T : EC K mg C) (M : Makes P w K mg base C) (GP : PropHas P w K mg base C "pops" 1 (spPops K C)) (GQ : PropHas P w K mg base C "pushes" 1 (spPush K C)) (GN : PropHas P w K mg base C "is_never" 1 (spIsNev K C)) (GU : PropHas P w K mg base C "is_neutral" 1 (spNeu K C))
    (GS : Has P w K mg base "shared_word" 3 ["effect"] [] (spSw K C)) (B : Blt mg) (mr : mg "range" = none) : Has P w K mg base "roots" 6 ["effect"] [] (spRoots K C) := by
  refine has_of D scRts (fun _ _ _ _ _ _ us hl => match us, hl with | [_], _ => rfl) (fun xs H Q E h => ?_) (fun f cv A out s H xs Q E hr h => ?_)
  · obtain ⟨e, o, rfl, _⟩ := h
    rfl
  · obtain ⟨e, o, rfl, he, ok, k1, k2⟩ := h
    have hr2 : Room 2 _ := hr.mono (by decide)
    have hr3 : Room 3 _ := hr.mono (by decide)
    have hr5 : Room 5 _ := hr.mono (by decide)
    refine ⟨_, pss_cons (ps_if (PW.pt (pw_or (pt_val (pe_propH GN (pv 0) T.cl hr2)) (pw_or1 (pt_val (pe_propH GU (pv 0) T.cl hr2))))) (pss_one (ps_ret pe_non)) pss_nil)
      (pss_cons (ps_set (i := 1) scRts.nd rfl (.inl rfl) (pe_has GS hr3 (pa_cons (pv 0) pa_nil)))
      (pss_cons (ps_if (pt_cmpR op_isN (pv 1) pe_non (nomark _)) (pss_one (ps_ret (pe_lst pa_nil))) pss_nil)
      (pss_cons (ps_set (i := 2) scRts.nd rfl (.inl rfl) (pe_op op_catS (pe_slice sl_tupS (pe_propH GP (pv 0) T.cl hr2) (po_some (pe_callB call_len_seq (by rfl) B.len PySem.boot_len (pa_cons (pv 1) pa_nil))) po_none) (pe_slice sl_tupS (pe_propH GQ (pv 0) T.cl hr2) (po_some (pe_callB call_len_seq (by rfl) B.len PySem.boot_len (pa_cons (pv 1) pa_nil))) po_none)))
      (pss_cons (ps_set (i := 3) scRts.nd rfl (.inl rfl) (pe_lst pa_nil))
      (pss_cons (ps_for PassesOwn.never rfl (pi_range2 (by rfl) mr (pa_cons pe_int (pa_cons (pe_op op_add (pe_callB call_len_seq (by rfl) B.len PySem.boot_len (pa_cons (pv 2) pa_nil)) pe_int) pa_nil))) (pg_name (i := 4) scRts.nd rfl (.inl rfl))
        (pss_cons (ps_set (i := 5) scRts.nd rfl (.inl rfl) (pe_op op_fdiv (pe_callB call_len_seq (by rfl) B.len PySem.boot_len (pa_cons (pv 2) pa_nil)) (pv 4)))
        (pss_one (ps_if (pt_cut (PW.pt (pw_and (pt_cmpR op_eq (pe_op op_mul (pv 5) (pv 4)) (pe_callB call_len_seq (by rfl) B.len PySem.boot_len (pa_cons (pv 2) pa_nil)) (nomark _)) (pw_and1 (pt_cmpR (op_eqD hr.units) (pe_op op_repT (pe_slice sl_tupS (pv 2) po_none (po_some (pv 5))) (pv 4)) (pv 2) (nomark _))))))
          (pss_cons (ps_set (i := 6) scRts.nd rfl (.inl rfl) (pe_op op_add (pe_callB call_len_seq (by rfl) B.len PySem.boot_len (pa_cons (pv 1) pa_nil)) (pv 5)))
          (pss_one (ps_expr (pe_bm PySem.F.plainAttrs_list PySem.F.slot_list_append PySem.F.type_list_append mt_append (pv 3) (pa_cons (pe_tup (pa_cons (pv 4) (pa_cons (pe_eff2 M T.mgE hr5 (pa_cons (pe_slice sl_tupS (pe_propH GP (pv 0) T.cl hr2) po_none (po_some (pv 6))) (pa_cons (pe_slice sl_tupS (pe_propH GQ (pv 0) T.cl hr2) po_none (po_some (pv 6))) pa_nil))) pa_nil))) pa_nil))))) pss_nil))))
      (pss_one (ps_ret (pv 3)))))))), ?_⟩
    obtain ⟨dx, fs, j1⟩ := he.ins
    cases o with
    | none =>
      refine ⟨_, rfl, e, dx, fs, rfl, j1, e, rfl, .inr ⟨he, true, rfl, iteT (iteT ?_)⟩⟩
      exact k1 H (Same.refl H) (.inl rfl)
    | some o =>
    obtain ⟨xs, ys, p⟩ := o
    have he1 : EffAt K C H e xs ys p := he
    obtain ⟨i1, i2, l1, l2, p0, p1⟩ := id ok
    refine ⟨_, rfl, e, dx, fs, rfl, j1, e, rfl, .inl ⟨xs, ys, p, he1, false, rfl, iteF ?_⟩⟩
    refine ⟨_, rfl, e, dx, fs, rfl, j1, e, _, rfl, he, ok, _, rfl, ?_⟩
    by_cases hn : xs = ys
    · rw [show neuM (some (xs, ys, p)) = true from decide_eq_true hn]
      refine iteT ?_
      exact k1 H (Same.refl H) (.inr (decide_eq_true hn))
    have k2 := k2 xs ys p rfl hn
    rw [show neuM (some (xs, ys, p)) = false from decide_eq_false hn]
    refine iteF ?_
    refine ⟨_, rfl, e, xs, ys, p, rfl, he1, i1, i2, fun u H2 s2 hu => ?_⟩
    cases hw : swM xs ys with
    | none =>
      rw [hw] at hu
      have hu' : u = .non := hu
      subst hu'
      refine ⟨_, rfl, rfl, true, rfl, iteT ⟨Nat.zero_le _, fun l hl => ?_⟩⟩
      refine k2 l [] _ (s2.trans (Same.new hl)) (s2.free hl) upd_same ?_
      unfold rtsM
      rw [hw]
      exact .nil
    | some wd =>
    rw [hw] at hu
    obtain ⟨t, rfl, ht⟩ := hu
    refine ⟨_, rfl, rfl, false, rfl, iteF ?_⟩
    obtain ⟨hwl1, hwl2⟩ := swM_sub hw
    have ins : ∀ {H2 : Hp}, Same H H2 → ∃ dx fs, H2 e = some (.ins C dx fs) := fun s2 => by
      obtain ⟨dx, u, v, h1, _, _⟩ := (he1.same s2).ex
      exact ⟨dx, _, h1⟩
    have shp : ∀ {zs : List Str}, (∀ z ∈ zs, Item z) → SeqAt.shaped (.tuple (zs.map PyData.str)) = true := fun {zs} q => (nice_tuple (nice_strs q)).shaped (by decide)
    obtain ⟨dx2, fs2, j2⟩ := ins s2
    refine ⟨_, rfl, e, dx2, fs2, rfl, j2, e, xs, ys, p, rfl, he1.same s2, fun pu hpu => ⟨_, rfl, t, _, rfl, .inr ht, _, rfl, pu, _, rfl, hpu, fun d1 H3 s3 hd1 => ?_⟩⟩
    rw [List.length_map, cutF_from] at hd1
    obtain ⟨dx3, fs3, j3⟩ := ins (s2.trans s3)
    refine ⟨_, rfl, e, dx3, fs3, rfl, j3, e, xs, ys, p, rfl, he1.same (s2.trans s3), fun pv' hpv => ⟨_, rfl, t, _, rfl, .inr (Same.tup s3 ht), _, rfl, pv', _, rfl, hpv, fun d2 H4 s4 hd2 => ?_⟩⟩
    rw [List.length_map, cutF_from] at hd2
    refine ⟨d1, d2, _, _, rfl, rfl, Same.tup s4 hd1, hd2, ?_, fun rt H5 s5 hrt => ?_⟩
    · rw [List.length_map, List.length_map, List.length_drop, List.length_drop, sizeLine_eq]
      omega
    rw [← List.map_append] at hrt
    have hR : rtsM xs ys = (rootsW (xs.drop wd.length ++ ys.drop wd.length)).map fun q => (q.1, (xs.take (wd.length + q.2.length), ys.take (wd.length + q.2.length))) := by
      unfold rtsM
      rw [hw]
    have hRl : (xs.drop wd.length ++ ys.drop wd.length).length ≤ 1000 := by
      obtain ⟨b, r, hp⟩ := sw_some hw
      have e1 : xs = (mkP b wd r).1 := congrArg Prod.fst hp
      have e2 : ys = (mkP b wd r).2 := congrArg Prod.snd hp
      rw [e1, e2, mk_rest]
      cases b with
      | true =>
        have : ys = wd ++ r := e2
        rw [this, List.length_append] at l2
        omega
      | false =>
        have : xs = wd ++ r := e1
        rw [this, List.length_append] at l1
        omega
    have hRi : ∀ z ∈ xs.drop wd.length ++ ys.drop wd.length, Item z := fun z m => by
      rcases List.mem_append.mp m with m | m
      · exact i1 z (List.mem_of_mem_drop m)
      · exact i2 z (List.mem_of_mem_drop m)
    have hRn : xs.drop wd.length ++ ys.drop wd.length ≠ [] := by
      obtain ⟨b, r, hp⟩ := sw_some hw
      have e1 : xs = (mkP b wd r).1 := congrArg Prod.fst hp
      have e2 : ys = (mkP b wd r).2 := congrArg Prod.snd hp
      rw [e1, e2] at hn
      rw [e1, e2, mk_rest]
      exact mk_neq.mp hn
    generalize xs.drop wd.length ++ ys.drop wd.length = R at hR hRl hRi hrt hRn
    refine ⟨Nat.zero_le _, fun l hl => ?_⟩
    have hrt2 : SqT K (upd H5 l (.lst [])) rt (R.map V.str) := Same.tup (Same.new hl) hrt
    refine ⟨_, rfl, rt, _, rfl, .inr hrt2, _, _, rfl, rfl, ?_⟩
    rw [List.length_map]
    have s25 : Same H (upd H5 l (.lst [])) := (((s2.trans s3).trans s4).trans s5).trans (Same.new hl)
    have hl0 : H l = none := (((s2.trans s3).trans s4).trans s5).free hl
    have ht5 : SqT K (upd H5 l (.lst [])) t (wd.map V.str) := Same.tup (((s3.trans s4).trans s5).trans (Same.new hl)) ht
    have hl5 : (upd H5 l (.lst [])) l = some (.lst []) := upd_same
    generalize upd H5 l (.lst []) = G at hrt2 s25 ht5 hl5 ⊢
    refine ⟨2, (R.length : Int) + 1, rfl, ⟨by omega, by omega, by omega, by omega⟩, for_range (lo := 2) (n := ((R.length : Int) + 1 - 2).toNat) (fun i σ H6 => ∃ (y4 y5 y6 : Option V) (us : List V), σ = [some (.ref e), some (.ref t), some (.ref rt), some (.ref l), y4, y5, y6] ∧ But l G H6 ∧ H6 l = some (.lst us) ∧ us.length ≤ i ∧
      RtL K C H6 us (((List.range' 2 i).filterMap fun x => (rootW R x).map fun d => (x, d)).map fun q => (q.1, (xs.take (wd.length + q.2.length), ys.take (wd.length + q.2.length))))) ⟨none, none, none, [], rfl, But.refl _ _, hl5, Nat.le_refl _, .nil⟩ ?_ ?_⟩
    · rintro i σ H6 hi ⟨y4, y5, y6, us, rfl, b6, hl6, hus, hr6⟩
      have sF : Same H H6 := Same.but3 s25 hl0 b6
      have he6 := he1.same sF
      have hrt6 := tup_lb hrt2 hl5 b6
      have ht6 := tup_lb ht5 hl5 b6
      have hi2 : 2 + i ≤ R.length := by omega
      have ez : (2 : Int) + (i : Nat) = ((2 + i : Nat) : Int) := by omega
      have dz : (R.length : Int) / ((2 + i : Nat) : Int) = ((R.length / (2 + i) : Nat) : Int) := rfl
      have rsn : (List.range' 2 (i + 1)).filterMap (fun x => (rootW R x).map fun d => (x, d)) = (List.range' 2 i).filterMap (fun x => (rootW R x).map fun d => (x, d)) ++ ((rootW R (2 + i)).map fun d => (2 + i, d)).toList := by
        rw [List.range'_1_concat, List.filterMap_append]
        cases h : rootW R (2 + i) <;> simp [List.filterMap_cons, h]
      refine ⟨_, rfl, rt, _, rfl, .inr hrt6, _, rfl, _, _, rfl, rfl, ⟨by omega, by omega⟩, ?_⟩
      rw [List.length_map, ez]
      dsimp only
      rw [dz]
      have szl : R.length / (2 + i) ≤ R.length := Nat.div_le_self _ _
      have szp : 0 < R.length / (2 + i) := Nat.div_pos hi2 (by omega)
      have hrW : rootW R (2 + i) = if R.length / (2 + i) * (2 + i) = R.length ∧ repW (2 + i) (R.take (R.length / (2 + i))) = R then some (R.take (R.length / (2 + i))) else none := rfl
      generalize R.length / (2 + i) = sz at szl szp hrW ⊢
      refine ⟨fun b H7 => b = (rootW R (2 + i)).isSome ∧ Same H6 H7, ?_, ?_⟩
      · refine ⟨_, rfl, _, rfl, _, _, rfl, rfl, .inl ⟨by omega, by omega⟩, _, rfl, rt, _, rfl, .inr hrt6, ?_⟩
        rw [List.length_map]
        refine ⟨rfl, _, rfl, ite2 (fun c => ?_) (fun c => ?_)⟩
        rotate_left
        · refine ⟨?_, Same.refl _⟩
          have c' : ¬ sz * (2 + i) = R.length := fun z => c (decide_eq_true (congrArg V.int (by show ((sz : Nat) : Int) * ((2 + i : Nat) : Int) = _; rw [← Int.natCast_mul, z])))
          rw [hrW, if_neg (fun z => c' z.1)]
          rfl
        have c1 : sz * (2 + i) = R.length := by
          have z := V.int.inj (of_decide_eq_true c)
          have z2 : ((sz * (2 + i) : Nat) : Int) = (R.length : Int) := by rw [Int.natCast_mul]; exact z
          omega
        refine ⟨_, rfl, _, rfl, _, rfl, rt, _, rfl, hrt6, fun c3 H7 s7 hc3 => ?_⟩
        rw [cutF_to] at hc3
        have tl : (R.take sz).length = sz := by rw [List.length_take]; omega
        refine ⟨_, rfl, c3, _, _, rfl, rfl, hc3, fun z => ?_, by omega, by omega, by rw [List.length_map, tl]; omega, fun q hq => ?_⟩
        · have z2 := congrArg List.length z
          rw [List.length_map, tl] at z2
          have z3 : sz = 0 := z2
          omega
        rw [Int.toNat_natCast, map_rep]
        have s8 := Same.new (o := .tup ((repW (2 + i) (R.take sz)).map V.str)) hq
        refine ⟨_, rfl, .tuple ((repW (2 + i) (R.take sz)).map .str), .tuple (R.map .str), .tup (.of upd_same) (dp_strs _), .tup (Same.tup (s7.trans s8) hrt6) (dp_strs _), shp (fun z m => ?_), shp hRi, _, rfl, ?_, s7.trans s8⟩
        · obtain ⟨j, hj, e⟩ := List.mem_iff_getElem.mp m
          have g := repW_get (R.take sz) (2 + i) j (by rw [← repW_len]; exact hj)
          rw [List.getElem?_eq_getElem hj, e] at g
          exact hRi z (List.mem_of_mem_take (List.mem_of_getElem? g.symm))
        · rw [eqv_tupS, hrW]
          by_cases c2 : repW (2 + i) (R.take sz) = R
          · rw [decide_eq_true c2, if_pos ⟨c1, c2⟩]
            rfl
          · rw [decide_eq_false c2, if_neg (fun z => c2 z.2)]
            rfl
      rintro b H7 ⟨rfl, s7⟩
      have b7 : But l G H7 := b6.trans (.of s7)
      have hr7 := RtL.same hr6 s7
      rw [rsn]
      cases hrw : rootW R (2 + i) with
      | none =>
        refine iteF ⟨_, _, _, us, rfl, b7, s7 _ _ hl6, by omega, ?_⟩
        rw [show (Option.map (fun d => (2 + i, d)) (none : Option (List Str))).toList = [] from rfl, List.append_nil]
        exact hr7
      | some d =>
      have dl : d = R.take sz := by
        rw [hrW] at hrw
        split at hrw
        · exact (Option.some.inj hrw).symm
        · cases hrw
      have dln : d.length = sz := by rw [dl, List.length_take]; omega
      have ht7 := Same.tup s7 ht6
      refine iteT ⟨_, rfl, t, _, rfl, .inr ht7, _, rfl, _, _, rfl, rfl, ?_⟩
      rw [List.length_map]
      dsimp only
      rw [show ((wd.length : Nat) : Int) + ((sz : Nat) : Int) = ((wd.length + sz : Nat) : Int) from (Int.natCast_add _ _).symm]
      have he7 := he6.same s7
      obtain ⟨dx7, u7, v7, j7, _, _⟩ := he7.ex
      refine ⟨.ref l, rfl, .inl ⟨rfl, _, .of (s7 _ _ hl6)⟩, _, rfl, _, rfl, e, dx7, _, rfl, j7, e, xs, ys, p, rfl, he7, fun uu huu => ⟨_, rfl, _, rfl, uu, _, rfl, huu, fun c4 H8 s8 hc4 => ?_⟩⟩
      rw [cutF_to] at hc4
      refine ⟨_, rfl, e, dx7, _, rfl, s8 _ _ j7, e, xs, ys, p, rfl, he7.same s8, fun vv hvv => ⟨_, rfl, _, rfl, vv, _, rfl, hvv, fun c5 H9 s9 hc5 => ?_⟩⟩
      rw [cutF_to] at hc5
      refine ⟨c4, c5, xs.take (wd.length + sz), ys.take (wd.length + sz), rfl, Same.tup s9 hc4, hc5, by rw [List.length_take]; omega, by rw [List.length_take]; omega, fun z m => i1 z (List.mem_of_mem_take m), fun z m => i2 z (List.mem_of_mem_take m), fun ne HA sA _ hne => ?_⟩
      refine ⟨(by show 2 ≤ sizeLine; decide), fun q hq => ?_⟩
      have sB := Same.new (o := .tup [.int ((2 + i : Nat) : Int), .ref ne]) hq
      have s6B := (((s7.trans s8).trans s9).trans sA).trans sB
      have hlB := s6B _ _ hl6
      have hrB : RtE K C (upd HA q (.tup [.int ((2 + i : Nat) : Int), .ref ne])) (.ref q) (2 + i, (xs.take (wd.length + d.length), ys.take (wd.length + d.length))) := ⟨q, ne, rfl, .of upd_same, by rw [dln]; exact hne.same sB⟩
      have hrL := RtL.snoc hrB (RtL.same hr6 s6B)
      generalize upd HA q (.tup [.int ((2 + i : Nat) : Int), .ref ne]) = HB at hlB hrL s6B ⊢
      refine ⟨l, _, _, rfl, rfl, hlB, by rw [sizeLine_eq]; omega, ?_⟩
      refine ⟨_, _, _, us ++ [.ref q], rfl, (b6.trans (.of s6B)).trans But.at, upd_same, by rw [List.length_append]; show us.length + 1 ≤ i + 1; omega, ?_⟩
      have bl : But l HB (upd HB l (.lst (us ++ [.ref q]))) := But.at
      have fin := RtL.lb hlB bl hrL
      rw [List.map_append]
      exact fin
    · rintro σ H6 ⟨y4, y5, y6, us, rfl, b6, hl6, hus, hr6⟩
      have sF : Same H H6 := Same.but3 s25 hl0 b6
      refine ⟨_, rfl, k2 l us H6 sF hl0 hl6 ?_⟩
      rw [hR]
      unfold rootsW
      rw [show R.length - 1 = ((R.length : Int) + 1 - 2).toNat by omega]
      exact hr6
end
end SE
namespace SE
open PySem PySem.Spec PyProof.Rows L2
/-! ### _law_stacks -/
/-- a list of short words -/
def WL (K : PySem.W.Frag) (H : Hp) (us : List V) (n : Nat) : Prop := ∀ u ∈ us, ∃ (t : Addr) (xs : List Str), u = .ref t ∧ SqT K H t (xs.map V.str) ∧ xs.length ≤ n ∧ ∀ z ∈ xs, Item z
theorem WL.same {K : PySem.W.Frag} {H H' : Hp} {us : List V} {n m : Nat} (h : WL K H us n) (s : Same H H') (hm : n ≤ m) : WL K H' us m := fun u q => by
  obtain ⟨t, xs, e, h1, h2, h3⟩ := h u q
  exact ⟨t, xs, e, Same.tup s h1, by omega, h3⟩
theorem WL.lb {K : PySem.W.Frag} {H H' : Hp} {us : List V} {n : Nat} {l : Addr} {ys : List V} (h : WL K H us n) (hl : H l = some (.lst ys)) (b : But l H H') : WL K H' us n := fun u q => by
  obtain ⟨t, xs, e, h1, h2, h3⟩ := h u q
  exact ⟨t, xs, e, tup_lb h1 hl b, h2, h3⟩
theorem WL.app {K : PySem.W.Frag} {H : Hp} {us vs : List V} {n : Nat} (h : WL K H us n) (k : WL K H vs n) : WL K H (us ++ vs) n := fun u q => by
  rcases List.mem_append.mp q with q | q
  · exact h u q
  · exact k u q
section
variable {P : Program} {w : World} {K : PySem.W.Frag} {mg : Str → Option Value} {base : Heap} {C : Addr}
def spStk (K : PySem.W.Frag) : Sp := fun vs H Q _ => ∃ (l : Addr) (zs : List Str), vs = [.ref l, .int 2] ∧ H l = some (.lst (zs.map V.str)) ∧ zs.length ≤ 2 ∧ (∀ z ∈ zs, Item z) ∧
  ∀ (R : Addr) (ts : List V) (H' : Hp), Same H H' → H R = none → H' R = some (.lst ts) → ts ≠ [] → ts.length ≤ 7 → WL K H' ts 2 → Q (.ref R) H'
abbrev nStk : List Str := ["_law_items_here", "_law_most", "_law_found", "_law_last", "_law_turn", "_law_later", "_law_word_here", "_law_item"]
theorem scStk : FnScope nStk ["_law_items_here", "_law_most"] (defScope sLawStacks) := ⟨rfl, rfl, rfl, by decide +kernel, rfl, by decide +kernel, by decide +kernel⟩
theorem has_stk (D : Def K mg "_law_stacks" sLawStacks) (mr : mg "range" = none) (ms : mg "sorted" = none) : Has P w K mg base "_law_stacks" 1 ["_law_items_here", "_law_most"] [] (spStk K) := by
  refine has_of D scStk (fun _ _ _ _ _ _ us hl => match us, hl with | [_, _], _ => rfl) (fun xs H Q E h => ?_) (fun f cv A out s H xs Q E hr h => ?_)
  · obtain ⟨l, zs, rfl, _⟩ := h
    rfl
  · obtain ⟨l, zs, rfl, hL, lz, iz, k⟩ := h
    refine ⟨_, pss_cons (ps_set (i := 2) scStk.nd rfl (.inl rfl) (pe_lst (pa_cons (pe_tup pa_nil) pa_nil)))
      (pss_cons (ps_set (i := 3) scStk.nd rfl (.inl rfl) (pe_lst (pa_cons (pe_tup pa_nil) pa_nil)))
      (pss_cons (ps_for PassesOwn.never rfl (pi_range1 (by rfl) mr (pa_cons (pv 1) pa_nil)) (pg_name (i := 4) scStk.nd rfl (.inl rfl))
        (pss_cons (ps_set (i := 5) scStk.nd rfl (.inl rfl) (pe_lst pa_nil))
        (pss_cons (ps_for PassesOwn.never rfl (pi_list (pv 3)) (pg_name (i := 6) scStk.nd rfl (.inr rfl))
          (pss_one (ps_set (i := 5) scStk.nd rfl (.inl rfl) (pe_op op_cat (pv 5) (pe_lc (own := [("_law_item", 7)]) (g := gName 7) (tt := tYes) (te := tOp (rCatS K) (tVar 6) (tTup (tCons (tVar 7) tNil))) rfl scStk.nd (pi_list (pe_callB cr_sortedS (by rfl) ms (by decide +kernel) (pa_cons (pv 0) pa_nil))) (blkOk_by (own := [("_law_item", 7)]) (N := nStk) (sc := defScope sLawStacks) (by decide +kernel))
            (fun _ _ _ _ _ => pg_name (i := 7) scStk.nd rfl (.inl rfl)) (fun _ _ _ _ _ => pts_nil) (fun _ _ _ _ _ => pe_op op_catS (pv 6) (pe_tup (pa_cons (pv 7) pa_nil))))))))
        (pss_cons (ps_set (i := 2) scStk.nd rfl (.inl rfl) (pe_op op_cat (pv 2) (pv 5)))
        (pss_one (ps_set (i := 3) scStk.nd rfl (.inl rfl) (pv 5)))))))
      (pss_one (ps_ret (pv 2))))), ?_⟩
    refine ⟨(by show 0 ≤ sizeLine; decide), fun t1 ht1 => ⟨(by show 1 ≤ sizeLine; decide), fun F1 hF1 => ⟨(by show 0 ≤ sizeLine; decide), fun t2 ht2 => ⟨(by show 1 ≤ sizeLine; decide), fun L1 hL1 => ?_⟩⟩⟩⟩
    have q1 : Same H (upd H t1 (.tup [])) := Same.new ht1
    have k1 := upd_same (H := H) (a := t1) (o := .tup [])
    generalize upd H t1 (.tup []) = J1 at q1 k1 hF1 ht2 hL1 ⊢
    have f1 : H F1 = none := q1.free hF1
    have q2 : Same J1 (upd J1 F1 (.lst [.ref t1])) := Same.new hF1
    have k2 := upd_same (H := J1) (a := F1) (o := .lst [.ref t1])
    generalize upd J1 F1 (.lst [.ref t1]) = J2 at q2 k2 ht2 hL1 ⊢
    have q3 : Same J2 (upd J2 t2 (.tup [])) := Same.new ht2
    have k3 := upd_same (H := J2) (a := t2) (o := .tup [])
    generalize upd J2 t2 (.tup []) = J3 at q3 k3 hL1 ⊢
    have q4 : Same J3 (upd J3 L1 (.lst [.ref t2])) := Same.new hL1
    have k4 := upd_same (H := J3) (a := L1) (o := .lst [.ref t2])
    generalize upd J3 L1 (.lst [.ref t2]) = J4 at q4 k4 ⊢
    have s4 := ((q1.trans q2).trans q3).trans q4
    have w1 : ∀ {H2 : Hp} {t : Addr}, H2 t = some (.tup []) → WL K H2 [.ref t] 0 := fun {H2 t} e u m => ⟨t, [], List.mem_singleton.mp m, .of e, Nat.le_refl _, fun z m => (by cases m)⟩
    refine ⟨_, rfl, 2, rfl, by decide, by decide, for_range (lo := 0) (n := 2) (fun i σ H2 => ∃ (y4 y5 y6 : Option V) (F' L' : Addr) (fs ls : List V), σ = [some (.ref l), some (.int 2), some (.ref F'), some (.ref L'), y4, y5, y6, none] ∧ Same H H2 ∧ H F' = none ∧ H2 F' = some (.lst fs) ∧ fs ≠ [] ∧ WL K H2 fs i ∧ fs.length + 1 ≤ 2 ^ (i + 1) ∧ H2 L' = some (.lst ls) ∧ WL K H2 ls i ∧ ls.length ≤ 2 ^ i) ?_ ?_ ?_⟩
    · exact ⟨_, _, _, F1, L1, _, _, rfl, s4, f1, (q3.trans q4) _ _ k2, List.cons_ne_nil _ _, w1 (((q2.trans q3).trans q4) _ _ k1), Nat.le_refl _, k4, w1 (q4 _ _ k3), Nat.le_refl _⟩
    · rintro i σ H2 hi ⟨y4, y5, y6, F', L', fs, ls, rfl, s2, hF0, hF, nF, pF, lF, hLs, pL, lL⟩
      have p2 : 2 ^ i ≤ 2 := Nat.le_trans (Nat.pow_le_pow_right (by decide) (show i ≤ 1 by omega)) (by decide)
      refine ⟨(by show 0 ≤ sizeLine; decide), fun E1 hE1 => ?_⟩
      have r1 : Same H2 (upd H2 E1 (.lst [])) := Same.new hE1
      have e1 := upd_same (H := H2) (a := E1) (o := .lst [])
      generalize upd H2 E1 (.lst []) = H3 at r1 e1 ⊢
      refine ⟨_, rfl, L', rfl, ⟨_, .of (r1 _ _ hLs)⟩, for_list (K := K) (a := L') (xs := ls) (fun j σ H4 => ∃ (y6 : Option V) (E' : Addr) (us : List V), σ = [some (.ref l), some (.int 2), some (.ref F'), some (.ref L'), some (.int (0 + (i : Nat))), some (.ref E'), y6, none] ∧ Same H3 H4 ∧ H4 E' = some (.lst us) ∧ us.length ≤ 2 * j ∧ WL K H4 us (i + 1)) ⟨_, E1, [], rfl, Same.refl _, e1, Nat.zero_le _, fun u m => (by cases m)⟩ (fun j σ H4 _ z => ?_) ?_ ?_⟩
      · obtain ⟨_, _, _, _, s4, _⟩ := z
        exact .of (s4 _ _ (r1 _ _ hLs))
      · rintro j x σ H4 hx ⟨y6, E', us, rfl, s4, hU, lU, pU⟩
        have jl := (List.getElem?_eq_some_iff.mp hx).1
        obtain ⟨b, w0, rfl, hb, lb, ib⟩ := (WL.same pL (r1.trans s4) (Nat.le_refl _)) x (List.mem_of_getElem? hx)
        have s24 := (s2.trans r1).trans s4
        refine ⟨_, rfl, _, rfl, l, zs, rfl, .of (s24 _ _ hL), by omega, fun ys T hperm _ hT => ?_⟩
        have iy : ∀ z ∈ ys, Item z := fun z m => iz z (hperm.mem_iff.mp m)
        have ly : ys.length ≤ 2 := by rw [hperm.length_eq]; exact lz
        have sT : Same H4 (upd H4 T (.lst (ys.map V.str))) := Same.new hT
        have kT := upd_same (H := H4) (a := T) (o := .lst (ys.map V.str))
        generalize upd H4 T (.lst (ys.map V.str)) = H4' at sT kT ⊢
        refine ⟨T, rfl, ⟨_, .of kT⟩, fun D hD => lc_list (K := K) (a := T) (xs := ys.map V.str) (fun q H5 => ∃ vs, H5 D = some (.lst vs) ∧ vs.length ≤ q ∧ WL K H5 vs (i + 1) ∧ Same H4' H5) ⟨[], upd_same, Nat.le_refl _, fun u m => (by cases m), Same.new hD⟩ (fun q H5 _ ⟨_, _, _, _, z⟩ => .of (z _ _ kT)) ?_ ?_⟩
        · rintro q x H5 hx2 ⟨vs, h5, lv, p5, s5⟩
          rw [List.getElem?_map] at hx2
          obtain ⟨z, hz, rfl⟩ := Option.map_eq_some_iff.mp hx2
          have ql := (List.getElem?_eq_some_iff.mp hz).1
          refine ⟨rfl, ?_⟩
          unfold tYes
          dsimp only
          rw [if_pos rfl]
          refine ⟨_, rfl, _, rfl, (by show 1 ≤ sizeLine; decide), fun T2 hT2 => ?_⟩
          have s6 : Same H5 (upd H5 T2 (.tup [.str z])) := Same.new hT2
          have h6 := upd_same (H := H5) (a := T2) (o := .tup [.str z])
          generalize upd H5 T2 (.tup [.str z]) = H6 at s6 h6 ⊢
          refine ⟨b, T2, w0.map V.str, [.str z], rfl, rfl, Same.tup ((sT.trans s5).trans s6) hb, .of h6, by rw [List.length_map, sizeLine_eq]; simp only [List.length_singleton]; omega, fun u H7 s7 hu => ?_⟩
          have s57 := s6.trans s7
          have hD7 := s57 _ _ h5
          have bD : But D H7 (upd H7 D (.lst (vs ++ [.ref u]))) := But.at
          refine ⟨vs, hD7, by rw [sizeLine_eq]; omega, vs ++ [.ref u], upd_same, by rw [List.length_append]; show vs.length + 1 ≤ _; omega, ?_, Same.free2 (s5.trans s57) hD⟩
          refine WL.lb (WL.app (WL.same p5 s57 (Nat.le_refl _)) fun y m => ?_) hD7 bD
          refine ⟨u, w0 ++ [z], List.mem_singleton.mp m, by rw [List.map_append]; exact hu, by rw [List.length_append]; show w0.length + 1 ≤ _; omega, fun y my => ?_⟩
          rcases List.mem_append.mp my with c | c
          · exact ib y c
          · rw [List.mem_singleton.mp c]
            exact iy z (List.mem_of_getElem? hz)
        · rintro H5 ⟨vs, h5, lv, p5, s5⟩
          rw [List.length_map] at lv
          have s45 := sT.trans s5
          refine ⟨E', D, us, vs, rfl, rfl, s45 _ _ hU, h5, by rw [sizeLine_eq]; omega, fun p hp => ?_⟩
          have s6 : Same H5 (upd H5 p (.lst (us ++ vs))) := Same.new hp
          exact ⟨_, p, us ++ vs, rfl, (s4.trans s45).trans s6, upd_same, by rw [List.length_append]; omega, WL.app (WL.same pU (s45.trans s6) (Nat.le_refl _)) (WL.same p5 s6 (Nat.le_refl _))⟩
      · rintro σ H4 ⟨y6, E', us, rfl, s4, hU, lU, pU⟩
        have s24 := r1.trans s4
        have pp : 2 ^ (i + 1) = 2 ^ i * 2 := Nat.pow_succ 2 i
        have pq : 2 ^ (i + 1 + 1) = 2 ^ (i + 1) * 2 := Nat.pow_succ 2 (i + 1)
        refine ⟨_, rfl, _, rfl, F', E', fs, us, rfl, rfl, s24 _ _ hF, hU, by rw [sizeLine_eq]; omega, fun p hp => ⟨_, rfl, ?_⟩⟩
        have s6 : Same H4 (upd H4 p (.lst (fs ++ us))) := Same.new hp
        exact ⟨_, _, _, p, E', _, us, rfl, (s2.trans s24).trans s6, (s2.trans s24).free hp, upd_same, by simp [nF], WL.app (WL.same pF (s24.trans s6) (Nat.le_succ _)) (WL.same pU s6 (Nat.le_refl _)), by rw [List.length_append]; omega, s6 _ _ hU, WL.same pU s6 (Nat.le_refl _), by omega⟩
    · rintro σ H2 ⟨y4, y5, y6, F', L', fs, ls, rfl, s2, hF0, hF, nF, pF, lF, hLs, pL, lL⟩
      have p8 : (2 : Nat) ^ (2 + 1) = 8 := by decide
      exact ⟨_, rfl, k F' fs H2 s2 hF0 hF nF (by omega) pF⟩
end
end SE
namespace SE
open PySem PySem.Spec PyProof.Rows L2
/-! ### powers of words that begin alike -/
theorem mk_mem {b : Bool} {w r : List Str} {P : Str → Prop} : ((∀ z ∈ (mkP b w r).1, P z) ∧ ∀ z ∈ (mkP b w r).2, P z) ↔ ((∀ z ∈ w, P z) ∧ ∀ z ∈ r, P z) := by
  cases b
  · simp only [mkP, Bool.false_eq_true, if_false, List.mem_append]
    exact ⟨fun h => ⟨h.2, fun z m => h.1 z (.inr m)⟩, fun h => ⟨fun z m => m.elim (h.1 z) (h.2 z), h.1⟩⟩
  · simp only [mkP, if_true, List.mem_append]
    exact ⟨fun h => ⟨h.1, fun z m => h.2 z (.inr m)⟩, fun h => ⟨h.1, fun z m => m.elim (h.1 z) (h.2 z)⟩⟩
theorem mk_len {b : Bool} {w r : List Str} {n : Nat} : ((mkP b w r).1.length ≤ n ∧ (mkP b w r).2.length ≤ n) ↔ w.length + r.length ≤ n := by
  cases b <;> simp [mkP] <;> omega
theorem repW_mem {e : Nat} {d : List Str} {z : Str} (m : z ∈ repW e d) : z ∈ d := by
  unfold repW at m
  obtain ⟨l, h1, h2⟩ := List.mem_flatten.mp m
  rw [(List.mem_replicate.mp h1).2] at h2
  exact h2
theorem mem_repW {e : Nat} {d : List Str} {z : Str} (he : 0 < e) (m : z ∈ d) : z ∈ repW e d := by
  obtain ⟨n, rfl⟩ : ∃ n, e = n + 1 := ⟨e - 1, by omega⟩
  rw [repW_succ]
  exact List.mem_append.mpr (.inl m)
theorem lp_mk (b : Bool) (w r : List Str) : lp (mkP b w r).1 (mkP b w r).2 = if b = true then (r.length : Int) else 0 := by
  cases b
  · simp only [mkP, lp, Bool.false_eq_true, if_false, List.length_append]
    rw [if_neg (by omega)]
  · simp only [mkP, lp, if_true, List.length_append]
    split <;> omega
theorem pk_mk (b : Bool) (w d : List Str) (p : Int) (n : Nat) : pkM (some ((mkP b w d).1, (mkP b w d).2, p)) (n + 1) = p + (if b = true then (d.length : Int) else 0) * (n : Int) := by
  show p + (if ((mkP b w d).2.length : Int) - ((mkP b w d).1.length : Int) > 0 then ((mkP b w d).2.length : Int) - ((mkP b w d).1.length : Int) else 0) * (n : Int) = _
  have e := lp_mk b w d
  unfold lp at e
  rw [e]
theorem rw_small {o : Eff} (n : Nat) (h : EffOk o) : RSm (rwM o n) := by
  intro A B e
  cases n with
  | zero =>
    rw [show rwM o 0 = some (([], [], 0), ([], [], 0)) by cases o <;> rfl] at e
    cases e
    exact ⟨by decide, by decide, by decide, by decide⟩
  | succ n =>
    cases o with
    | none => cases e
    | some o =>
      obtain ⟨x, y, p⟩ := o
      obtain ⟨_, _, l1, l2, _, _⟩ := h
      cases n with
      | zero =>
        cases e
        refine ⟨?_, Nat.zero_le _, ?_, Nat.zero_le _⟩
        · show x.length ≤ _
          omega
        · show y.length ≤ _
          omega
      | succ n =>
        rw [rw_two] at e
        cases hs : swM x y with
        | none => rw [hs] at e; cases e
        | some w =>
          rw [hs] at e
          obtain ⟨h1, h2⟩ := swM_sub hs
          cases e
          refine ⟨?_, ?_, ?_, ?_⟩
          · show w.length ≤ _
            omega
          · show (x.drop w.length).length ≤ _
            rw [List.length_drop]
            omega
          · show w.length ≤ _
            omega
          · show (y.drop w.length).length ≤ _
            rw [List.length_drop]
            omega
/-- the power of an effect whose words begin alike -/
theorem pow_mk {b : Bool} {w d : List Str} {p : Int} {e : Nat} (he : 0 < e) (hw : ∀ z ∈ w, Item z) (hd : ∀ z ∈ d, Item z) (hl : w.length + e * d.length ≤ 1000) (hp : lp (mkP b w d).1 (mkP b w d).2 ≤ p) :
    powE (rwM (some ((mkP b w d).1, (mkP b w d).2, p)) e) (pkM (some ((mkP b w d).1, (mkP b w d).2, p)) e) = some ((mkP b w (repW e d)).1, (mkP b w (repW e d)).2, pkM (some ((mkP b w d).1, (mkP b w d).2, p)) e) ∧
    RGood (rwM (some ((mkP b w d).1, (mkP b w d).2, p)) e) (pkM (some ((mkP b w d).1, (mkP b w d).2, p)) e) ∧
    lp (mkP b w (repW e d)).1 (mkP b w (repW e d)).2 ≤ pkM (some ((mkP b w d).1, (mkP b w d).2, p)) e ∧ pkM (some ((mkP b w d).1, (mkP b w d).2, p)) e ≤ p + 1000 := by
  obtain ⟨n, rfl⟩ : ∃ n, e = n + 1 := ⟨e - 1, by omega⟩
  obtain ⟨A, B, h1, h2⟩ := rw_mk b w d p n
  have e1 : repM A = (mkP b w (repW (n + 1) d)).1 := congrArg Prod.fst h2
  have e2 : repM B = (mkP b w (repW (n + 1) d)).2 := congrArg Prod.snd h2
  have hm := (mk_mem (b := b) (w := w) (r := repW (n + 1) d) (P := Item)).mpr ⟨hw, fun z m => hd z (repW_mem m)⟩
  have hz := (mk_len (b := b) (w := w) (r := repW (n + 1) d) (n := 1000)).mpr (by rw [repW_len]; exact hl)
  have hk : lp (mkP b w (repW (n + 1) d)).1 (mkP b w (repW (n + 1) d)).2 ≤ pkM (some ((mkP b w d).1, (mkP b w d).2, p)) (n + 1) ∧ pkM (some ((mkP b w d).1, (mkP b w d).2, p)) (n + 1) ≤ p + 1000 := by
    rw [lp_mk, pk_mk]
    rw [lp_mk] at hp
    cases b with
    | false => simp only [Bool.false_eq_true, if_false, Int.zero_mul, Int.add_zero] at hp ⊢; omega
    | true =>
      simp only [if_true] at hp ⊢
      rw [repW_len]
      have x1 : (((n + 1) * d.length : Nat) : Int) = (d.length : Int) * (n : Int) + (d.length : Int) := by
        rw [Nat.succ_mul, Int.natCast_add, Int.natCast_mul, Int.mul_comm]
      have x2 : (((n + 1) * d.length : Nat) : Int) ≤ 1000 := by omega
      rw [x1] at x2 ⊢
      omega
  refine ⟨?_, fun A' B' z => ?_, hk⟩
  · rw [h1]
    show some (repM A, repM B, _) = _
    rw [e1, e2]
  · rw [h1] at z
    cases z
    rw [e1, e2]
    exact ⟨hm.1, hm.2, hz.1, hz.2, hk.1⟩
/-- a root, as an effect -/
theorem root_ok {xs ys : List Str} {p : Int} {q : Nat × (List Str × List Str)} (ok : EffOk (some (xs, ys, p))) (hn : xs ≠ ys) (m : q ∈ rtsM xs ys) :
    EffOk (some (q.2.1, q.2.2, lp q.2.1 q.2.2)) ∧ 2 ≤ q.1 ∧ q.1 ≤ 1000 ∧ RGood (rwM (some (q.2.1, q.2.2, lp q.2.1 q.2.2)) q.1) (pkM (some (q.2.1, q.2.2, lp q.2.1 q.2.2)) q.1) ∧ ∃ pk, powE (rwM (some (q.2.1, q.2.2, lp q.2.1 q.2.2)) q.1) (pkM (some (q.2.1, q.2.2, lp q.2.1 q.2.2)) q.1) = some (xs, ys, pk) := by
  obtain ⟨h2, b, w, d, h3, h4, h5⟩ := rts_root hn m
  obtain ⟨i1, i2, l1, l2, _, _⟩ := ok
  have x1 : xs = (mkP b w (repW q.1 d)).1 := congrArg Prod.fst h4
  have x2 : ys = (mkP b w (repW q.1 d)).2 := congrArg Prod.snd h4
  rw [x1] at i1 l1
  rw [x2] at i2 l2
  obtain ⟨iw, ir⟩ := mk_mem.mp ⟨i1, i2⟩
  have id : ∀ z ∈ d, Item z := fun z m => ir z (mem_repW (by omega) m)
  have hl := mk_len.mp ⟨l1, l2⟩
  rw [repW_len] at hl
  have dp : 0 < d.length := List.length_pos_iff.mpr h5
  have y1 : 1 * d.length ≤ q.1 * d.length := Nat.mul_le_mul_right _ (by omega)
  have y2 : q.1 * 1 ≤ q.1 * d.length := Nat.mul_le_mul_left _ dp
  obtain ⟨g1, g2, g3, g4⟩ := pow_mk (b := b) (by omega : 0 < q.1) iw id hl (Int.le_refl _)
  obtain ⟨j1, j2⟩ := (mk_mem (b := b)).mpr ⟨iw, id⟩
  obtain ⟨k1, k2⟩ := (mk_len (b := b) (n := 1000)).mpr (show w.length + d.length ≤ 1000 by omega)
  rw [h3]
  refine ⟨⟨j1, j2, k1, k2, ?_, ?_⟩, h2, by omega, g2, _, by rw [g1, x1, x2]⟩
  · rw [lp_mk]
    split <;> omega
  · rw [lp_mk]
    split <;> omega
end SE
/-! Dicts: a comprehension over any walk; a value that is locked for good. -/
namespace SE
open PySem PySem.Spec PyProof.Rows L2
section
variable {J : It} {n : Nat} {G : Hp → Prop} {Y : Nat → Hp → V → Hp → Prop}
theorem dc_it (w : Walk J n G Y) {g : TG} {tt : TT} {tk tv : TE} {vs : List Nat} {σ : L2.St} {H1 : Hp} {D : Addr} {Qd : Hp → Prop} (Pv : Nat → Hp → Prop) (h0 : Pv 0 (upd H1 D (.dK []))) (hG : ∀ i H, i ≤ n → Pv i H → G H)
    (hs : ∀ i x H H', i < n → Pv i H → Y i H x H' → g x (wipe σ vs) H' fun σ2 H2 => wipe σ2 vs = wipe σ vs ∧ tt σ2 H2 fun b H3 =>
      if b = true then tk σ2 H3 fun y H4 => tv σ2 H4 fun z H5 => ∃ kvs k, y = kV k ∧ H5 D = some (.dK kvs) ∧ kvs.length < sizeLine ∧ Pv (i + 1) (upd H5 D (.dK (putK kvs k z))) else Pv (i + 1) H3) (hd : ∀ H, Pv n H → Qd H) :
    ∃ W : Nat → Nat → Hp → Prop, (∃ m, W 0 m (upd H1 D (.dK []))) ∧ ∀ i m H, W i m H →
      (J.stop i H ∧ Qd H) ∨ (J.go i H ∧ ∃ Nx : Hp → Prop, (∀ H', Nx H' → ∃ m', m' < m ∧ W (i + 1) m' H') ∧ ∀ x H', J.yld i H x H' → g x (wipe σ vs) H' fun σ2 H2 => wipe σ2 vs = wipe σ vs ∧ tt σ2 H2 fun b H3 =>
        if b = true then tk σ2 H3 fun y H4 => tv σ2 H4 fun z H5 => ∃ kvs k, y = kV k ∧ H5 D = some (.dK kvs) ∧ kvs.length < sizeLine ∧ Nx (upd H5 D (.dK (putK kvs k z))) else Nx H3) := by
  refine ⟨fun i m H => m = n - i ∧ i ≤ n ∧ Pv i H, ⟨n, by simp, Nat.zero_le _, h0⟩, ?_⟩
  rintro i m H ⟨rfl, hi, p⟩
  have q := hG i H hi p
  by_cases hlt : i < n
  · exact .inr ⟨w.goes i H hlt q, Pv (i + 1), fun H' p' => ⟨n - (i + 1), by omega, rfl, hlt, p'⟩, fun x H' y => hs i x H H' hlt p (w.yields i H x H' hlt q y)⟩
  · have e : i = n := by omega
    subst e
    exact .inl ⟨w.stops H q, hd H p⟩
end
/-- the value of e, from now on locked -/
def tFrz (te : TE) : TE := fun σ H Q => te σ H fun x H1 => ∃ d u, x = .ref d ∧ H1 d = some u ∧ Mut (some u) ∧ ∀ od, Q x (upd H1 d (.frz od u))
section
variable {X : Cx}
theorem pe_frz {e : Expr} {te : TE} (h : PE X e te) : PE X e (tFrz te) := by
  refine ⟨fun pins s σ H Q I hw => thn (h.run pins s σ H _ I hw) fun v s1 ⟨x, H1, I1, r, d, u, ex, hd, mu, q⟩ => ?_⟩
  obtain ⟨od, I2⟩ := I1.lock hd mu
  exact ⟨x, _, I2, r, q od⟩
end
/-! ### name = {.. for ..} on one line -/
section
variable {X : Cx}
theorem ps_setDc {i : Nat} {y : Str} {yp : Pos} {kx vx tgt itx : Expr} {cs : List Expr} {sco : Scope} {ow : List (Str × Nat)} {dp sp : Pos} {wi : TI} {g : TG} {tt : TT} {tk tv : TE} (calm : X.calm = true) (nod : X.N.Nodup) (hy : X.N[i]? = some y) (loc : X.env.scope.names.lookup y = some .local)
    (sw : swapsWith (.DictComp kx vx [⟨tgt, itx, cs, 0⟩] sco dp) (some (.Name y yp)) sp.line X.env = pure true) (hi : PI X tgt itx wi) (ok : BlkOk X.N X.env.scope sco ow)
    (hg : ∀ (s : Shared) (H : Hp) (U : Addr) (cl : List (Str × Addr)) (fp : List Addr), PG (X.blk s H sco (compEnvC sco cl U X.env) fp) tgt g) (ht : ∀ (s : Shared) (H : Hp) (U : Addr) (cl : List (Str × Addr)) (fp : List Addr), PTs (X.blk s H sco (compEnvC sco cl U X.env) fp) cs tt)
    (hk : ∀ (s : Shared) (H : Hp) (U : Addr) (cl : List (Str × Addr)) (fp : List Addr), PE (X.blk s H sco (compEnvC sco cl U X.env) fp) kx tk)
    (hv : ∀ (s : Shared) (H : Hp) (U : Addr) (cl : List (Str × Addr)) (fp : List Addr), PE (X.blk s H sco (compEnvC sco cl U X.env) fp) vx tv) (fold : ∀ x, foldedSetIterable itx X.env x = pure x := by intro _; rfl) :
    PS X (.Assign [.Name y yp] (.DictComp kx vx [⟨tgt, itx, cs, 0⟩] sco dp) sp) (tAsg (tDc wi g tt tk tv (ow.map (·.2))) (gName i)) := by
  constructor
  intro pins s σ H Dn I q
  rw [exec_Assign_Name_used _ _ _ _ sw]
  refine wpAny_bind (wpAny_standAt (wpAny_bind ?_))
  show wpAny _ X.A (do let _ ← comprehension (.DictComp kx vx [⟨tgt, itx, cs, 0⟩] sco dp) sco X.env (firstIterPos [⟨tgt, itx, cs, 0⟩] dp) newDict false (eval itx X.env) (some (assign (.Name y yp) X.env))) _ _ s
  have q : tDc wi g tt tk tv (ow.map (·.2)) σ H (fun x H1 => gName i x σ H1 Dn.nx) := q
  refine wpAny_bind (thn (dc_core (Qf := fun _ s' => SP X pins Dn .next s') calm nod I hi ok hg ht hk hv fold q fun L U s' m H' J r nm fp => ?_) fun _ s' z => wpAny_pure (wpAny_pure z))
  show wpAny _ _ (assign (.Name y yp) X.env (.ref L)) _ _ _
  obtain ⟨p0, p1, p2, p3, p4, p5⟩ := fp
  refine wpAny_assign_Name (store_ok2 (v := V.ref L) J nod hy (.inl loc) rfl (fun s2 J2 ⟨a, same, wh⟩ => ?_) (.inr loc))
  have ne : U ≠ a := by
    rcases wh with z | z
    · rw [z]; exact p1
    · exact fun e => p4 y a z e.symm
  refine ⟨m, nm.sameBut same ne, fun h3 z3 => ⟨_, H', J2.turned (t' := s2.toks) (fun b o hb e => (z3.2 b hb).trans e) p0 p1 p3 p4 p5, r⟩⟩
theorem swd_true {kx vx : Expr} {gs : List Comprehension} {sco : Scope} {dp yp : Pos} {y : Str} {l : Nat} {env : Env} (fn : env.scope.kind = .function) (loc : env.scope.names.lookup y = some .local) (ln : (yp.line == dp.line) = true)
    (own : (sco.names.any fun (n, k) => n == y && (k == .local || k == .cell)) = false) : swapsWith (.DictComp kx vx gs sco dp) (some (.Name y yp)) l env = pure true := by
  have k1 : env.kindOf y = some .local := loc
  have k2 : env.blockKind = .function := by unfold Env.blockKind; rw [fn]; rfl
  unfold swapsWith
  simp only [k2, k1, own, Expr.pos, ln]
  rfl
end
end SE
/-! == and != of two dicts (locked) whose values are compared by whatever ==, where all are equal. -/
namespace SE
open PySem PySem.Spec PyProof.Rows PyProof.V PySem.Calls L2
section
variable {prog : Program} {w : World} {κ : Type} [DecidableEq κ] {knd : KeyKind prog w κ} {A : Around} {E : Value → Shared → Prop}
open PySem.W
theorem find_toList (q : κ → Value → Bool) (k : κ) (es : Array DictEntry) : findBy q es k = (es.toList.find? fun e => q k e.key).map (·.val) := by
  obtain ⟨l⟩ := es
  simp [findBy]
theorem samePairsG {nm : String} {a b : Addr} {oa ob : Obj} {n : Nat} {Q : Bool → Shared → Prop} (ha : (a == sysModules) = false) (hb : (b == sysModules) = false) (I : Nat → Shared → Prop)
    (hI : ∀ i s, I i s → s.heap.get? a = some oa ∧ s.heap.get? b = some ob ∧ ∃ ka kb : List (κ × Value), s.heap.DictOf knd a ka ∧ s.heap.DictOf knd b kb ∧ ka.length = n ∧ kb.length = n ∧
      ∀ k v, ka[i]? = some (k, v) → ∃ y, valueAt kb k = some y ∧ wpAny (model prog w) A (eqBool v y) (fun r s' => r = true ∧ I (i + 1) s') E s)
    (fin : ∀ s, I n s → Q true s) {s : Shared} (h : I 0 s) : wpAny (model prog w) A (Builtin.Dict.samePairs nm a b) Q E s := by
  obtain ⟨ga, gb, ka, kb, da, db, la, lb, _⟩ := hI _ _ h
  obtain ⟨oa', es, ep, hoa, ca, hda, hka, hpa, _⟩ := id da
  obtain ⟨ob', es', ep', hob, cb, hdb, hkb, hpb, _⟩ := id db
  rw [ga] at hoa
  rw [gb] at hob
  obtain rfl := Option.some.inj hoa
  obtain rfl := Option.some.inj hob
  have hla : ka.length = es.size := by rw [← hpa.length]; exact Array.length_toList
  have hlb : kb.length = es'.size := by rw [← hpb.length]; exact Array.length_toList
  have hsz : es.size = es'.size := by omega
  unfold Builtin.Dict.samePairs Builtin.Dict.showsAll
  rw [if_neg (show ¬ (a == sysModules) = true by rw [ha]; exact Bool.false_ne_true), if_neg (show ¬ (b == sysModules) = true by rw [hb]; exact Bool.false_ne_true)]
  refine wpAny_bind (wpAny_pure (wpAny_bind (wpAny_pure ?_)))
  refine wpAny_bind (wpAny_dictEntries ga hda ?_)
  dsimp only
  refine wpAny_bind (wpAny_dictEntries gb hdb ?_)
  rw [if_neg (by rw [hsz]; simp)]
  refine wpAny_bind (wpAny_dictEpoch ga hda ?_)
  refine wpAny_bind ?_
  rw [Std.Legacy.Range.forIn_eq_forIn_range']
  simp only [Std.Legacy.Range.size, Nat.sub_zero, Nat.add_sub_cancel, Nat.div_one]
  refine wpAny_forIn_list _
    (fun rest q s' => q = (none, ()) ∧ ∃ i, rest = List.range' i (es.size - i) ∧ i ≤ es.size ∧ I i s')
    _ ?_ ?_ _ _ ⟨rfl, 0, by simp, Nat.zero_le _, h⟩
  · rintro x rest q s' ⟨rfl, i, hr, hi, hpre⟩
    have hlt : i < es.size := by
      rcases Nat.lt_or_ge i es.size with h | h
      · exact h
      · rw [Nat.sub_eq_zero_of_le h] at hr; simp at hr
    obtain ⟨rfl, hrest⟩ : x = i ∧ rest = List.range' (i + 1) (es.size - (i + 1)) := by
      have e : es.size - i = (es.size - (i + 1)) + 1 := by omega
      rw [e, List.range'_succ] at hr
      injection hr with h1 h2
      exact ⟨h1, h2⟩
    obtain ⟨ga, gb, ka, kb, da, db, la, lb, turn⟩ := hI _ _ hpre
    obtain ⟨oa', es1, ep1, hoa, _, hda1, hka, hpa, _⟩ := id da
    obtain ⟨ob', es1', ep1', hob, _, hdb1, hkb, hpb, _⟩ := id db
    rw [ga] at hoa
    rw [gb] at hob
    obtain rfl := Option.some.inj hoa
    obtain rfl := Option.some.inj hob
    rw [hda] at hda1
    rw [hdb] at hdb1
    injection hda1 with e1 e2
    injection hdb1 with e3 e4
    subst e1 e2 e3 e4
    have hla : ka.length = es.size := by rw [← hpa.length]; exact Array.length_toList
    have hfind : ∀ k, findBy knd.is es' k = valueAt kb k := fun k => by
      rw [← hpb.find k]
      exact find_toList knd.is k es'
    refine wpAny_bind (wpAny_dictEntries ga hda ?_)
    rw [Array.getElem?_eq_getElem hlt]
    have hlt' : x < ka.length := by rw [hla]; exact hlt
    obtain ⟨k, v, hkv⟩ : ∃ k v, ka[x] = (k, v) := ⟨_, _, rfl⟩
    obtain ⟨hkey, hval⟩ := hpa.get? (i := x) (e := es[x]) (k := k) (v := v) (by rw [Array.getElem?_toList]; exact Array.getElem?_eq_getElem hlt) (by rw [List.getElem?_eq_getElem hlt', hkv])
    obtain ⟨k', hk', hh⟩ := hka es[x] (Array.getElem_mem hlt)
    have ekk : k' = k := knd.inj _ _ _ hk' hkey
    rw [ekk] at hh
    obtain ⟨y, hy, run⟩ := turn k v (by rw [List.getElem?_eq_getElem hlt', hkv])
    show wpAny _ _ (holding [es[x].key, es[x].val] _ >>= _) _ _ _
    rw [hh]
    refine wpAny_bind (wpAny_holding (wpAny_bind (wpAny_dictFind_of hkey gb hdb hkb ?_)))
    cases hj : es'.findIdx? fun e => knd.is k e.key with
    | none =>
      have hn : valueAt kb k = none := by rw [← hfind k, findBy_of_findIdx?, hj]
      rw [hn] at hy
      exact nomatch hy
    | some j =>
      obtain ⟨hjlt, _, _⟩ := Array.findIdx?_eq_some_iff_getElem.mp hj
      have hv' : valueAt kb k = some es'[j].val := by
        rw [← hfind k, findBy_of_findIdx?, hj]
        simp [Array.getElem?_eq_getElem hjlt]
      refine wpAny_bind (wpAny_dictEntries gb hdb ?_)
      rw [Array.getElem?_eq_getElem hjlt]
      have ey : es'[j].val = y := Option.some.inj (hv'.symm.trans hy)
      rw [← ey, ← hval] at run
      refine wpAny_holding (wpAny_mono run (fun r s2 z => ?_) fun _ _ z => z)
      obtain ⟨rfl, I2⟩ := z
      show wpAny _ _ (if (!true) = true then _ else _) _ _ _
      rw [if_neg (by decide)]
      have ga2 := (hI _ _ I2).1
      refine wpAny_bind (wpAny_dictEpoch ga2 hda ?_)
      rw [if_neg (by simp)]
      exact wpAny_pure ⟨rfl, x + 1, hrest, hlt, I2⟩
  · rintro q s' ⟨rfl, i, hr, hi, hpre⟩
    have hin : i = es.size := by
      rcases Nat.lt_or_ge i es.size with h | h
      · have e : es.size - i = (es.size - (i + 1)) + 1 := by omega
        rw [e, List.range'_succ] at hr; exact nomatch hr
      · exact Nat.le_antisymm hi h
    refine wpAny_pure (fin _ ?_)
    rw [← la, hla, ← hin]
    exact hpre
theorem eq_dictG {a b : Addr} {oa ob : Obj} {n : Nat} {Q : Value → Shared → Prop} (ha : (a == sysModules) = false) (hb : (b == sysModules) = false) (hu : A.units < cLine) (I : Nat → Shared → Prop)
    (hI : ∀ i s, I i s → s.heap.get? a = some oa ∧ s.heap.get? b = some ob ∧ ∃ ka kb : List (κ × Value), s.heap.DictOf knd a ka ∧ s.heap.DictOf knd b kb ∧ ka.length = n ∧ kb.length = n ∧
      ∀ k v, ka[i]? = some (k, v) → ∃ y, valueAt kb k = some y ∧ wpAny (model prog w) A.in1 (eqBool v y) (fun r s' => r = true ∧ I (i + 1) s') E s)
    (fin : ∀ s, I n s → Q (.bool true) s) {s : Shared} (h : I 0 s) : wpAny (model prog w) A (richCompare .Eq (.ref a) (.ref b)) Q E s := by
  obtain ⟨ga, gb, ka, kb, da, db, la, lb, _⟩ := hI _ _ h
  refine wpAny_richCompare_same_room (op := .Eq) da.typeIs db.typeIs PySem.F.slot_dict_eq (wpAny_call_entry PySem.F.slot_dict_eq da.typeIs PySem.F.entry_dict_eq ?_ (PySem.F.args_dict_eq_2 _ _)) hu
  show wpAny _ _ (Builtin.Dict.dictSlotArgs "__eq__" ⟨[.ref a, .ref b], []⟩ >>= _) _ _ s
  refine wpAny_bind ?_
  unfold Builtin.Dict.dictSlotArgs
  refine wpAny_bind (wpAny_notOrdered_dict da.typeIs ?_)
  show wpAny _ _ (pure (Value.ref a, Value.ref b)) _ _ s
  refine wpAny_pure ?_
  refine wpAny_bind (wpAny_isInstance (T := "dict") db.typeIs PySem.F.sub_dict_dict ?_)
  simp only [Bool.not_true, Bool.false_eq_true, if_false]
  refine wpAny_bind (wpAny_pure (wpAny_bind (wpAny_pure ?_)))
  refine wpAny_bind (samePairsG ha hb I hI (fun s' q => ?_) h)
  refine wpAny_pure ⟨_, rfl, ?_, ?_⟩
  · exact fun x => nomatch x
  · simpa using fin s' q
theorem ne_dictG {a b : Addr} {oa ob : Obj} {n : Nat} {Q : Value → Shared → Prop} (ha : (a == sysModules) = false) (hb : (b == sysModules) = false) (hu : A.units < cLine) (I : Nat → Shared → Prop)
    (hI : ∀ i s, I i s → s.heap.get? a = some oa ∧ s.heap.get? b = some ob ∧ ∃ ka kb : List (κ × Value), s.heap.DictOf knd a ka ∧ s.heap.DictOf knd b kb ∧ ka.length = n ∧ kb.length = n ∧
      ∀ k v, ka[i]? = some (k, v) → ∃ y, valueAt kb k = some y ∧ wpAny (model prog w) A.in1 (eqBool v y) (fun r s' => r = true ∧ I (i + 1) s') E s)
    (fin : ∀ s, I n s → Q (.bool false) s) {s : Shared} (h : I 0 s) : wpAny (model prog w) A (richCompare .NotEq (.ref a) (.ref b)) Q E s := by
  obtain ⟨ga, gb, ka, kb, da, db, la, lb, _⟩ := hI _ _ h
  refine wpAny_richCompare_same_room (op := .NotEq) da.typeIs db.typeIs PySem.F.slot_dict_ne (wpAny_call_entry PySem.F.slot_dict_ne da.typeIs PySem.F.entry_dict_ne ?_ (PySem.F.args_dict_ne_2 _ _)) hu
  show wpAny _ _ (Builtin.Dict.dictSlotArgs "__ne__" ⟨[.ref a, .ref b], []⟩ >>= _) _ _ s
  refine wpAny_bind ?_
  unfold Builtin.Dict.dictSlotArgs
  refine wpAny_bind (wpAny_notOrdered_dict da.typeIs ?_)
  show wpAny _ _ (pure (Value.ref a, Value.ref b)) _ _ s
  refine wpAny_pure ?_
  refine wpAny_bind (wpAny_isInstance (T := "dict") db.typeIs PySem.F.sub_dict_dict ?_)
  simp only [Bool.not_true, Bool.false_eq_true, if_false]
  refine wpAny_bind (wpAny_pure (wpAny_bind (wpAny_pure ?_)))
  refine wpAny_bind (samePairsG ha hb I hI (fun s' q => ?_) h)
  refine wpAny_pure ⟨_, rfl, ?_, ?_⟩
  · exact fun x => nomatch x
  · simpa using fin s' q
end
/-! ### by the abstract heap -/
theorem paired_get {α β : Type} {R : α → β → Prop} : ∀ {xs : List α} {ys : List β}, Paired R xs ys → ∀ {i : Nat} {x : α}, xs[i]? = some x → ∃ y, ys[i]? = some y ∧ R x y
  | _, _, .nil, i, x, h => by simp at h
  | _, _, .cons (a := a) (b := b) r t, i, x, h => by
    cases i with
    | zero =>
      simp at h
      subst h
      exact ⟨b, rfl, r⟩
    | succ i =>
      simp at h
      obtain ⟨y, h1, h2⟩ := paired_get t h
      exact ⟨y, by simpa using h1, h2⟩
def DDict (D : Eqv) : Eqv := fun x y H => ∃ a b oa ob ks ls, x = .ref a ∧ y = .ref b ∧ H a = some (.frz oa (.dK ks)) ∧ H b = some (.frz ob (.dK ls)) ∧ ks.length = ls.length ∧ ∀ p ∈ ks, ∃ y, valV ls p.1 = some y ∧ D p.2 y H
theorem mon_dict {D : Eqv} (hD : Mon D) : Mon (DDict D) := fun x y H H' e d => by
  obtain ⟨a, b, oa, ob, ks, ls, hx, hy, h1, h2, hl, p⟩ := d
  exact ⟨a, b, oa, ob, ks, ls, hx, hy, e _ _ h1, e _ _ h2, hl, fun q m => let ⟨y, h3, h4⟩ := p q m; ⟨y, h3, hD _ _ _ _ e h4⟩⟩
section
variable {X : Cx} {n : Nat} {D : Eqv}
theorem dict_turn (hD : Mon D) (h : EqG X n D) {A : Around} (sb : Sub X (n + 1) A) {pins : List (Addr × Obj)} {σ : L2.St} {H : Hp} {a b : Addr} {oa ob : Obj} {ks ls : List (Key × V)} (h1 : H a = some (.frz oa (.dK ks))) (h2 : H b = some (.frz ob (.dK ls))) (hl : ks.length = ls.length)
    (p : ∀ q ∈ ks, ∃ y, valV ls q.1 = some y ∧ D q.2 y H) (i : Nat) (s' : Shared) (l : LoopI X pins σ H s') :
    s'.heap.get? a = some oa ∧ s'.heap.get? b = some ob ∧ ∃ ka kb : List (Key × Value), s'.heap.DictOf (mixKind X.prog X.w) a ka ∧ s'.heap.DictOf (mixKind X.prog X.w) b kb ∧ ka.length = ks.length ∧ kb.length = ks.length ∧
      ∀ k v, ka[i]? = some (k, v) → ∃ y, valueAt kb k = some y ∧ wpAny (model X.prog X.w) A.in1 (eqBool v y) (fun r s2 => r = true ∧ LoopI X pins σ H s2) X.xe s' := by
  obtain ⟨H1, I1, e1⟩ := l
  obtain ⟨g1, z1, y1, va, ra, da⟩ := (show ObjOk X.prog X.w H1 s'.heap a (.frz oa (.dK ks)) from I1.hok a _ (e1 _ _ h1))
  obtain ⟨g2, z2, y2, vb, rb, db⟩ := (show ObjOk X.prog X.w H1 s'.heap b (.frz ob (.dK ls)) from I1.hok b _ (e1 _ _ h2))
  refine ⟨g1, g2, va, vb, da, db, ra.length.symm, by rw [← rb.length, hl], fun k v e => ?_⟩
  have li : i < ks.length := by
    rw [ra.length]
    exact (List.getElem?_eq_some_iff.mp e).1
  obtain ⟨q, hq, rq⟩ : ∃ q, ks[i]? = some q ∧ (q.1 = k ∧ RelV q.2 v) := by
    obtain ⟨q', hq', r'⟩ := paired_get ra (List.getElem?_eq_getElem li)
    rw [e] at hq'
    cases hq'
    exact ⟨_, List.getElem?_eq_getElem li, r'⟩
  obtain ⟨rfl, rv⟩ := rq
  obtain ⟨y, hy, d⟩ := p q (List.mem_of_getElem? hq)
  have ro := rb.val q.1
  rw [hy] at ro
  cases hv : valueAt vb q.1 with
  | none =>
    rw [hv] at ro
    exact ro.elim
  | some y' =>
    rw [hv] at ro
    refine ⟨y', rfl, wpAny_mono (h A.in1 pins s' σ H1 _ _ _ _ sb.in1 I1 rv ro (hD _ _ _ _ e1 d)) (fun r s2 z => ?_) fun _ _ z => z⟩
    obtain ⟨hr, H2, I2, e2⟩ := z
    exact ⟨hr, H2, I2, e1.trans e2⟩
theorem dict_sys {pins : List (Addr × Obj)} {σ : L2.St} {H : Hp} {s : Shared} {a : Addr} {oa : Obj} {ks : List (Key × V)} (I : Inv X pins σ H s) (h1 : H a = some (.frz oa (.dK ks))) : (a == sysModules) = false :=
  (show ObjOk X.prog X.w H s.heap a (.frz oa (.dK ks)) from I.hok a _ h1).2.2.1
theorem rcG_dict (hD : Mon D) (h : EqG X n D) : RcG X (n + 1) (DDict D) := by
  intro A pins s σ H x y u v sb I rx ry d
  obtain ⟨a, b, oa, ob, ks, ls, rfl, rfl, ha, hb, hl, p⟩ := d
  cases rx
  cases ry
  exact eq_dictG (knd := mixKind X.prog X.w) (dict_sys I ha) (dict_sys I hb) sb.room.units0 (fun _ s' => LoopI X pins σ H s') (fun i s' q => dict_turn hD h sb ha hb hl p i s' q) (fun s' q => ⟨rfl, q⟩) ⟨H, I, Ext.rfl'⟩
theorem eqG_dict (hD : Mon D) (h : EqG X n D) : EqG X (n + 1) (DDict D) := (rcG_dict hD h).eqG fun _ _ _ d => let ⟨a, b, _, _, _, _, hx, hy, _⟩ := d; ⟨a, b, hx, hy⟩
/-- x != y, where they are equal -/
def rNeG (D : Eqv) : R2 := fun x y H Q => D x y H ∧ ∀ H', Ext H H' → Q (.bl false) H'
theorem op_neDict (hD : Mon D) (h : EqG X n D) (hr : Room (n + 1) X.A) : OpR X (compareOp .NotEq) (rNeG (DDict D)) := by
  intro pins s σ H x y v u Q I rx ry hq
  obtain ⟨⟨a, b, oa, ob, ks, ls, rfl, rfl, ha, hb, hl, p⟩, q⟩ := hq
  cases rx
  cases ry
  show wpAny (model X.prog X.w) X.A (richCompare .NotEq (.ref a) (.ref b)) (EP X pins σ Q) X.xe s
  refine ne_dictG (knd := mixKind X.prog X.w) (dict_sys I ha) (dict_sys I hb) hr.units0 (fun _ s' => LoopI X pins σ H s') (fun i s' z => dict_turn hD h ⟨hr, rfl⟩ ha hb hl p i s' z) (fun s' z => ?_) ⟨H, I, Ext.rfl'⟩
  obtain ⟨H', I', e⟩ := z
  exact ⟨.bl false, H', I', rfl, q H' e⟩
end
end SE
/-! own ==, != with whatever stands beside on the right. -/
namespace SE
open PySem PySem.Spec PyProof.Rows L2
section
variable {prog : Program} {w : World} {A : Around} {E : Value → Shared → Prop} {s : Shared} {K : PySem.W.Frag} {x C f : Addr} {ox : Obj} {od : Option Obj} {b tb : Value} {Q : Value → Shared → Prop}
theorem ne_any (hu : A.units + 1 < cLine) (X : K.In s.heap) (I : PySem.W.InstAt s.heap x ox C od) (hb : PySem.W.Looks (model prog w) s.heap (typeOf b) tb) (hnf : PySem.W.notFirst K C tb = true) (hm : PySem.W.mroIn K C (.type "object") = some true)
    (hn : PySem.W.findIn K (.ref C) "__ne__" = some (some (.builtin "object.__ne__"))) (hs : PySem.W.findIn K (.ref C) "__eq__" = some (some (.ref f))) (hf : PySem.W.isFn K (.ref f) = true)
    (h : wpAny (model prog w) A.in1 (call (.ref f) [.ref x, b]) (fun r s2 => ∃ b, r = .bool b ∧ Q (.bool (!b)) s2) E s) : wpAny (model prog w) A (richCompare .NotEq (.ref x) b) Q E s := by
  have one : wpAny (model prog w) A (tryCompare (.ref x) (cmpInfo .NotEq).2.1 b) (fun r s2 => ∃ v, r = some v ∧ Q v s2) E s := by
    unfold tryCompare
    refine wpAny_bind (bound_slot X I hn PySem.F.cmp_object.ne.bind (ne_call hu X I hm hs hf (wpAny_mono h (fun v s2 z => ?_) fun _ _ z => z)))
    obtain ⟨b, rfl, q⟩ := z
    exact ⟨b, rfl, wpAny_pure ⟨_, rfl, q⟩⟩
  unfold richCompare
  simp only [oneThing_ref]
  refine wpAny_holding (wpAny_bind (wpAny_cRoomFor (Nat.lt_of_succ_lt hu) (wpAny_bind (I.type.here (wpAny_bind (hb.here ?_))))))
  have fin : wpAny (model prog w) A (tryCompare (.ref x) (cmpInfo .NotEq).2.1 b) (fun r s2 => ∃ v, r = some v ∧ Q v s2) E s := one
  split
  · rename_i q
    have e : PySem.W.subIn K tb (.ref C) = some false := by
      rcases Bool.or_eq_true_iff.mp hnf with e | e
      · rw [beq_iff_eq.mp e] at q; simp at q
      · exact beq_iff_eq.mp e
    refine wpAny_bind ((PySem.W.looks_subIn X e).here ?_)
    simp only [Bool.false_eq_true, if_false]
    refine wpAny_bind (wpAny_mono one (fun r s' z => ?_) fun _ _ e => e)
    obtain ⟨v, rfl, hq⟩ := z
    exact wpAny_pure hq
  · refine wpAny_bind (wpAny_pure ?_)
    simp only [Bool.false_eq_true, if_false]
    refine wpAny_bind (wpAny_mono one (fun r s' z => ?_) fun _ _ e => e)
    obtain ⟨v, rfl, hq⟩ := z
    exact wpAny_pure hq
end
/-- what an own == promises of any value beside it -/
def spEqW (R : Addr → V → Bool → Hp → Prop) : Sp := fun vs H Q _ => ∃ (a : Addr) (y : V) (c : Bool), vs = [.ref a, y] ∧ R a y c H ∧ ∀ H', Same H H' → Q (.bl c) H'
def rCmpW (K : PySem.W.Frag) (C : Addr) (R : Addr → V → Bool → Hp → Prop) (neg : Bool) : R2 := fun x y H Q => ∃ (a : Addr) (c : Bool) (dx : Addr) (fs : List (Str × V)) (t : Value), x = .ref a ∧ H a = some (.ins C dx fs) ∧ TyX K H y t ∧ PySem.W.notFirst K C t = true ∧ R a y c H ∧ ∀ H', Same H H' → Q (.bl (c != neg)) H'
section
variable {X : Cx} {n : Nat} {C f : Addr} {fd : FuncData} {ps : List Str} {R : Addr → V → Bool → Hp → Prop}
theorem op_eqW (F : FnOk X.prog X.w X.K X.mg X.base CX0 n f fd ps (spEqW R)) (hs : PySem.W.findIn X.K (.ref C) "__eq__" = some (some (.ref f))) (hf : PySem.W.isFn X.K (.ref f) = true) (hb : Binds X.K fd ps []) (hr : Room n X.A) : OpR X (compareOp .Eq) (rCmpW X.K C R false) := by
  intro pins s σ H x y u v Q I rx ry hq
  obtain ⟨a, c, dx, fs, t, rfl, ha, ty, nf, hR, k⟩ := hq
  cases rx
  obtain ⟨P, Z, p, _⟩ := kit_of I ry ty
  obtain ⟨mA, J, _⟩ := ins_get I.hok ha
  obtain ⟨od, J, _⟩ := J.look
  obtain ⟨m, hF⟩ := I.fr
  show wpAny (model X.prog X.w) X.A (richCompare .Eq (.ref a) v) (EP X pins σ Q) X.xe s
  refine PySem.W.cmp_K (op := .Eq) (tb := t) hr.units0 hF I.ok.mod.kin J (Z.ty _ _ I.kIn p) nf hs hf ?_
  have hsp : spEqW R [.ref a, y] H (fun z H' => z = .bl c ∧ Same H H') (fun _ _ _ => False) := ⟨a, y, c, rfl, hR, fun H' e => ⟨rfl, e⟩⟩
  have hl := F.len _ _ _ _ hsp
  refine wpAny_call (codeAny_mono (F.run X.A X.stack s H ⟨[.ref a, v], []⟩ [.ref a, v] [.ref a, y] _ _ hr I.env0 (by simpa using hb s [.ref a, v] I.kIn (by simpa using hl)) (.cons rfl (.cons ry .nil)) hsp) fun r s2 hq => ?_)
  cases r with
  | error e => exact hq.elim
  | ok fl =>
    cases fl with
    | ret z =>
      obtain ⟨y, H2, I2, rz, ez, ex⟩ := I.after hq
      subst ez
      cases rz
      refine ⟨.bl c, H2, I2, rfl, ?_⟩
      have q := k H2 ex
      rw [show (c != false) = c by cases c <;> rfl] at q
      exact q
    | next => exact hq.elim
    | brk => exact hq.elim
    | cont => exact hq.elim
theorem op_neW (F : FnOk X.prog X.w X.K X.mg X.base CX0 n f fd ps (spEqW R)) (hs : PySem.W.findIn X.K (.ref C) "__eq__" = some (some (.ref f))) (hf : PySem.W.isFn X.K (.ref f) = true) (hb : Binds X.K fd ps []) (hm : PySem.W.mroIn X.K C (.type "object") = some true)
    (hn : PySem.W.findIn X.K (.ref C) "__ne__" = some (some (.builtin "object.__ne__"))) (hr : Room (n + 1) X.A) : OpR X (compareOp .NotEq) (rCmpW X.K C R true) := by
  intro pins s σ H x y u v Q I rx ry hq
  obtain ⟨a, c, dx, fs, t, rfl, ha, ty, nf, hR, k⟩ := hq
  cases rx
  obtain ⟨P, Z, p, _⟩ := kit_of I ry ty
  obtain ⟨mA, J, _⟩ := ins_get I.hok ha
  obtain ⟨od, J, _⟩ := J.look
  show wpAny (model X.prog X.w) X.A (richCompare .NotEq (.ref a) v) (EP X pins σ Q) X.xe s
  refine ne_any (tb := t) (by have := hr.in1.units0; exact this) I.kIn J (Z.ty _ _ I.kIn p) nf hm hn hs hf ?_
  have hsp : spEqW R [.ref a, y] H (fun z H' => z = .bl c ∧ Same H H') (fun _ _ _ => False) := ⟨a, y, c, rfl, hR, fun H' e => ⟨rfl, e⟩⟩
  have hl := F.len _ _ _ _ hsp
  refine wpAny_call (codeAny_mono (F.run X.A.in1 X.stack s H ⟨[.ref a, v], []⟩ [.ref a, v] [.ref a, y] _ _ hr.in1 I.env0.in1 (by simpa using hb s [.ref a, v] I.kIn (by simpa using hl)) (.cons rfl (.cons ry .nil)) hsp) fun r s2 hq => ?_)
  cases r with
  | error e => exact hq.elim
  | ok fl =>
    cases fl with
    | ret z =>
      obtain ⟨y, H2, I2, rz, ez, ex⟩ := I.after hq
      subst ez
      cases rz
      refine ⟨c, rfl, .bl (!c), H2, I2, rfl, ?_⟩
      have q := k H2 ex
      rw [show (c != true) = !c by cases c <;> rfl] at q
      exact q
    | next => exact hq.elim
    | brk => exact hq.elim
    | cont => exact hq.elim
end
/-- a built-in type that is no own class -/
theorem sub_ty {K : PySem.W.Frag} {C : Addr} {T : String} {l : List Value} (h : PySem.W.subIn K (.type T) (.ref C) = some false) : PySem.W.notFirst K C (.type T) = true := by
  unfold PySem.W.notFirst
  rw [h]
  simp
theorem kit_ty0 {K : PySem.W.Frag} {C : Addr} {T : String} (h : PySem.W.subIn K (.type T) (.ref C) = some false) (h2 : PySem.W.typeIn K (.ref C) = some (.type "type")) (h3 : PySem.W.hasDictIn K C = true) : PySem.W.kitOne K (.type T) (.ref C) = some false := by
  obtain ⟨cd, hc, _⟩ := PySem.W.any_some h3
  unfold PySem.W.kitOne
  rw [if_neg (by simp)]
  show (if ((PySem.W.clsIn K C).isSome && PySem.W.typeIn K (.ref C) == some (.type "type")) = true then PySem.W.subIn K (.type T) (.ref C) else none) = some false
  rw [if_pos (by rw [hc, h2]; rfl)]
  exact h
theorem sub_of {K : PySem.W.Frag} {C : Addr} {T : String} {l : List Value} (h : fastBuiltinMro T = some l) (h2 : ∀ v ∈ l, ∃ T', v = .type T') : PySem.W.subIn K (.type T) (.ref C) = some false := by
  show (fastBuiltinMro T).map (·.contains (.ref C)) = some false
  rw [h]
  simp only [Option.map_some, Option.some.injEq]
  rw [Bool.eq_false_iff]
  intro q
  obtain ⟨T', e⟩ := h2 _ (List.contains_iff_mem.mp q)
  cases e
end SE
/-! None == an instance with its own ==: None declines, the instance answers. -/
namespace SE
open PySem PySem.Spec PyProof.Rows PySem.Calls L2
section
variable {prog : Program} {w : World} {A : Around} {E : Value → Shared → Prop} {s : Shared} {K : PySem.W.Frag} {x C f : Addr} {ox : Obj} {od : Option Obj} {Q : Value → Shared → Prop}
theorem none_eq_inst (hu : A.units < cLine) (X : K.In s.heap) (I : PySem.W.InstAt s.heap x ox C od) (hsub : PySem.W.subIn K (.ref C) (.type "NoneType") = some false)
    (hs : PySem.W.findIn K (.ref C) "__eq__" = some (some (.ref f))) (hf : PySem.W.isFn K (.ref f) = true)
    (h : wpAny (model prog w) A (call (.ref f) [.ref x, .none]) (fun r s2 => ∃ b, r = .bool b ∧ Q (.bool b) s2) E s) : wpAny (model prog w) A (richCompare .Eq .none (.ref x)) Q E s := by
  have tn : s.TypeIs Value.none "NoneType" := rfl
  simp only [richCompare, cmpInfo, tn.oneThing_none]
  refine wpAny_holding (wpAny_bind (wpAny_cRoomFor hu (wpAny_bind (wpAny_typeOf tn (wpAny_bind (I.type.here ?_))))))
  rw [show (Value.type "NoneType" != Value.ref C) = true by rfl]
  simp only [if_true]
  refine wpAny_bind ((PySem.W.looks_subIn X hsub).here ?_)
  simp only [Bool.false_eq_true, if_false, Bool.not_false, if_true]
  refine wpAny_bind (m := tryCompare .none _ (.ref x)) (wpAny_tryCompare_declines tn PySem.F.slot_NoneType_eq (call_gives PySem.F.slot_NoneType_eq rfl PySem.F.entry_NoneType_eq (PySem.F.args_NoneType_eq_2 _ _) (SeqAt.NoneType___eq___none_ref_0 x) ⟨rfl, ?_⟩))
  refine wpAny_bind (m := tryCompare (.ref x) _ .none) ?_
  unfold tryCompare
  refine wpAny_bind (PySem.W.ifBound_K X I hs hf (wpAny_mono h (fun v s' hv => ?_) fun _ _ e => e))
  obtain ⟨b, rfl, q⟩ := hv
  exact wpAny_pure (wpAny_pure q)
end
section
variable {X : Cx} {n : Nat} {C f : Addr} {fd : FuncData} {ps : List Str} {R : Addr → V → Bool → Hp → Prop}
/-- None == x -/
def rCmpN (C : Addr) (R : Addr → V → Bool → Hp → Prop) : R2 := fun x y H Q => ∃ (a : Addr) (c : Bool) (dx : Addr) (fs : List (Str × V)), x = .non ∧ y = .ref a ∧ H a = some (.ins C dx fs) ∧ R a .non c H ∧ ∀ H', Same H H' → Q (.bl c) H'
theorem op_eqN (F : FnOk X.prog X.w X.K X.mg X.base CX0 n f fd ps (spEqW R)) (hsub : PySem.W.subIn X.K (.ref C) (.type "NoneType") = some false) (hs : PySem.W.findIn X.K (.ref C) "__eq__" = some (some (.ref f))) (hf : PySem.W.isFn X.K (.ref f) = true) (hb : Binds X.K fd ps []) (hr : Room n X.A) : OpR X (compareOp .Eq) (rCmpN C R) := by
  intro pins s σ H x y u v Q I rx ry hq
  obtain ⟨a, c, dx, fs, rfl, rfl, ha, hR, k⟩ := hq
  cases rx
  cases ry
  obtain ⟨mA, J, _⟩ := ins_get I.hok ha
  obtain ⟨od, J, _⟩ := J.look
  show wpAny (model X.prog X.w) X.A (richCompare .Eq .none (.ref a)) (EP X pins σ Q) X.xe s
  refine none_eq_inst hr.units0 I.kIn J hsub hs hf ?_
  have hsp : spEqW R [.ref a, .non] H (fun z H' => z = .bl c ∧ Same H H') (fun _ _ _ => False) := ⟨a, .non, c, rfl, hR, fun H' e => ⟨rfl, e⟩⟩
  have hl := F.len _ _ _ _ hsp
  refine wpAny_call (codeAny_mono (F.run X.A X.stack s H ⟨[.ref a, .none], []⟩ [.ref a, .none] [.ref a, .non] _ _ hr I.env0 (by simpa using hb s [.ref a, .none] I.kIn (by simpa using hl)) (.cons rfl (.cons rfl .nil)) hsp) fun r s2 hq => ?_)
  cases r with
  | error e => exact hq.elim
  | ok fl =>
    cases fl with
    | ret z =>
      obtain ⟨y, H2, I2, rz, ez, ex⟩ := I.after hq
      subst ez
      cases rz
      exact ⟨c, rfl, .bl c, H2, I2, rfl, k H2 ex⟩
    | next => exact hq.elim
    | brk => exact hq.elim
    | cont => exact hq.elim
end
end SE
/-! max(d) of a dict whose keys are whole numbers. -/
namespace SE
open PySem PySem.Spec PyProof.Rows PySem.Calls L2
section
variable {X : Cx}
def rMaxK : List V → Hp → VK → Prop := fun xs H Q => ∃ (a : Addr) (kvs : List (Key × V)) (ns : List Int), xs = [.ref a] ∧ Rd H a (.dK kvs) ∧ kvs.map (·.1) = ns.map Sum.inl ∧ 0 < ns.length ∧ ∀ m, m ∈ ns → (∀ y, y ∈ ns → y ≤ m) → Q (.int m) H
theorem call_maxK (hc : X.calm = true) : CallR X (.builtin "max") rMaxK := by
  intro pins s σ H xs us Q I rx h
  obtain ⟨a, kvs, ns, rfl, hd, hks, hne, q⟩ := h
  rw [Vals.ref1 rx]
  obtain ⟨z, lo, vs, rel, dd⟩ := dk_rd I.hok hd
  obtain ⟨ep, hat⟩ := dd.dictAt
  have hkeys : vs.map (·.1) = ns.map Sum.inl := rel.keys.symm.trans hks
  have hl : vs.length = ns.length := by
    have e := congrArg List.length hkeys
    rw [List.length_map, List.length_map] at e
    exact e
  have ha : a < s.heap.objs.size := by
    obtain ⟨o, es, ho, _⟩ := hat
    exact Heap.lt_size ho
  refine call_max_walk (wpAny_pyIter_dict lo hat ?_)
  have W := (Walks.dictKeys (prog := X.prog) (w := X.w) (knd := mixKind X.prog X.w) (A := X.A.in1) (show X.A.in1.handled = none from I.ok.hd hc) s.heap.objs.size a (Nat.ne_of_lt ha) vs ep)
  have hP : ∀ (i : Nat) (v : Value), (∃ k x, vs[i]? = some (k, x) ∧ (mixKind X.prog X.w).is k v = true) → ∃ t, v = .int (ns.getD i 0) t := fun i v hv => by
    obtain ⟨k, x, e1, e2⟩ := hv
    have e3 : (vs.map (·.1))[i]? = some k := by rw [List.getElem?_map, e1]; rfl
    rw [hkeys, List.getElem?_map] at e3
    cases e4 : ns[i]? with
    | none => rw [e4] at e3; cases e3
    | some y =>
      rw [e4] at e3
      have e5 : Sum.inl y = k := Option.some.inj e3
      subst e5
      rcases keyIs_shape (show keyIs (Sum.inl y) v = true from e2) with ⟨i', t, ek, ev⟩ | ⟨z, t, ek, ev⟩
      · cases ek
        refine ⟨t, ?_⟩
        rw [ev, List.getD_eq_getElem?_getD, e4]
        rfl
      · cases ek
  refine ⟨s.heap.objs.size, [s.heap.objs.size, a], [s.heap.objs.size], vs.length, _, _, fun i j => decide (ns.getD i 0 > ns.getD j 0), rfl, W, ⟨⟨_, Heap.get?_push_size _ rfl, rfl, rfl⟩, hat.at' fun o e => Heap.get?_push_of_some _ e⟩, fun b hb => ?_, by omega, CmpOf.ints_gt (fun i => ns.getD i 0) hP, fun v h' tk hv' hk => ?_⟩
  · show b < (s.heap.push _).objs.size
    rw [size_push']
    rcases List.mem_cons.mp hb with z | z
    · rw [z]
      exact Nat.lt_succ_self _
    · rw [List.mem_singleton.mp z]
      exact Nat.lt_succ_of_lt ha
  · obtain ⟨t, rfl⟩ := hP _ _ hv'
    obtain ⟨m1', m2'⟩ := argBest_gt (fun i => ns.getD i 0) (vs.length - 1)
    have m1 : argBest (fun i j => decide (ns.getD i 0 > ns.getD j 0)) (vs.length - 1) ≤ vs.length - 1 := m1'
    have m2 : ∀ j, j ≤ vs.length - 1 → ns.getD j 0 ≤ ns.getD (argBest (fun i j => decide (ns.getD i 0 > ns.getD j 0)) (vs.length - 1)) 0 := m2'
    have hk2 : ∀ b o, s.heap.get? b = some o → h'.get? b = some o := fun b o e => hk b o (fun z => by rw [List.mem_singleton.mp z] at e; exact absurd (Heap.lt_size e) (Nat.lt_irrefl _)) (Heap.get?_push_of_some _ e)
    refine ⟨.int _, H, I.kept (t' := tk) hk2, ⟨_, rfl⟩, q _ ?_ fun y hy => ?_⟩
    · exact PySem.getD_mem (by omega)
    · obtain ⟨j, hj, rfl⟩ := mem_getD hy
      exact m2 j (by omega)
end
end SE
namespace SE
open PySem PySem.Spec PyProof.Rows L2
/-! ### a dict of roots -/
theorem merge_new : ∀ (more kvs : List (Key × V)), (∀ q ∈ more, valV kvs q.1 = none) → (more.map (·.1)).Pairwise (· ≠ ·) → mergeK kvs more = kvs ++ more
  | [], kvs, _, _ => by simp [mergeK]
  | q :: more, kvs, h, p => by
    obtain ⟨p1, p2⟩ := List.pairwise_cons.mp p
    have e := putK_new q.2 (h q List.mem_cons_self)
    show mergeK (putK kvs q.1 q.2) more = _
    rw [e, merge_new more _ (fun r m => ?_) p2, List.append_assoc]
    · rfl
    · rw [valV_snoc _ _ _ _ (h q List.mem_cons_self), if_neg (fun z => p1 r.1 (List.mem_map_of_mem m) z.symm)]
      exact h r (List.mem_cons_of_mem _ m)
def DtE (K : PySem.W.Frag) (C : Addr) (H : Hp) (kv : Key × V) (q : Nat × (List Str × List Str)) : Prop := kv.1 = Sum.inl (q.1 : Int) ∧ ∃ a, kv.2 = .ref a ∧ EffAt K C H a q.2.1 q.2.2 (lp q.2.1 q.2.2)
def DtL (K : PySem.W.Frag) (C : Addr) (H : Hp) (kvs : List (Key × V)) (qs : List (Nat × (List Str × List Str))) : Prop := Paired (DtE K C H) kvs qs
section
variable {K : PySem.W.Frag} {C : Addr} {H H' : Hp}
theorem DtL.same : ∀ {kvs : List (Key × V)} {qs : List (Nat × (List Str × List Str))}, DtL K C H kvs qs → Same H H' → DtL K C H' kvs qs
  | _, _, .nil, _ => .nil
  | _, _, .cons ⟨h1, a, h2, h3⟩ t, s => .cons ⟨h1, a, h2, h3.same s⟩ (DtL.same t s)
theorem DtL.keys : ∀ {kvs : List (Key × V)} {qs : List (Nat × (List Str × List Str))}, DtL K C H kvs qs → kvs.map (·.1) = (qs.map fun q => ((q.1 : Nat) : Int)).map Sum.inl
  | _, _, .nil => rfl
  | _, _, .cons ⟨h1, _⟩ t => by rw [List.map_cons, List.map_cons, List.map_cons, h1, DtL.keys t]
/-- where the exponent is a key, its root stands there -/
theorem DtL.get : ∀ {kvs : List (Key × V)} {qs : List (Nat × (List Str × List Str))}, DtL K C H kvs qs → (qs.map (·.1)).Pairwise (· < ·) → ∀ {q : Nat × (List Str × List Str)}, q ∈ qs → ∃ a, valV kvs (Sum.inl (q.1 : Int)) = some (.ref a) ∧ EffAt K C H a q.2.1 q.2.2 (lp q.2.1 q.2.2)
  | _, _, .nil, _, _, m => by cases m
  | kv :: kvs, q0 :: qs, .cons ⟨h1, a, h2, h3⟩ t, p, q, m => by
    obtain ⟨p1, p2⟩ := List.pairwise_cons.mp p
    rcases List.mem_cons.mp m with e | m
    · subst e
      exact ⟨a, by rw [valV_pos h1, h2], h3⟩
    · obtain ⟨a', g1, g2⟩ := DtL.get t p2 m
      refine ⟨a', ?_, g2⟩
      rw [valV_neg, g1]
      rw [h1]
      intro z
      have z2 : ((q0.1 : Nat) : Int) = ((q.1 : Nat) : Int) := Sum.inl.inj z
      have z3 : q0.1 < q.1 := p1 q.1 (List.mem_map_of_mem m)
      omega
theorem DtL.none : ∀ {kvs : List (Key × V)} {qs : List (Nat × (List Str × List Str))}, DtL K C H kvs qs → ∀ {e : Nat}, e ∉ qs.map (·.1) → valV kvs (Sum.inl (e : Int)) = none
  | _, _, .nil, _, _ => rfl
  | kv :: kvs, q0 :: qs, .cons ⟨h1, a, h2, h3⟩ t, e, m => by
    rw [valV_neg, DtL.none t (fun z => m (List.mem_cons_of_mem _ z))]
    rw [h1]
    intro z
    have z2 : ((q0.1 : Nat) : Int) = ((e : Nat) : Int) := Sum.inl.inj z
    have z3 : q0.1 = e := by omega
    exact m (by rw [← z3]; exact List.mem_cons_self)
theorem RtL.dt : ∀ {us : List V} {qs : List (Nat × (List Str × List Str))}, RtL K C H us qs → ∃ (ps : List Addr) (kvs : List (Key × V)), us = ps.map V.ref ∧ Paired (fun p kv => SqT K H p [kV kv.1, kv.2]) ps kvs ∧ DtL K C H kvs qs
  | _, _, .nil => ⟨[], [], rfl, .nil, .nil⟩
  | _, q :: _, .cons ⟨t, a, e, h1, h2⟩ r => by
    obtain ⟨ps, kvs, e1, h3, h4⟩ := RtL.dt r
    exact ⟨t :: ps, (Sum.inl (q.1 : Int), .ref a) :: kvs, by rw [e, e1]; rfl, .cons h1 h3, .cons ⟨rfl, a, rfl, h2⟩ h4⟩
theorem asc_ne {L : List Nat} (h : L.Pairwise (· < ·)) : ((L.map fun n => ((n : Nat) : Int)).map (Sum.inl : Int → Key)).Pairwise (· ≠ ·) := by
  rw [List.map_map, List.pairwise_map]
  refine h.imp fun {a b} l z => ?_
  have z2 : ((a : Nat) : Int) = ((b : Nat) : Int) := Sum.inl.inj z
  omega
end
section
variable {P : Program} {w : World} {K : PySem.W.Frag} {mg : Str → Option Value} {base : Heap} {C D : Addr}
/-- a method without arguments; its properties' lookups -/
def MethHas (P : Program) (w : World) (K : PySem.W.Frag) (mg : Str → Option Value) (base : Heap) (C : Addr) (m : Str) (k : Nat) (ps : List Str) (sp : Sp) : Prop := ∃ f fd, Meth K C m f ∧ FnOk P w K mg base CX0 k f fd ps sp ∧ Binds K fd ps []
theorem pe_mH0 {X : Cx} {C : Addr} {m : Str} {k : Nat} {ps : List Str} {sp : Sp} {o : Expr} {ta : TE} {apos pos : Pos} {pl : Sem Bool} (h : MethHas X.prog X.w X.K X.mg X.base C m k ps sp) (he : PE X o ta) (c : Cls X.K C) (hr : Room k X.A)
    (ht : eval (.Call (.Attribute o m apos) [] [] pos) X.env = (do
      let ov ← eval o X.env
      standAt apos.atName
      let (f, first) ← holding [ov] (getMethod ov m pl)
      callWith pos f first (backTo pos (starEach [] X.env)) (backToKw pos (keywordEach [] X.env))) := by rfl) : PE X (.Call (.Attribute o m apos) [] [] pos) (tMeth C m sp [] E0 ta tNil) := by
  obtain ⟨f, fd, hm, F, hb⟩ := h
  exact pe_meth0 (pl := pl) he c hm F hr hb .nil pass0 ht
theorem eF_none {u v h : V} {m : Str} (h1 : (m == ("needs" : Str)) = false) (h2 : (m == ("leaves" : Str)) = false) (h3 : (m == ("highest" : Str)) = false) : (eF u v h).lookup m = none := by
  unfold eF
  simp [List.lookup, h1, h2, h3]
/-- Effect's own == -/
def EqHas (P : Program) (w : World) (K : PySem.W.Frag) (mg : Str → Option Value) (base : Heap) (C : Addr) : Prop := ∃ f fd, FnOk P w K mg base CX0 1 f fd ["self", "other"] (spEqB (rEff K C)) ∧ PySem.W.findIn K (.ref C) "__eq__" = some (some (.ref f)) ∧ PySem.W.isFn K (.ref f) = true ∧ Binds K fd ["self", "other"] [] ∧ PySem.W.findIn K (.ref C) "__ne__" = some (some (.builtin "object.__ne__"))
/-! ### _law_roots_right -/
def spRR (K : PySem.W.Frag) (C : Addr) : Sp := fun vs H Q _ => ∃ (e : Addr) (xs ys : List Str) (p : Int), vs = [.ref e] ∧ EffAt K C H e xs ys p ∧ EffOk (some (xs, ys, p)) ∧ xs ≠ ys ∧
  ∀ (d : Addr) (od : Obj) (kvs : List (Key × V)) (H' : Hp), Same H H' → H d = none → H' d = some (.frz od (.dK kvs)) → DtL K C H' kvs (rtsM xs ys) → Q (.ref d) H'
abbrev nRR : List Str := ["_law_effect", "_law_found", "_law_last", "_law_exponent", "_law_root", "_law_power"]
theorem scRR : FnScope nRR ["_law_effect"] (defScope sLawRootsRight) := ⟨rfl, rfl, rfl, by decide +kernel, rfl, by decide +kernel, by decide +kernel⟩
theorem has_rr (Df : Def K mg "_law_roots_right" sLawRootsRight) (T : EC K mg C) (TP : PCl K mg D) (TI : EI K C) (M : Makes P w K mg base C) (PM : PMakes P w K mg base C D) (GP : PropHas P w K mg base C "pops" 1 (spPops K C)) (GQ : PropHas P w K mg base C "pushes" 1 (spPush K C))
    (GR : Has P w K mg base "roots" 6 ["effect"] [] (spRoots K C)) (ME : MethHas P w K mg base D "effect" 7 ["self"] (spPE K C D)) (EQ : EqHas P w K mg base C) (md : mg "dict" = none) : Has P w K mg base "_law_roots_right" 8 ["_law_effect"] [] (spRR K C) := by
  obtain ⟨fq, fdq, FQ, eq1, eq2, eq3, eq4⟩ := EQ
  refine has_of Df scRR (fun _ _ _ _ _ _ us hl => match us, hl with | [_], _ => rfl) (fun xs H Q E h => ?_) (fun f cv A out s H xs Q E hr h => ?_)
  · obtain ⟨e, xs, ys, p, rfl, _⟩ := h
    rfl
  · obtain ⟨e, xs, ys, p, rfl, he, ok, hn, k⟩ := h
    have hr2 : Room 2 _ := hr.mono (by decide)
    have hr5 : Room 5 _ := hr.mono (by decide)
    have hr6 : Room 6 _ := hr.mono (by decide)
    have hr7 : Room 7 _ := hr.mono (by decide)
    refine ⟨_, pss_cons (ps_par (i := 1) (j := 2) (by rfl) scRR.nd rfl rfl (by decide) rfl rfl (pa_cons (pe_has GR hr6 (pa_cons (pv 0) pa_nil)) (pa_cons pe_int pa_nil)) (by rfl))
      (pss_cons (ps_if (pt_cmpR op_isN (pv 1) pe_non (nomark _)) (pss_one (ps_ret pe_non)) pss_nil)
      (pss_cons (ps_for PassesOwn.never rfl (pi_list (pv 1)) (pg_tup (by rfl) (pgs_cons (pg_name (i := 3) scRR.nd rfl (.inl rfl)) (pgs_cons (pg_name (i := 4) scRR.nd rfl (.inl rfl)) pgs_nil)))
        (pss_cons (ps_if (PW.pt (pw_or (pt_cmpR op_le (pv 3) (pv 2) (nomark _)) (pw_or1 (pt_cmpR (op_neE FQ eq1 eq2 eq3 TI.hm eq4 hr2) (pv 4) (pe_eff2 M T.mgE hr5 (pa_cons (pe_propH GP (pv 4) T.cl hr2) (pa_cons (pe_propH GQ (pv 4) T.cl hr2) pa_nil))) (nomark _))))) (pss_one (ps_ret pe_non)) pss_nil)
        (pss_cons (ps_set (i := 2) scRR.nd rfl (.inl rfl) (pv 3))
        (pss_cons (ps_set (i := 5) scRR.nd rfl (.inl rfl) (pe_mH0 ME (pe_pow PM TP.mgP hr6 (pa_cons (pv 4) (pa_cons (pv 3) pa_nil))) TP.cl hr7))
        (pss_one (ps_if (pt_cmpR (op_neD hr.units) (pe_lst (pa_cons (pe_propH GP (pv 5) T.cl hr2) (pa_cons (pe_propH GQ (pv 5) T.cl hr2) pa_nil))) (pe_lst (pa_cons (pe_propH GP (pv 0) T.cl hr2) (pa_cons (pe_propH GQ (pv 0) T.cl hr2) pa_nil))) (nomark _)) (pss_one (ps_ret pe_non)) pss_nil))))))
      (pss_one (ps_ret (pe_frz (pe_callTy (call_dictP rfl) (by rfl) md (by decide +kernel) (pa_cons (pv 1) pa_nil))))))), ?_⟩
    refine ⟨_, rfl, e, some (xs, ys, p), rfl, he, ok, fun H' s' c => ?_, fun xs' ys' p' eo hn' l us H1 s1 hl0 hl1 hr1 => ?_⟩
    · rcases c with c | c
      · cases c
      · exact absurd (of_decide_eq_true c) hn
    cases eo
    have asc := rts_asc xs ys
    have ascI : ∀ (i j : Nat) (q r : Nat × (List Str × List Str)), (rtsM xs ys)[i]? = some q → (rtsM xs ys)[j]? = some r → i < j → q.1 < r.1 := fun i j q r h1 h2 hij => by
      have a := List.pairwise_iff_getElem.mp (List.pairwise_map.mp asc)
      obtain ⟨l1, e1⟩ := List.getElem?_eq_some_iff.mp h1
      obtain ⟨l2, e2⟩ := List.getElem?_eq_some_iff.mp h2
      have z := a i j l1 l2 hij
      rw [e1, e2] at z
      exact z
    obtain ⟨i1, i2, l1, l2, p0, p1⟩ := id ok
    refine ⟨_, _, rfl, _, rfl, rfl, false, rfl, iteF ?_⟩
    refine ⟨_, rfl, l, rfl, ⟨_, .of hl1⟩, for_list (K := K) (a := l) (xs := us) (fun j σ H2 => ∃ (last : Int) (y3 y4 y5 : Option V), σ = [some (.ref e), some (.ref l), some (.int last), y3, y4, y5] ∧ Same H1 H2 ∧ ∀ (i : Nat) (q : Nat × (List Str × List Str)), j ≤ i → (rtsM xs ys)[i]? = some q → last < (q.1 : Int)) ⟨1, none, none, none, rfl, Same.refl _, fun i q _ hq => ?_⟩ (fun j σ H2 _ z => ?_) ?_ ?_⟩
    · have := (root_ok ok hn (List.mem_of_getElem? hq)).2.1
      omega
    · obtain ⟨_, _, _, _, _, s2, _⟩ := z
      exact .of (s2 _ _ hl1)
    · rintro j x σ H2 hx ⟨last, y3, y4, y5, rfl, s2, hlast⟩
      obtain ⟨q, hq, hxq⟩ := paired_get hr1 hx
      obtain ⟨t, a, rfl, hT, ha⟩ := hxq.same s2
      obtain ⟨okq, q2, q1000, gd, pk, hpk⟩ := root_ok ok hn (List.mem_of_getElem? hq)
      obtain ⟨j1, j2, m1, m2, _, _⟩ := id okq
      have lt := hlast j q (Nat.le_refl _) hq
      obtain ⟨n, P, Qs⟩ := q
      dsimp only at okq q2 q1000 gd hpk j1 j2 m1 m2 lt hT ha
      have haV : EffV K C H2 a (some (P, Qs, lp P Qs)) := ha
      obtain ⟨dxa, ua, va, ja, _, _⟩ := ha.ex
      have s12 := s1.trans s2
      refine ⟨t, _, rfl, hT, rfl, _, _, rfl, _, _, rfl, rfl, ?_⟩
      refine ⟨_, rfl, _, rfl, _, _, rfl, rfl, false, congrArg V.bl (decide_eq_false (by omega)), iteF ?_⟩
      refine ⟨_, rfl, _, rfl, a, dxa, _, rfl, ja, a, P, Qs, lp P Qs, rfl, ha, fun u hu => ⟨_, rfl, a, dxa, _, rfl, ja, a, P, Qs, lp P Qs, rfl, ha, fun v hv => ?_⟩⟩
      refine ⟨u, v, P, Qs, rfl, hu, hv, by omega, by omega, j1, j2, fun ne HA sA _ hne => ?_⟩
      obtain ⟨dxn, un, vn, jn, _, _⟩ := hne.ex
      have haA := ha.same sA
      refine ⟨a, ne, true, dxa, dxn, _, _, rfl, rfl, sA _ _ ja, jn, ⟨some (P, Qs, lp P Qs), some (P, Qs, lp P Qs), haA, hne, okq, okq, (decide_eq_true rfl).symm⟩, fun HB sB => ⟨false, rfl, iteF ?_⟩⟩
      have s2B := sA.trans sB
      have haB := ha.same s2B
      refine ⟨_, rfl, _, rfl, _, rfl, a, some (P, Qs, lp P Qs), n, rfl, haB, okq, by omega, fun q HC sC hq2 => ?_⟩
      obtain ⟨dxq, w1, w2, g1, g2⟩ := hq2.ex
      refine ⟨q, dxq, _, rfl, g1, eF_none (by decide +kernel) (by decide +kernel) (by decide +kernel), q, _, _, rfl, hq2, rw_small n okq, gd, fun e2 HD sD he2 => ?_⟩
      rw [hpk] at he2
      have he3 : EffAt K C HD e2 xs ys pk := he2
      obtain ⟨dx2, _, _, jj2, _, _⟩ := he3.ex
      have s1D := ((s12.trans s2B).trans sC).trans sD
      refine ⟨_, rfl, e2, dx2, _, rfl, jj2, e2, xs, ys, pk, rfl, he3, fun u2 hu2 => ⟨_, rfl, e2, dx2, _, rfl, jj2, e2, xs, ys, pk, rfl, he3, fun v2 hv2 => ⟨(by show 2 ≤ sizeLine; decide), fun L hL => ?_⟩⟩⟩
      have sL := Same.new (o := .lst [V.ref u2, .ref v2]) hL
      have hL1 := upd_same (H := HD) (a := L) (o := .lst [V.ref u2, .ref v2])
      have hu3 := Same.tup sL hu2
      have hv3 := Same.tup sL hv2
      generalize upd HD L (.lst [V.ref u2, .ref v2]) = HE at sL hL1 hu3 hv3 ⊢
      have heE := he.same (s1D.trans sL)
      obtain ⟨dx0, _, _, j0, _, _⟩ := heE.ex
      refine ⟨_, rfl, e, dx0, _, rfl, j0, e, xs, ys, p, rfl, heE, fun u4 hu4 => ⟨_, rfl, e, dx0, _, rfl, j0, e, xs, ys, p, rfl, heE, fun v4 hv4 => ⟨(by show 2 ≤ sizeLine; decide), fun L2 hL2 => ?_⟩⟩⟩
      have sM := Same.new (o := .lst [V.ref u4, .ref v4]) hL2
      have nP := nice_list (B := 9000) (ds := [.tuple (xs.map .str), .tuple (ys.map .str)]) (k := 1) (fun d m => by
        have a1 := nice_tuple (nice_strs i1)
        have a2 := nice_tuple (nice_strs i2)
        have b1 := a1.wt
        have b2 := a2.wt
        rw [List.length_map] at b1 b2
        rcases List.mem_cons.mp m with z | m
        · rw [z]; exact ⟨a1.lay, a1.dep, a1.sh, a1.nd, a1.ish, by omega⟩
        · rw [List.mem_singleton.mp m]; exact ⟨a2.lay, a2.dep, a2.sh, a2.nd, a2.ish, by omega⟩)
      have sh1 : SeqAt.shaped (.list [.tuple (xs.map .str), .tuple (ys.map .str)]) = true := by
        exact nP.shaped (by decide)
      refine ⟨.list [.tuple (xs.map .str), .tuple (ys.map .str)], .list [.tuple (xs.map .str), .tuple (ys.map .str)], .lst (.of (sM _ _ hL1)) (.cons (.tup (Same.tup sM hu3) (dp_strs _)) (.cons (.tup (Same.tup sM hv3) (dp_strs _)) .nil)), .lst (.of upd_same) (.cons (.tup (Same.tup sM hu4) (dp_strs _)) (.cons (.tup (Same.tup sM hv4) (dp_strs _)) .nil)), sh1, sh1, false, ?_, iteF ?_⟩
      · refine congrArg V.bl ?_
        rw [SeqAt.eqv_refl _ nP.lay]
        rfl
      refine ⟨_, _, _, _, rfl, (((s2.trans s2B).trans sC).trans sD).trans (sL.trans sM), fun i r hi hr' => ?_⟩
      have := ascI j i _ _ hq hr' (by omega)
      dsimp only at this
      omega
    · rintro σ H2 ⟨last, y3, y4, y5, rfl, s2, _⟩
      obtain ⟨ps, kvs, eu, h3, h4⟩ := RtL.dt (RtL.same hr1 s2)
      have hl2 := s2 _ _ hl1
      rw [eu] at hl2
      refine ⟨_, rfl, l, ps, kvs, rfl, .of hl2, h3, fun d hd => ?_⟩
      have nk : mergeK [] kvs = kvs := by
        rw [merge_new kvs [] (fun q m => rfl) (by rw [h4.keys, show ((rtsM xs ys).map fun q => ((q.1 : Nat) : Int)) = ((rtsM xs ys).map (·.1)).map fun n => ((n : Nat) : Int) by rw [List.map_map]; rfl]; exact asc_ne asc), List.nil_append]
      rw [nk]
      have s12 := s1.trans s2
      refine ⟨d, _, rfl, upd_same, trivial, fun od => ?_⟩
      rw [upd_upd]
      have sd : Same H2 (upd H2 d (.frz od (.dK kvs))) := Same.new hd
      exact k d od kvs _ (s12.trans sd) (s12.free hd) upd_same (h4.same sd)
end
end SE
namespace SE
open PySem PySem.Spec PyProof.Rows L2
theorem nice_two {xs ys : List Str} (i1 : ∀ z ∈ xs, Item z) (i2 : ∀ z ∈ ys, Item z) (l1 : xs.length ≤ 1000) (l2 : ys.length ≤ 1000) : Nice 2 (2 * 9001) (.list [.tuple (xs.map .str), .tuple (ys.map .str)]) :=
  nice_list (B := 9000) (ds := [.tuple (xs.map .str), .tuple (ys.map .str)]) (k := 1) (fun d m => by
    have a1 := nice_tuple (nice_strs i1)
    have a2 := nice_tuple (nice_strs i2)
    have b1 := a1.wt
    have b2 := a2.wt
    rw [List.length_map] at b1 b2
    rcases List.mem_cons.mp m with z | m
    · rw [z]; exact ⟨a1.lay, a1.dep, a1.sh, a1.nd, a1.ish, by omega⟩
    · rw [List.mem_singleton.mp m]; exact ⟨a2.lay, a2.dep, a2.sh, a2.nd, a2.ish, by omega⟩)
theorem eqv_two (xs ys us vs : List Str) : PyData.eqv (.list [.tuple (xs.map .str), .tuple (ys.map .str)]) (.list [.tuple (us.map .str), .tuple (vs.map .str)]) = decide ((xs, ys) = (us, vs)) := by
  simp only [PyData.eqv, PyData.eqvAll]
  have e1 := eqv_tupS xs us
  have e2 := eqv_tupS ys vs
  simp only [PyData.eqv] at e1 e2
  rw [e1, e2]
  by_cases c1 : xs = us <;> by_cases c2 : ys = vs <;> simp [c1, c2]
theorem op_or {X : Cx} {op : Value → Value → Sem Value} {R1 R2' : R2} (h1 : OpR X op R1) (h2 : OpR X op R2') : OpR X op (fun x y H Q => R1 x y H Q ∨ R2' x y H Q) := by
  intro pins s σ H x y u v Q I rx ry h
  rcases h with h | h
  · exact h1 pins s σ H x y u v Q I rx ry h
  · exact h2 pins s σ H x y u v Q I rx ry h
section
variable {P : Program} {w : World} {K : PySem.W.Frag} {mg : Str → Option Value} {base : Heap} {C D : Addr}
/-! ### an effect beside None -/
def rEffN (K : PySem.W.Frag) (C : Addr) (a : Addr) (y : V) (c : Bool) (H : Hp) : Prop := y = .non ∧ c = false ∧ ∃ o, EffV K C H a o
theorem sub_none : PySem.W.subIn K (.type "NoneType") (.ref C) = some false := by
  have l2 : fastBuiltinMro "NoneType" = some [.type "NoneType", .type "object"] := by decide +kernel
  refine sub_of l2 ?_
  intro v m
  simp at m
  rcases m with rfl | rfl <;> exact ⟨_, rfl⟩
theorem ok_eqN {f : Addr} {fd : FuncData} (F : Fun K "__eq__" "Effect.__eq__" sEq f fd) (T : EC K mg C) (tC : PySem.W.typeIn K (.ref C) = some (.type "type")) (B : Blt mg) : FnOk P w K mg base CX0 1 f fd ["self", "other"] (spEqW (rEffN K C)) := by
  refine F.ok scEq (fun vs H Q E h => ?_) (fun cdv A outer s H vs Q E hr h => ?_)
  · obtain ⟨a, b, c, rfl, _⟩ := h
    rfl
  · obtain ⟨a, y, c, rfl, ⟨rfl, rfl, o, h1⟩, k⟩ := h
    refine ⟨_, pss_one (ps_ret (pe_and (pe_callB call_isi (by rfl) B.isi (by decide +kernel) (pa_cons (pv 1) (pa_cons (pe_glob (v := .ref C) rfl T.mgE rfl) pa_nil)))
      (pe_and (pe_cmpR (op_eqD hr.units) (pe_fld (pv 0) rfl) (pe_fld (pv 1) rfl) (nomark _)) (pe_and (pe_cmpR (op_eqD hr.units) (pe_fld (pv 0) rfl) (pe_fld (pv 1) rfl) (nomark _)) (pe_one (pe_cmpR (op_eqD hr.units) (pe_fld (pv 0) rfl) (pe_fld (pv 1) rfl) (nomark _))))))), ?_⟩
    exact ⟨_, rfl, _, .ref C, .type "NoneType", .ref C, false, rfl, .own C, .base .non, kit_ty0 sub_none tC T.cl.hd, false, rfl, iteF (k H (Same.refl H))⟩
def EqHasN (P : Program) (w : World) (K : PySem.W.Frag) (mg : Str → Option Value) (base : Heap) (C : Addr) : Prop := ∃ f fd, FnOk P w K mg base CX0 1 f fd ["self", "other"] (spEqW (rEffN K C)) ∧ PySem.W.subIn K (.ref C) (.type "NoneType") = some false ∧ PySem.W.findIn K (.ref C) "__eq__" = some (some (.ref f)) ∧ PySem.W.isFn K (.ref f) = true ∧ Binds K fd ["self", "other"] []
/-! ### _law_enumerated_right -/
/-- a root as the power sees it -/
theorem pow_any {Pw Qw : List Str} {n : Nat} (hn : 2 ≤ n) (hi : (∀ z ∈ Pw, Item z) ∧ ∀ z ∈ Qw, Item z) (hl : n * Pw.length ≤ 500 ∧ n * Qw.length ≤ 500) :
    RGood (rwM (some (Pw, Qw, lp Pw Qw)) n) (pkM (some (Pw, Qw, lp Pw Qw)) n) ∧
    ((powW Pw Qw n = none ∧ powE (rwM (some (Pw, Qw, lp Pw Qw)) n) (pkM (some (Pw, Qw, lp Pw Qw)) n) = none) ∨ ∃ X Y pk, powW Pw Qw n = some (X, Y) ∧ powE (rwM (some (Pw, Qw, lp Pw Qw)) n) (pkM (some (Pw, Qw, lp Pw Qw)) n) = some (X, Y, pk) ∧ (∀ z ∈ X, Item z) ∧ (∀ z ∈ Y, Item z) ∧ X.length ≤ 1000 ∧ Y.length ≤ 1000) := by
  obtain ⟨m, rfl⟩ : ∃ m, n = m + 2 := ⟨n - 2, by omega⟩
  cases hs : swM Pw Qw with
  | none =>
    have e : rwM (some (Pw, Qw, lp Pw Qw)) (m + 2) = none := by rw [rw_two, hs]
    have e0 : rwM (some (Pw, Qw, 0)) (m + 2) = none := by rw [rw_two, hs]
    rw [e]
    refine ⟨fun A B z => (by cases z), .inl ⟨?_, rfl⟩⟩
    unfold powW
    rw [e0]
    rfl
  | some v =>
    obtain ⟨b, d, hp⟩ := sw_some hs
    have e1 : Pw = (mkP b v d).1 := congrArg Prod.fst hp
    have e2 : Qw = (mkP b v d).2 := congrArg Prod.snd hp
    rw [e1, e2] at hi hl ⊢
    obtain ⟨iv, id⟩ := mk_mem.mp hi
    have ln : v.length + (m + 2) * d.length ≤ 1000 := by
      have x1 : 1 * v.length ≤ (m + 2) * v.length := Nat.mul_le_mul_right _ (by omega)
      have x2 : (m + 2) * (mkP b v d).1.length + (m + 2) * (mkP b v d).2.length ≤ 1000 := by omega
      have x3 : (mkP b v d).1.length + (mkP b v d).2.length = v.length + v.length + d.length := by cases b <;> simp [mkP] <;> omega
      rw [← Nat.mul_add, x3, Nat.mul_add, Nat.mul_add] at x2
      omega
    obtain ⟨g1, g2, g3, g4⟩ := pow_mk (b := b) (w := v) (d := d) (e := m + 2) (by omega) iv id ln (Int.le_refl _)
    have hm := (mk_mem (b := b) (w := v) (r := repW (m + 2) d) (P := Item)).mpr ⟨iv, fun z m => id z (repW_mem m)⟩
    have hz := (mk_len (b := b) (w := v) (r := repW (m + 2) d) (n := 1000)).mpr (by rw [repW_len]; exact ln)
    refine ⟨g2, .inr ⟨_, _, _, ?_, g1, hm.1, hm.2, hz.1, hz.2⟩⟩
    obtain ⟨A, B, h1, h2⟩ := rw_mk b v d 0 (m + 1)
    unfold powW
    rw [h1, Option.map_some]
    dsimp only
    rw [h2]
theorem uniq_key {L : List (Nat × (List Str × List Str))} (asc : (L.map (·.1)).Pairwise (· < ·)) {q r : Nat × (List Str × List Str)} (h1 : q ∈ L) (h2 : r ∈ L) (e : q.1 = r.1) : q = r := by
  have a := List.pairwise_iff_getElem.mp (List.pairwise_map.mp asc)
  obtain ⟨i, l1, e1⟩ := List.mem_iff_getElem.mp h1
  obtain ⟨j, l2, e2⟩ := List.mem_iff_getElem.mp h2
  rcases Nat.lt_trichotomy i j with c | c | c
  · have := a i j l1 l2 c
    rw [e1, e2] at this
    omega
  · subst c
    rw [← e1, ← e2]
  · have := a j i l2 l1 c
    rw [e1, e2] at this
    omega
def spER (K : PySem.W.Frag) (C : Addr) : Sp := fun vs H Q _ => ∃ (e W d : Addr) (xs ys : List Str) (p : Int) (ts : List V) (od : Obj) (kvs : List (Key × V)), vs = [.ref e, .ref W, .ref d] ∧ EffAt K C H e xs ys p ∧ EffOk (some (xs, ys, p)) ∧ xs ≠ ys ∧ xs.length ≤ 2 ∧ ys.length ≤ 2 ∧
  H W = some (.lst ts) ∧ WL K H ts 2 ∧ H d = some (.frz od (.dK kvs)) ∧ DtL K C H kvs (rtsM xs ys) ∧ ∀ H', Same H H' → Q (.bl true) H'
abbrev nER : List Str := ["_law_effect", "_law_words", "_law_found", "_law_longest", "_law_pops", "_law_pushes", "_law_root", "_law_exponent", "_law_power", "_law_same"]
abbrev pER : List Str := ["_law_effect", "_law_words", "_law_found"]
theorem scER : FnScope nER pER (defScope sLawEnumeratedRight) := ⟨rfl, rfl, rfl, by decide +kernel, rfl, by decide +kernel, by decide +kernel⟩
theorem has_er (Df : Def K mg "_law_enumerated_right" sLawEnumeratedRight) (T : EC K mg C) (TP : PCl K mg D) (TI : EI K C) (M : Makes P w K mg base C) (PM : PMakes P w K mg base C D) (GP : PropHas P w K mg base C "pops" 1 (spPops K C)) (GQ : PropHas P w K mg base C "pushes" 1 (spPush K C)) (GN : PropHas P w K mg base C "is_never" 1 (spIsNev K C))
    (ME : MethHas P w K mg base D "effect" 7 ["self"] (spPE K C D)) (EQ : EqHas P w K mg base C) (EN : EqHasN P w K mg base C) (B : Blt mg) (mr : mg "range" = none) (mx : mg "max" = none) : Has P w K mg base "_law_enumerated_right" 8 pER [] (spER K C) := by
  obtain ⟨fq, fdq, FQ, eq1, eq2, eq3, eq4⟩ := EQ
  obtain ⟨fn, fdn, FN, en0, en1, en2, en3⟩ := EN
  refine has_of Df scER (fun _ _ _ _ _ _ us hl => match us, hl with | [_, _, _], _ => rfl) (fun xs H Q E h => ?_) (fun f cv A out s H xs Q E hr h => ?_)
  · obtain ⟨e, W, d, xs, ys, p, ts, od, kvs, rfl, _⟩ := h
    rfl
  · obtain ⟨e, W, d, xs, ys, p, ts, od, kvs, rfl, he, ok, hn, lx, ly, hW, wl, hd, dt, k⟩ := h
    have hr1 : Room 1 _ := hr.mono (by decide)
    have hr2 : Room 2 _ := hr.mono (by decide)
    have hr5 : Room 5 _ := hr.mono (by decide)
    have hr6 : Room 6 _ := hr.mono (by decide)
    have hr7 : Room 7 _ := hr.mono (by decide)
    have hu1 := Nat.lt_trans (Nat.add_lt_add_left (by decide : 1 < 64) _) hr.units
    refine ⟨_, pss_cons (ps_set (i := 3) scER.nd rfl (.inl rfl) (pe_callB (call_max2 rfl) (by rfl) mx (by decide +kernel) (pa_cons (pe_callB call_len_seq (by rfl) B.len PySem.boot_len (pa_cons (pe_propH GP (pv 0) T.cl hr2) pa_nil)) (pa_cons (pe_callB call_len_seq (by rfl) B.len PySem.boot_len (pa_cons (pe_propH GQ (pv 0) T.cl hr2) pa_nil)) pa_nil))))
      (pss_cons (ps_for PassesOwn.never rfl (pi_list (pv 1)) (pg_name (i := 4) scER.nd rfl (.inl rfl))
        (pss_one (ps_for PassesOwn.never rfl (pi_list (pv 1)) (pg_name (i := 5) scER.nd rfl (.inl rfl))
          (pss_cons (ps_set (i := 6) scER.nd rfl (.inl rfl) (pe_eff2 M T.mgE hr5 (pa_cons (pv 4) (pa_cons (pv 5) pa_nil))))
          (pss_one (ps_for PassesOwn.never rfl (pi_range2 (by rfl) mr (pa_cons pe_int (pa_cons (pe_op op_add (pv 3) pe_int) pa_nil))) (pg_name (i := 7) scER.nd rfl (.inl rfl))
            (pss_cons (ps_set (i := 8) scER.nd rfl (.inl rfl) (pe_mH0 ME (pe_pow PM TP.mgP hr6 (pa_cons (pv 6) (pa_cons (pv 7) pa_nil))) TP.cl hr7))
            (Evl.pss_cut (ps_set (i := 9) scER.nd rfl (.inl rfl) (pe_and (pe_not (pe_propH GN (pv 8) T.cl hr2)) (pe_one (pe_cmpR (op_eqD hr.units) (pe_lst (pa_cons (pe_propH GP (pv 8) T.cl hr2) (pa_cons (pe_propH GQ (pv 8) T.cl hr2) pa_nil))) (pe_lst (pa_cons (pe_propH GP (pv 0) T.cl hr2) (pa_cons (pe_propH GQ (pv 0) T.cl hr2) pa_nil))) (nomark _)))))
            (pss_one (ps_if (pt_cmpR op_ne (pv 9) (pe_cmpR (op_or (op_eqN FN en0 en1 en2 en3 hr1) (op_eqE FQ eq1 eq2 eq3 hr1)) (pe_dget2 hu1 (pv 2) (pv 7) pe_non ⟨rfl, rfl, rfl, rfl⟩) (pv 6) (nomark _)) (nomark _)) (pss_one (ps_ret pe_bl)) pss_nil))))))))))
      (pss_one (ps_ret pe_bl))), ?_⟩
    obtain ⟨dxe, ue, ve, je, _, _⟩ := he.ex
    obtain ⟨i1, i2, l1, l2, p0, p1⟩ := id ok
    refine ⟨_, rfl, e, dxe, _, rfl, je, e, xs, ys, p, rfl, he, fun u hu => ⟨u, _, rfl, .inr hu, _, rfl, e, dxe, _, rfl, je, e, xs, ys, p, rfl, he, fun v hv => ⟨v, _, rfl, .inr hv, _, _, rfl, ?_⟩⟩⟩
    rw [List.length_map, List.length_map]
    have hm : 0 ≤ (if (ys.length : Int) > (xs.length : Int) then (ys.length : Int) else (xs.length : Int)) ∧ (if (ys.length : Int) > (xs.length : Int) then (ys.length : Int) else (xs.length : Int)) ≤ 2 := by
      split <;> omega
    generalize (if (ys.length : Int) > (xs.length : Int) then (ys.length : Int) else (xs.length : Int)) = m at hm ⊢
    obtain ⟨m0, m2⟩ := hm
    refine ⟨_, rfl, W, rfl, ⟨_, .of hW⟩, for_list (K := K) (a := W) (xs := ts) (fun j σ H2 => ∃ (y4 y5 y6 y7 y8 y9 : Option V), σ = [some (.ref e), some (.ref W), some (.ref d), some (.int m), y4, y5, y6, y7, y8, y9] ∧ Same H H2) ⟨_, _, _, _, _, _, rfl, Same.refl H⟩ (fun j σ H2 _ z => ?_) ?_ ?_⟩
    · obtain ⟨_, _, _, _, _, _, _, s2⟩ := z
      exact .of (s2 _ _ hW)
    rotate_left
    · rintro σ H2 ⟨y4, y5, y6, y7, y8, y9, rfl, s2⟩
      exact k H2 s2
    rintro j x σ H2 hx ⟨y4, y5, y6, y7, y8, y9, rfl, s2⟩
    obtain ⟨tp, Pw, rfl, hP, lP, iP⟩ := wl x (List.mem_of_getElem? hx)
    refine ⟨_, rfl, W, rfl, ⟨_, .of (s2 _ _ hW)⟩, for_list (K := K) (a := W) (xs := ts) (fun j σ H2 => ∃ (y5 y6 y7 y8 y9 : Option V), σ = [some (.ref e), some (.ref W), some (.ref d), some (.int m), some (.ref tp), y5, y6, y7, y8, y9] ∧ Same H H2) ⟨_, _, _, _, _, rfl, s2⟩ (fun j σ H2 _ z => ?_) ?_ ?_⟩
    · obtain ⟨_, _, _, _, _, _, s2⟩ := z
      exact .of (s2 _ _ hW)
    rotate_left
    · rintro σ H2 ⟨y5, y6, y7, y8, y9, rfl, s2⟩
      exact ⟨_, _, _, _, _, _, rfl, s2⟩
    rintro j2 x σ H2 hx2 ⟨y5, y6, y7, y8, y9, rfl, s2⟩
    obtain ⟨tq, Qw, rfl, hQ, lQ, iQ⟩ := wl x (List.mem_of_getElem? hx2)
    refine ⟨_, rfl, _, rfl, tp, tq, Pw, Qw, rfl, Same.tup s2 hP, Same.tup s2 hQ, by omega, by omega, iP, iQ, fun a H3 s3 _ ha => ?_⟩
    have okr : EffOk (some (Pw, Qw, lp Pw Qw)) := ⟨iP, iQ, by omega, by omega, by unfold lp; split <;> omega, by unfold lp; split <;> omega⟩
    have s23 := s2.trans s3
    refine ⟨_, rfl, _, _, rfl, rfl, _, _, rfl, ⟨by omega, by omega, by omega, by omega⟩, for_range (lo := 2) (n := (m + 2 - 2).toNat) (fun i σ H4 => ∃ (y7 y8 y9 : Option V), σ = [some (.ref e), some (.ref W), some (.ref d), some (.int m), some (.ref tp), some (.ref tq), some (.ref a), y7, y8, y9] ∧ Same H3 H4) ⟨_, _, _, rfl, Same.refl _⟩ ?_ ?_⟩
    rotate_left
    · rintro σ H4 ⟨y7, y8, y9, rfl, s4⟩
      exact ⟨_, _, _, _, _, rfl, s23.trans s4⟩
    rintro i σ H4 hi ⟨y7, y8, y9, rfl, s4⟩
    have ez : (2 : Int) + (i : Nat) = ((2 + i : Nat) : Int) := by omega
    have i2' : i ≤ 1 := by omega
    have ha4 := ha.same s4
    have x1 : (2 + i) * Pw.length ≤ 3 * 2 := Nat.mul_le_mul (by omega) lP
    have x2 : (2 + i) * Qw.length ≤ 3 * 2 := Nat.mul_le_mul (by omega) lQ
    obtain ⟨gd, cases2⟩ := pow_any (Pw := Pw) (Qw := Qw) (n := 2 + i) (by omega) ⟨iP, iQ⟩ ⟨by omega, by omega⟩
    rw [ez]
    refine ⟨_, rfl, _, rfl, a, some (Pw, Qw, lp Pw Qw), 2 + i, rfl, ha4, okr, by omega, fun q H5 s5 hq2 => ?_⟩
    obtain ⟨dxq, w1, w2, g1, g2⟩ := hq2.ex
    refine ⟨q, dxq, _, rfl, g1, eF_none (by decide +kernel) (by decide +kernel) (by decide +kernel), q, _, _, rfl, hq2, rw_small _ okr, gd, fun e2 H6 s6 he2 => ?_⟩
    have s46 := (s4.trans s5).trans s6
    refine ⟨fun σ HX => ∃ b : Bool, σ = [some (.ref e), some (.ref W), some (.ref d), some (.int m), some (.ref tp), some (.ref tq), some (.ref a), some (.int ((2 + i : Nat) : Int)), some (.ref e2), some (.bl b)] ∧ b = decide (powW Pw Qw (2 + i) = some (xs, ys)) ∧ Same H6 HX, ?_, ?_⟩
    · rcases cases2 with ⟨cn, cp⟩ | ⟨X, Y, pk, cn, cp, iX, iY, lX, lY⟩
      · rw [cp] at he2
        have hnev : NevAt C H6 e2 := he2
        obtain ⟨d6, j6⟩ := hnev.ex
        refine ⟨_, rfl, e2, d6, _, rfl, j6, e2, rfl, .inr ⟨hnev, true, rfl, false, rfl, iteF ⟨false, rfl, ?_, Same.refl _⟩⟩⟩
        rw [cn]
        rfl
      · rw [cp] at he2
        have he3 : EffAt K C H6 e2 X Y pk := he2
        obtain ⟨d6, _, _, j6, _, _⟩ := he3.ex
        refine ⟨_, rfl, e2, d6, _, rfl, j6, e2, rfl, .inl ⟨X, Y, pk, he3, false, rfl, true, rfl, iteT ?_⟩⟩
        refine ⟨_, rfl, e2, d6, _, rfl, j6, e2, X, Y, pk, rfl, he3, fun u2 hu2 => ⟨_, rfl, e2, d6, _, rfl, j6, e2, X, Y, pk, rfl, he3, fun v2 hv2 => ⟨(by show 2 ≤ sizeLine; decide), fun L hL => ?_⟩⟩⟩
        have sL := Same.new (o := .lst [V.ref u2, .ref v2]) hL
        have hL1 := upd_same (H := H6) (a := L) (o := .lst [V.ref u2, .ref v2])
        have hu3 := Same.tup sL hu2
        have hv3 := Same.tup sL hv2
        generalize upd H6 L (.lst [V.ref u2, .ref v2]) = HE at sL hL1 hu3 hv3 ⊢
        have heE := he.same ((s23.trans s46).trans sL)
        obtain ⟨dx0, _, _, j0, _, _⟩ := heE.ex
        refine ⟨_, rfl, e, dx0, _, rfl, j0, e, xs, ys, p, rfl, heE, fun u4 hu4 => ⟨_, rfl, e, dx0, _, rfl, j0, e, xs, ys, p, rfl, heE, fun v4 hv4 => ⟨(by show 2 ≤ sizeLine; decide), fun L2 hL2 => ?_⟩⟩⟩
        have sM := Same.new (o := .lst [V.ref u4, .ref v4]) hL2
        refine ⟨.list [.tuple (X.map .str), .tuple (Y.map .str)], .list [.tuple (xs.map .str), .tuple (ys.map .str)], .lst (.of (sM _ _ hL1)) (.cons (.tup (Same.tup sM hu3) (dp_strs _)) (.cons (.tup (Same.tup sM hv3) (dp_strs _)) .nil)), .lst (.of upd_same) (.cons (.tup (Same.tup sM hu4) (dp_strs _)) (.cons (.tup (Same.tup sM hv4) (dp_strs _)) .nil)), (nice_two iX iY lX lY).shaped (by decide), (nice_two i1 i2 l1 l2).shaped (by decide), ?_⟩
        rw [eqv_two]
        refine ⟨_, rfl, ?_, sL.trans sM⟩
        rw [cn]
        by_cases c : (X, Y) = (xs, ys)
        · rw [decide_eq_true c, decide_eq_true (congrArg some c)]
        · rw [decide_eq_false c, decide_eq_false (fun z => c (Option.some.inj z))]
    rintro σ HX ⟨b, rfl, hb, s7⟩
    have s47 := s46.trans s7
    have s27 := s23.trans s47
    have haX := ha.same s47
    have hdX := s27 _ _ hd
    have dtX := dt.same s27
    obtain ⟨dxa, _, _, jaX, _, _⟩ := haX.ex
    refine ⟨_, rfl, _, rfl, d, rfl, .inl ⟨kvs, .inr ⟨od, hdX⟩⟩, _, rfl, ?_⟩
    have asc := rts_asc xs ys
    have mem2 := rts_mem (xs := xs) (ys := ys) (P := Pw) (Q := Qw) (e := 2 + i) hn (by omega)
    refine ⟨valV kvs (Sum.inl ((2 + i : Nat) : Int)), .inl ⟨kvs, Sum.inl ((2 + i : Nat) : Int), .inr ⟨od, hdX⟩, rfl, rfl⟩, _, rfl, ?_⟩
    by_cases c : (2 + i) ∈ (rtsM xs ys).map (·.1)
    · obtain ⟨q, mq, eq⟩ := List.mem_map.mp c
      obtain ⟨okq, _, _, _, _⟩ := root_ok ok hn mq
      obtain ⟨a2, gv, ga⟩ := dtX.get asc mq
      rw [← eq, gv]
      obtain ⟨dxb, _, _, jb, _, _⟩ := ga.ex
      refine .inr ⟨a2, a, decide ((some (q.2.1, q.2.2, lp q.2.1 q.2.2) : Eff) = some (Pw, Qw, lp Pw Qw)), dxb, dxa, _, _, rfl, rfl, jb, jaX, ⟨some (q.2.1, q.2.2, lp q.2.1 q.2.2), some (Pw, Qw, lp Pw Qw), ga, haX, okq, okr, rfl⟩, fun H8 s8 => ?_⟩
      have same : b = (decide ((some (q.2.1, q.2.2, lp q.2.1 q.2.2) : Eff) = some (Pw, Qw, lp Pw Qw)) != false) := by
        rw [hb]
        have iff1 : powW Pw Qw (2 + i) = some (xs, ys) ↔ (some (q.2.1, q.2.2, lp q.2.1 q.2.2) : Eff) = some (Pw, Qw, lp Pw Qw) := by
          rw [← mem2]
          constructor
          · intro m
            have e2 := uniq_key asc mq m eq
            rw [e2]
          · intro z
            have z1 := Option.some.inj z
            have z2 : q.2.1 = Pw := congrArg Prod.fst z1
            have z3 : q.2.2 = Qw := congrArg (fun t => t.2.1) z1
            have z4 : q = (2 + i, (Pw, Qw)) := Prod.ext eq (Prod.ext z2 z3)
            rw [← z4]
            exact mq
        by_cases c2 : powW Pw Qw (2 + i) = some (xs, ys)
        · rw [decide_eq_true c2, decide_eq_true (iff1.mp c2)]; rfl
        · rw [decide_eq_false c2, decide_eq_false (fun z => c2 (iff1.mpr z))]; rfl
      exact ⟨rfl, _, rfl, iteNS (congrArg V.bl same) ⟨_, _, _, rfl, s47.trans s8⟩⟩
    · rw [dtX.none c]
      refine .inl ⟨a, false, dxa, _, rfl, rfl, jaX, ⟨rfl, rfl, some (Pw, Qw, lp Pw Qw), haX⟩, fun H8 s8 => ?_⟩
      have same : b = false := by
        rw [hb]
        exact decide_eq_false (fun z => c (List.mem_map_of_mem (mem2.mpr z)))
      exact ⟨rfl, _, rfl, iteNS (congrArg V.bl same) ⟨_, _, _, rfl, s47.trans s8⟩⟩
end
end SE
namespace SE
open PySem PySem.Spec PyProof.Rows L2
section
variable {K : PySem.W.Frag} {C : Addr}
/-! ### two dicts of roots -/
def rEffT (K : PySem.W.Frag) (C : Addr) (a b : Addr) (H : Hp) : Prop := ∃ o, EffV K C H a o ∧ EffV K C H b o ∧ EffOk o
theorem mon_eff : Mon (DIns C (rEffT K C)) := mon_ins fun a b H H' e h => by
  obtain ⟨o, h1, h2, h3⟩ := h
  exact ⟨o, h1.same e, h2.same e, h3⟩
theorem eff_eqG {X : Cx} {f : Addr} {fd : FuncData} (FQ : FnOk X.prog X.w X.K X.mg X.base CX0 1 f fd ["self", "other"] (spEqB (rEff X.K C))) (hs : PySem.W.findIn X.K (.ref C) "__eq__" = some (some (.ref f))) (hf : PySem.W.isFn X.K (.ref f) = true) (hb : Binds X.K fd ["self", "other"] []) : EqG X 1 (DIns C (rEffT X.K C)) :=
  eqG_ins (CX := CX0) (E := E0) (FQ.imp fun vs H Q E h => by
    obtain ⟨a, b, e, ⟨o, h1, h2, h3⟩, k⟩ := h
    exact ⟨a, b, true, e, ⟨o, o, h1, h2, h3, h3, (decide_eq_true rfl).symm⟩, k⟩) hs hf hb pass0
theorem DtL.mem {H : Hp} : ∀ {kvs : List (Key × V)} {qs : List (Nat × (List Str × List Str))}, DtL K C H kvs qs → ∀ {kv : Key × V}, kv ∈ kvs → ∃ q ∈ qs, DtE K C H kv q
  | _, _, .nil, _, m => by cases m
  | _, _, .cons r t, kv, m => by
    rcases List.mem_cons.mp m with e | m
    · subst e
      exact ⟨_, List.mem_cons_self, r⟩
    · obtain ⟨q, mq, hq⟩ := DtL.mem t m
      exact ⟨q, List.mem_cons_of_mem _ mq, hq⟩
theorem DtL.len {H : Hp} : ∀ {kvs : List (Key × V)} {qs : List (Nat × (List Str × List Str))}, DtL K C H kvs qs → kvs.length = qs.length
  | _, _, .nil => rfl
  | _, _, .cons _ t => by rw [List.length_cons, List.length_cons, DtL.len t]
theorem dicts_eq {H : Hp} {a b : Addr} {oa ob : Obj} {ks ls : List (Key × V)} {xs ys : List Str} {p : Int} (ok : EffOk (some (xs, ys, p))) (hn : xs ≠ ys) (ha : H a = some (.frz oa (.dK ks))) (hb : H b = some (.frz ob (.dK ls))) (h1 : DtL K C H ks (rtsM xs ys)) (h2 : DtL K C H ls (rtsM xs ys)) : DDict (DIns C (rEffT K C)) (.ref a) (.ref b) H := by
  refine ⟨a, b, oa, ob, ks, ls, rfl, rfl, ha, hb, by rw [h1.len, h2.len], fun kv m => ?_⟩
  obtain ⟨q, mq, e1, a1, e2, g1⟩ := h1.mem m
  obtain ⟨a2, e3, g2⟩ := h2.get (rts_asc xs ys) mq
  rw [e1]
  obtain ⟨okq, _⟩ := root_ok ok hn mq
  obtain ⟨d1, _, _, j1, _, _⟩ := g1.ex
  obtain ⟨d2, _, _, j2, _, _⟩ := g2.ex
  exact ⟨.ref a2, e3, a1, a2, d1, d2, _, _, e2, rfl, j1, j2, some (q.2.1, q.2.2, lp q.2.1 q.2.2), g1, g2, okq⟩
theorem rts_own {b : Bool} {w d : List Str} {n : Nat} (h2 : 2 ≤ n) (hd : d ≠ []) : (n, mkP b w d) ∈ rtsM (mkP b w (repW n d)).1 (mkP b w (repW n d)).2 := by
  have rn : repW n d ≠ [] := fun z => by
    have z2 := congrArg List.length z
    rw [repW_len] at z2
    have : 1 * 1 ≤ n * d.length := Nat.mul_le_mul (by omega) (List.length_pos_iff.mpr hd)
    have z3 : n * d.length = 0 := z2
    omega
  obtain ⟨A, B, h1, h3⟩ := rw_mk b w d 0 (n - 1)
  rw [show n - 1 + 1 = n by omega] at h1 h3
  refine (rts_mem (P := (mkP b w d).1) (Q := (mkP b w d).2) (mk_neq.mpr rn) h2).mpr ?_
  unfold powW
  rw [h1, Option.map_some]
  dsimp only
  rw [h3]
theorem rts_le {xs ys : List Str} {q : Nat × (List Str × List Str)} {b : Bool} {w R : List Str} (hx : (xs, ys) = mkP b w R) (hn : xs ≠ ys) (m : q ∈ rtsM xs ys) : q.1 ≤ R.length := by
  obtain ⟨_, c, v, d, _, h4, h5⟩ := rts_root hn m
  rw [hx] at h4
  obtain ⟨_, e⟩ := mk_inj h4
  rw [e, repW_len]
  have := Nat.mul_le_mul_left q.1 (List.length_pos_iff.mpr h5)
  omega
theorem rts_few {b : Bool} {w R : List Str} (hR : R ≠ []) (hl : R.length ≤ 1000) : (rtsM (mkP b w R).1 (mkP b w R).2).length < 64 := by
  rw [rts_mk, List.length_map]
  exact rootsW_few hR hl
theorem DtL.kvk {H : Hp} : ∀ {kvs : List (Key × V)} {qs : List (Nat × (List Str × List Str))}, DtL K C H kvs qs → (kvs.map fun kv => kV kv.1) = (qs.map fun q => ((q.1 : Nat) : Int)).map V.int
  | _, _, .nil => rfl
  | kv :: kvs, q :: qs, .cons ⟨h1, _⟩ t => by
    show kV kv.1 :: (kvs.map fun kv => kV kv.1) = V.int ((q.1 : Nat) : Int) :: (qs.map fun q => ((q.1 : Nat) : Int)).map V.int
    rw [DtL.kvk t, h1]
    rfl
theorem mk_abs (b : Bool) (w R : List Str) : (if ((mkP b w R).2.length : Int) - ((mkP b w R).1.length : Int) < 0 then -(((mkP b w R).2.length : Int) - ((mkP b w R).1.length : Int)) else ((mkP b w R).2.length : Int) - ((mkP b w R).1.length : Int)) = (R.length : Int) := by
  cases b
  · simp only [mkP, Bool.false_eq_true, if_false, List.length_append]
    split <;> omega
  · simp only [mkP, if_true, List.length_append]
    split <;> omega
theorem dps_ints {H : Hp} : ∀ ns : List Int, DpAll K H (ns.map V.int) (ns.map PyData.int)
  | [] => .nil
  | n :: ns => .cons (.int n) (dps_ints ns)
theorem ints_lay : ∀ ns : List Int, PyData.canLayAll0 (ns.map PyData.int) = true ∧ PyData.depthAll (ns.map PyData.int) = 0
  | [] => ⟨by simp [PyData.canLayAll0], by simp [PyData.depthAll]⟩
  | n :: ns => by
    obtain ⟨h1, h2⟩ := ints_lay ns
    exact ⟨by simp [PyData.canLayAll0, PyData.canLay0, h1], by simp [PyData.depthAll, PyData.depth, h2]⟩
theorem ints_shaped (ns : List Int) : PyData.canLay0 (.list (ns.map PyData.int)) = true ∧ SeqAt.shaped (.list (ns.map PyData.int)) = true := by
  obtain ⟨h1, h2⟩ := ints_lay ns
  refine ⟨by simp [PyData.canLay0, h1], ?_⟩
  unfold SeqAt.shaped
  simp [PyData.canLay0, h1, PyData.depth, h2]
/-- the same keys, sorted twice -/
theorem sort_same {ks y1 y2 : List Int} (h1 : y1.Perm ks) (h2 : y2.Perm ks) (s1 : y1.Pairwise (· ≤ ·)) (s2 : y2.Pairwise (· ≤ ·)) : y1 = y2 :=
  List.Perm.eq_of_pairwise (fun a b _ _ h h' => Int.le_antisymm h h') s1 s2 (h1.trans h2.symm)
theorem rts_keys (b : Bool) (w R : List Str) : ((rtsM (mkP b w R).1 (mkP b w R).2).map fun q => ((q.1 : Nat) : Int)) = (rootsW R).map fun q => ((q.1 : Nat) : Int) := by
  rw [rts_mk, List.map_map]
  rfl
/-- the greatest of the exponents -/
theorem max_mod {d : List Str} {m : Nat} {M : Int} (h2 : 2 ≤ m) (hd : d ≠ []) (hm : M ∈ (rootsW (repW m d)).map fun q => ((q.1 : Nat) : Int)) (big : ∀ y ∈ (rootsW (repW m d)).map fun q => ((q.1 : Nat) : Int), y ≤ M) : M % (m : Int) = 0 := by
  have rn : repW m d ≠ [] := fun z => by
    have z2 := congrArg List.length z
    rw [repW_len] at z2
    have : 1 * 1 ≤ m * d.length := Nat.mul_le_mul (by omega) (List.length_pos_iff.mpr hd)
    have z3 : m * d.length = 0 := z2
    omega
  obtain ⟨⟨e, u⟩, mq, rfl⟩ := List.mem_map.mp hm
  obtain ⟨h3, h4⟩ := (rootsW_mem rn).mp mq
  have dv : m ∣ e := exp_dvd rn h4 rfl fun k v hv => by
    by_cases c : 2 ≤ k
    · have := big _ (List.mem_map.mpr ⟨(k, v), (rootsW_mem rn).mpr ⟨c, hv⟩, rfl⟩)
      have z : ((k : Nat) : Int) ≤ ((e : Nat) : Int) := this
      omega
    · omega
  obtain ⟨t, rfl⟩ := dv
  show (((m * t : Nat)) : Int) % (m : Int) = 0
  rw [Int.natCast_mul]
  exact Int.mul_emod_right _ _
/-! ### what stands while the law draws -/
structure LS (K : PySem.W.Frag) (H0 H : Hp) (p l s t : Addr) (zs st pt : List Str) : Prop where
  s0 : Same H0 H
  pl : Pool H p
  lp : l ≠ p
  hl : H l = some (.lst (zs.map V.str))
  hs : SqT K H s (st.map V.str)
  ht : SqT K H t (pt.map V.str)
theorem LS.same {H0 H H' : Hp} {p l s t : Addr} {zs st pt : List Str} (h : LS K H0 H p l s t zs st pt) (e : Same H H') : LS K H0 H' p l s t zs st pt :=
  ⟨h.s0.trans e, h.pl.same e, h.lp, e _ _ h.hl, Same.tup e h.hs, Same.tup e h.ht⟩
theorem pool_lst {H : Hp} {p : Addr} (h : Pool H p) : ∃ v, H p = some (.lst v) := by
  obtain ⟨a, b, h1, _⟩ := h
  exact ⟨_, h1⟩
theorem LS.draw {H0 H H' : Hp} {p l s t : Addr} {zs st pt : List Str} (h : LS K H0 H p l s t zs st pt) (p0 : H0 p = none) (b : But p H H') (q : Pool H' p) : LS K H0 H' p l s t zs st pt := by
  obtain ⟨v, hv⟩ := pool_lst h.pl
  exact ⟨Same.but3 h.s0 p0 b, q, h.lp, b _ _ h.lp h.hl, tup_lb h.hs hv b, tup_lb h.ht hv b⟩
theorem EffAt.draw {H H' : Hp} {p e : Addr} {xs ys : List Str} {q : Int} (h : EffAt K C H e xs ys q) (pl : Pool H p) (b : But p H H') : EffAt K C H' e xs ys q := by
  obtain ⟨v, hv⟩ := pool_lst pl
  exact h.lb hv b
theorem DtL.draw {H H' : Hp} {p : Addr} (pl : Pool H p) (b : But p H H') : ∀ {kvs : List (Key × V)} {qs : List (Nat × (List Str × List Str))}, DtL K C H kvs qs → DtL K C H' kvs qs
  | _, _, .nil => .nil
  | _, _, .cons ⟨h1, a, h2, h3⟩ t => .cons ⟨h1, a, h2, h3.draw pl b⟩ (DtL.draw pl b t)
end
end SE
namespace SE
open PySem PySem.Spec PyProof.Rows L2
section
variable {P : Program} {w : World} {K : PySem.W.Frag} {mg : Str → Option Value} {base : Heap} {C D : Addr}
def spLaw (K : PySem.W.Frag) : Sp := fun xs H Q _ => ∃ (a : Addr) (ns : List Int), xs = [.ref a] ∧ SqL K H a (ns.map V.int) ∧ ns.length ≤ 63 ∧ ∀ H', Q (.bl true) H'
abbrev nLaw : List Str := ["_law_script", "_law_k", "_law_pool_here", "_law_items_here", "_law_start", "_law_part", "_law_exponent", "_law_base", "_law_effect", "_law_found", "_law_higher", "_law_many", "_law_turned", "_law_words", "_law_few"]
theorem scLaw : FnScope nLaw ["_law_script"] (defScope sLaw) := ⟨rfl, rfl, rfl, by decide +kernel, rfl, by decide +kernel, by decide +kernel⟩
theorem ok_law {f : Addr} {fd : FuncData} (F : Fun K "law" "law" sLaw f fd) (T : EC K mg C) (TP : PCl K mg D) (TI : EI K C) (M : Makes P w K mg base C) (PM : PMakes P w K mg base C D) (GNv : NeverHas P w K mg base C) (ME : MethHas P w K mg base D "effect" 7 ["self"] (spPE K C D)) (EQ : EqHas P w K mg base C)
    (GP : PropHas P w K mg base C "pops" 1 (spPops K C)) (GQ : PropHas P w K mg base C "pushes" 1 (spPush K C)) (GK : PropHas P w K mg base C "peak" 1 (spPeak K C)) (GC : PropHas P w K mg base C "change" 1 (spChan K C)) (GU : PropHas P w K mg base C "is_neutral" 1 (spNeu K C))
    (GPl : Has P w K mg base "_law_pool" 1 ["_law_script", "_law_k"] [] (spPool K)) (GT : Has P w K mg base "_law_take" 1 ["_law_pool_here", "_law_many"] [] spTake) (GI : Has P w K mg base "_law_items" 2 ["_law_pool_here", "_law_many"] [] spItems2) (GW : Has P w K mg base "_law_word" 2 ["_law_pool_here", "_law_items_here", "_law_most"] [] spWord)
    (GR : Has P w K mg base "roots" 6 ["effect"] [] (spRoots K C)) (GRR : Has P w K mg base "_law_roots_right" 8 ["_law_effect"] [] (spRR K C)) (GS : Has P w K mg base "_law_stacks" 1 ["_law_items_here", "_law_most"] [] (spStk K)) (GER : Has P w K mg base "_law_enumerated_right" 8 pER [] (spER K C))
    (B : Blt mg) (mr : mg "range" = none) (mx : mg "max" = none) (mn : mg "min" = none) (ma : mg "abs" = none) (ml : mg "list" = none) (ms : mg "sorted" = none) : GOk P w K mg base 9 f fd ["_law_script"] (spLaw K) := by
  obtain ⟨fq, fdq, FQ, eq1, eq2, eq3, eq4⟩ := EQ
  refine gok_mk F scLaw (fun xs H Q E h => ?_) (fun cv A out s H xs Q E hgu hr h => ?_)
  · obtain ⟨a, ns, rfl, _⟩ := h
    rfl
  · obtain ⟨a, ns, rfl, hS, hlen, k⟩ := h
    have hr1 : Room 1 _ := hr.mono (by decide)
    have hr2 : Room 2 _ := hr.mono (by decide)
    have hr5 : Room 5 _ := hr.mono (by decide)
    have hr6 : Room 6 _ := hr.mono (by decide)
    have hr7 : Room 7 _ := hr.mono (by decide)
    have hr8 : Room 8 _ := hr.mono (by decide)
    have hu1 := Nat.lt_trans (Nat.add_lt_add_left (by decide : 1 < 64) _) hr.units
    refine ⟨_, (pss_cons (ps_for PassesOwn.never rfl (pi_range1 (by rfl) mr (pa_cons (pe_callB (call_max2 rfl) (by rfl) mx (by decide +kernel) (pa_cons pe_int (pa_cons (pe_callB (call_min2 rfl) (by rfl) mn (by decide +kernel) (pa_cons (pe_callB call_len_seq (by rfl) B.len PySem.boot_len (pa_cons (pv 0) pa_nil)) (pa_cons pe_int pa_nil))) pa_nil))) pa_nil)) (pg_name (i := 1) scLaw.nd rfl (.inl rfl))
(pss_cons (ps_set (i := 2) scLaw.nd rfl (.inl rfl) (pe_has GPl hr1 (pa_cons (pv 0) (pa_cons (pv 1) pa_nil))))
(pss_cons (ps_set (i := 3) scLaw.nd rfl (.inl rfl) (pe_has GI hr2 (pa_cons (pv 2) (pa_cons pe_int pa_nil))))
(pss_cons (ps_par (i := 4) (j := 5) (by rfl) scLaw.nd rfl rfl (by decide) rfl rfl (pa_cons (pe_has GW hr2 (pa_cons (pv 2) (pa_cons (pv 3) (pa_cons pe_int pa_nil)))) (pa_cons (pe_op op_catS (pe_has GW hr2 (pa_cons (pv 2) (pa_cons (pv 3) (pa_cons pe_int pa_nil)))) (pe_tup (pa_cons (pe_ix ix_list (pv 3) pe_int (fun _ _ => rfl)) pa_nil))) pa_nil)) (by rfl))
(pss_cons (ps_set (i := 6) scLaw.nd rfl (.inl rfl) (pe_op op_add pe_int (pe_has GT hr1 (pa_cons (pv 2) (pa_cons pe_int pa_nil)))))
(Evl.pss_cut (ps_set (i := 7) scLaw.nd rfl (.inl rfl) (pe_ix ix_list (pe_lst (pa_cons (pe_eff2 M T.mgE hr5 (pa_cons (pv 4) (pa_cons (pe_op op_catS (pv 4) (pv 5)) pa_nil))) (pa_cons (pe_eff2 M T.mgE hr5 (pa_cons (pe_op op_catS (pv 4) (pv 5)) (pa_cons (pv 4) pa_nil))) pa_nil))) (pe_has GT hr1 (pa_cons (pv 2) (pa_cons pe_int pa_nil))) (fun _ _ => rfl)))
(pss_cons (ps_set (i := 8) scLaw.nd rfl (.inl rfl) (pe_mH0 ME (pe_pow PM TP.mgP hr6 (pa_cons (pv 7) (pa_cons (pv 6) pa_nil))) TP.cl hr7))
(pss_cons (ps_set (i := 9) scLaw.nd rfl (.inl rfl) (pe_has GRR hr8 (pa_cons (pv 8) pa_nil)))
(Evl.pss_cut (ps_set (i := 10) scLaw.nd rfl (.inl rfl) (pe_effK M T.mgE hr5 (pa_cons (pe_propH GP (pv 8) T.cl hr2) (pa_cons (pe_propH GQ (pv 8) T.cl hr2) pa_nil)) (pe_op op_add (pe_op op_add (pe_propH GK (pv 8) T.cl hr2) pe_int) (pe_has GT hr1 (pa_cons (pv 2) (pa_cons pe_int pa_nil))))))
(pss_cons (ps_if (pt_cmpR (op_neDict mon_eff (eff_eqG FQ eq1 eq2 eq3) hr2) (pe_has GRR hr8 (pa_cons (pv 10) pa_nil)) (pv 9) (nomark _)) (pss_one (ps_ret pe_bl)) pss_nil)
(pss_cons (ps_if (pt_cut (PW.pt (pw_or (pt_cmpR op_isN (pv 9) pe_non (nomark _)) (pw_or1 (PW.pt (pw_and (pt_cmpR op_gt (pv 6) pe_int (nomark _)) (pw_and1 (pt_cmpR (op_neE FQ eq1 eq2 eq3 TI.hm eq4 hr2) (pe_dget2 hu1 (pv 9) (pv 6) pe_non ⟨rfl, rfl, rfl, rfl⟩) (pv 7) (nomark _))))))))) (pss_one (ps_ret pe_bl)) pss_nil)
(Evl.pss_cut (ps_if (pt_cmpR op_gt (pe_callB (cr_max rfl) (by rfl) mx (by decide +kernel) (pa_cons (pe_op op_cat (pe_lst (pa_cons pe_int pa_nil)) (pe_callTy (call_listD rfl) (by rfl) ml (by decide +kernel) (pa_cons (pv 9) pa_nil))) pa_nil)) (pe_callB call_abs (by rfl) ma (by decide +kernel) (pa_cons (pe_propH GC (pv 8) T.cl hr2) pa_nil)) (nomark _)) (pss_one (ps_ret pe_bl)) pss_nil)
(pss_cons (ps_set (i := 11) scLaw.nd rfl (.inl rfl) (pe_op op_add pe_int (pe_has GT hr1 (pa_cons (pv 2) (pa_cons pe_int pa_nil)))))
(pss_cons (ps_set (i := 9) scLaw.nd rfl (.inl rfl) (pe_has GRR hr8 (pa_cons (pe_eff2 M T.mgE hr5 (pa_cons (pv 4) (pa_cons (pe_op op_catS (pv 4) (pe_op op_repT (pv 5) (pv 11))) pa_nil))) pa_nil)))
(pss_cons (ps_set (i := 12) scLaw.nd rfl (.inl rfl) (pe_has GRR hr8 (pa_cons (pe_eff2 M T.mgE hr5 (pa_cons (pe_op op_catS (pv 4) (pe_op op_repT (pv 5) (pv 11))) (pa_cons (pv 4) pa_nil))) pa_nil)))
(pss_cons (ps_if (PW.pt (pw_or (pt_cmpR op_isN (pv 9) pe_non (nomark _)) (pw_or (pt_cmpR op_isN (pv 12) pe_non (nomark _)) (pw_or1 (pt_cmpR (op_neD hr.units) (pe_callB (call_sortedDI rfl) (by rfl) ms (by decide +kernel) (pa_cons (pv 9) pa_nil)) (pe_callB (call_sortedDI rfl) (by rfl) ms (by decide +kernel) (pa_cons (pv 12) pa_nil)) (nomark _)))))) (pss_one (ps_ret pe_bl)) pss_nil)
(Evl.pss_cut (ps_if (PW.pt (pw_or (pt_cmpR (op_neE FQ eq1 eq2 eq3 TI.hm eq4 hr2) (pe_dget2 hu1 (pv 9) (pv 11) pe_non ⟨rfl, rfl, rfl, rfl⟩) (pe_eff2 M T.mgE hr5 (pa_cons (pv 4) (pa_cons (pe_op op_catS (pv 4) (pv 5)) pa_nil))) (nomark _)) (pw_or1 (pt_cmpR op_ne (pe_op op_mod (pe_callB (call_maxK rfl) (by rfl) mx (by decide +kernel) (pa_cons (pv 9) pa_nil)) (pv 11)) pe_int (nomark _))))) (pss_one (ps_ret pe_bl)) pss_nil)
(pss_cons (ps_set (i := 13) scLaw.nd rfl (.inl rfl) (pe_has GS hr1 (pa_cons (pv 3) (pa_cons pe_int pa_nil))))
(pss_cons (ps_set (i := 14) scLaw.nd rfl (.inl rfl) (pe_eff2 M T.mgE hr5 (pa_cons (pe_ix ix_list (pv 13) (pe_has GT hr1 (pa_cons (pv 2) (pa_cons (pe_callB call_len_seq (by rfl) B.len PySem.boot_len (pa_cons (pv 13) pa_nil)) pa_nil))) (fun _ _ => rfl)) (pa_cons (pe_ix ix_list (pv 13) (pe_has GT hr1 (pa_cons (pv 2) (pa_cons (pe_callB call_len_seq (by rfl) B.len PySem.boot_len (pa_cons (pv 13) pa_nil)) pa_nil))) (fun _ _ => rfl)) pa_nil))))
(Evl.pss_cut (ps_if (pt_val (pe_propH GU (pv 14) T.cl hr2)) (pss_one (ps_set (i := 14) scLaw.nd rfl (.inl rfl) (pe_eff2 M T.mgE hr5 (pa_cons (pe_tup pa_nil) (pa_cons (pe_andT (pe_slice sl_list (pv 3) (po_some pe_int) (po_some pe_int)) (pe_one (pe_tup (pa_cons (pe_ix ix_list (pv 3) pe_int (fun _ _ => rfl)) (pa_cons (pe_ix ix_list (pv 3) pe_int (fun _ _ => rfl)) pa_nil))))) pa_nil))))) pss_nil)
(pss_cons (ps_set (i := 9) scLaw.nd rfl (.inl rfl) (pe_has GRR hr8 (pa_cons (pv 14) pa_nil)))
(pss_cons (ps_if (PW.pt (pw_or (pt_cmpR op_isN (pv 9) pe_non (nomark _)) (pw_or1 (pt_not (pt_val (pe_has GER hr8 (pa_cons (pv 14) (pa_cons (pv 13) (pa_cons (pv 9) pa_nil))))))))) (pss_one (ps_ret pe_bl)) pss_nil)
(pss_one (ps_if (PW.pt (pw_or (pt_cmpR op_notN (pe_has GR hr6 (pa_cons (pe_effK M T.mgE hr5 (pa_cons (pv 4) (pa_cons (pv 4) pa_nil)) (pe_has GT hr1 (pa_cons (pv 2) (pa_cons pe_int pa_nil)))) pa_nil)) pe_non (nomark _)) (pw_or1 (pt_cmpR op_notN (pe_has GR hr6 (pa_cons (pe_never0 GNv T.mgE hr6) pa_nil)) pe_non (nomark _))))) (pss_one (ps_ret pe_bl)) pss_nil))))))))))))))))))))))))
(pss_one (ps_ret pe_bl))), ?_⟩
    refine ⟨_, rfl, a, _, rfl, .inl hS, _, 6, rfl, 1, _, rfl, ?_⟩
    have hN : ∀ n : Nat, (1 : Int) ≤ (if (if (6 : Int) < (n : Int) then 6 else (n : Int)) > 1 then (if (6 : Int) < (n : Int) then 6 else (n : Int)) else 1) ∧ (if (if (6 : Int) < (n : Int) then 6 else (n : Int)) > 1 then (if (6 : Int) < (n : Int) then 6 else (n : Int)) else 1) ≤ 6 := by
      intro n
      split <;> split <;> omega
    have hN1 := hN (ns.map V.int).length
    generalize hM : (if (if (6 : Int) < ((ns.map V.int).length : Int) then 6 else ((ns.map V.int).length : Int)) > 1 then (if (6 : Int) < ((ns.map V.int).length : Int) then 6 else ((ns.map V.int).length : Int)) else 1) = N at hN1
    refine ⟨N, by rw [← hM], by omega, by omega, for_range (lo := 0) (n := N.toNat) (fun i σ H2 => ∃ (y1 y2 y3 y4 y5 y6 y7 y8 y9 y10 y11 y12 y13 y14 : Option V), σ = [some (.ref a), y1, y2, y3, y4, y5, y6, y7, y8, y9, y10, y11, y12, y13, y14] ∧ Same H H2) ⟨_, _, _, _, _, _, _, _, _, _, _, _, _, _, rfl, Same.refl H⟩ ?_ ?_⟩
    rotate_left
    · rintro σ H2 ⟨y1, y2, y3, y4, y5, y6, y7, y8, y9, y10, y11, y12, y13, y14, rfl, s2⟩
      exact k H2
    rintro i σ H2 hi ⟨y1, y2, y3, y4, y5, y6, y7, y8, y9, y10, y11, y12, y13, y14, rfl, s2⟩
    refine ⟨_, rfl, _, rfl, a, ns, 0 + i, rfl, Same.seq s2 hS, by omega, by omega, fun p H3 s3 hp p3 => ?_⟩
    have hpn : H p = none := s2.free hp
    refine ⟨_, rfl, p, 2, rfl, p3, by decide, by decide, fun l zs H4 b4 p4 l0 lp' hl4 lz iz => ?_⟩
    have lz2 : zs.length = 2 := lz
    have zne : zs ≠ [] := fun e => by rw [e] at lz2; cases lz2
    obtain ⟨z0, z0m, az0⟩ := pick_str (zs := zs) (r := 0) (by decide) (by omega)
    have iz0 : Item z0 := iz z0 z0m
    refine ⟨_, rfl, _, rfl, p, l, 3, zs, rfl, p4, lp', hl4, zne, by omega, by decide, by decide, fun s st H5 b5 p5 s50 hs5 lst szz => ?_⟩
    have hl5 := b5 _ _ lp' hl4
    refine ⟨_, rfl, _, rfl, p, l, 3, zs, rfl, p5, lp', hl5, zne, by omega, by decide, by decide, fun t1 pt1 H6 b6 p6 t10 ht6 lpt ptz => ?_⟩
    have hl6 := b6 _ _ lp' hl5
    refine ⟨_, rfl, ⟨l, _, 0, .str z0, rfl, rfl, .of hl6, az0, (by show 1 ≤ sizeLine; decide), fun u hu => ?_⟩⟩
    have sU := Same.new (o := .tup [V.str z0]) hu
    have hU := upd_same (H := H6) (a := u) (o := .tup [V.str z0])
    have s56 : SqT K H6 s (st.map V.str) := by
      obtain ⟨v, hv⟩ := pool_lst p5
      exact tup_lb (.of hs5) hv b6
    have L6 : LS K H H6 p l s t1 zs st pt1 := ⟨Same.but3 (Same.but3 (Same.but3 (s2.trans s3) hpn b4) hpn b5) hpn b6, p6, lp', hl6, s56, .of ht6⟩
    have L6' := L6.same sU
    generalize upd H6 u (.tup [V.str z0]) = G6 at hU L6' sU ⊢
    refine ⟨t1, u, pt1.map V.str, [.str z0], rfl, rfl, L6'.ht, .of hU, ?_, fun t H7 s7 ht7 => ⟨_, _, rfl, ?_⟩⟩
    · rw [List.length_map, sizeLine_eq]
      simp only [List.length_singleton]
      omega
    have ht7' : SqT K H7 t ((pt1 ++ [z0]).map V.str) := by rw [List.map_append]; exact ht7
    have L7 : LS K H H7 p l s t zs st (pt1 ++ [z0]) := ⟨(L6'.same s7).s0, (L6'.same s7).pl, lp', (L6'.same s7).hl, (L6'.same s7).hs, ht7'⟩
    have ist : ∀ z ∈ st, Item z := fun z m => iz z (szz z m)
    have ipt : ∀ z ∈ pt1 ++ [z0], Item z := fun z m => by
      rcases List.mem_append.mp m with m | m
      · exact iz z (ptz z m)
      · rw [List.mem_singleton.mp m]; exact iz0
    have lpt4 : (pt1 ++ [z0]).length ≤ 4 := by rw [List.length_append]; show pt1.length + 1 ≤ 4; omega
    have npt : pt1 ++ [z0] ≠ [] := by simp
    have lst3 : st.length ≤ 3 := by omega
    generalize pt1 ++ [z0] = pt at L7 ipt lpt4 npt
    clear ht7 ht7' L6' L6 hU sU s56 ht6 lpt ptz
    have lpt1 : 0 < pt.length := List.length_pos_iff.mpr npt
    refine ⟨_, rfl, p, 12, rfl, L7.pl, by decide, by decide, fun r H8 b8 p8 r0 r1 => ⟨1, r, rfl, rfl, ?_⟩⟩
    have L8 := L7.draw hpn b8 p8
    refine ⟨fun σ H9 => ∃ (b : Bool) (eB : Addr), σ = [some (.ref a), some (.int (0 + (i : Nat))), some (.ref p), some (.ref l), some (.ref s), some (.ref t), some (.int (1 + r)), some (.ref eB), y8, y9, y10, y11, y12, y13, y14] ∧ LS K H H9 p l s t zs st pt ∧ EffAt K C H9 eB (mkP b st pt).1 (mkP b st pt).2 (lp (mkP b st pt).1 (mkP b st pt).2), ?_, ?_⟩
    · refine ⟨_, rfl, _, rfl, _, rfl, s, t, _, _, rfl, rfl, L8.hs, L8.ht, by rw [List.length_map, List.length_map, sizeLine_eq]; omega, fun c HA sA hc => ?_⟩
      rw [← List.map_append] at hc
      have LA := L8.same sA
      have isp : ∀ z ∈ st ++ pt, Item z := fun z m => (List.mem_append.mp m).elim (ist z) (ipt z)
      have lsp : (st ++ pt).length ≤ 7 := by rw [List.length_append]; omega
      refine ⟨s, c, st, st ++ pt, rfl, LA.hs, hc, by omega, by omega, ist, isp, fun e1 HB sB _ he1 => ?_⟩
      have LB := LA.same sB
      refine ⟨_, rfl, _, rfl, s, t, _, _, rfl, rfl, LB.hs, LB.ht, by rw [List.length_map, List.length_map, sizeLine_eq]; omega, fun c2 HC sC hc2 => ?_⟩
      rw [← List.map_append] at hc2
      have LC := LB.same sC
      refine ⟨_, rfl, c2, s, st ++ pt, st, rfl, hc2, LC.hs, by omega, by omega, isp, ist, fun e2 HD sD _ he2 => ⟨(by show 2 ≤ sizeLine; decide), fun L0 hL0 => ?_⟩⟩
      have sE := Same.new (o := .lst [V.ref e1, .ref e2]) hL0
      have hE := upd_same (H := HD) (a := L0) (o := .lst [V.ref e1, .ref e2])
      generalize upd HD L0 (.lst [V.ref e1, .ref e2]) = HE at sE hE ⊢
      have LE := (LC.same sD).same sE
      have L0p : L0 ≠ p := fun z => by
        have := (LC.same sD).pl
        obtain ⟨v, hv⟩ := pool_lst this
        rw [← z] at hv
        rw [hv] at hL0
        cases hL0
      refine ⟨_, rfl, p, 2, rfl, LE.pl, by decide, by decide, fun rb HF bF pF rb0 rb1 => ?_⟩
      have LF := LE.draw hpn bF pF
      have h1F := (he1.same ((sC.trans sD).trans sE)).draw LE.pl bF
      have h2F := (he2.same sE).draw LE.pl bF
      have hLF := bF _ _ L0p hE
      have c01 : rb = 0 ∨ rb = 1 := by omega
      rcases c01 with z | z
      · exact ⟨L0, _, rb, .ref e1, rfl, rfl, .of hLF, at_of (j := 0) (by omega) rfl, true, e1, rfl, LF, h1F⟩
      · exact ⟨L0, _, rb, .ref e2, rfl, rfl, .of hLF, at_of (j := 1) (by omega) rfl, false, e2, rfl, LF, h2F⟩
    rintro σ H9 ⟨b, eB, rfl, L9, hB⟩
    obtain ⟨n, hn1⟩ : ∃ n : Nat, 1 + r = (n : Int) := ⟨(1 + r).toNat, by omega⟩
    rw [hn1]
    have n1 : 0 < n := by omega
    have n12 : n ≤ 12 := by omega
    have lB := (mk_len (b := b) (w := st) (r := pt) (n := 7)).mpr (by omega)
    have iB := (mk_mem (b := b) (w := st) (r := pt) (P := Item)).mpr ⟨ist, ipt⟩
    have lpB : lp (mkP b st pt).1 (mkP b st pt).2 ≤ 4 ∧ 0 ≤ lp (mkP b st pt).1 (mkP b st pt).2 := by
      rw [lp_mk]
      split <;> omega
    have okB : EffOk (some ((mkP b st pt).1, (mkP b st pt).2, lp (mkP b st pt).1 (mkP b st pt).2)) := ⟨iB.1, iB.2, by omega, by omega, by omega, by omega⟩
    have xn : n * pt.length ≤ 12 * 4 := Nat.mul_le_mul n12 lpt4
    obtain ⟨g1, g2, g3, g4⟩ := pow_mk (b := b) (w := st) (d := pt) (e := n) n1 ist ipt (by omega) (Int.le_refl _)
    refine ⟨_, rfl, _, rfl, eB, some ((mkP b st pt).1, (mkP b st pt).2, lp (mkP b st pt).1 (mkP b st pt).2), n, rfl, hB, okB, by omega, fun q HA sA hq => ?_⟩
    obtain ⟨dxq, w1, w2, gq1, gq2⟩ := hq.ex
    refine ⟨q, dxq, _, rfl, gq1, eF_none (by decide +kernel) (by decide +kernel) (by decide +kernel), q, _, _, rfl, hq, rw_small n okB, g2, fun e HB sB he => ?_⟩
    rw [g1] at he
    generalize pkM (some ((mkP b st pt).1, (mkP b st pt).2, lp (mkP b st pt).1 (mkP b st pt).2)) n = pk at g3 g4 he
    have he1 : EffAt K C HB e (mkP b st (repW n pt)).1 (mkP b st (repW n pt)).2 pk := he
    have rlen : (repW n pt).length ≤ 48 := by rw [repW_len]; omega
    have rne : repW n pt ≠ [] := fun z => by
      have z2 := congrArg List.length z
      rw [repW_len] at z2
      have : 1 * 1 ≤ n * pt.length := Nat.mul_le_mul n1 lpt1
      have z3 : n * pt.length = 0 := z2
      omega
    have iR : ∀ z ∈ repW n pt, Item z := fun z m => ipt z (repW_mem m)
    have iE := (mk_mem (b := b) (w := st) (r := repW n pt) (P := Item)).mpr ⟨ist, iR⟩
    have lE := (mk_len (b := b) (w := st) (r := repW n pt) (n := 51)).mpr (by omega)
    have lp0 : 0 ≤ lp (mkP b st (repW n pt)).1 (mkP b st (repW n pt)).2 := by rw [lp_mk]; split <;> omega
    have okE : ∀ {q : Int}, pk ≤ q → q ≤ pk + 100 → EffOk (some ((mkP b st (repW n pt)).1, (mkP b st (repW n pt)).2, q)) := fun {q} h1 h2 => ⟨iE.1, iE.2, by omega, by omega, by omega, by omega⟩
    have hne : (mkP b st (repW n pt)).1 ≠ (mkP b st (repW n pt)).2 := mk_neq.mpr rne
    have LB := (L9.same sA).same sB
    have hBB := (hB.same sA).same sB
    refine ⟨_, rfl, e, (mkP b st (repW n pt)).1, (mkP b st (repW n pt)).2, pk, rfl, he1, okE (Int.le_refl _) (by omega), hne, fun d od kvs HC sC d0 hd dt => ?_⟩
    have LC := LB.same sC
    have heC := he1.same sC
    have hBC := hBB.same sC
    refine ⟨fun σ HD => ∃ (q : Int) (eH : Addr), σ = [some (.ref a), some (.int (0 + (i : Nat))), some (.ref p), some (.ref l), some (.ref s), some (.ref t), some (.int (n : Int)), some (.ref eB), some (.ref e), some (.ref d), some (.ref eH), y11, y12, y13, y14] ∧ pk ≤ q ∧ q ≤ pk + 100 ∧ LS K H HD p l s t zs st pt ∧ EffAt K C HD eB (mkP b st pt).1 (mkP b st pt).2 (lp (mkP b st pt).1 (mkP b st pt).2) ∧ EffAt K C HD e (mkP b st (repW n pt)).1 (mkP b st (repW n pt)).2 pk ∧ EffAt K C HD eH (mkP b st (repW n pt)).1 (mkP b st (repW n pt)).2 q ∧ HD d = some (.frz od (.dK kvs)) ∧ DtL K C HD kvs (rtsM (mkP b st (repW n pt)).1 (mkP b st (repW n pt)).2), ?_, ?_⟩
    · obtain ⟨dxe, _, _, je, _, _⟩ := heC.ex
      refine ⟨_, rfl, e, dxe, _, rfl, je, e, _, _, pk, rfl, heC, fun u2 hu2 => ⟨_, rfl, e, dxe, _, rfl, je, e, _, _, pk, rfl, heC, fun v2 hv2 => ?_⟩⟩
      refine ⟨_, rfl, e, dxe, _, rfl, je, e, _, _, pk, rfl, heC, _, _, rfl, rfl, _, rfl, p, 3, rfl, LC.pl, by decide, by decide, fun r2 HD bD pD r20 r21 => ⟨_, r2, rfl, rfl, ?_⟩⟩
      obtain ⟨vp, hvp⟩ := pool_lst LC.pl
      have LD := LC.draw hpn bD pD
      refine ⟨u2, v2, (mkP b st (repW n pt)).1, (mkP b st (repW n pt)).2, some (pk + 1 + r2), rfl, rfl, tup_lb hu2 hvp bD, tup_lb hv2 hvp bD, by omega, by omega, iE.1, iE.2, fun p3 z => ?_, fun eH HE sE _ heH => ?_⟩
      · cases z
        omega
      · exact ⟨pk + 1 + r2, eH, rfl, by omega, by omega, LD.same sE, (hBC.draw LC.pl bD).same sE, (heC.draw LC.pl bD).same sE, heH, sE _ _ (bD _ _ (ne_of hd hvp (by intro z; cases z)) hd), (dt.draw LC.pl bD).same sE⟩
    rintro σ HD ⟨q2, eH, rfl, hq1, hq2, LD, hBD, heD, hHD, hdD, dtD⟩
    refine ⟨_, rfl, eH, (mkP b st (repW n pt)).1, (mkP b st (repW n pt)).2, q2, rfl, hHD, okE hq1 hq2, hne, fun d2 od2 kvs2 HE sE d20 hd2 dt2 => ⟨_, rfl, dicts_eq (okE hq1 hq2) hne hd2 (sE _ _ hdD) dt2 (dtD.same sE), fun HF sF => ⟨false, rfl, iteF ?_⟩⟩⟩
    have sDF := sE.trans sF
    have LF := LD.same sDF
    have hBF := hBD.same sDF
    have heF := heD.same sDF
    have hdF := sDF _ _ hdD
    have dtF := dtD.same sDF
    clear heD hBD hHD hdD dtD hBC heC hd dt he1 hBB hq he
    refine ⟨fun c HG => c = false ∧ Same HF HG, ?_, ?_⟩
    · refine ⟨_, rfl, rfl, false, rfl, iteF ⟨_, rfl, _, _, rfl, rfl, _, rfl, ?_⟩⟩
      by_cases cn : 1 < n
      · rw [decide_eq_true (show (1 : Int) < (n : Int) by omega)]
        obtain ⟨a2, gv, ga⟩ := dtF.get (rts_asc _ _) (rts_own (b := b) (w := st) (d := pt) (n := n) (by omega) npt)
        obtain ⟨dxb, _, _, jb, _, _⟩ := ga.ex
        obtain ⟨dxa, _, _, ja, _, _⟩ := hBF.ex
        refine iteT ⟨_, rfl, d, rfl, .inl ⟨kvs, .inr ⟨od, hdF⟩⟩, _, rfl, valV kvs (Sum.inl (n : Int)), .inl ⟨kvs, Sum.inl (n : Int), .inr ⟨od, hdF⟩, rfl, rfl⟩, _, rfl, ?_⟩
        rw [gv]
        exact ⟨a2, eB, true, dxb, dxa, _, _, rfl, rfl, jb, ja, ⟨some ((mkP b st pt).1, (mkP b st pt).2, lp (mkP b st pt).1 (mkP b st pt).2), some ((mkP b st pt).1, (mkP b st pt).2, lp (mkP b st pt).1 (mkP b st pt).2), ga, hBF, okB, okB, (decide_eq_true rfl).symm⟩, fun HG sG => ⟨false, rfl, rfl, sG⟩⟩
      · rw [decide_eq_false (show ¬ (1 : Int) < (n : Int) by omega)]
        exact iteF ⟨rfl, Same.refl _⟩
    rintro c HG ⟨rfl, sG⟩
    refine iteF ?_
    have LG := LF.same sG
    have heG := heF.same sG
    have hdG := sG _ _ hdF
    have dtG := dtF.same sG
    refine ⟨fun σ HI => ∃ y7 y8 y9 y10 y11 y12 y13 y14 : Option V, σ = [some (.ref a), some (.int (0 + (i : Nat))), some (.ref p), some (.ref l), some (.ref s), some (.ref t), some (.int (n : Int)), y7, y8, y9, y10, y11, y12, y13, y14] ∧ LS K H HI p l s t zs st pt, ?_, ?_⟩
    · refine ⟨(by show 1 ≤ sizeLine; decide), fun L0 hL0 => ?_⟩
      have s0 := Same.new (o := .lst [V.int 0]) hL0
      have h0 := upd_same (H := HG) (a := L0) (o := .lst [V.int 0])
      generalize upd HG L0 (.lst [V.int 0]) = HI at s0 h0 ⊢
      refine ⟨_, rfl, d, kvs, rfl, .inr ⟨od, s0 _ _ hdG⟩, fun L1 hL1 => ?_⟩
      have s1 := Same.new (o := .lst (kvs.map fun kv => kV kv.1)) hL1
      have h1 := upd_same (H := HI) (a := L1) (o := .lst (kvs.map fun kv => kV kv.1))
      generalize upd HI L1 (.lst (kvs.map fun kv => kV kv.1)) = HJ at s1 h1 ⊢
      rw [dtG.kvk] at h1
      have lk := rts_few (b := b) (w := st) rne (by omega)
      have bigk : ∀ m ∈ (0 : Int) :: ((rtsM (mkP b st (repW n pt)).1 (mkP b st (repW n pt)).2).map fun q => ((q.1 : Nat) : Int)), m ≤ ((repW n pt).length : Int) := fun m hm => by
        rcases List.mem_cons.mp hm with z | z
        · omega
        · obtain ⟨q, mq, rfl⟩ := List.mem_map.mp z
          have := rts_le (xs := (mkP b st (repW n pt)).1) (ys := (mkP b st (repW n pt)).2) (b := b) (w := st) (R := repW n pt) rfl hne mq
          omega
      refine ⟨L0, L1, _, _, rfl, rfl, s1 _ _ h0, h1, by rw [List.length_map, List.length_map, sizeLine_eq]; simp only [List.length_singleton]; omega, fun L2 hL2 => ?_⟩
      have s2' := Same.new (o := .lst ([V.int 0] ++ ((rtsM (mkP b st (repW n pt)).1 (mkP b st (repW n pt)).2).map fun q => ((q.1 : Nat) : Int)).map V.int)) hL2
      have sA2 := (s0.trans s1).trans s2'
      refine ⟨L2, (0 : Int) :: ((rtsM (mkP b st (repW n pt)).1 (mkP b st (repW n pt)).2).map fun q => ((q.1 : Nat) : Int)), rfl, .of upd_same, Nat.succ_pos _, fun m hm _ => ?_⟩
      have heJ := heG.same sA2
      obtain ⟨dxe, _, _, je, _, _⟩ := heJ.ex
      refine ⟨_, rfl, e, dxe, _, rfl, je, e, (mkP b st (repW n pt)).1, (mkP b st (repW n pt)).2, pk, rfl, heJ, _, rfl, _, _, rfl, rfl, false, ?_, iteF ⟨_, _, _, _, _, _, _, _, rfl, LG.same sA2⟩⟩
      rw [mk_abs]
      exact congrArg V.bl (decide_eq_false (by have := bigk m hm; omega))
    rintro σ HI ⟨y7, y8, y9, y10, y11, y12, y13, y14, rfl, LI⟩
    refine ⟨_, rfl, p, 248, rfl, LI.pl, by decide, by decide, fun r3 HJ bJ pJ r30 r31 => ⟨2, r3, rfl, rfl, ?_⟩⟩
    obtain ⟨m, hm⟩ : ∃ m : Nat, 2 + r3 = (m : Int) := ⟨(2 + r3).toNat, by omega⟩
    dsimp only
    rw [hm]
    have m2 : 2 ≤ m := by omega
    have m249 : m ≤ 249 := by omega
    have LJ := LI.draw hpn bJ pJ
    have xm : m * pt.length ≤ 249 * 4 := Nat.mul_le_mul m249 lpt4
    have rlm : (repW m pt).length ≤ 996 := by rw [repW_len]; omega
    have rnm : repW m pt ≠ [] := fun z => by
      have z2 := congrArg List.length z
      rw [repW_len] at z2
      have : 1 * 1 ≤ m * pt.length := Nat.mul_le_mul (by omega) lpt1
      have z3 : m * pt.length = 0 := z2
      omega
    have iRm : ∀ z ∈ repW m pt, Item z := fun z m => ipt z (repW_mem m)
    have isR : ∀ z ∈ st ++ repW m pt, Item z := fun z q => (List.mem_append.mp q).elim (ist z) (iRm z)
    have lsR : (st ++ repW m pt).length ≤ 999 := by rw [List.length_append]; omega
    have okM : ∀ b : Bool, EffOk (some ((mkP b st (repW m pt)).1, (mkP b st (repW m pt)).2, lp (mkP b st (repW m pt)).1 (mkP b st (repW m pt)).2)) := fun b => by
      have h1 := (mk_mem (b := b) (w := st) (r := repW m pt) (P := Item)).mpr ⟨ist, iRm⟩
      have h2 := (mk_len (b := b) (w := st) (r := repW m pt) (n := 999)).mpr (by omega)
      refine ⟨h1.1, h1.2, by omega, by omega, ?_, ?_⟩ <;> (rw [lp_mk]; split <;> omega)
    have hnM : ∀ b : Bool, (mkP b st (repW m pt)).1 ≠ (mkP b st (repW m pt)).2 := fun b => mk_neq.mpr rnm
    have ptn : pt.map V.str ≠ [] := fun z => npt (List.map_eq_nil_iff.mp z)
    refine ⟨_, rfl, _, rfl, _, rfl, _, rfl, t, _, _, rfl, rfl, LJ.ht, ptn, by omega, by omega, by rw [List.length_map]; omega, fun c hc => ?_⟩
    rw [Int.toNat_natCast, map_rep]
    have sK := Same.new (o := .tup ((repW m pt).map V.str)) hc
    have hK := upd_same (H := HJ) (a := c) (o := .tup ((repW m pt).map V.str))
    generalize upd HJ c (.tup ((repW m pt).map V.str)) = HK at sK hK ⊢
    have LK := LJ.same sK
    refine ⟨s, c, _, _, rfl, rfl, LK.hs, .of hK, by rw [List.length_map, List.length_map, sizeLine_eq]; omega, fun c2 HL sL hc2 => ?_⟩
    rw [← List.map_append] at hc2
    have LL := LK.same sL
    refine ⟨s, c2, st, st ++ repW m pt, rfl, LL.hs, hc2, by omega, by omega, ist, isR, fun e3 HM sM _ he3 => ?_⟩
    have LM := LL.same sM
    refine ⟨e3, (mkP true st (repW m pt)).1, (mkP true st (repW m pt)).2, lp (mkP true st (repW m pt)).1 (mkP true st (repW m pt)).2, rfl, he3, okM true, hnM true, fun d3 od3 kv3 HN sN d30 hd3 dt3 => ?_⟩
    have LN := LM.same sN
    refine ⟨_, rfl, _, rfl, _, rfl, t, _, _, rfl, rfl, LN.ht, ptn, by omega, by omega, by rw [List.length_map]; omega, fun c4 hc4 => ?_⟩
    rw [Int.toNat_natCast, map_rep]
    have sO := Same.new (o := .tup ((repW m pt).map V.str)) hc4
    have hO := upd_same (H := HN) (a := c4) (o := .tup ((repW m pt).map V.str))
    generalize upd HN c4 (.tup ((repW m pt).map V.str)) = HO at sO hO ⊢
    have LO := LN.same sO
    refine ⟨s, c4, _, _, rfl, rfl, LO.hs, .of hO, by rw [List.length_map, List.length_map, sizeLine_eq]; omega, fun c5 HP sP hc5 => ?_⟩
    rw [← List.map_append] at hc5
    have LP := LO.same sP
    refine ⟨_, rfl, c5, s, st ++ repW m pt, st, rfl, hc5, LP.hs, by omega, by omega, isR, ist, fun e4 HQ sQ _ he4 => ?_⟩
    have LQ := LP.same sQ
    refine ⟨e4, (mkP false st (repW m pt)).1, (mkP false st (repW m pt)).2, lp (mkP false st (repW m pt)).1 (mkP false st (repW m pt)).2, rfl, he4, okM false, hnM false, fun d6 od6 kv6 HR sR d60 hd6 dt6 => ?_⟩
    have LR := LQ.same sR
    have sNR := ((sO.trans sP).trans sQ).trans sR
    have hd3R := sNR _ _ hd3
    have dt3R := dt3.same sNR
    refine ⟨_, rfl, rfl, false, rfl, iteF ⟨_, rfl, rfl, false, rfl, iteF ?_⟩⟩
    have few := rootsW_few rnm (show (repW m pt).length ≤ 1000 by omega)
    have k3 := dt3R.keys
    have k6 := dt6.keys
    rw [rts_keys] at k3 k6
    have lks : ((rootsW (repW m pt)).map fun q => ((q.1 : Nat) : Int)).length < 64 := by rw [List.length_map]; exact few
    refine ⟨_, rfl, d3, kv3, _, rfl, .inr ⟨od3, hd3R⟩, k3, lks, fun y1 q1 p1 w1 hq1 => ?_⟩
    have sS := Same.new (o := .lst (y1.map V.int)) hq1
    have hS1 := upd_same (H := HR) (a := q1) (o := .lst (y1.map V.int))
    generalize upd HR q1 (.lst (y1.map V.int)) = HS at sS hS1 ⊢
    refine ⟨_, rfl, d6, kv6, _, rfl, .inr ⟨od6, sS _ _ hd6⟩, k6, lks, fun y2 q2' p2 w2 hq2' => ?_⟩
    have sT := Same.new (o := .lst (y2.map V.int)) hq2'
    have hT1 := upd_same (H := HS) (a := q2') (o := .lst (y2.map V.int))
    generalize upd HS q2' (.lst (y2.map V.int)) = HT at sT hT1 ⊢
    have ey := sort_same p1 p2 w1 w2
    subst ey
    obtain ⟨sh1, sh2⟩ := ints_shaped y1
    refine ⟨.list (y1.map .int), .list (y1.map .int), .lst (.of (sT _ _ hS1)) (dps_ints y1), .lst (.of hT1) (dps_ints y1), sh2, sh2, false, ?_, iteF ?_⟩
    · rw [SeqAt.eqv_refl _ sh1]
      rfl
    have sRT := sS.trans sT
    have LT := LR.same sRT
    have hd3T := sRT _ _ hd3R
    have dt3T := dt3R.same sRT
    have okP : EffOk (some ((mkP true st pt).1, (mkP true st pt).2, lp (mkP true st pt).1 (mkP true st pt).2)) := by
      have h1 := (mk_mem (b := true) (w := st) (r := pt) (P := Item)).mpr ⟨ist, ipt⟩
      have h2 := (mk_len (b := true) (w := st) (r := pt) (n := 7)).mpr (by omega)
      refine ⟨h1.1, h1.2, by omega, by omega, ?_, ?_⟩ <;> (rw [lp_mk]; split <;> omega)
    obtain ⟨a2, gv, ga⟩ := dt3T.get (rts_asc _ _) (rts_own (b := true) (w := st) (d := pt) (n := m) m2 npt)
    have gv' : valV kv3 (Sum.inl (m : Int)) = some (.ref a2) := gv
    have isp : ∀ z ∈ st ++ pt, Item z := fun z m => (List.mem_append.mp m).elim (ist z) (ipt z)
    have lsp : (st ++ pt).length ≤ 7 := by rw [List.length_append]; omega
    refine ⟨fun σ HI => ∃ y7 y8 y9 y10 y11 y12 y13 y14 : Option V, σ = [some (.ref a), some (.int (0 + (i : Nat))), some (.ref p), some (.ref l), some (.ref s), some (.ref t), some (.int (n : Int)), y7, y8, y9, y10, y11, y12, y13, y14] ∧ LS K H HI p l s t zs st pt, ?_, ?_⟩
    · refine ⟨_, rfl, d3, rfl, .inl ⟨kv3, .inr ⟨od3, hd3T⟩⟩, _, rfl, valV kv3 (Sum.inl (m : Int)), .inl ⟨kv3, Sum.inl (m : Int), .inr ⟨od3, hd3T⟩, rfl, rfl⟩, ?_⟩
      rw [gv']
      refine ⟨_, rfl, _, rfl, _, rfl, s, t, _, _, rfl, rfl, LT.hs, LT.ht, by rw [List.length_map, List.length_map, sizeLine_eq]; omega, fun c7 HU sU hc7 => ?_⟩
      rw [← List.map_append] at hc7
      have LU := LT.same sU
      refine ⟨s, c7, st, st ++ pt, rfl, LU.hs, hc7, by omega, by omega, ist, isp, fun e7 HV sV _ he7 => ?_⟩
      have gaV := ga.same (sU.trans sV)
      obtain ⟨dxb, _, _, jb, _, _⟩ := gaV.ex
      obtain ⟨dxa, _, _, ja, _, _⟩ := he7.ex
      refine ⟨a2, e7, true, dxb, dxa, _, _, rfl, rfl, jb, ja, ⟨some ((mkP true st pt).1, (mkP true st pt).2, lp (mkP true st pt).1 (mkP true st pt).2), some ((mkP true st pt).1, (mkP true st pt).2, lp (mkP true st pt).1 (mkP true st pt).2), gaV, he7, okP, okP, (decide_eq_true rfl).symm⟩, fun HW sW => ⟨false, rfl, iteF ?_⟩⟩
      have sTW := (sU.trans sV).trans sW
      have mp : (m, pt) ∈ rootsW (repW m pt) := (rootsW_mem rnm).mpr ⟨m2, rfl⟩
      refine ⟨_, rfl, d3, kv3, _, rfl, .inr ⟨od3, sTW _ _ hd3T⟩, k3, by rw [List.length_map]; exact List.length_pos_of_mem mp, fun MM hM hle => ?_⟩
      refine ⟨_, rfl, _, _, rfl, rfl, by omega, rfl, _, rfl, iteNS (congrArg V.int (max_mod m2 npt hM hle)) ?_⟩
      exact ⟨_, _, _, _, _, _, _, _, rfl, LT.same sTW⟩
    rintro σ HX ⟨y7, y8, y9, y10, y11, y12, y13, y14, rfl, LX⟩
    refine ⟨_, rfl, l, zs, rfl, LX.hl, by omega, iz, fun W ts HY sY W0 hW nts lts wl => ?_⟩
    have LY := LX.same sY
    have Wp : W ≠ p := fun z => by
      obtain ⟨v, hv⟩ := pool_lst LX.pl
      rw [← z, W0] at hv
      cases hv
    have lts1 : 0 < ts.length := List.length_pos_iff.mpr nts
    have pick : ∀ {i : Int}, 0 ≤ i → i < (ts.length : Int) → ∃ u ∈ ts, atI ts i = some u := fun {i} h0 h1 => ⟨ts[i.toNat]'(by omega), List.getElem_mem _, at_of (j := i.toNat) (by omega) (List.getElem?_eq_getElem (by omega))⟩
    refine ⟨_, rfl, _, rfl, _, rfl, W, _, rfl, .inl (.of hW), p, _, rfl, LY.pl, by omega, by omega, fun i1 HZ bZ pZ i10 i11 => ?_⟩
    have LZ := LY.draw hpn bZ pZ
    have hWZ := bZ _ _ Wp hW
    obtain ⟨v1, hv1⟩ := pool_lst LY.pl
    have wlZ := wl.lb hv1 bZ
    obtain ⟨u1, m1, a1⟩ := pick i10 i11
    refine ⟨W, _, i1, _, rfl, rfl, .of hWZ, a1, ?_⟩
    refine ⟨_, rfl, _, rfl, _, rfl, W, _, rfl, .inl (.of hWZ), p, _, rfl, LZ.pl, by omega, by omega, fun i2 HA bA pA i20 i21 => ?_⟩
    have LA := LZ.draw hpn bA pA
    have hWA := bA _ _ Wp hWZ
    obtain ⟨v2, hv2⟩ := pool_lst LZ.pl
    have wlA := wlZ.lb hv2 bA
    obtain ⟨u2, m2', a2'⟩ := pick i20 i21
    obtain ⟨tp, Pw, rfl, hP, lP, iP⟩ := wlA u1 m1
    obtain ⟨tq, Qw, rfl, hQ, lQ, iQ⟩ := wlA u2 m2'
    refine ⟨W, _, i2, _, rfl, rfl, .of hWA, a2', tp, tq, Pw, Qw, rfl, hP, hQ, by omega, by omega, iP, iQ, fun eF HB sB _ heF => ?_⟩
    have LB := LA.same sB
    have hWB := sB _ _ hWA
    have wlB := wlA.same sB (Nat.le_refl _)
    have okFf : ∀ {xs ys : List Str}, (∀ z ∈ xs, Item z) → (∀ z ∈ ys, Item z) → xs.length ≤ 2 → ys.length ≤ 2 → EffOk (some (xs, ys, lp xs ys)) := fun {xs ys} h1 h2 h3 h4 => by
      refine ⟨h1, h2, by omega, by omega, ?_, ?_⟩ <;> (unfold lp; split <;> omega)
    refine ⟨fun σ HI => ∃ (eG : Addr) (xs ys : List Str) (y7 y8 y9 y10 y11 y12 : Option V), σ = [some (.ref a), some (.int (0 + (i : Nat))), some (.ref p), some (.ref l), some (.ref s), some (.ref t), some (.int (n : Int)), y7, y8, y9, y10, y11, y12, some (.ref W), some (.ref eG)] ∧ LS K H HI p l s t zs st pt ∧ HI W = some (.lst ts) ∧ WL K HI ts 2 ∧ EffAt K C HI eG xs ys (lp xs ys) ∧ (∀ z ∈ xs, Item z) ∧ (∀ z ∈ ys, Item z) ∧ xs.length ≤ 2 ∧ ys.length ≤ 2 ∧ xs ≠ ys, ?_, ?_⟩
    · obtain ⟨dxf, _, _, jf, _, _⟩ := heF.ex
      refine ⟨_, rfl, eF, dxf, _, rfl, jf, eF, some (Pw, Qw, lp Pw Qw), rfl, heF, okFf iP iQ lP lQ, _, rfl, ?_⟩
      by_cases cq : Pw = Qw
      · rw [show neuM (some (Pw, Qw, lp Pw Qw)) = true from decide_eq_true cq]
        refine iteT ⟨Nat.zero_le _, fun t0 ht0 => ?_⟩
        have sC := Same.new (o := .tup []) ht0
        have hC := upd_same (H := HB) (a := t0) (o := .tup [])
        generalize upd HB t0 (.tup []) = HC at sC hC ⊢
        have LC := LB.same sC
        refine ⟨_, rfl, 0, rfl, 1, rfl, l, _, rfl, .of LC.hl, fun c hc => ?_⟩
        have tr : ∀ zs : List Str, zs.length = 2 → (!(cutV (zs.map V.str) (some 0) (some 1)).isEmpty) = true := by
          intro zs h
          match zs, h with
          | [x, y], _ => rfl
        have sD := Same.new (o := .lst (cutV (zs.map V.str) (some 0) (some 1))) hc
        refine ⟨true, .inl ⟨_, .of upd_same, (tr zs lz2).symm⟩, iteT ?_⟩
        generalize upd HC c (.lst (cutV (zs.map V.str) (some 0) (some 1))) = HD at sD ⊢
        have LD := LC.same sD
        refine ⟨_, rfl, l, _, 0, .str z0, rfl, rfl, .of LD.hl, az0, _, rfl, l, _, 0, .str z0, rfl, rfl, .of LD.hl, az0, (by show 2 ≤ sizeLine; decide), fun u hu => ?_⟩
        have sE := Same.new (o := .tup [V.str z0, .str z0]) hu
        have hE := upd_same (H := HD) (a := u) (o := .tup [V.str z0, .str z0])
        generalize upd HD u (.tup [V.str z0, .str z0]) = HE at sE hE ⊢
        have sCE := (sC.trans sD).trans sE
        refine ⟨t0, u, [], [z0, z0], rfl, .of ((sD.trans sE) _ _ hC), (.of hE), (by show 0 ≤ 5000; decide), (by show 2 ≤ 5000; decide), fun z m => (by cases m), fun z m => ?_, fun eG HF sF _ heG => ?_⟩
        · rcases List.mem_cons.mp m with q | q
          · rw [q]; exact iz0
          · rw [List.mem_singleton.mp q]; exact iz0
        · have sCF := sCE.trans sF
          exact ⟨eG, [], [z0, z0], _, _, _, _, _, _, rfl, LB.same sCF, sCF _ _ hWB, wlB.same sCF (Nat.le_refl _), heG, fun z m => (by cases m), fun z m => (by
            rcases List.mem_cons.mp m with q | q
            · rw [q]; exact iz0
            · rw [List.mem_singleton.mp q]; exact iz0), (by show 0 ≤ 2; decide), (by show 2 ≤ 2; decide), by simp⟩
      · rw [show neuM (some (Pw, Qw, lp Pw Qw)) = false from decide_eq_false cq]
        exact iteF ⟨eF, Pw, Qw, _, _, _, _, _, _, rfl, LB, hWB, wlB, heF, iP, iQ, lP, lQ, cq⟩
    rintro σ HC ⟨eG, xs, ys, y7, y8, y9, y10, y11, y12, rfl, LC, hWC, wlC, heG, iX, iY, lX, lY, hne2⟩
    refine ⟨_, rfl, eG, xs, ys, lp xs ys, rfl, heG, okFf iX iY lX lY, hne2, fun d7 od7 kv7 HD sD d70 hd7 dt7 => ?_⟩
    refine ⟨_, rfl, rfl, false, rfl, iteF ⟨_, rfl, _, rfl, _, rfl, eG, W, d7, xs, ys, lp xs ys, ts, od7, kv7, rfl, heG.same sD, okFf iX iY lX lY, hne2, lX, lY, sD _ _ hWC, wlC.same sD (Nat.le_refl _), hd7, dt7, fun HE sE => ⟨true, rfl, iteF ?_⟩⟩⟩
    have LE := (LC.same sD).same sE
    refine ⟨_, rfl, _, rfl, _, rfl, p, 3, rfl, LE.pl, by decide, by decide, fun r5 HF bF pF r50 r51 => ?_⟩
    have LF := LE.draw hpn bF pF
    have lpS : lp st st = 0 := by unfold lp; rw [if_neg (by omega)]
    refine ⟨s, s, st, st, some r5, rfl, rfl, LF.hs, LF.hs, by omega, by omega, ist, ist, fun p3 z => by cases z; omega, fun eK HG sG _ heK => ?_⟩
    have LG := LF.same sG
    refine ⟨eK, some (st, st, r5), rfl, heK, ⟨ist, ist, by omega, by omega, r50, by omega⟩, fun HH sH _ => ⟨rfl, false, rfl, iteF ?_⟩, fun xs' ys' p' e hne' => ?_⟩
    · have LH := LG.same sH
      refine ⟨rfl, rfl, fun e8 HI sI hn8 => ⟨e8, none, rfl, hn8, trivial, fun HJ sJ _ => ⟨rfl, false, rfl, iteF ?_⟩, fun xs' ys' p' e => by cases e⟩⟩
      exact ⟨_, _, _, _, _, _, _, _, _, _, _, _, _, _, rfl, ((LH.same sI).same sJ).s0⟩
    · cases e
      exact absurd rfl hne'
end
end SE
namespace SE
open PySem PySem.Spec PyProof.Rows L2
section
/-! ### what the top has left -/
theorem def_mk {K : PySem.W.Frag} {h : Heap} {mg : Str → Option Value} {x : Str} {st : Stmt} {f : Addr} {oc : Value} {od an : Option Addr} {osl : Array (Option Value)} {kV doc pm cdv ct : Value} (X : K.In h) (G : h.Ns mainGlobals mg)
    (a : PySem.W.nsIn K mainGlobals x = some (some (.ref f))) (l : K.lookup f = some ⟨oc, od, .func (PySem.W.fnOf x x (defArgs st) (defBody st) (defScope st) .none kV doc pm an cdv ct), osl⟩)
    (c : PySem.W.codeIn K cdv x = true) (k : PySem.W.keepIn K (.ref f) = true) : Def K mg x st := ⟨f, _, fun_mk l c k, PySem.W.mg_of X G a⟩
theorem defk_mk {K : PySem.W.Frag} {h : Heap} {mg : Str → Option Value} {x y : Str} {st : Stmt} {f d : Addr} {oc : Value} {od an : Option Addr} {osl : Array (Option Value)} {doc pm cdv ct : Value} (X : K.In h) (G : h.Ns mainGlobals mg)
    (a : PySem.W.nsIn K mainGlobals x = some (some (.ref f))) (l : K.lookup f = some ⟨oc, od, .func (PySem.W.fnOf x x (defArgs st) (defBody st) (defScope st) .none (.ref d) doc pm an cdv ct), osl⟩)
    (c : PySem.W.codeIn K cdv x = true) (k : PySem.W.keepIn K (.ref f) = true) (n : PySem.W.nsIn K d y = some (some .none)) : DefK K mg x st [(y, .non)] := by
  refine ⟨f, _, fun_mk l c k, ⟨⟨oc, od, .none, .ref d, doc, pm, an, cdv, ct, osl, rfl, l, c, .inl ⟨rfl, rfl⟩, .inr ⟨d, rfl, fun q hq => ?_⟩⟩, k⟩, PySem.W.mg_of X G a⟩
  rw [List.mem_singleton.mp hq]
  exact ⟨.none, n, rfl⟩
theorem init_mk {K : PySem.W.Frag} {x q y : Str} {st : Stmt} {f d : Addr} {oc : Value} {od an : Option Addr} {osl : Array (Option Value)} {doc pm cdv ct : Value}
    (l : K.lookup f = some ⟨oc, od, .func (PySem.W.fnOf x q (defArgs st) (defBody st) (defScope st) .none (.ref d) doc pm an cdv ct), osl⟩) (c : PySem.W.codeIn K cdv q = true) (k : PySem.W.keepIn K (.ref f) = true) (n : PySem.W.nsIn K d y = some (some .none)) :
    FunD K x q (defArgs st) (defBody st) (defScope st) [] [(y, .non)] f (PySem.W.fnOf x q (defArgs st) (defBody st) (defScope st) .none (.ref d) doc pm an cdv ct) := by
  refine ⟨⟨oc, od, .none, .ref d, doc, pm, an, cdv, ct, osl, rfl, l, c, .inl ⟨rfl, rfl⟩, .inr ⟨d, rfl, fun z hz => ?_⟩⟩, k⟩
  rw [List.mem_singleton.mp hz]
  exact ⟨.none, n, rfl⟩
theorem all_mk {l : PySem.W.OpenLaw} {w : World} {K : PySem.W.Frag} {h : Heap} {mg : Str → Option Value} {fa gI dI C D fL gP0 qP0 gP1 qP1 gP2 qP2 gP3 qP3 gP4 qP4 gP5 qP5 gM0 qM0 gQ Z gJ gZ0 qZ0 gY0 : Addr} {tk1 tk2 tk3 tk4 : Tok} (X : K.In h) (G : h.Ns mainGlobals mg) (hfa : mg "law" = some (.ref fa))
    {odI anI : Option Addr} {slI : Array (Option Value)} {ocI dcI pmI cdI ctI : Value}
    {odP0 anP0 : Option Addr} {slP0 : Array (Option Value)} {ocP0 kVP0 dcP0 pmP0 cdP0 ctP0 : Value}
    {rP0 : List Value}
    {odP1 anP1 : Option Addr} {slP1 : Array (Option Value)} {ocP1 kVP1 dcP1 pmP1 cdP1 ctP1 : Value}
    {rP1 : List Value}
    {odP2 anP2 : Option Addr} {slP2 : Array (Option Value)} {ocP2 kVP2 dcP2 pmP2 cdP2 ctP2 : Value}
    {rP2 : List Value}
    {odP3 anP3 : Option Addr} {slP3 : Array (Option Value)} {ocP3 kVP3 dcP3 pmP3 cdP3 ctP3 : Value}
    {rP3 : List Value}
    {odP4 anP4 : Option Addr} {slP4 : Array (Option Value)} {ocP4 kVP4 dcP4 pmP4 cdP4 ctP4 : Value}
    {rP4 : List Value}
    {odP5 anP5 : Option Addr} {slP5 : Array (Option Value)} {ocP5 kVP5 dcP5 pmP5 cdP5 ctP5 : Value}
    {rP5 : List Value}
    {odM0 anM0 : Option Addr} {slM0 : Array (Option Value)} {ocM0 kVM0 dcM0 pmM0 cdM0 ctM0 : Value}
    {rM0 : List Value}
    {odQ anQ : Option Addr} {slQ : Array (Option Value)} {ocQ kVQ dcQ pmQ cdQ ctQ : Value}
    {odJ anJ : Option Addr} {slJ : Array (Option Value)} {ocJ kVJ dcJ pmJ cdJ ctJ : Value}
    {uMO : Value}
    {odZ0 anZ0 : Option Addr} {slZ0 : Array (Option Value)} {ocZ0 kVZ0 dcZ0 pmZ0 cdZ0 ctZ0 : Value}
    {rZ0 : List Value}
    {odY0 anY0 : Option Addr} {slY0 : Array (Option Value)} {ocY0 kVY0 dcY0 pmY0 cdY0 ctY0 : Value}
    {odL anL : Option Addr} {slL : Array (Option Value)} {ocL kVL dcL pmL cdL ctL : Value} {es : Array DictEntry} {n : Nat} {uP uQ : Value}
    (d_is_whole : Def K mg "is_whole" sIsWhole)
    (d_is_between : Def K mg "is_between" sIsBetween)
    (d_check_between : Def K mg "check_between" sCheckBetween)
    (d_is_item : Def K mg "is_item" sIsItem)
    (d_is_word : Def K mg "is_word" sIsWord)
    (d_is_step : Def K mg "is_step" sIsStep)
    (d_may_hold_steps : Def K mg "may_hold_steps" sMayHold)
    (d_check_steps : Def K mg "check_steps" sChkSteps)
    (d_check_word : Def K mg "check_word" sChkWord)
    (d_least_peak : Def K mg "least_peak" sLeastPeak)
    (d_joined : Def K mg "joined" sJoined)
    (d_parts_of_step : Def K mg "parts_of_step" sPartsOfStep)
    (d_effect_of : Def K mg "effect_of" sEffectOf)
    (d_shared_word : Def K mg "shared_word" sSharedWord)
    (d_repeated_words : Def K mg "repeated_words" sRepeatedWords)
    (d_repeated_peak : Def K mg "repeated_peak" sRepeatedPeak)
    (d_length_of : Def K mg "length_of" sLengthOf)
    (d_item_at : Def K mg "item_at" sItemAt)
    (d_written_out : Def K mg "written_out" sWrittenOut)
    (d_roots : Def K mg "roots" sRoots)
    (d__law_pool : Def K mg "_law_pool" sPool)
    (d__law_take : Def K mg "_law_take" sTake)
    (d__law_items : Def K mg "_law_items" sItems)
    (d__law_word : Def K mg "_law_word" sWord)
    (d__law_stacks : Def K mg "_law_stacks" sLawStacks)
    (d__law_roots_right : Def K mg "_law_roots_right" sLawRootsRight)
    (d__law_enumerated_right : Def K mg "_law_enumerated_right" sLawEnumeratedRight)
    (z_isinstance : PySem.W.nsIn K mainGlobals "isinstance" = some none)
    (z_str : PySem.W.nsIn K mainGlobals "str" = some none)
    (z_len : PySem.W.nsIn K mainGlobals "len" = some none)
    (z_all : PySem.W.nsIn K mainGlobals "all" = some none)
    (z_tuple : PySem.W.nsIn K mainGlobals "tuple" = some none)
    (z_list : PySem.W.nsIn K mainGlobals "list" = some none)
    (z_enumerate : PySem.W.nsIn K mainGlobals "enumerate" = some none)
    (z_range : PySem.W.nsIn K mainGlobals "range" = some none)
    (z_abs : PySem.W.nsIn K mainGlobals "abs" = some none)
    (z_int : PySem.W.nsIn K mainGlobals "int" = some none)
    (z_bool : PySem.W.nsIn K mainGlobals "bool" = some none)
    (z_max : PySem.W.nsIn K mainGlobals "max" = some none)
    (z_min : PySem.W.nsIn K mainGlobals "min" = some none)
    (z_sorted : PySem.W.nsIn K mainGlobals "sorted" = some none)
    (z_dict : PySem.W.nsIn K mainGlobals "dict" = some none)
    (cL : PySem.W.nsIn K mainGlobals "LETTERS" = some (some (.str abc tk1)))
    (cM : PySem.W.nsIn K mainGlobals "MOST_LETTERS" = some (some (.int 8 tk2)))
    (cS : PySem.W.nsIn K mainGlobals "MOST_STEPS" = some (some (.int 1000 tk3)))
    (c1 : PySem.W.nsIn K mainGlobals "MOST_WRITTEN" = some (some (.int 1000 tk4)))
    (cO : PySem.W.nsIn K mainGlobals "OPPOSITES" = some (some (.ref D)))
    (lO : K.lookup D = some ⟨.type "dict", none, .dict es n, #[]⟩)
    (kO : PySem.W.KeysLit w.params es.toList)
    (wO : (D == sysModules) = false)
    (pO : PySem.W.nsIn K D "push" = some (some uP))
    (qO : PySem.W.nsIn K D "pop" = some (some uQ))
    (rP : RelV (.str "pop") uP)
    (rQ : RelV (.str "push") uQ)
    (aC : PySem.W.nsIn K mainGlobals "Effect" = some (some (.ref C)))
    (pg : PySem.W.plainGet K C Str.empty = true)
    (hd : PySem.W.hasDictIn K C = true)
    (po : PySem.W.plainOver K C = true)
    (sa : PySem.W.findIn K (.ref C) "__setattr__" = some (some (.builtin "object.__setattr__")))
    (nN : PySem.W.findIn K (.ref C) "needs" = some none)
    (nL : PySem.W.findIn K (.ref C) "leaves" = some none)
    (nH : PySem.W.findIn K (.ref C) "highest" = some none)
    (mkC : PySem.W.makesIn K C = true)
    (keC : PySem.W.keepIn K (.ref C) = true)
    (aI : PySem.W.findIn K (.ref C) "__init__" = some (some (.ref gI)))
    (iI : PySem.W.isFn K (.ref gI) = true)
    (lI : K.lookup gI = some ⟨ocI, odI, .func (PySem.W.fnOf "__init__" "Effect.__init__" (defArgs sInit) (defBody sInit) (defScope sInit) .none (.ref dI) dcI pmI anI cdI ctI), slI⟩)
    (cI : PySem.W.codeIn K cdI "Effect.__init__" = true)
    (kI : PySem.W.keepIn K (.ref gI) = true)
    (nI : PySem.W.nsIn K dI "peak" = some (some .none))
    (aP0 : PySem.W.findIn K (.ref C) "pops" = some (some (.ref qP0)))
    (bP0 : PySem.W.specialIn K (.ref qP0) "__get__" = some (some (.builtin "property.__get__")))
    (tP0 : PySem.W.takesIn K (.ref qP0) = some true)
    (uP0 : PySem.W.recIn K qP0 "property" = some (.ref gP0 :: rP0))
    (lP0 : K.lookup gP0 = some ⟨ocP0, odP0, .func (PySem.W.fnOf "pops" "Effect.pops" (defArgs sPops) (defBody sPops) (defScope sPops) .none kVP0 dcP0 pmP0 anP0 cdP0 ctP0), slP0⟩)
    (cP0 : PySem.W.codeIn K cdP0 "Effect.pops" = true)
    (kP0 : PySem.W.keepIn K (.ref gP0) = true)
    (aP1 : PySem.W.findIn K (.ref C) "pushes" = some (some (.ref qP1)))
    (bP1 : PySem.W.specialIn K (.ref qP1) "__get__" = some (some (.builtin "property.__get__")))
    (tP1 : PySem.W.takesIn K (.ref qP1) = some true)
    (uP1 : PySem.W.recIn K qP1 "property" = some (.ref gP1 :: rP1))
    (lP1 : K.lookup gP1 = some ⟨ocP1, odP1, .func (PySem.W.fnOf "pushes" "Effect.pushes" (defArgs sPushes) (defBody sPushes) (defScope sPushes) .none kVP1 dcP1 pmP1 anP1 cdP1 ctP1), slP1⟩)
    (cP1 : PySem.W.codeIn K cdP1 "Effect.pushes" = true)
    (kP1 : PySem.W.keepIn K (.ref gP1) = true)
    (aP2 : PySem.W.findIn K (.ref C) "change" = some (some (.ref qP2)))
    (bP2 : PySem.W.specialIn K (.ref qP2) "__get__" = some (some (.builtin "property.__get__")))
    (tP2 : PySem.W.takesIn K (.ref qP2) = some true)
    (uP2 : PySem.W.recIn K qP2 "property" = some (.ref gP2 :: rP2))
    (lP2 : K.lookup gP2 = some ⟨ocP2, odP2, .func (PySem.W.fnOf "change" "Effect.change" (defArgs sChange) (defBody sChange) (defScope sChange) .none kVP2 dcP2 pmP2 anP2 cdP2 ctP2), slP2⟩)
    (cP2 : PySem.W.codeIn K cdP2 "Effect.change" = true)
    (kP2 : PySem.W.keepIn K (.ref gP2) = true)
    (aP3 : PySem.W.findIn K (.ref C) "is_never" = some (some (.ref qP3)))
    (bP3 : PySem.W.specialIn K (.ref qP3) "__get__" = some (some (.builtin "property.__get__")))
    (tP3 : PySem.W.takesIn K (.ref qP3) = some true)
    (uP3 : PySem.W.recIn K qP3 "property" = some (.ref gP3 :: rP3))
    (lP3 : K.lookup gP3 = some ⟨ocP3, odP3, .func (PySem.W.fnOf "is_never" "Effect.is_never" (defArgs sIsNever) (defBody sIsNever) (defScope sIsNever) .none kVP3 dcP3 pmP3 anP3 cdP3 ctP3), slP3⟩)
    (cP3 : PySem.W.codeIn K cdP3 "Effect.is_never" = true)
    (kP3 : PySem.W.keepIn K (.ref gP3) = true)
    (aP4 : PySem.W.findIn K (.ref C) "peak" = some (some (.ref qP4)))
    (bP4 : PySem.W.specialIn K (.ref qP4) "__get__" = some (some (.builtin "property.__get__")))
    (tP4 : PySem.W.takesIn K (.ref qP4) = some true)
    (uP4 : PySem.W.recIn K qP4 "property" = some (.ref gP4 :: rP4))
    (lP4 : K.lookup gP4 = some ⟨ocP4, odP4, .func (PySem.W.fnOf "peak" "Effect.peak" (defArgs sPeak) (defBody sPeak) (defScope sPeak) .none kVP4 dcP4 pmP4 anP4 cdP4 ctP4), slP4⟩)
    (cP4 : PySem.W.codeIn K cdP4 "Effect.peak" = true)
    (kP4 : PySem.W.keepIn K (.ref gP4) = true)
    (aP5 : PySem.W.findIn K (.ref C) "is_neutral" = some (some (.ref qP5)))
    (bP5 : PySem.W.specialIn K (.ref qP5) "__get__" = some (some (.builtin "property.__get__")))
    (tP5 : PySem.W.takesIn K (.ref qP5) = some true)
    (uP5 : PySem.W.recIn K qP5 "property" = some (.ref gP5 :: rP5))
    (lP5 : K.lookup gP5 = some ⟨ocP5, odP5, .func (PySem.W.fnOf "is_neutral" "Effect.is_neutral" (defArgs sNeutral) (defBody sNeutral) (defScope sNeutral) .none kVP5 dcP5 pmP5 anP5 cdP5 ctP5), slP5⟩)
    (cP5 : PySem.W.codeIn K cdP5 "Effect.is_neutral" = true)
    (kP5 : PySem.W.keepIn K (.ref gP5) = true)
    (rdC : PySem.W.readsIn K C (.type "type") = true)
    (gaC : PySem.W.specialIn K (.ref C) "__getattribute__" = some (some (.builtin "type.__getattribute__")))
    (aM0 : PySem.W.findCls K (.ref C) (.type "type") "never" = some (.get (.builtin "classmethod.__get__") (.ref qM0) .none (.ref C)))
    (uM0 : PySem.W.recIn K qM0 "classmethod" = some (.ref gM0 :: rM0))
    (fM0 : PySem.W.fnIn K gM0 = true)
    (lM0 : K.lookup gM0 = some ⟨ocM0, odM0, .func (PySem.W.fnOf "never" "Effect.never" (defArgs sNever) (defBody sNever) (defScope sNever) .none kVM0 dcM0 pmM0 anM0 cdM0 ctM0), slM0⟩)
    (cM0 : PySem.W.codeIn K cdM0 "Effect.never" = true)
    (kM0 : PySem.W.keepIn K (.ref gM0) = true)
    (aQ : PySem.W.findIn K (.ref C) "__eq__" = some (some (.ref gQ)))
    (iQ : PySem.W.isFn K (.ref gQ) = true)
    (lQ : K.lookup gQ = some ⟨ocQ, odQ, .func (PySem.W.fnOf "__eq__" "Effect.__eq__" (defArgs sEq) (defBody sEq) (defScope sEq) .none kVQ dcQ pmQ anQ cdQ ctQ), slQ⟩)
    (cQ : PySem.W.codeIn K cdQ "Effect.__eq__" = true)
    (kQ : PySem.W.keepIn K (.ref gQ) = true)
    (aNE : PySem.W.findIn K (.ref C) "__ne__" = some (some (.builtin "object.__ne__")))
    (e1 : PySem.W.findIn K (.ref C) "__class__" = some (some (.builtin "object.__class__")))
    (e2 : PySem.W.specialIn K (.builtin "object.__class__") "__get__" = some (some (.builtin "getset_descriptor.__get__")))
    (e3 : PySem.W.takesIn K (.builtin "object.__class__") = some true)
    (e4 : PySem.W.mroIn K C (.type "object") = some true)
    (tCE : PySem.W.typeIn K (.ref C) = some (.type "type"))
    (nS : PySem.W.subIn K (.ref C) (.type "NoneType") = some false)
    (aZ : PySem.W.nsIn K mainGlobals "Power" = some (some (.ref Z)))
    (pgZ : PySem.W.plainGet K Z Str.empty = true)
    (hdZ : PySem.W.hasDictIn K Z = true)
    (poZ : PySem.W.plainOver K Z = true)
    (saZ : PySem.W.findIn K (.ref Z) "__setattr__" = some (some (.builtin "object.__setattr__")))
    (nNZ : PySem.W.findIn K (.ref Z) "needs" = some none)
    (nLZ : PySem.W.findIn K (.ref Z) "leaves" = some none)
    (nHZ : PySem.W.findIn K (.ref Z) "highest" = some none)
    (mkZ : PySem.W.makesIn K Z = true)
    (keZ : PySem.W.keepIn K (.ref Z) = true)
    (rdZ : PySem.W.readsIn K Z (.type "type") = true)
    (gaZ : PySem.W.specialIn K (.ref Z) "__getattribute__" = some (some (.builtin "type.__getattribute__")))
    (aMO : PySem.W.findCls K (.ref Z) (.type "type") "MOST" = some (.val uMO))
    (rMO : RelV (.int 1000000000000000000000000000000) uMO)
    (aJ : PySem.W.findIn K (.ref Z) "__init__" = some (some (.ref gJ)))
    (iJ : PySem.W.isFn K (.ref gJ) = true)
    (lJ : K.lookup gJ = some ⟨ocJ, odJ, .func (PySem.W.fnOf "__init__" "Power.__init__" (defArgs sPInit) (defBody sPInit) (defScope sPInit) .none kVJ dcJ pmJ anJ cdJ ctJ), slJ⟩)
    (cJ : PySem.W.codeIn K cdJ "Power.__init__" = true)
    (kJ : PySem.W.keepIn K (.ref gJ) = true)
    (aZ0 : PySem.W.findIn K (.ref Z) "is_never" = some (some (.ref qZ0)))
    (bZ0 : PySem.W.specialIn K (.ref qZ0) "__get__" = some (some (.builtin "property.__get__")))
    (tZ0 : PySem.W.takesIn K (.ref qZ0) = some true)
    (uZ0 : PySem.W.recIn K qZ0 "property" = some (.ref gZ0 :: rZ0))
    (lZ0 : K.lookup gZ0 = some ⟨ocZ0, odZ0, .func (PySem.W.fnOf "is_never" "Power.is_never" (defArgs sPNever) (defBody sPNever) (defScope sPNever) .none kVZ0 dcZ0 pmZ0 anZ0 cdZ0 ctZ0), slZ0⟩)
    (cZ0 : PySem.W.codeIn K cdZ0 "Power.is_never" = true)
    (kZ0 : PySem.W.keepIn K (.ref gZ0) = true)
    (aY0 : PySem.W.findIn K (.ref Z) "effect" = some (some (.ref gY0)))
    (iY0 : PySem.W.isFn K (.ref gY0) = true)
    (lY0 : K.lookup gY0 = some ⟨ocY0, odY0, .func (PySem.W.fnOf "effect" "Power.effect" (defArgs sPEff) (defBody sPEff) (defScope sPEff) .none kVY0 dcY0 pmY0 anY0 cdY0 ctY0), slY0⟩)
    (cY0 : PySem.W.codeIn K cdY0 "Power.effect" = true)
    (kY0 : PySem.W.keepIn K (.ref gY0) = true)
    (aL : PySem.W.nsIn K mainGlobals "law" = some (some (.ref fL)))
    (lL : K.lookup fL = some ⟨ocL, odL, .func (PySem.W.fnOf "law" "law" (defArgs sLaw) (defBody sLaw) (defScope sLaw) .none kVL dcL pmL anL cdL ctL), slL⟩)
    (ckL : PySem.W.codeIn K cdL "law" = true)
    (kL : PySem.W.keepIn K (.ref fL) = true) :
    ∃ fd : FuncData, (∀ (s : Shared) (v : Value), BindsTo s fd ⟨[v], []⟩ [("_law_script", v)]) ∧ ∀ base : Heap, K.In base → base.Ns mainGlobals mg → GOk l.prog w K mg base 9 fa fd ["_law_script"] (spLaw K) := by
  have e := hfa.symm.trans (PySem.W.mg_of X G aL)
  cases e
  have F := fun_mk (st := sLaw) lL ckL kL
  have m_isinstance : mg "isinstance" = none := PySem.W.mg_none_of X G z_isinstance
  have m_str : mg "str" = none := PySem.W.mg_none_of X G z_str
  have m_len : mg "len" = none := PySem.W.mg_none_of X G z_len
  have m_all : mg "all" = none := PySem.W.mg_none_of X G z_all
  have m_tuple : mg "tuple" = none := PySem.W.mg_none_of X G z_tuple
  have m_list : mg "list" = none := PySem.W.mg_none_of X G z_list
  have m_enumerate : mg "enumerate" = none := PySem.W.mg_none_of X G z_enumerate
  have m_range : mg "range" = none := PySem.W.mg_none_of X G z_range
  have m_abs : mg "abs" = none := PySem.W.mg_none_of X G z_abs
  have m_int : mg "int" = none := PySem.W.mg_none_of X G z_int
  have m_bool : mg "bool" = none := PySem.W.mg_none_of X G z_bool
  have m_max : mg "max" = none := PySem.W.mg_none_of X G z_max
  have m_min : mg "min" = none := PySem.W.mg_none_of X G z_min
  have m_sorted : mg "sorted" = none := PySem.W.mg_none_of X G z_sorted
  have m_dict : mg "dict" = none := PySem.W.mg_none_of X G z_dict
  have B : Blt mg := ⟨m_isinstance, m_str, m_len, m_all, m_tuple, m_list, m_enumerate⟩
  have Co : Cons K w mg := ⟨⟨_, PySem.W.mg_of X G cL⟩, ⟨_, PySem.W.mg_of X G cM⟩, ⟨_, PySem.W.mg_of X G cS⟩, ⟨D, es, n, uP, uQ, PySem.W.mg_of X G cO, ⟨lO, kO, wO⟩, pO, rP, qO, rQ⟩⟩
  have T : EC K mg C := ⟨⟨pg, hd, po, sa⟩, nN, nL, nH, PySem.W.mg_of X G aC⟩
  refine ⟨PySem.W.fnOf "law" "law" (defArgs sLaw) (defBody sLaw) (defScope sLaw) .none kVL dcL pmL anL cdL ctL, fun s v => .of_eq rfl, fun base _ _ => ?_⟩
  have gTake := has_take (P := l.prog) (w := w) (base := base) d__law_take
  have gPool := has_pool (P := l.prog) (w := w) (base := base) d__law_pool m_len m_abs m_int
  have gItems := has_items2 d__law_items gTake
  have gWord := has_word d__law_word gTake m_range m_len m_tuple
  have gItem := has_isItem (P := l.prog) (w := w) (base := base) d_is_item B Co
  have gIsWord := has_isWord d_is_word gItem B
  have gCw := has_chkWord d_check_word gIsWord
  have gIsStep := has_isStep d_is_step gItem B Co
  have gMay := has_may (P := l.prog) (w := w) (base := base) d_may_hold_steps B Co
  have gChk := has_chkSteps d_check_steps gMay gIsStep B
  have gWh := has_whole (P := l.prog) (w := w) (base := base) d_is_whole B m_int m_bool
  have gBe := has_bet d_is_between gWh
  have gCb := has_chkB d_check_between gBe
  have gLe := has_least (P := l.prog) (w := w) (base := base) d_least_peak B m_max
  have gM := (⟨gI, _, ⟨mkC, aI, iI, keC⟩, ok_init (fun_mk lI cI kI) T gCw gLe gWh, init_mk lI cI kI nI⟩ : Makes l.prog w K mg base C)
  have gPo := (⟨qP0, gP0, _, ⟨aP0, bP0, tP0, rP0, uP0⟩, ok_pops (fun_mk lP0 cP0 kP0) T, (fun_mk lP0 cP0 kP0).binds (ps := ["self"]) fun _ _ _ _ _ _ us hl => match us, hl with | [_], _ => rfl⟩ : PropHas l.prog w K mg base C "pops" 1 _)
  have gPu := (⟨qP1, gP1, _, ⟨aP1, bP1, tP1, rP1, uP1⟩, ok_push (fun_mk lP1 cP1 kP1) T, (fun_mk lP1 cP1 kP1).binds (ps := ["self"]) fun _ _ _ _ _ _ us hl => match us, hl with | [_], _ => rfl⟩ : PropHas l.prog w K mg base C "pushes" 1 _)
  have gChg := (⟨qP2, gP2, _, ⟨aP2, bP2, tP2, rP2, uP2⟩, ok_chan (fun_mk lP2 cP2 kP2) T B, (fun_mk lP2 cP2 kP2).binds (ps := ["self"]) fun _ _ _ _ _ _ us hl => match us, hl with | [_], _ => rfl⟩ : PropHas l.prog w K mg base C "change" 1 _)
  have gNv := (⟨qP3, gP3, _, ⟨aP3, bP3, tP3, rP3, uP3⟩, ok_isNev (fun_mk lP3 cP3 kP3) T, (fun_mk lP3 cP3 kP3).binds (ps := ["self"]) fun _ _ _ _ _ _ us hl => match us, hl with | [_], _ => rfl⟩ : PropHas l.prog w K mg base C "is_never" 1 _)
  have gPk := (⟨qP4, gP4, _, ⟨aP4, bP4, tP4, rP4, uP4⟩, ok_peak (fun_mk lP4 cP4 kP4) T, (fun_mk lP4 cP4 kP4).binds (ps := ["self"]) fun _ _ _ _ _ _ us hl => match us, hl with | [_], _ => rfl⟩ : PropHas l.prog w K mg base C "peak" 1 _)
  have gNu := (⟨qP5, gP5, _, ⟨aP5, bP5, tP5, rP5, uP5⟩, ok_neu (fun_mk lP5 cP5 kP5) T, (fun_mk lP5 cP5 kP5).binds (ps := ["self"]) fun _ _ _ _ _ _ us hl => match us, hl with | [_], _ => rfl⟩ : PropHas l.prog w K mg base C "is_neutral" 1 _)
  have fNe := ok_never (fun_mk lM0 cM0 kM0) T gM
  have bNe := (fun_mk (st := sNever) lM0 cM0 kM0).binds (ps := ["cls"]) fun _ _ _ _ _ _ us hl => match us, hl with | [_], _ => rfl
  have gNe := (⟨.type "type", qM0, gM0, ⟨rdC, gaC⟩, ⟨aM0, ⟨_, uM0⟩, fM0⟩, (fNe.raw bNe .nil).imp fun vs H Q E h => by rw [List.append_nil]; exact h⟩ : NeverHas l.prog w K mg base C)
  have gSw := has_sw d_shared_word T gPo gPu B m_min
  have gRw := has_rw d_repeated_words T gPo gPu gNv gSw B
  have gRk := has_rk d_repeated_peak T gPk gChg m_max
  have gLn := has_ln (P := l.prog) (w := w) (base := base) d_length_of B
  have gItm := has_itm d_item_at gCb gLn B
  have gWo := has_wo d_written_out gLn gItm B m_range ⟨_, PySem.W.mg_of X G c1⟩
  have TP := (⟨⟨pgZ, hdZ, poZ, saZ⟩, nNZ, nLZ, nHZ, PySem.W.mg_of X G aZ, .type "type", uMO, ⟨rdZ, gaZ⟩, ⟨aMO, rMO⟩⟩ : PCl K mg Z)
  have TI := (⟨e1, e2, e3, e4, if_pos (beq_self_eq_true _)⟩ : EI K C)
  have gEq := (⟨gQ, _, ok_eq (fun_mk lQ cQ kQ) T TI B, aQ, iQ, (fun_mk lQ cQ kQ).binds (ps := ["self", "other"]) fun _ _ _ _ _ _ us hl => match us, hl with | [_, _], _ => rfl, aNE⟩ : EqHas l.prog w K mg base C)
  have gPM := (⟨gJ, _, ⟨mkZ, aJ, iJ, keZ⟩, ok_pinit (fun_mk lJ cJ kJ) TP gCb gRw gRk, (fun_mk lJ cJ kJ).binds (ps := ["self", "effect", "exponent"]) fun _ _ _ _ _ _ us hl => match us, hl with | [_, _, _], _ => rfl⟩ : PMakes l.prog w K mg base C Z)
  have zN := (⟨qZ0, gZ0, _, ⟨aZ0, bZ0, tZ0, rZ0, uZ0⟩, ok_pnev (fun_mk lZ0 cZ0 kZ0) TP, (fun_mk lZ0 cZ0 kZ0).binds (ps := ["self"]) fun _ _ _ _ _ _ us hl => match us, hl with | [_], _ => rfl⟩ : PropHas l.prog w K mg base Z "is_never" 1 _)
  have yE := (⟨gY0, _, ⟨aY0, iY0, kY0⟩, ok_peff (fun_mk lY0 cY0 kY0) TP T gM gNe zN gWo, (fun_mk lY0 cY0 kY0).binds (ps := ["self"]) fun _ _ _ _ _ _ us hl => match us, hl with | [_], _ => rfl⟩ : MethHas l.prog w K mg base Z "effect" 7 ["self"] _)
  have gEN := (⟨gQ, _, ok_eqN (fun_mk lQ cQ kQ) T tCE B, nS, aQ, iQ, (fun_mk lQ cQ kQ).binds (ps := ["self", "other"]) fun _ _ _ _ _ _ us hl => match us, hl with | [_, _], _ => rfl⟩ : EqHasN l.prog w K mg base C)
  have gRt := has_roots d_roots T gM gPo gPu gNv gNu gSw B m_range
  have gRR := has_rr d__law_roots_right T TP TI gM gPM gPo gPu gRt yE gEq m_dict
  have gSk := has_stk (P := l.prog) (w := w) (base := base) d__law_stacks m_range m_sorted
  have gER := has_er d__law_enumerated_right T TP TI gM gPM gPo gPu gNv yE gEq gEN B m_range m_max
  exact ok_law F T TP TI gM gPM gNe yE gEq gPo gPu gPk gChg gNu gPool gTake gItems gWord gRt gRR gSk gER B m_range m_max m_min m_abs m_list m_sorted
end
end SE
open PySem PySem.W PyProof.Rows
set_option maxHeartbeats 0 in
theorem PySem.Challenge.cw_stackeffect_k20_roots_holds : PySem.Challenge.rw_stackeffect_k20_roots.Holds := by
  w_on; o_law; k_head; (case hw => w_witness2)
  k_fill
  refine SE.walkG (l := PySem.Challenge.rw_stackeffect_k20_roots) (n := 63) (k := 9) (x := "_law_script") (sp := SE.spLaw) rfl (by decide) rfl ⟨rfl, by decide, by decide⟩ (fun w h Y => PySem.W.kIn_of Y) ?F (fun _ _ a ns hl hS => ⟨a, ns, rfl, hS, hl, fun _ => rfl⟩)
  case F =>
    intro w mg fa h KX G hmg
    refine' SE.all_mk KX G hmg ?d_is_whole ?d_is_between ?d_check_between ?d_is_item ?d_is_word ?d_is_step ?d_may_hold_steps ?d_check_steps ?d_check_word ?d_least_peak ?d_joined ?d_parts_of_step ?d_effect_of ?d_shared_word ?d_repeated_words ?d_repeated_peak ?d_length_of ?d_item_at ?d_written_out ?d_roots ?d__law_pool ?d__law_take ?d__law_items ?d__law_word ?d__law_stacks ?d__law_roots_right ?d__law_enumerated_right ?z_isinstance ?z_str ?z_len ?z_all ?z_tuple ?z_list ?z_enumerate ?z_range ?z_abs ?z_int ?z_bool ?z_max ?z_min ?z_sorted ?z_dict ?cL ?cM ?cS ?c1 ?cO ?lO ?kO ?wO ?pO ?qO ?rP ?rQ ?aC ?pg ?hd ?po ?sa ?nN ?nL ?nH ?mkC ?keC ?aI ?iI ?lI ?cI ?kI ?nI ?aP0 ?bP0 ?tP0 ?uP0 ?lP0 ?cP0 ?kP0 ?aP1 ?bP1 ?tP1 ?uP1 ?lP1 ?cP1 ?kP1 ?aP2 ?bP2 ?tP2 ?uP2 ?lP2 ?cP2 ?kP2 ?aP3 ?bP3 ?tP3 ?uP3 ?lP3 ?cP3 ?kP3 ?aP4 ?bP4 ?tP4 ?uP4 ?lP4 ?cP4 ?kP4 ?aP5 ?bP5 ?tP5 ?uP5 ?lP5 ?cP5 ?kP5 ?rdC ?gaC ?aM0 ?uM0 ?fM0 ?lM0 ?cM0 ?kM0 ?aQ ?iQ ?lQ ?cQ ?kQ ?aNE ?e1 ?e2 ?e3 ?e4 ?tCE ?nS ?aZ ?pgZ ?hdZ ?poZ ?saZ ?nNZ ?nLZ ?nHZ ?mkZ ?keZ ?rdZ ?gaZ ?aMO ?rMO ?aJ ?iJ ?lJ ?cJ ?kJ ?aZ0 ?bZ0 ?tZ0 ?uZ0 ?lZ0 ?cZ0 ?kZ0 ?aY0 ?iY0 ?lY0 ?cY0 ?kY0 ?aL ?lL ?ckL ?kL
    (case d_is_whole => refine' SE.def_mk KX G ?a ?l ?c ?k; (case a => k_is); (case l => k_is); (case c => k_is); (case k => k_is))
    (case d_is_between => refine' SE.def_mk KX G ?a ?l ?c ?k; (case a => k_is); (case l => k_is); (case c => k_is); (case k => k_is))
    (case d_check_between => refine' SE.def_mk KX G ?a ?l ?c ?k; (case a => k_is); (case l => k_is); (case c => k_is); (case k => k_is))
    (case d_is_item => refine' SE.def_mk KX G ?a ?l ?c ?k; (case a => k_is); (case l => k_is); (case c => k_is); (case k => k_is))
    (case d_is_word => refine' SE.def_mk KX G ?a ?l ?c ?k; (case a => k_is); (case l => k_is); (case c => k_is); (case k => k_is))
    (case d_is_step => refine' SE.def_mk KX G ?a ?l ?c ?k; (case a => k_is); (case l => k_is); (case c => k_is); (case k => k_is))
    (case d_may_hold_steps => refine' SE.def_mk KX G ?a ?l ?c ?k; (case a => k_is); (case l => k_is); (case c => k_is); (case k => k_is))
    (case d_check_steps => refine' SE.def_mk KX G ?a ?l ?c ?k; (case a => k_is); (case l => k_is); (case c => k_is); (case k => k_is))
    (case d_check_word => refine' SE.def_mk KX G ?a ?l ?c ?k; (case a => k_is); (case l => k_is); (case c => k_is); (case k => k_is))
    (case d_least_peak => refine' SE.def_mk KX G ?a ?l ?c ?k; (case a => k_is); (case l => k_is); (case c => k_is); (case k => k_is))
    (case d_joined => refine' SE.def_mk KX G ?a ?l ?c ?k; (case a => k_is); (case l => k_is); (case c => k_is); (case k => k_is))
    (case d_parts_of_step => refine' SE.def_mk KX G ?a ?l ?c ?k; (case a => k_is); (case l => k_is); (case c => k_is); (case k => k_is))
    (case d_effect_of => refine' SE.def_mk KX G ?a ?l ?c ?k; (case a => k_is); (case l => k_is); (case c => k_is); (case k => k_is))
    (case d_shared_word => refine' SE.def_mk KX G ?a ?l ?c ?k; (case a => k_is); (case l => k_is); (case c => k_is); (case k => k_is))
    (case d_repeated_words => refine' SE.def_mk KX G ?a ?l ?c ?k; (case a => k_is); (case l => k_is); (case c => k_is); (case k => k_is))
    (case d_repeated_peak => refine' SE.def_mk KX G ?a ?l ?c ?k; (case a => k_is); (case l => k_is); (case c => k_is); (case k => k_is))
    (case d_length_of => refine' SE.def_mk KX G ?a ?l ?c ?k; (case a => k_is); (case l => k_is); (case c => k_is); (case k => k_is))
    (case d_item_at => refine' SE.def_mk KX G ?a ?l ?c ?k; (case a => k_is); (case l => k_is); (case c => k_is); (case k => k_is))
    (case d_written_out => refine' SE.def_mk KX G ?a ?l ?c ?k; (case a => k_is); (case l => k_is); (case c => k_is); (case k => k_is))
    (case d_roots => refine' SE.def_mk KX G ?a ?l ?c ?k; (case a => k_is); (case l => k_is); (case c => k_is); (case k => k_is))
    (case d__law_pool => refine' SE.def_mk KX G ?a ?l ?c ?k; (case a => k_is); (case l => k_is); (case c => k_is); (case k => k_is))
    (case d__law_take => refine' SE.def_mk KX G ?a ?l ?c ?k; (case a => k_is); (case l => k_is); (case c => k_is); (case k => k_is))
    (case d__law_items => refine' SE.def_mk KX G ?a ?l ?c ?k; (case a => k_is); (case l => k_is); (case c => k_is); (case k => k_is))
    (case d__law_word => refine' SE.def_mk KX G ?a ?l ?c ?k; (case a => k_is); (case l => k_is); (case c => k_is); (case k => k_is))
    (case d__law_stacks => refine' SE.def_mk KX G ?a ?l ?c ?k; (case a => k_is); (case l => k_is); (case c => k_is); (case k => k_is))
    (case d__law_roots_right => refine' SE.def_mk KX G ?a ?l ?c ?k; (case a => k_is); (case l => k_is); (case c => k_is); (case k => k_is))
    (case d__law_enumerated_right => refine' SE.def_mk KX G ?a ?l ?c ?k; (case a => k_is); (case l => k_is); (case c => k_is); (case k => k_is))
    (case z_isinstance => k_is)
    (case z_str => k_is)
    (case z_len => k_is)
    (case z_all => k_is)
    (case z_tuple => k_is)
    (case z_list => k_is)
    (case z_enumerate => k_is)
    (case z_range => k_is)
    (case z_abs => k_is)
    (case z_int => k_is)
    (case z_bool => k_is)
    (case z_max => k_is)
    (case z_min => k_is)
    (case z_sorted => k_is)
    (case z_dict => k_is)
    (case cL => k_is)
    (case cM => k_is)
    (case cS => k_is)
    (case c1 => k_is)
    (case cO => k_is)
    (case lO => k_is)
    (case kO => exact ⟨⟨_, _, rfl, rfl⟩, ⟨_, _, rfl, rfl⟩, trivial⟩)
    (case wO => rfl)
    (case pO => k_is)
    (case qO => k_is)
    (case rP => exact ⟨_, rfl⟩)
    (case rQ => exact ⟨_, rfl⟩)
    (case aC => k_is)
    (case pg => k_is)
    (case hd => k_is)
    (case po => k_is)
    (case sa => k_is)
    (case nN => k_is)
    (case nL => k_is)
    (case nH => k_is)
    (case mkC => k_is)
    (case keC => k_is)
    (case aI => k_is)
    (case iI => k_is)
    (case lI => k_is)
    (case cI => k_is)
    (case kI => k_is)
    (case nI => k_is)
    (case aP0 => k_is)
    (case bP0 => k_is)
    (case tP0 => k_is)
    (case uP0 => k_is)
    (case lP0 => k_is)
    (case cP0 => k_is)
    (case kP0 => k_is)
    (case aP1 => k_is)
    (case bP1 => k_is)
    (case tP1 => k_is)
    (case uP1 => k_is)
    (case lP1 => k_is)
    (case cP1 => k_is)
    (case kP1 => k_is)
    (case aP2 => k_is)
    (case bP2 => k_is)
    (case tP2 => k_is)
    (case uP2 => k_is)
    (case lP2 => k_is)
    (case cP2 => k_is)
    (case kP2 => k_is)
    (case aP3 => k_is)
    (case bP3 => k_is)
    (case tP3 => k_is)
    (case uP3 => k_is)
    (case lP3 => k_is)
    (case cP3 => k_is)
    (case kP3 => k_is)
    (case aP4 => k_is)
    (case bP4 => k_is)
    (case tP4 => k_is)
    (case uP4 => k_is)
    (case lP4 => k_is)
    (case cP4 => k_is)
    (case kP4 => k_is)
    (case aP5 => k_is)
    (case bP5 => k_is)
    (case tP5 => k_is)
    (case uP5 => k_is)
    (case lP5 => k_is)
    (case cP5 => k_is)
    (case kP5 => k_is)
    (case rdC => k_is)
    (case gaC => k_is)
    (case aM0 => k_is)
    (case uM0 => k_is)
    (case fM0 => k_is)
    (case lM0 => k_is)
    (case cM0 => k_is)
    (case kM0 => k_is)
    (case aQ => k_is)
    (case iQ => k_is)
    (case lQ => k_is)
    (case cQ => k_is)
    (case kQ => k_is)
    (case aNE => k_is)
    (case e1 => k_is)
    (case e2 => k_is)
    (case e3 => k_is)
    (case e4 => k_is)
    (case tCE => k_is)
    (case nS => k_is)
    (case aZ => k_is)
    (case pgZ => k_is)
    (case hdZ => k_is)
    (case poZ => k_is)
    (case saZ => k_is)
    (case nNZ => k_is)
    (case nLZ => k_is)
    (case nHZ => k_is)
    (case mkZ => k_is)
    (case keZ => k_is)
    (case rdZ => k_is)
    (case gaZ => k_is)
    (case aMO => k_is)
    (case rMO => exact ⟨_, rfl⟩)
    (case aJ => k_is)
    (case iJ => k_is)
    (case lJ => k_is)
    (case cJ => k_is)
    (case kJ => k_is)
    (case aZ0 => k_is)
    (case bZ0 => k_is)
    (case tZ0 => k_is)
    (case uZ0 => k_is)
    (case lZ0 => k_is)
    (case cZ0 => k_is)
    (case kZ0 => k_is)
    (case aY0 => k_is)
    (case iY0 => k_is)
    (case lY0 => k_is)
    (case cY0 => k_is)
    (case kY0 => k_is)
    (case aL => k_is)
    (case lL => k_is)
    (case ckL => k_is)
    (case kL => k_is)
